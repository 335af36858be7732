import Derived.Test.YtbcjmakpempkiaaGreatDoorX00
set_option maxRecDepth 100000
set_option maxHeartbeats 8000000
set_option linter.all false
namespace Go.Proofs.YtbcjmakpempkiaaGreatDoor
variable {i n:Nat} {l:List Int} {H S:CF} {t:Tr} {c:Int}
open Go.Proofs.Tryz
theorem RY(l:List Int)(n c:Int)(r:Nat):∀ i,(∀ j,i<=j->j<i+r->¬ (l.getD j 0=n/\rv l j=c))->findFrom l n c r i= -1:=by
 induction r with
 | zero=>intro i _;rfl
 | succ r ih=>
  intro i h;rw [findFrom,zA (h i zL zO)];exact ih (i+1) (fun j h1 h2=>h j zO zO)
theorem Pp(l:List Int)(n c:Int)(r:Nat):∀ i k,i<=k->k<i+r->(l.getD k 0=n/\rv l k=c)->(∀ j,i<=j->j<k->¬ (l.getD j 0=n/\rv l j=c))->findFrom l n c r i=k:=by
 induction r with
 | zero=>intro i k h1 h2;omega
 | succ r ih=>
  intro i k h1 h2 hk a;by_cases e:i=k
  ·subst e;rw [findFrom,zC hk]
  ·rw [findFrom,zA (a i zL zO)];exact ih (i+1) k zO zO hk (fun j h3 h4=>a j zO h4)
theorem UB(b:Ae l=true)(hi:i<l.length)(a:0<n)(h:l[i]=(n:Int)):rv l i=fc (cn l) n+cn (l.take i) n:=by
 rw [iN b hi,TP hi h a]
theorem fJ(c:Ae S.l=true)(hi:i<S.l.length)(b:0<n)(h:S.l[i]=(n:Int)):find S n (fc (cn S.l) n+cn (S.l.take i) n)=i:=by
 refine Pp _ _ _ _ 0 i (zH _) zO ⟨by simp [hi,h],UB c hi b h⟩ ?_;intro j _ hj hP;have a:j<S.l.length:=zO;have h2:S.l[j]=(n:Int):=by have:=hP.1;simpa [a] using this
 have h3:=hP.2;rw [UB c a b h2] at h3;have:=iE a b h2 hj;omega
theorem Jg(b:Ae S.l=true)(a:0<n)(h0:fc (cn S.l) n<=c)(h1:c<fc (cn S.l) n+cn S.l n):∃ i,∃ hi:i<S.l.length,S.l[i]=(n:Int)/\cn (S.l.take i) n=c - fc (cn S.l) n/\find S n c=i:=by
 obtain ⟨i,hi,h2,h3⟩:=nth S.l n (c - fc (cn S.l) n) zO zO;refine ⟨i,hi,h2,h3,?_⟩;have:=fJ b hi a h2;rw [h3] at this;rw [<- this];congr 1;omega
theorem Rr(f:Ae S.l=true)(e:0<n)(h:c<fc (cn S.l) n\/fc (cn S.l) n+cn S.l n<=c):find S n c= -1:=by
 refine RY _ _ _ _ 0 (fun j _ g hP=>?_);have d:j<S.l.length:=zO;have h2:S.l[j]=(n:Int):=by have:=hP.1;simpa [d] using this
 have h3:=hP.2;rw [UB f d e h2] at h3;have a:=EK (S.l.take j) n;have b:=fC d e h2;omega
theorem Lh(h:sumOf gw l=2048):single l=false:=by
 unfold single;rw [h];simp
theorem MY(f:Nat->Int)(k:Nat):shr f (k+1)=shr f k+f k*2^(11 - k):=rfl
theorem KZ{a b P:Int}(hP:0<P)(h:a*P<=b*P):a<=b:=BE h hP
theorem UK(j:Ae S.l=true)(hc:sumOf gw S.l=2048)(ho:S.one=false)(r:Nat):∀ (k c:Nat) (t:Tr),k+r=11->c<2^k->shr (cn S.l) (k+1)<=(c:Int)*2^(11 - k)->(Tr.sym S r (k+1) c t).1= -1->(Tr.sym S r (k+1) c t).2.ended=true:=by
 induction r with
 | zero=>
  intro k c t hk a hs _;exfalso
  obtain rfl:k=11:=zO;have e:shr (cn S.l) 12=2048:=by rw [Nb S.l j,QB,hc]
  rw [show (11:Nat)+1=12 from rfl,e] at hs;simp at hs a;omega
 | succ r ih=>
  intro k c t hk a hs hm;rw [Tr.sym] at hm |-;cases he:t.bit.2.ended
  ·rw [he] at hm;simp only [Bool.false_eq_true,if_false] at hm |-;by_cases d:0<=find S ((k+1:Nat):Int) ((2*c+t.bit.1:Nat):Int)
   ·rw [zC d] at hm;exfalso
    have h2:find S ((k+1:Nat):Int) ((2*c+t.bit.1:Nat):Int)= -1:=hm;omega
   ·rw [zA d,zA (by rw [ho];simp)] at hm |-;have p:t.bit.1<=1:=by show _%2<=1;omega
    refine ih (k+1) (2*c+t.bit.1) t.bit.2 zO (by rw [yN];omega) ?_ hm;have hP:(0:Int)<2^(11 - (k+1)):=xJ zD;have h:=XE (cn S.l) (k+1) zO;have o:(2:Int)^(11 - k)=2*2^(11 - (k+1)):=by
     rw [show 11 - k=(11 - (k+1))+1 by omega,jX];omega
    rw [MY (cn S.l) (k+1)];rw [o] at hs;generalize (2:Int)^(11 - (k+1))=P at *;have g:fc (cn S.l) (k+1)<=((2*c+t.bit.1:Nat):Int):=by
     apply KZ hP;rw [h];refine jF hs ?_;have:(c:Int)*(2*P)=(2*c)*P:=by rw [<- Int.mul_assoc,BD (c:Int) 2]
     rw [this];exact jE zO zO
    have b:fc (cn S.l) (k+1)+cn S.l (k+1)<=((2*c+t.bit.1:Nat):Int):=by
     apply yB;intro q;obtain ⟨i,_,_,_,f⟩:=Jg j (n:=k+1) zO g zO;rw [f] at d;omega
    rw [<- h,<- Int.add_mul];exact jE b zO
  ·rw [zC rfl];exact he
theorem OQ(a:Ae S.l=true)(hc:sumOf gw S.l=2048)(ho:S.one=false)(t:Tr)(h:(t.symbol S).1= -1):(t.symbol S).2.ended=true:=
 UK a hc ho 11 0 0 t rfl zD (by
  rw [MY,OY];simp [shr]) h
namespace Tr
theorem Ks(t:Tr)(k:Int)(l:List Int):Da t (t.Bu k l).2.2:=by
 unfold Bu;split
 ·simp only;split
  ·exact (Bb t 2).trans (CK _ zD)
  ·exact Bb t 2
 ·split
  ·exact Bb t 3
  ·split
   ·exact Bb t 6
   ·exact Da.refl t
theorem Ao.Bu(h:Ao t)(k:Int)(l:List Int):Ao (t.Bu k l).2.2:=by
 unfold Tr.Bu;split
 ·simp only;split
  ·exact (h.number 2).fail zD
  ·exact h.number 2
 ·split
  ·exact h.number 3
  ·split
   ·exact h.number 6
   ·exact h
theorem LD:De 0=true:=zD
theorem Tc{k:Int}(hl:Ae l=true)(h0: -1<=k)(h1:k<15)(hk:k= -1->t.ended=true)(he:(t.Bu k l).2.2.ended=false):De (t.Bu k l).1=true:=by
 unfold Bu at he |-;split at he
 ·rename_i a
  simp only at he |-;rw [zC a];simp only;split
  ·exact LD
  ·rename_i f
   have d:l.length - 1<l.length:=zO;have:=kF.1 hl l[l.length - 1] (yD d);simpa [d] using this
 ·rename_i a
  rw [zA a];split at he
  ·rename_i b;rw [zC b];exact LD
  ·rename_i b
   rw [zA b];split at he
   ·rename_i c;rw [zC c];exact LD
   ·rename_i c
    rw [zA c];have f:k≠ -1:=fun e=>by rw [hk e] at he;cases he
    show De k=true;simp [De];omega
theorem Dk(hl:Ae l=true){x:Int}(hx:De x=true)(m:Nat):Ae (l++List.replicate m x)=true:=by
 unfold Ae at *;rw [List.all_append,hl,Bool.true_and,kF];intro y a;rw [(List.mem_replicate.1 a).2];exact hx
def JH(n:Nat)(len:Nat)(h:Int×Nat×Tr):Tr:=if n<len+h.2.1 then h.2.2.fail 10 else h.2.2
theorem Ls(n len:Nat)(h:Int×Nat×Tr):Da h.2.2 (JH n len h):=by
 unfold JH;split
 ·exact CK _ zD
 ·exact Da.refl _
theorem Ao.JH(n len:Nat){h:Int×Nat×Tr}(a:Ao h.2.2):Ao (Tr.JH n len h):=by
 unfold Tr.JH;split
 ·exact a.fail zD
 ·exact a
theorem WD{len:Nat}{h:Int×Nat×Tr}(he:(JH n len h).ended=false):len+h.2.1<=n:=by
 unfold JH at he;split at he
 ·rw [Cz _ zD] at he;cases he
 ·omega
theorem JG(H:CF)(n:Nat)(l:List Int)(t:Tr):Et H n l t=(if (JH n l.length (Bu (t.symbol H).2 (t.symbol H).1 l)).ended then l else l++List.replicate (Bu (t.symbol H).2 (t.symbol H).1 l).2.1 (Bu (t.symbol H).2 (t.symbol H).1 l).1,JH n l.length (Bu (t.symbol H).2 (t.symbol H).1 l)):=rfl
theorem JB(h:t.ended=false):(Et H n l t).2.mu<t.mu:=by
 rw [JG];exact vR ((Ks (t.symbol H).2 (t.symbol H).1 l).trans (Ls _ _ _)).mu (NN H h)
theorem Tz(hl:l.length<n)(h:t.ended=false):row H n l t=row H n (Et H n l t).1 (Et H n l t).2:=by
 rw [row,zC ⟨hl,h⟩,kH (JB h)]
theorem Im(h:¬ (l.length<n/\t.ended=false)):row H n l t=(l,t):=by
 rw [row,zA h]
theorem VO(H:CF)(n:Nat)(l:List Int)(t:Tr):Da t (Et H n l t).2:=
 (Dj t H).trans ((Ks _ _ _).trans (Ls _ _ _))
theorem Sf:∀ (m:Nat) (l:List Int) (t:Tr),t.mu<=m->Da t (row H n l t).2/\(Ao t->Ao (row H n l t).2)/\((row H n l t).2.ended=false->l.length<=n->(row H n l t).1.length=n):=by
 intro m;induction m with
 | zero=>
  intro l t hm;have he:t.ended=true:=by
   cases h:t.ended
   ·have:=IT h;omega
   ·rfl
  rw [Im (by rw [he];simp)];exact ⟨Da.refl t,fun h=>h,fun h=>by rw [he] at h;cases h⟩
 | succ m ih=>
  intro l t hm;by_cases hc:l.length<n/\t.ended=false
  ·rw [Tz hc.1 hc.2];have d:=JB (H:=H) (n:=n) (l:=l) hc.2;obtain ⟨c,a2,a3⟩:=ih (Et H n l t).1 (Et H n l t).2 zO;refine ⟨(VO H n l t).trans c,fun h=>a2 (Ao.JH _ _ ((h.symbol H).Bu _ _)),fun he hl=>a3 he ?_⟩;rw [JG];show (if _ then _ else _:List Int).length<=n;split
   ·exact hl
   ·rename_i b
    have:=WD (h:=Bu (t.symbol H).2 (t.symbol H).1 l) (n:=n) (len:=l.length) (by simpa using b);simp;omega
  ·rw [Im hc];refine ⟨Da.refl t,fun h=>h,fun he hl=>?_⟩;have a:t.ended=false:=he;show l.length=n;have:¬ l.length<n:=fun h=>hc ⟨h,a⟩
   omega
end Tr
end Go.Proofs.YtbcjmakpempkiaaGreatDoor
