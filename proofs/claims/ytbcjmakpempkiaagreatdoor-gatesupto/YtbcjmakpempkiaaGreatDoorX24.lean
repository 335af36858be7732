import Derived.Test.YtbcjmakpempkiaaGreatDoorX20
import Derived.Test.YtbcjmakpempkiaaGreatDoorX21
import Derived.Test.YtbcjmakpempkiaaGreatDoorX22
import Derived.Test.YtbcjmakpempkiaaGreatDoorX23
set_option maxRecDepth 100000
set_option maxHeartbeats 8000000
set_option linter.all false
namespace Go.Proofs.YtbcjmakpempkiaaGreatDoor
variable {w w' w0 w1 w2:World} {x x' y:MS} {ρ ρ':Nat->Nat} {B D b e fm g he i k lim me mem n o ou p q r ra sl sp:Nat} {s:ByteArray} {acc acc' cl cl':Bool} {a c c' c1:Cf} {pb v vb:Value} {l news:List Nat} {m m':MG} {P:List ByteArray} {L:Lo}
open Go.Proofs.Tryz
open Go.RowKit
def mJ(n:Nat)(x:MS):Prop:=
 match n with
 | 0=>Hc x
 | 1=>Hc x
 | 2=>Hc x
 | 3=>Hc x
 | 4=>Hc x
 | 5=>Hc x
 | 6=>Hc x
 | 7=>True
 | 8=>True
 | 9=>x.left<=65535
 | 10=>x.hl=[]
 | 11=>x.hl=[]
 | 12=>x.hl=[]
 | 13=>x.told<=15/\x.hl.length<=x.told/\∀ b∈x.hl,0<=b/\b<8
 | 14=>eg x/\x.hs≠[]/\x.hs.length<=15
 | 15=>eg x/\x.Am<=6/\x.Aq<=11/\x.hlen<=11
 | 16=>x.la≠[]/\x.lb.length<=16/\(∀ b∈x.qc,b<256)/\x.la.length<=269/\x.lit<256
 | 17=>x.la≠[]/\x.lb.length<=16/\(∀ b∈x.qc,b<256)/\x.la.length<=269
 | 18=>x.la≠[]/\x.lb.length<=16/\(∀ b∈x.qc,b<256)/\(x.bits<=16/\x.least<=1000000/\x.least+2^x.bits<=65535)
 | 19=>x.la≠[]/\x.lb.length<=16/\(∀ b∈x.qc,b<256)/\x.left<=65535
 | 20=>x.la≠[]/\x.lb.length<=16/\(∀ b∈x.qc,b<256)/\(x.bits<=16/\x.least<=1000000/\1<=x.least)/\x.left<=65535
 | 21=>x.left<=65535/\1<=x.Cc/\x.Cc<=x.qc.length/\(∀ b∈x.qc,b<256)
 | 22=>True
 | 23=>True
 | 24=>True
 | _=>False
structure mA(x:MS):Prop where
 ok:Ok x
 Cq:x.count<=32
 st:x.st<=24
 at_:mJ x.st x
theorem DQ(x:MS){r:MS×Nat}{f:FuncId}{a:Array Value}{Q:Ending->World->Prop}(h:Calls prog f a w Q)(hq:∀ v b,Q v b->CJ ρ w p r v b)(c:x.advance=r):Hid (Calls prog f a w fun v b=>CJ ρ w p x.advance v b):=by
 rw [c];exact jY h hq
theorem dJ(h:MM ρ w p x)(b:mA x)(a:EG w)(hG:ρ 0=0) :
  Calls prog 76 #[.pointer (some ⟨p,0,none⟩)] w fun v g=>CJ ρ w p x.advance v g:=by
 have hs:=b.st;have ok:=b.ok;have hc:=b.Cq;have hp:=b.at_;have hd:x.count<=40:=zO;have f:=h.Bt.1;obtain e | e | e | e | e | e | e | e | e | e | e | e | e | e | e | e | e | e | e | e | e | e | e | e | e:x.st=0\/x.st=1\/x.st=2\/x.st=3\/x.st=4\/x.st=5\/x.st=6\/x.st=7\/x.st=8\/x.st=9\/x.st=10\/x.st=11\/x.st=12\/x.st=13\/x.st=14\/x.st=15\/x.st=16\/x.st=17\/x.st=18\/x.st=19\/x.st=20\/x.st=21\/x.st=22\/x.st=23\/x.st=24:=zO
 all_goals rw [e] at hp f
 all_goals first
  | have H:=DQ x (js h hp e) (fun _ _ H=>H.fg) (by unfold MS.advance;simp only [e])
  | have H:=DQ x (jt h hp e) (fun _ _ H=>H.fg) (by unfold MS.advance;simp only [e])
  | have H:=DQ x (ju h hp e) (fun _ _ H=>H.fg) (by unfold MS.advance;simp only [e])
  | have H:=DQ x (jv h hp e) (fun _ _ H=>H.fg) (by unfold MS.advance;simp only [e])
  | have H:=DQ x (jw h hp e) (fun _ _ H=>H.fg) (by unfold MS.advance;simp only [e])
  | have H:=DQ x (jx h hp e) (fun _ _ H=>H.fg) (by unfold MS.advance;simp only [e])
  | have H:=DQ x (jy h hp e) (fun _ _ H=>H.fg) (by unfold MS.advance;simp only [e])
  | have H:=DQ x (fj h ok hc e) (fun _ _ H=>H.fg) (by unfold MS.advance;simp only [e])
  | have H:=DQ x (fk h ok hc hp e) (fun _ _ H=>H.fg) (by unfold MS.advance;simp only [e])
  | have H:=DQ x (jz h ok hd a hG hp e) (fun _ _ H=>H) (by unfold MS.advance;simp only [e])
  | have H:=DQ x (ke h ok hd a hG hp e) (fun _ _ H=>H) (by unfold MS.advance;simp only [e])
  | have H:=DQ x (kf h ok hd a hG hp e) (fun _ _ H=>H) (by unfold MS.advance;simp only [e])
  | have H:=DQ x (kg h ok hd a hG hp.1 hp.2.1 hp.2.2 e) (fun _ _ H=>H) (by unfold MS.advance;simp only [e])
  | have H:=DQ x (ki h ok hd hp.1 hp.2.1 hp.2.2 e) (fun _ _ H=>H) (by unfold MS.advance;simp only [e])
  | have H:=DQ x (kj h ok hd hp.1 hp.2.1 hp.2.2.1 hp.2.2.2 e) (fun _ _ H=>H) (by unfold MS.advance;simp only [e])
  | have H:=DQ x (fa h ok hd hp.1 hp.2.1 hp.2.2.1 hp.2.2.2.1 hp.2.2.2.2 e) (fun _ _ H=>H.fg) (by unfold MS.advance;simp only [e])
  | have H:=DQ x (fb h ok hd hp.1 hp.2.1 hp.2.2.1 hp.2.2.2 e) (fun _ _ H=>H.fg) (by unfold MS.advance;simp only [e])
  | have H:=DQ x (fe h ok hd hp.1 hp.2.1 hp.2.2.1 hp.2.2.2 e) (fun _ _ H=>H.fg) (by unfold MS.advance;simp only [e])
  | have H:=DQ x (ff h ok hd hp.1 hp.2.1 hp.2.2.1 hp.2.2.2 e) (fun _ _ H=>H.fg) (by unfold MS.advance;simp only [e])
  | have H:=DQ x (fh h ok hd hp.1 hp.2.1 hp.2.2.1 hp.2.2.2.1 hp.2.2.2.2 e) (fun _ _ H=>H.fg) (by unfold MS.advance;simp only [e])
  | have H:=DQ x (fi h ok hp.1 hp.2.1 hp.2.2.1 hp.2.2.2 e) (fun _ _ H=>H.fg) (by unfold MS.advance;simp only [e])
  | have H:=DQ x (jm h ok hc e) (fun _ _ H=>H.fg) (by unfold MS.advance;simp only [e])
  | have H:=DQ x (jn h ok hc e) (fun _ _ H=>H.fg) (by unfold MS.advance;simp only [e])
  | have H:=DQ x (jo h ok hc e) (fun _ _ H=>H.fg) (by unfold MS.advance;simp only [e])
  | have H:=DQ x (jl h ok hc) (fun _ _ H=>H) (by unfold MS.advance;simp only [e])
 all_goals
  clear h b a hG hp e ok hc hd hs;go_enter func76,ntmps76
  go_wp2_with fail
  refine jY H.out ?_;rintro v w1 d;have c:=hid d;obtain rfl:=c.out.1;clear d;generalize x.advance.2=n at c |-;go_wp2
  go_ret
  exact c.out
def MQ(ρ:Nat->Nat)(w:World)(p:Nat)(x:MS):Prop:=∃ L,MB ρ w p x L/\MT ρ w x L/\L.sv= .slice none 0 0/\L.sa=0
theorem MQ.mm(h:MQ ρ w p x):MM ρ w p x:=by obtain ⟨L,a,b,_⟩:=h;exact ⟨L,a,b⟩
theorem MQ.fr(h:MQ ρ w p x)(f:Kp (fun _=>False) ρ w w'):MQ ρ w' p x:=by
 obtain ⟨L,h1,h2,h3⟩:=h;exact ⟨L,h1.fr f,h2.fr f (fun _ e=>e.elim),h3⟩
theorem MQ.below(h:MQ ρ w p x)(f:Below w.heap.size w w'):MQ ρ w' p x:=h.fr (Kp.Bk f)
theorem Ge.Rl{T:TypeId}{Dg:Nat->List Value}{t:Nat}{l:List Int}(h:Ge ρ w T k Dg t l)(e:∀ k,ρ k≠0->ρ k≠9->ρ' k=ρ k):Ge ρ' w T k Dg t l:=by
 obtain ⟨m,n,a,I,h1,h2,h3⟩:=h.Oy;exact ⟨⟨m,n,a,I,h1,h2,by rw [e m (by rw [h3];decide) (by rw [h3];decide)];exact h3⟩,by rw [e t (by rw [h.role];decide) (by rw [h.role];decide)];exact h.role,h.ON,h.len⟩
theorem JO.Rl{la lb:List Int}(h:JO ρ w g la lb)(e:∀ k,ρ k≠0->ρ k≠9->ρ' k=ρ k):JO ρ' w g la lb:=by
 obtain ⟨t,u,h1,h2,h3,h4⟩:=h;exact ⟨t,u,h1,by rw [e g (by rw [h2];decide) (by rw [h2];decide)];exact h2,h3.Rl e,h4.Rl e⟩
theorem MB.Rl(B:MB ρ w p x L)(e:∀ k,ρ k≠0->ρ k≠9->ρ' k=ρ k):MB ρ' w p x L:=by
 obtain ⟨r1,r2,r3,r4⟩:=B.rl;exact ⟨B.row,B.ra,B.rc,by rw [e p (by rw [B.rp];decide) (by rw [B.rp];decide)];exact B.rp,by rw [e _ (by rw [r1];decide) (by rw [r1];decide)];exact r1,by rw [e _ (by rw [r2];decide) (by rw [r2];decide)];exact r2,by rw [e _ (by rw [r3];decide) (by rw [r3];decide)];exact r3,by rw [e _ (by rw [r4];decide) (by rw [r4];decide)];exact r4⟩
theorem MT.Rl(T:MT ρ w x L)(e:∀ k,ρ k≠0->ρ k≠9->ρ' k=ρ k)(l:∀ k,ρ' k≠0->k<w.heap.size){r:List Nat}(hs:LY ρ' w v n r):MT ρ' w { x with rest:=r } { L with sv:=v,sa:=n } where
 sup:=hs
 hl:=⟨T.hl.1,fun g c=>by rw [e g (by rw [T.hl.2 g c];decide) (by rw [T.hl.2 g c];decide)];exact T.hl.2 g c⟩
 rw:=⟨T.rw.1,fun g c=>by rw [e g (by rw [T.rw.2 g c];decide) (by rw [T.rw.2 g c];decide)];exact T.rw.2 g c⟩
 hp:=T.hp.imp id fun ⟨t,a,b⟩=>⟨t,a,b.Rl e⟩
 Ev:=T.Ev.imp id fun ⟨t,a,b⟩=>⟨t,a,b.Rl e⟩
 fx:=T.fx.imp id fun ⟨t,a,b⟩=>⟨t,a,b.Rl e⟩
 lt:=l
theorem LY.dY(ρ:Nat->Nat)(w:World):LY ρ w (.slice none 0 0) 0 []:=⟨none,[],0,rfl,fun k hk=>by simp at hk,zE _,by unfold maxLen;omega,fun s hs=>by simp at hs,zH _,rfl,fun b o e=>by cases e⟩
structure Ye(ρ:Nat->Nat)(w:World)(v:Value)(P:List ByteArray):Prop where
 at_:∃ ad cap,v= .slice ad P.length cap/\Kk w ad P/\P.length<=cap/\cap<=maxLen/\(∀ s∈P,s.size<=maxLen)/\∀ b o,ad=some ⟨b,o,none⟩->(ρ b=0/\b≠0)/\b<w.heap.size
theorem Ye.dY(ρ:Nat->Nat)(w:World):Ye ρ w (.slice none 0 0) []:=⟨none,0,rfl,fun k hk=>by simp at hk,zE _,by unfold maxLen;omega,fun s hs=>by simp at hs,fun b o e=>by cases e⟩
theorem Ye.below(h:Ye ρ w v P)(f:Below w.heap.size w w'):Ye ρ w' v P:=by
 obtain ⟨ad,cap,h1,h2,h3,h4,h5,h6⟩:=h.at_;refine ⟨ad,cap,h1,fun k hk=>?_,h3,h4,h5,fun b o e=>⟨(h6 b o e).1,zM (h6 b o e).2 f.size⟩⟩;obtain ⟨b,o,e,a,hc⟩:=h2 k hk;exact ⟨b,o,e,zM a f.size,by rw [<- hc];exact f.cell a⟩
theorem Ye.sup(h:Ye ρ w v P)(lt:∀ k,ρ k≠0->k<w.heap.size) :
  ∃ ρ',(∀ k,ρ k≠0->ρ' k=ρ k)/\(∀ k,ρ' k≠ρ k->(ρ k=0/\k≠0)/\ρ' k=9)/\(∀ k,ρ' k≠0->k<w.heap.size)/\LY ρ' w v 0 (P.flatMap ES):=by
 obtain ⟨ad,cap,h1,h2,h3,h4,h5,h6⟩:=h.at_;by_cases a:∃ b o,ad=some ⟨b,o,Option.none⟩
 ·obtain ⟨b,o,rfl⟩:=a;obtain ⟨c,d⟩:=h6 b o rfl;refine ⟨Hk ρ b 9,NB (Or.inl c.1),fun k hk=>?_,fun k hk=>?_,_,P,cap,h1,h2,h3,h4,h5,zH _,by rw [jD],fun f g e=>?_⟩
  ·by_cases e:k=b
   ·subst e;exact ⟨c,KL _ _ _⟩
   ·exact absurd (show Hk ρ b 9 k=ρ k from zA e) hk
  ·by_cases e:k=b
   ·subst e;exact d
   ·exact lt k (by rw [show Hk ρ b 9 k=ρ k from zA e] at hk;exact hk)
  ·injection e with e;injection e with e1 e2;subst e1;exact KL _ _ _
 ·exact ⟨ρ,fun _ _=>rfl,fun k hk=>absurd rfl hk,lt,ad,P,cap,h1,h2,h3,h4,h5,zH _,by rw [jD],fun b o e=>absurd ⟨b,o,e⟩ a⟩
theorem XP(cs:Array Value)(h:cs.size=2):(prog.info? 113).map (·.size)=some cs.size:=by rw [h];kernel_rfl
theorem Md(v:Value)(w:World)(hv:v.oneCell'=true)(a:∃ ad n c,v= .slice ad n c):Calls prog 75 #[v] w fun e b=>e= .returned (.agg #[v, .int .i64 0])/\Below w.heap.size w b:=by
 obtain ⟨ad,n,c,rfl⟩:=a;go_enter func75,ntmps75
 go_wp2_with fail
 refine zX (v:= .agg #[.slice ad n c, .int .i64 0]) ?_ rfl ?_
 ·exact xH results75 _ _ _ 113 _ _ _ rfl (zJ _ _) underlying113 rfl (XP _ rfl)
 ·exact ⟨rfl,zB.alloc zL _⟩
inductive Fm:Nat->MS->MS×Nat->Prop
 | stop (x:MS):mA x->x.advance.2≠0->Fm 0 x x.advance
 | go (n:Nat) (x:MS) (r:MS×Nat):mA x->x.advance.2=0->Fm n x.advance.1 r->Fm (n+1) x r
theorem Fm.rest{r:MS×Nat}(h:Fm n x r):mA x:=by cases h <;> assumption
structure Kg(ρ:Nat->Nat)(w:World)(p:Nat)(y:MS)(w':World):Prop where
 ex:∃ ρ',Ext w.heap.size ρ ρ'/\MQ ρ' w' p y
 fr:Fr EC ρ w w'
def Left(ρ:Nat->Nat)(w0:World)(p:Nat)(r:MS×Nat)(w:World)(n:Nat):Prop:=∃ x,By ρ w0 p x w/\Fm n x r
theorem least{P:Nat->Prop}(h:∃ n,P n):∃ n,P n/\∀ m,P m->n<=m:=by
 obtain ⟨n,a⟩:=h;induction n using Nat.strongRecOn with
 | _ n ih=>
  by_cases h:∃ m,m<n/\P m
  ·obtain ⟨m,hm,hp⟩:=h;exact ih m hm hp
  ·exact ⟨n,a,fun m hp=>yB fun hc=>h ⟨m,zO,hp⟩⟩
open Classical in
noncomputable def QE(ρ:Nat->Nat)(w0:World)(p:Nat)(r:MS×Nat)(w:World):Nat:=if h:∃ n,Left ρ w0 p r w n then Classical.choose (least h) else 0
theorem QF{r:MS×Nat}(h:Left ρ w0 p r w n):Left ρ w0 p r w (QE ρ w0 p r w)/\QE ρ w0 p r w<=n:=by
 have a:∃ n,Left ρ w0 p r w n:=⟨n,h⟩
 unfold QE;rw [kH a];have:=Classical.choose_spec (least a);exact ⟨this.1,this.2 n h⟩
def LH(s:Value)(n:Nat):Nat:=if intOf s=0 then n+1 else 0
theorem ao{ρ1:Nat->Nat}(t:∀ k,ρ k≠0->k<w.heap.size)(i:∀ k,ρ1 k≠ρ k->ρ k=0/\ρ1 k=9)(h:By ρ1 w1 p y w2)(hs:w.heap.size<=w1.heap.size)(s:Fr EC ρ w w1) :
  Kg ρ w p { y with rest:=[] } ((w2.setCell ⟨p,12,none⟩ (.slice none 0 0)).setCell ⟨p,13,none⟩ (.int .i64 0)):=by
 obtain ⟨⟨ρ2,e,L,B,T⟩,f⟩:=h;have l:=B.LM (.slice none 0 0) 0;have F:Fr V5 ρ2 w2 ((w2.setCell ⟨p,12,none⟩ (.slice none 0 0)).setCell ⟨p,13,none⟩ (.int .i64 0)):=(Fr.own w2 p 12 _ B.rp).trans (Fr.own _ p 13 _ B.rp);obtain ⟨ρ3,h3⟩:∃ ρ3:Nat->Nat,ρ3=fun k=>if k<w.heap.size then ρ k else ρ2 k:=⟨_,rfl⟩
 have d:∀ k,ρ2 k≠0->ρ2 k≠9->ρ3 k=ρ2 k:=fun k h0 hk=>by
  rw [h3];by_cases hl:k<w.heap.size
  ·show (if _ then _ else _)=_;rw [zC hl];have o:=e k zO;rw [o] at hk |-;exact yB fun hc=>hk (i k (fun q=>hc q.symm)).2
  ·exact zA hl
 have v:=f.kp.size;have n:Fr EC ρ w ((w2.setCell ⟨p,12,none⟩ (.slice none 0 0)).setCell ⟨p,13,none⟩ (.int .i64 0)):=by
  have g:=f.ext F.Ba e;have r:Fr EC ρ w1 ((w2.setCell ⟨p,12,none⟩ (.slice none 0 0)).setCell ⟨p,13,none⟩ (.int .i64 0)):=⟨⟨g.kp.size,fun k hk u=>g.kp.block k hk (fun hq=>by
   by_cases hd:ρ1 k=ρ k
   ·rw [hd] at hq;exact u hq
   ·rw [(i k hd).2] at hq;unfold EC at hq;omega)⟩,g.os,g.tape,g.output⟩
  exact s.trans r
 refine ⟨⟨ρ3,fun k hk=>by rw [h3];exact zC hk,{ L with sv:= .slice none 0 0,sa:=0 },?_,?_,rfl,rfl⟩,n⟩
 ·have a:=l.Rl d;exact ⟨a.row,a.ra,a.rc,a.rp,a.rl⟩
 ·refine ((T.bO F).Rl d (fun k hk=>?_) (LY.dY _ _));have j:=F.kp.size;rw [h3] at hk;by_cases hl:k<w.heap.size
  ·omega
  ·have c:ρ2 k≠0:=by have b:(if k<w.heap.size then ρ k else ρ2 k)≠0:=hk;rw [zA hl] at b;exact b
   have:=T.lt k c;omega
theorem Xx(h:MQ ρ w p x)(hp:Ye ρ w v P) :
  ∃ ρ1,(∀ k,ρ1 k≠ρ k->(ρ k=0/\k≠0)/\ρ1 k=9)/\MM ρ1 ((w.setCell ⟨p,12,none⟩ v).setCell ⟨p,13,none⟩ (.int .i64 0)) p { x with rest:=P.flatMap ES }/\Fr EC ρ w ((w.setCell ⟨p,12,none⟩ v).setCell ⟨p,13,none⟩ (.int .i64 0)):=by
 obtain ⟨L,B,T,_⟩:=h;obtain ⟨ρ1,b,k2,k3,S⟩:=hp.sup T.lt;have a:=(B.Sb b).LM v 0;have F:Fr V5 ρ1 w ((w.setCell ⟨p,12,none⟩ v).setCell ⟨p,13,none⟩ (.int .i64 0)):=(Fr.own w p 12 _ a.rp).trans (Fr.own _ p 13 _ a.rp);have c:Fr V5 ρ w ((w.setCell ⟨p,12,none⟩ v).setCell ⟨p,13,none⟩ (.int .i64 0)):=(Fr.own w p 12 _ B.rp).trans (Fr.own _ p 13 _ B.rp);exact ⟨ρ1,k2,⟨{ L with sv:=v,sa:=0 },⟨a.row,a.ra,a.rc,a.rp,a.rl⟩,((T.Sb b k3).LM S).bO F⟩,c.Ba⟩
theorem MQ.cells(h:MM ρ w p x):∃ a b,w.cell? ⟨p,12,none⟩=some a/\w.cell? ⟨p,13,none⟩=some b/\w.frozen? ⟨p,12,none⟩=false/\w.frozen? ⟨p,13,none⟩=false/\p<w.heap.size:=by
 obtain ⟨L,B,T⟩:=h;exact ⟨_,_,B.row.cell (i:=12) zO,B.row.cell (i:=13) zO,B.row.frozen 12,B.row.frozen 13,B.row.lt⟩
theorem mY{r:MS×Nat}(h:MQ ρ w p x)(hp:Ye ρ w v P)(Y:Fm n { x with rest:=P.flatMap ES } r)(X:EG w)(hG:ρ 0=0) :
  Calls prog 50 #[.pointer (some ⟨p,0,none⟩),v] w fun e w'=>e= .returned (.int .i64 r.2)/\Kg ρ w p { r.1 with rest:=[] } w':=by
 have b:=ix h hp Y X hG;obtain ⟨ad,cap,rfl,_⟩:=hp.at_;clear h hp Y X hG;go_enter func50,ntmps50
 go_wp2_with fail
 refine (Md (.slice ad P.length cap) w rfl ⟨_,_,_,rfl⟩).mono ?_;rintro e w1 ⟨rfl,O⟩;have G:=hid O;obtain ⟨ca,cb,t,u,E,F,D⟩:=MQ.cells (b.out.1.mm.below O);clear O;go_wp2_with fail
 obtain ⟨ρ1,hd,Z,W⟩:=Xx (b.out.1.below G.out) (b.out.2.1.below G.out);have S:Hid (Left ρ1 ((w1.setCell ⟨p,12,none⟩ (.slice ad P.length cap)).setCell ⟨p,13,none⟩ (.int .i64 0)) p r ((w1.setCell ⟨p,12,none⟩ (.slice ad P.length cap)).setCell ⟨p,13,none⟩ (.int .i64 0)) n):=⟨_,By.refl Z,b.out.2.2.1⟩
 have g:=(Fr.below (ρ:=ρ) G.out).trans W;generalize ((w1.setCell ⟨p,12,none⟩ (.slice ad P.length cap)).setCell ⟨p,13,none⟩ (.int .i64 0))=w2 at *;have c:=CL (b.out.2.2.2.1.fr g b.out.2.2.2.2) (yB fun hc=>(hd _ (by rw [b.out.2.2.2.2];exact hc)).1.2 rfl);have H:Hid ((∀ k,ρ1 k≠ρ k->ρ k=0/\ρ1 k=9)/\Fr EC ρ w w2/\∀ k,ρ k≠0->k<w.heap.size):=⟨fun k hk=>⟨(hd k hk).1.1,(hd k hk).2⟩,g,by obtain ⟨L,B,T,_⟩:=b.out.1;exact T.lt⟩
 clear hd Z W g t u E F D G b;go_loopw [5] (fun s wr=>(s= .int .i64 0/\Hid (∃ k,Left ρ1 w2 p r wr k))\/(Hid (r.2≠0)/\s= .int .i64 r.2/\Hid (By ρ1 w2 p r.1 wr))) (fun s wr=>LH s (QE ρ1 w2 p r wr))
 case atStart=>exact Or.inl ⟨rfl,⟨n,S.out⟩⟩
 case round=>
  clear S;rcases hrel with ⟨rfl,V⟩ | ⟨o,rfl,J⟩
  ·obtain ⟨k,hk⟩:=V.out;obtain ⟨⟨y,A,R⟩,_⟩:=QF hk;obtain ⟨ρ2,z,I⟩:=A.ex;have f:=IQ I z A.fr R;have d:Hid (EG wr/\ρ2 0=0):=⟨c.out.1.fr A.fr c.out.2,by rw [z _ c.out.1.lt];exact c.out.2⟩
   clear A R z I hk V;go_wp2_with fail
   refine (dJ f.out.1 f.out.2.2.2.rest d.out.1 d.out.2).mono ?_;rintro e w3 ⟨rfl,A⟩;have a:=hid (By.next f.out.2.1 f.out.2.2.1 A);clear A;by_cases h0:y.advance.2=0
   ·have i:Hid (∃ k,QE ρ1 w2 p r wr=k+1/\Fm k y.advance.1 r):=by
     have R:=f.out.2.2.2;generalize QE ρ1 w2 p r wr=q at R;cases R with
     | stop _ h1 h2=>exact absurd h0 h2
     | go k _ _ h1 h2 h3=>exact ⟨k,rfl,h3⟩
    obtain ⟨k,hk,R⟩:=i.out;have l:Hid (Left ρ1 w2 p r w3 k):=⟨_,a.out,R⟩
    rw [h0];clear R i a;go_wp2_with fail
    go_roundw
    case rel=>exact Or.inl ⟨rfl,⟨k,l.out⟩⟩
    case measure=>
     have:=(QF l.out).2;show LH (.int .i64 0) _<LH (.int .i64 0) _;unfold LH;rw [zC (show intOf (.int .i64 0)=0 from rfl),zC (show intOf (.int .i64 0)=0 from rfl)];omega
   ·have i:Hid (y.advance=r):=by
     have R:=f.out.2.2.2;generalize QE ρ1 w2 p r wr=q at R;cases R with
     | stop _ h1 h2=>exact rfl
     | go k _ _ h1 h2 h3=>exact absurd h2 h0
    rw [i.out] at a |-;have o:Hid (r.2≠0):=by rw [<- i.out];exact h0
    clear h0 i f d;go_wp2_with fail
    go_roundw
    case rel=>exact Or.inr ⟨o,rfl,a⟩
    case measure=>
     show LH (.int .i64 r.2) _<LH (.int .i64 0) _;unfold LH;rw [zC (show intOf (.int .i64 0)=0 from rfl),zA (show ¬ intOf (.int .i64 r.2)=0 by have:=o.out;show ¬ ((r.2:Nat):Int)=0;omega)];omega
  ·have Q:¬ ((r.2:Nat):Int)=0:=by have:=o.out;omega
   clear o;generalize C:r.2=R2 at Q |-;have N:=hid C;clear C;go_wp2_with fail
   refine (Md (.slice none 0 0) wr rfl ⟨_,_,_,rfl⟩).mono ?_;rintro e w4 ⟨rfl,b4⟩;have j:Hid (By ρ1 w2 p r.1 w4):=by
    obtain ⟨ρ2,z,I⟩:=J.out.ex;exact ⟨⟨ρ2,z,I.below b4⟩,J.out.fr.trans (Fr.below b4)⟩
   obtain ⟨ca,cb,t,u,E,F,D⟩:=(let ⟨_,_,m⟩:=j.out.ex;MQ.cells m)
   clear b4 J;have U:=ao H.out.2.2 H.out.1 j.out H.out.2.1.kp.size H.out.2.1;have M:Hid (Kg ρ w p { r.1 with rest:=[] } ((w4.setCell ⟨p,12,none⟩ (.slice none 0 0)).setCell ⟨p,13,none⟩ (.int .i64 0))):=U;clear U;go_wp2
   go_ret
   exact ⟨by rw [N.out];rfl,M.out⟩
inductive Cg(q:Cm)(D:Nat)(s:ByteArray)(x:MS)(c:Cf):Prop
 | run:Sn q D s x c->Cg q D s x c
 | fresh:Sm q D s x c->x.st=0->x.mb=0->c=Cf.begin c.σ.fmt c.σ.mem c.σ.lim->Cg q D s x c
 | between:Sm q D s x c->x.st=0->x.mb=c.Aa.length->c.σ.st=23->c.σ.fmt=2->c.σ.count=8->0<c.pre.length->Cg q D s x c
theorem Cg.sm{q:Cm}(h:Cg q D s x c):Sm q D s x c:=by
 cases h with
 | run h=>exact h.sm
 | fresh h=>exact h
 | between h=>exact h
def iQ(x:MS):Nat:=if x.st=0 then 0 else 1
def mE(s:ByteArray)(x:MS)(c:Cf):Nat:=2*SO s c+iQ x
inductive Uh(q:Cm)(D:Nat)(s:ByteArray)(x:MS)(c:Cf)(r:MS×Nat):Prop
 | go (c':Cf):Steps q D s c c'->r.2=0->Cg q D s r.1 c'->mE s r.1 c'<mE s x c->Uh q D s x c r
 | Cr (c':Cf):Steps q D s c c'->r.2=1->Cg q D s r.1 c'->c'.σ.act= .take->s.size<=c'.pre.length->Uh q D s x c r
 | full (c':Cf) (b:Nat) (σ':St):Steps q D s c c'->r.2=2->Cg q D s r.1 c'->c'.σ.act= .put b σ'->D+64<=c'.outs.length->Uh q D s x c r
 | dead (c':Cf) (e:Nat):Steps q D s c c'->r.2=3->ZY q r.1 c' e->Stop q D s c' e->Uh q D s x c r
theorem Out.Hx{q:Cm}{r:MS×Nat}(O:Out q D s c1 r)(W:St.Wf c.σ)(st:Steps q D s c c1)(h:SO s c1<SO s c\/(c1=c/\x.st≠0)):Uh q D s x c r:=by
 have a:=(st.mu W).1;have d:=(st.mu W).2;have hs:∀ y:MS,iQ y<=1:=fun y=>by unfold iQ;split <;> omega
 cases O with
 | go c' h1 h2 h3 h4=>
  refine .go c' (st.trans h1) h2 (.run h3) ?_;have:=hs r.1;unfold mE;rcases h with h | ⟨rfl,hx⟩
  ·omega
  ·have:iQ x=1:=zA hx;omega
 | between c' h1 h2 h3 h4 h5 h6 h7 h8 h9=>
  have hl:=(h1.mu a).2;refine .go c' (st.trans h1) h2 (.between h3 h4 h5 h6 h7 h8 h9) ?_;have e:iQ r.1=0:=zC h4;unfold mE;rcases h with h | ⟨rfl,hx⟩
  ·omega
  ·have:iQ x=1:=zA hx;omega
 | Cr c' h1 h2 h3 h4 h5=>exact .Cr c' (st.trans h1) h2 (.run h3) h4 h5
 | full c' b σ' h1 h2 h3 h4 h5=>exact .full c' b σ' (st.trans h1) h2 (.run h3) h4 h5
 | dead c' e h1 h2 h3 h4=>exact .dead c' e (st.trans h1) h2 h3 h4
structure iB(q:Cm)(mem lim:Nat):Prop where
 sp:q.steps<=9223372036854775807
 quo:q.ratio*q.steps+q.CH<=9223372036854775807
 ou:q.out<=9223372036854775807
 he:lim<=9223372036854775807
 me:mem<=9223372036854775807
theorem WA:∀ b∈Cb s i,b<256:=fun b a=>by
 unfold Cb ES at a;obtain ⟨u,_,rfl⟩:=vT.1 (jO a);exact u.toNat_lt
theorem Cg.mD{q:Cm}(h:Cg q D s x c):x.mb<=x.me:=by
 rw [h.sm.me];have:=h.sm.mb;cases h with
 | run h=>rw [h.mb];omega
 | fresh _ _ e _=>omega
 | between _ _ e _ _ _ _=>omega
theorem Cg.ok{q:Cm}(h:Cg q D s x c)(L:iB q c.σ.mem c.σ.lim):Ok x:=by
 have S:=h.sm;exact ⟨by rw [S.held,S.count];exact S.wf.held,by rw [S.tk,S.pu,S.sp];exact S.ej,by rw [S.sp];exact L.sp,by rw [S.ra,S.sp,S.sl];exact L.quo,by rw [S.ou];exact L.ou,S.Jx,by rw [S.rest];exact WA,by rw [S.head.1,S.he];exact ⟨S.head.2,L.he⟩,⟨h.mD,by rw [S.me];exact L.me⟩,by rw [S.Az];exact S.wf.Az,by rw [S.size];omega,by rw [S.marks];have:=S.wf.marks.1;omega,by rw [S.fm];exact S.wf.fmt⟩
theorem Qi{l:List Int}{h c:Nat}(F:Co l h c):c<=20:=by
 have hl:lng l 12<=11:=NH l 11;cases e:EW l h c with
 | hit k m=>
  have:=F.1 k m e;have h2:=Io l _ _ _ _ _ _ _ e;omega
 | more=>
  have:=NZ l _ _ _ _ _ e;omega
 | none=>
  have:=F.2 e;omega
theorem ch(k:Nat):Am k<=6/\Aq k<=11:=by
 unfold Am Aq;(repeat' split) <;> omega
theorem Sn.gT{q:Cm}(N:Sn q D s x c)(L:iB q c.σ.mem c.σ.lim):mA x:=by
 have ok:=(Cg.run N).ok L;have S:=N.sm;have W:=S.wf;have CN:=W.CN;have d:=W.at_;have a:=N.st;have i:∀ b∈x.qc,b<256:=fun b v=>by rw [S.qc] at v;exact W.om b (jO v)
 have g:∀ {n},c.σ.st=n->15<=n/\n<=20->St.Sets c.σ->x.la≠[]/\x.lb.length<=16/\x.la.length<=269:=fun w y hs=>by
  have e:=S.la (by rw [w];exact y);rw [e.1,e.2];refine ⟨fun h0=>?_,hs.nb,hs.na.2⟩;have h1:=hs.na.1;rw [h0] at h1;exact absurd h1 zD
 rcases St.IB W.st with h | h | h | h | h | h | h | h | h | h | h | h | h | h | h | h | h | h | h | h | h | h | h | h
 ·have f:c.σ.count%8=0/\c.σ.count<=8:=St.Ix (n:=0) zO (h ▸ CN);rw [h] at a;exact ⟨ok,by rw [S.count];omega,zO,by rw [a];exact ⟨ok,by rw [S.count];omega⟩⟩
 ·have f:c.σ.count%8=0/\c.σ.count<=8:=St.Ix (n:=1) zO (h ▸ CN);rw [h] at a;exact ⟨ok,by rw [S.count];omega,zO,by rw [a];exact ⟨ok,by rw [S.count];omega⟩⟩
 ·have f:c.σ.count%8=0/\c.σ.count<=8:=St.Ix (n:=2) zO (h ▸ CN);rw [h] at a;exact ⟨ok,by rw [S.count];omega,zO,by rw [a];exact ⟨ok,by rw [S.count];omega⟩⟩
 ·have f:c.σ.count%8=0/\c.σ.count<=8:=St.Ix (n:=3) zO (h ▸ CN);rw [h] at a;exact ⟨ok,by rw [S.count];omega,zO,by rw [a];exact ⟨ok,by rw [S.count];omega⟩⟩
 ·have f:c.σ.count%8=0/\c.σ.count<=8:=St.Ix (n:=4) zO (h ▸ CN);rw [h] at a;exact ⟨ok,by rw [S.count];omega,zO,by rw [a];exact ⟨ok,by rw [S.count];omega⟩⟩
 ·have f:c.σ.count%8=0/\c.σ.count<=8:=St.Ix (n:=5) zO (h ▸ CN);rw [h] at a;exact ⟨ok,by rw [S.count];omega,zO,by rw [a];exact ⟨ok,by rw [S.count];omega⟩⟩
 ·rw [h] at CN a;exact ⟨ok,by rw [S.count];have f:c.σ.count<11:=CN;omega,zO,by rw [a];trivial⟩
 ·rw [h] at CN a;exact ⟨ok,by rw [S.count];exact CN.2,zO,by rw [a];trivial⟩
 ·rw [h] at CN a d;exact ⟨ok,by rw [S.count];have f:=CN.2.1;omega,zO,by rw [a];show x.left<=65535;rw [S.left];exact d⟩
 ·have hl:=W.own (Or.inl zO);rw [h] at CN a;exact ⟨ok,by rw [S.count];have f:c.σ.count<12:=CN;omega,zO,by rw [a];show x.hl=[];rw [S.hl];exact hl.1⟩
 ·have hl:=W.own (Or.inl zO);rw [h] at CN a;exact ⟨ok,by rw [S.count];have f:c.σ.count<12:=CN;omega,zO,by rw [a];show x.hl=[];rw [S.hl];exact hl.1⟩
 ·have hl:=W.own (Or.inl zO);rw [h] at CN a;exact ⟨ok,by rw [S.count];have f:c.σ.count<12:=CN;omega,zO,by rw [a];show x.hl=[];rw [S.hl];exact hl.1⟩
 ·have z:=S.told (by rw [h];decide);rw [h] at CN a d;exact ⟨ok,by rw [S.count];have f:=CN.1;omega,zO,by rw [a];show x.told<=15/\x.hl.length<=x.told/\_;rw [z,S.hl];exact ⟨d.2.2.1.2,d.2.2.2.1,d.2.2.2.2.1⟩⟩
 ·have r:=S.nl (by rw [h];decide);have t:=S.nd (by rw [h];decide);have p:=S.hs (by rw [h];decide);rw [h] at CN a d;obtain ⟨l,a2,a3,a4,a5⟩:=d;exact ⟨ok,by rw [S.count];have f:=Qi CN;omega,zO,by rw [a];exact ⟨⟨by rw [r];exact l,by rw [t];exact a2,by rw [S.row];exact a4,by rw [r,t,S.row];exact a5⟩,by rw [p];intro h0;have u:=a3.2.2;rw [h0] at u;exact absurd u zD,by rw [p];have u:=a3.2.2;omega⟩⟩
 ·have r:=S.nl (by rw [h];decide);have t:=S.nd (by rw [h];decide);have p:=S.hk h;rw [h] at CN a d;obtain ⟨⟨l,a2,a3,a4,a5⟩,u⟩:=d;obtain ⟨j,k⟩:=ch c.σ.hk;exact ⟨ok,by rw [S.count];have f:c.σ.count<8+Am c.σ.hk:=CN;omega,zO,by rw [a];exact ⟨⟨by rw [r];exact l,by rw [t];exact a2,by rw [S.row];exact a4,by rw [r,t,S.row];exact a5⟩,by rw [p.2.2.2];exact j,by rw [p.2.2.1];exact k,by rw [p.1];split <;> omega⟩⟩
 ·rw [h] at CN a d;obtain ⟨j,k,o⟩:=g h zD d.1;exact ⟨ok,by rw [S.count];have f:c.σ.count<8:=CN;omega,zO,by rw [a];exact ⟨j,k,i,o,by rw [S.lit];exact d.2⟩⟩
 ·rw [h] at CN a d;obtain ⟨j,k,o⟩:=g h zD d;exact ⟨ok,by rw [S.count];have f:=Qi CN;omega,zO,by rw [a];exact ⟨j,k,i,o⟩⟩
 ·rw [h] at CN a d;obtain ⟨j,k,o⟩:=g h zD d.1;obtain ⟨_,l,a2,a3⟩:=d;have hp:0<2^c.σ.bits:=kB zD;exact ⟨ok,by rw [S.count];have f:c.σ.count<8+c.σ.bits:=CN;omega,zO,by rw [a];exact ⟨j,k,i,by rw [S.span.1,S.span.2];exact ⟨zO,zO,zO⟩⟩⟩
 ·rw [h] at CN a d;obtain ⟨j,k,o⟩:=g h zD d.1;exact ⟨ok,by rw [S.count];have f:=Qi CN;omega,zO,by rw [a];exact ⟨j,k,i,by rw [S.left];have f:=d.2.2;omega⟩⟩
 ·rw [h] at CN a d;obtain ⟨j,k,o⟩:=g h zD d.1.1;obtain ⟨⟨_,A,B⟩,l,a2,a3⟩:=d;have hp:0<2^c.σ.bits:=kB zD;exact ⟨ok,by rw [S.count];have f:c.σ.count<8+c.σ.bits:=CN;omega,zO,by rw [a];exact ⟨j,k,i,by rw [S.span.1,S.span.2];exact ⟨zO,zO,zO⟩,by rw [S.left];omega⟩⟩
 ·rw [h] at CN a d;obtain ⟨⟨_,A⟩,l,a2,a3⟩:=d;exact ⟨ok,by rw [S.count];have f:c.σ.count<8:=CN;omega,zO,by rw [a];exact ⟨by rw [S.left];omega,by rw [S.Cc];exact l,by rw [S.Cc,S.qc,xI];omega,i⟩⟩
 ·rw [h] at CN a;exact ⟨ok,by rw [S.count];exact CN.2.1,zO,by rw [a];trivial⟩
 ·rw [h] at CN a;exact ⟨ok,by rw [S.count];have f:=CN.2.1;omega,zO,by rw [a];trivial⟩
 ·rw [h] at CN a;have f:c.σ.count%8=0/\c.σ.count<=8:=CN;exact ⟨ok,by rw [S.count];omega,zO,by rw [a];trivial⟩
theorem Sn.Hx{q:Cm}(N:Sn q D s x c):Out q D s c x.advance:=by
 have a:=N.st;rcases St.IB N.sm.wf.st with h | h | h | h | h | h | h | h | h | h | h | h | h | h | h | h | h | h | h | h | h | h | h | h
 ·rw [show x.advance=x.h1 by unfold MS.advance;simp only [a,h]];exact YF N h
 ·rw [show x.advance=x.h2 by unfold MS.advance;simp only [a,h]];exact eE N h
 ·rw [show x.advance=x.h3 by unfold MS.advance;simp only [a,h]];exact eF N h
 ·rw [show x.advance=x.h4 by unfold MS.advance;simp only [a,h]];exact YH N h
 ·rw [show x.advance=x.h5 by unfold MS.advance;simp only [a,h]];exact YI N h
 ·rw [show x.advance=x.h6 by unfold MS.advance;simp only [a,h]];exact YJ N h
 ·rw [show x.advance=x.b7 by unfold MS.advance;simp only [a,h]];exact lh N h
 ·rw [show x.advance=x.b8 by unfold MS.advance;simp only [a,h]];exact lk N h
 ·rw [show x.advance=x.b9 by unfold MS.advance;simp only [a,h]];exact eC N h
 ·rw [show x.advance=x.mh by unfold MS.advance;simp only [a,h]];exact gp N h
 ·rw [show x.advance=x.iI by unfold MS.advance;simp only [a,h]];exact ZP N h
 ·rw [show x.advance=x.iJ by unfold MS.advance;simp only [a,h]];exact ZQ N h
 ·rw [show x.advance=x.lB by unfold MS.advance;simp only [a,h]];exact ZR N h
 ·rw [show x.advance=x.Xq by unfold MS.advance;simp only [a,h]];exact gq N h
 ·rw [show x.advance=x.Vx by unfold MS.advance;simp only [a,h]];exact ZS N h
 ·rw [show x.advance=x.TN by unfold MS.advance;simp only [a,h]];exact gm N h
 ·rw [show x.advance=x.bp by unfold MS.advance;simp only [a,h]];exact ZK N h
 ·rw [show x.advance=x.bN by unfold MS.advance;simp only [a,h]];exact ZL N h
 ·rw [show x.advance=x.ez by unfold MS.advance;simp only [a,h]];exact ZM N h
 ·rw [show x.advance=x.fA by unfold MS.advance;simp only [a,h]];exact ZN N h
 ·rw [show x.advance=x.iZ by unfold MS.advance;simp only [a,h]];exact ZO N h
 ·rw [show x.advance=x.fE by unfold MS.advance;simp only [a,h]];exact gn N h
 ·rw [show x.advance=x.cE by unfold MS.advance;simp only [a,h]];exact UE N h
 ·rw [show x.advance=x.fF by unfold MS.advance;simp only [a,h]];exact UF N h
theorem MS.Xc(h:x.count=0):MS.Ab 8 x=match x.rest with | []=>(x,1) | b :: l=>if x.sp<=x.tk+x.pu then x.refuse 16 else (x.Fv b l,0):=by
 cases e:x.rest with
 | nil=>exact MS.NP zO e
 | cons b l=>
  rw [MS.LA zO e];by_cases hs:x.sp<=x.tk+x.pu
  ·rw [zC hs];exact (zC hs).symm
  ·rw [zA hs,MS.JC (by show 8<=x.count+8;omega)];exact (zA hs).symm
theorem di(h0:x.fm=0)(hm:x.marks=0):MS.h1 x=({ x with st:=7 },0):=by
 unfold MS.h1 MS.Bo;rw [zC h0,CM];unfold MS.h2 MS.Bo;rw [zC (show ({ x with st:=2 }:MS).fm=0 from h0),CM];unfold MS.h3 MS.Ca;rw [zA (show ¬ x.fm=2 by omega),CM];unfold MS.h4 MS.CE;rw [zC (show x.marks / 1%2=0 by rw [hm]),CM];unfold MS.h5 MS.CE;rw [zC (show x.marks / 2%2=0 by rw [hm]),CM];unfold MS.h6 MS.Ce;rw [zC (show x.marks / 4%2=0 by rw [hm]),CM]
def Jb(y:MS):MS:={ y with mb:=y.mb+1,marks:=0,head:=0,Az:=0,sx:=1,sy:=0,size:=0,qc:=[],st:=1 }
theorem Yt(h:MS.Ab 8 x=(y,0))(hm:¬ y.mb=y.me):MS.h0 x=MS.h1 (Jb y):=by
 unfold MS.h0 MS.Bx;rw [GX,h,CM,zA hm];rfl
theorem bB{q:Cm}(S:Sm q D s x c)(v:x.st=0)(g:x.mb=0)(hc:c=Cf.begin c.σ.fmt c.σ.mem c.σ.lim):Uh q D s x c (MS.h0 x):=by
 have r:c.pre=[]:=by rw [hc];rfl
 have J:c.outs=[]:=by rw [hc];rfl
 have b:c.Aa=[0]:=by rw [hc];rfl
 have l:c.σ.count=0:=by rw [hc];rfl
 have I:c.σ.om=[]:=by rw [hc];rfl
 have H:c.σ.marks=0:=by rw [hc];rfl
 have E:c.σ.Bq=0:=by rw [hc];rfl
 have F:c.σ.Az=0:=by rw [hc];rfl
 have u:c.σ.st=if c.σ.fmt=0 then 6 else 0:=by have:c.σ=St.begin c.σ.fmt c.σ.mem c.σ.lim:=yH Cf.σ hc;rw [this];rfl
 have w:c.σ.act= .take:=by have:=((Nh.begin (mem:=c.σ.mem) (lim:=c.σ.lim) S.wf.fmt).act rfl).1;rw [<- hc] at this;exact this
 have M:x.count=0:=by rw [S.count];exact l
 have d:=MS.Xc M;have L:c.pre.length=0:=by rw [r];rfl
 by_cases hl:c.pre.length<s.size
 ·have e:x.rest=Bm s c.pre.length :: Cb s (c.pre.length+1):=by rw [S.rest];exact OA hl
  rw [e] at d;by_cases hs:x.sp<=x.tk+x.pu
  ·have f:MS.Ab 8 x=x.refuse 16:=by rw [d];exact zC hs
   have B:MS.h0 x=x.refuse 16:=by
    unfold MS.h0 MS.Bx;rw [f];rfl
   rw [B];refine .dead c 16 (.refl c) rfl (S.dead zD (by rw [zC L];exact g)) (fun cl=>Halt.steps w hl ?_);rw [<- S.tk,<- S.pu,<- S.sp];exact hs
  ·have t:¬ q.steps<=c.pre.length+c.outs.length:=by rw [<- S.tk,<- S.pu,<- S.sp];exact hs
   have f:MS.Ab 8 x=(x.Fv (Bm s c.pre.length) (Cb s (c.pre.length+1)),0):=by rw [d];exact zA hs
   have A:=S.Fv w hl t;have i:DL q D s c { c with σ:=c.σ.add (Bm s c.pre.length),pre:=c.pre++[Bm s c.pre.length] }:=DL.take c w hl t;have G:¬ (x.Fv (Bm s c.pre.length) (Cb s (c.pre.length+1))).mb=(x.Fv (Bm s c.pre.length) (Cb s (c.pre.length+1))).me:=by
    show ¬ x.mb=x.me;rw [g,S.me];have:=S.mb.2;rw [b] at this;have:1<=c.σ.mem:=this;omega
   rw [Yt f G];have o:=(i.mu S.wf).2;generalize N:x.Fv (Bm s c.pre.length) (Cb s (c.pre.length+1))=y at *;have O:y.mb=0:=by rw [<- N];exact g
   obtain ⟨c1,a⟩:=qe ({ c with σ:=c.σ.add (Bm s c.pre.length),pre:=c.pre++[Bm s c.pre.length] }:Cf);have p:0<c1.pre.length:=by rw [a];simp
   have P:c1.σ.st=c.σ.st:=by rw [a];rfl
   have k2:c1.σ.om=[]:=by rw [a];exact I
   have k3:c1.σ.marks=0:=by rw [a];exact H
   have k4:c1.σ.Bq=0:=by rw [a];exact E
   have k5:c1.σ.Az=0:=by rw [a];exact F
   have k6:c1.Aa=[0]:=by rw [a];exact b
   have R:c1.σ.fmt=c.σ.fmt:=by rw [a];rfl
   rw [<- a] at A i o;clear N a;have j:c1.σ.st<10->∀ n,Sm q D s { Jb y with st:=n } c1:=fun Q n=>{ A with
    qc:=by show []=c1.σ.om.drop _;rw [k2];rfl
    marks:=k3.symm
    head:=⟨k4.symm,by rw [k4];exact zH _⟩
    Az:=k5.symm
    sum:=fun _=>by rw [k2];rfl
    Jx:=⟨by show 1<=65520;omega,by show 0<=65520;omega⟩
    size:=by rw [k2];rfl
    nl:=fun h=>absurd h zO
    nd:=fun h=>absurd h zO
    told:=fun h=>absurd h zO
    hs:=fun h=>absurd h zO
    hk:=fun h=>absurd h zO
    la:=fun h=>absurd h zO }
   have k:(Jb y).mb=c1.Aa.length:=by rw [k6];show y.mb+1=1;omega
   by_cases C:c.σ.fmt=0
   ·have h6:c1.σ.st=6:=by rw [P,u,zC C]
    rw [di (x:=Jb y) (by show y.fm=0;rw [A.fm,R];exact C) rfl];have z:Sn q D s { Jb y with st:=7 } c1:=⟨j zO 7,by rw [h6],k,p⟩
    refine .go c1 (Steps.one i) rfl (.run z) ?_;unfold mE;have h2:iQ x=0:=zC v;have h1:iQ ({ Jb y with st:=7 }:MS)=1:=rfl;rw [h1,h2];omega
   ·have h6:c1.σ.st=0:=by rw [P,u,zA C]
    have z:Sn q D s (Jb y) c1:=⟨j zO 1,by rw [h6];rfl,k,p⟩
    exact (YF z h6).Hx S.wf (Steps.one i) (Or.inl o)
 ·have e:x.rest=[]:=by rw [S.rest];exact JF zO
  rw [e] at d;have B:MS.h0 x=(x,1):=by
   unfold MS.h0 MS.Bx;rw [d];rfl
  rw [B];exact .Cr c (.refl c) rfl (.fresh S v g hc) w zO
theorem WK{q:Cm}(S:Sm q D s x c)(r:x.st=0)(b:x.mb=c.Aa.length)(e:c.σ.st=23)(p:c.σ.fmt=2)(j:c.σ.count=8)(hp:0<c.pre.length):Uh q D s x c (MS.h0 x):=by
 have g:MS.Ab 8 x=(x,0):=MS.JC (by rw [S.count];omega);have a:c.σ.act=if c.σ.mem<=c.σ.begun then .fail 6 else .DF { c.σ with st:=0,om:=[],Az:=0,Bq:=0,marks:=0,begun:=c.σ.begun+1 }:=by
  rw [St.Af e];show St.Ab c.σ 8 _=_;unfold St.Ab;rw [zA zO,zA (by simp [p])]
 have o:=S.mb;have f:x.mb=x.me↔c.σ.mem<=c.σ.begun:=by rw [S.me,b];omega
 by_cases h1:c.σ.mem<=c.σ.begun
 ·rw [zC h1] at a;have n:MS.h0 x=x.refuse 6:=by
   unfold MS.h0 MS.Bx;rw [GX,g,CM,zC (f.2 h1)];rfl
  rw [n];exact .dead c 6 (.refl c) rfl (S.dead zD (by rw [zA zO];exact b)) (fun cl=>Halt.fail 6 a)
 ·rw [zA h1] at a;rw [Yt g (fun h=>h1 (f.1 h))];have d:=DL.DF (q:=q) (D:=D) (s:=s) c _ a;rw [zC e] at d;obtain ⟨l,i⟩:=d.mu S.wf;have k:Sn q D s (Jb x) { c with σ:={ c.σ with st:=0,om:=[],Az:=0,Bq:=0,marks:=0,begun:=c.σ.begun+1 },Aa:=c.Aa++[c.pre.length - 1] }:=⟨{ S with
    wf:=l
    qc:=by show ([]:List Nat)=List.drop _ [];simp
    marks:=rfl
    head:=⟨rfl,zH _⟩
    Az:=rfl
    sum:=fun _=>rfl
    Jx:=⟨by show 1<=65520;omega,by show 0<=65520;omega⟩
    size:=by show 0=([]:List Nat).length%65536;simp
    nl:=fun h=>absurd h (show ¬ (10<=0/\0<=14) by decide)
    nd:=fun h=>absurd h (show ¬ (11<=0/\0<=14) by decide)
    told:=fun h=>absurd h (show ¬ (12<=0/\0<=14) by decide)
    hs:=fun h=>absurd h (show ¬ (13<=0/\0<=14) by decide)
    hk:=fun h=>absurd h (show ¬ (0=14) by decide)
    la:=fun h=>absurd h (show ¬ (15<=0/\0<=20) by decide)
    mb:=⟨by show c.σ.begun+1=(c.Aa++[_]).length;rw [zI,yO];omega,by show (c.Aa++[_]).length<=c.σ.mem;rw [zI,yO];omega⟩ },rfl,by show x.mb+1=(c.Aa++[_]).length;rw [zI,yO,b],hp⟩
  exact (YF k rfl).Hx S.wf (Steps.one d) (Or.inl i)
theorem Cg.Hx{q:Cm}(h:Cg q D s x c):Uh q D s x c x.advance:=by
 have a:x.st=0->x.advance=MS.h0 x:=fun h=>by unfold MS.advance;simp only [h]
 cases h with
 | run N=>exact N.Hx.Hx N.sm.wf (.refl c) (Or.inr ⟨rfl,by rw [N.st];omega⟩)
 | fresh S h1 h2 h3=>rw [a h1];exact bB S h1 h2 h3
 | between S h1 h2 h3 h4 h5 h6=>rw [a h1];exact WK S h1 h2 h3 h4 h5 h6
theorem Cg.gT{q:Cm}(h:Cg q D s x c)(L:iB q c.σ.mem c.σ.lim):mA x:=by
 have ok:=h.ok L;cases h with
 | run N=>exact N.gT L
 | fresh S h1 h2 h3=>
  have hc:x.count=0:=by rw [S.count,h3];rfl
  exact ⟨ok,zO,zO,by rw [h1];exact ⟨ok,Or.inl hc⟩⟩
 | between S h1 h2 h3 h4 h5 h6=>
  have hc:x.count=8:=by rw [S.count];exact h5
  exact ⟨ok,zO,zO,by rw [h1];exact ⟨ok,Or.inr hc⟩⟩
theorem Steps.Vm{q:Cm}{b:Cf}(h:Steps q D s a b):St.Wf a.σ->b.σ.mem=a.σ.mem/\b.σ.lim=a.σ.lim/\b.σ.fmt=a.σ.fmt:=by
 induction h with
 | refl=>exact fun _=>⟨rfl,rfl,rfl⟩
 | step a b c h1 _ ih=>
  intro W;have N:=St.next W;obtain ⟨d,_⟩:=h1.mu W;obtain ⟨f,g,i⟩:=ih d;have e:b.σ.mem=a.σ.mem/\b.σ.lim=a.σ.lim/\b.σ.fmt=a.σ.fmt:=by
   cases h1 with
   | take g1 g2 g3=>exact ⟨rfl,rfl,rfl⟩
   | put y σ' g1 g2 g3=>rw [g1] at N;exact ⟨N.2.2.2.2.1,N.2.2.2.2.2,N.2.2.2.1⟩
   | DF σ' g1=>rw [g1] at N;exact ⟨N.2.2.2.1,N.2.2.2.2.1,N.2.2.1⟩
  exact ⟨f.trans e.1,g.trans e.2.1,i.trans e.2.2⟩
inductive Uc(q:Cm)(D:Nat)(s:ByteArray)(c:Cf)(r:MS×Nat):Prop
 | Cr (c':Cf):Steps q D s c c'->r.2=1->Cg q D s r.1 c'->c'.σ.act= .take->s.size<=c'.pre.length->Uc q D s c r
 | full (c':Cf) (b:Nat) (σ':St):Steps q D s c c'->r.2=2->Cg q D s r.1 c'->c'.σ.act= .put b σ'->D+64<=c'.outs.length->Uc q D s c r
 | dead (c':Cf) (e:Nat):Steps q D s c c'->r.2=3->ZY q r.1 c' e->Stop q D s c' e->Uc q D s c r
theorem Uc.after{q:Cm}{r:MS×Nat}(h:Uc q D s c1 r)(st:Steps q D s c c1):Uc q D s c r:=by
 cases h with
 | Cr c' h1 h2 h3 h4 h5=>exact .Cr c' (st.trans h1) h2 h3 h4 h5
 | full c' b σ' h1 h2 h3 h4 h5=>exact .full c' b σ' (st.trans h1) h2 h3 h4 h5
 | dead c' e h1 h2 h3 h4=>exact .dead c' e (st.trans h1) h2 h3 h4
theorem gf{q:Cm}(m:Nat):∀ {x:MS} {c:Cf},mE s x c<=m->Cg q D s x c->iB q c.σ.mem c.σ.lim->∃ n r,Fm n x r/\Uc q D s c r:=by
 induction m with
 | zero=>
  intro x c hm H L;have P:=H.gT L;have T:=H.Hx;cases T with
  | go c' h1 h2 h3 h4=>omega
  | Cr c' h1 h2 h3 h4 h5=>exact ⟨0,_, .stop x P zO, .Cr c' h1 h2 h3 h4 h5⟩
  | full c' b σ' h1 h2 h3 h4 h5=>exact ⟨0,_, .stop x P zO, .full c' b σ' h1 h2 h3 h4 h5⟩
  | dead c' e h1 h2 h3 h4=>exact ⟨0,_, .stop x P zO, .dead c' e h1 h2 h3 h4⟩
 | succ m ih=>
  intro x c hm H L;have P:=H.gT L;have T:=H.Hx;cases T with
  | go c' h1 h2 h3 h4=>
   have e:=h1.Vm H.sm.wf;obtain ⟨n,r,R,E⟩:=ih zO h3 (by rw [e.1,e.2.1];exact L);exact ⟨n+1,r, .go n x r P h2 R,E.after h1⟩
  | Cr c' h1 h2 h3 h4 h5=>exact ⟨0,_, .stop x P zO, .Cr c' h1 h2 h3 h4 h5⟩
  | full c' b σ' h1 h2 h3 h4 h5=>exact ⟨0,_, .stop x P zO, .full c' b σ' h1 h2 h3 h4 h5⟩
  | dead c' e h1 h2 h3 h4=>exact ⟨0,_, .stop x P zO, .dead c' e h1 h2 h3 h4⟩
theorem Cg.runs{q:Cm}(h:Cg q D s x c)(L:iB q c.σ.mem c.σ.lim):∃ n r,Fm n x r/\Uc q D s c r:=gf _ zL h L
theorem FA(n lo hi:Int)(w:World):Calls prog 73 #[.int .i64 lo, .int .i64 n, .int .i64 hi] w fun e b=>e= .returned (.bool (wi n lo hi))/\w=b:=by
 by_cases h1:lo<=n
 ·by_cases h2:n<=hi
  ·have a:Hid (wi n lo hi=true):=by show _=_;simp [wi,h1,h2]
   go_enter func73,ntmps73
   go_wp2
   go_ret
   exact ⟨by rw [a.out];rfl,rfl⟩
  ·have a:Hid (wi n lo hi=false):=by show _=_;simp [wi,h2]
   go_enter func73,ntmps73
   go_wp2
   go_ret
   exact ⟨by rw [a.out];rfl,rfl⟩
 ·have a:Hid (wi n lo hi=false):=by show _=_;simp [wi,h1]
  go_enter func73,ntmps73
  go_wp2
  go_ret
  exact ⟨by rw [a.out];rfl,rfl⟩
theorem DE(n:Int)(w:World):Calls prog 48 #[.int .i64 n] w fun e b=>e= .returned (.bool (wi n 0 2))/\w=b:=by
 have a:Hid ((n==0 || n==1 || n==2)=wi n 0 2):=by
  show _=_;unfold wi;rw [Bool.eq_iff_iff];simp;omega
 by_cases h0:n=0
 ·subst h0;go_enter func48,ntmps48
  go_wp2
  go_ret
  exact ⟨rfl,rfl⟩
 ·by_cases h1:n=1
  ·subst h1;go_enter func48,ntmps48
   go_wp2
   go_ret
   exact ⟨rfl,rfl⟩
  ·by_cases h2:n=2
   ·subst h2;go_enter func48,ntmps48
    go_wp2
    go_ret
    exact ⟨rfl,rfl⟩
   ·skip
    go_enter func48,ntmps48
    go_wp2
    go_ret
    exact ⟨by rw [<- a.out];rfl,rfl⟩
theorem SN(c:Gm)(w:World):Calls prog 45 #[c.val] w fun e d=>e= .returned (.bool c.right)/\Below w.heap.size w d:=by
 unfold Gm.val;have b:Hid (c.right=(wi c.fm 0 2 && wi c.out 0 100000 && wi c.ratio 0 1000 && wi c.CH 0 100000 && (wi c.mem 1 100 && wi c.lim 0 100 && wi c.steps 0 1000000))):=rfl;generalize c.right=res at *;obtain ⟨fm,out,ratio,CH,mem,lim,steps⟩:=c;simp only at b |-;cases h1:wi fm 0 2
 ·skip
  rw [h1] at b;have a:Hid (res=false):=by show _=_;rw [b.out];rfl
  clear b;go_enter func45,ntmps45
  go_wp2_with (first | (go_at_call 48;refine (DE _ _).mono ?_;rintro e d ⟨rfl,rfl⟩) | (go_at_call 73;refine (FA _ _ _ _).mono ?_;rintro e d ⟨rfl,rfl⟩))
  go_ret
  exact ⟨by rw [a.out];rfl,zB.alloc zL _⟩
 ·skip
  cases h2:wi out 0 100000
  ·skip
   rw [h1,h2] at b;have a:Hid (res=false):=by show _=_;rw [b.out];rfl
   clear b;go_enter func45,ntmps45
   go_wp2_with (first | (go_at_call 48;refine (DE _ _).mono ?_;rintro e d ⟨rfl,rfl⟩) | (go_at_call 73;refine (FA _ _ _ _).mono ?_;rintro e d ⟨rfl,rfl⟩))
   go_ret
   exact ⟨by rw [a.out];rfl,zB.alloc zL _⟩
  ·skip
   cases h3:wi ratio 0 1000
   ·skip
    rw [h1,h2,h3] at b;have a:Hid (res=false):=by show _=_;rw [b.out];rfl
    clear b;go_enter func45,ntmps45
    go_wp2_with (first | (go_at_call 48;refine (DE _ _).mono ?_;rintro e d ⟨rfl,rfl⟩) | (go_at_call 73;refine (FA _ _ _ _).mono ?_;rintro e d ⟨rfl,rfl⟩))
    go_ret
    exact ⟨by rw [a.out];rfl,zB.alloc zL _⟩
   ·skip
    cases h4:wi CH 0 100000
    ·skip
     rw [h1,h2,h3,h4] at b;have a:Hid (res=false):=by show _=_;rw [b.out];rfl
     clear b;go_enter func45,ntmps45
     go_wp2_with (first | (go_at_call 48;refine (DE _ _).mono ?_;rintro e d ⟨rfl,rfl⟩) | (go_at_call 73;refine (FA _ _ _ _).mono ?_;rintro e d ⟨rfl,rfl⟩))
     go_ret
     exact ⟨by rw [a.out];rfl,zB.alloc zL _⟩
    ·skip
     cases h5:wi mem 1 100
     ·skip
      rw [h1,h2,h3,h4,h5] at b;have a:Hid (res=false):=by show _=_;rw [b.out];rfl
      clear b;go_enter func45,ntmps45
      go_wp2_with (first | (go_at_call 48;refine (DE _ _).mono ?_;rintro e d ⟨rfl,rfl⟩) | (go_at_call 73;refine (FA _ _ _ _).mono ?_;rintro e d ⟨rfl,rfl⟩))
      go_ret
      exact ⟨by rw [a.out];rfl,zB.alloc zL _⟩
     ·skip
      cases h6:wi lim 0 100
      ·skip
       rw [h1,h2,h3,h4,h5,h6] at b;have a:Hid (res=false):=by show _=_;rw [b.out];rfl
       clear b;go_enter func45,ntmps45
       go_wp2_with (first | (go_at_call 48;refine (DE _ _).mono ?_;rintro e d ⟨rfl,rfl⟩) | (go_at_call 73;refine (FA _ _ _ _).mono ?_;rintro e d ⟨rfl,rfl⟩))
       go_ret
       exact ⟨by rw [a.out];rfl,zB.alloc zL _⟩
      ·skip
       cases f:wi steps 0 1000000
       ·skip
        rw [h1,h2,h3,h4,h5,h6,f] at b;have a:Hid (res=false):=by show _=_;rw [b.out];rfl
        clear b;go_enter func45,ntmps45
        go_wp2_with (first | (go_at_call 48;refine (DE _ _).mono ?_;rintro e d ⟨rfl,rfl⟩) | (go_at_call 73;refine (FA _ _ _ _).mono ?_;rintro e d ⟨rfl,rfl⟩))
        go_ret
        exact ⟨by rw [a.out];rfl,zB.alloc zL _⟩
       ·skip
        rw [h1,h2,h3,h4,h5,h6,f] at b;have a:Hid (res=true):=by show _=_;rw [b.out];rfl
        clear b;go_enter func45,ntmps45
        go_wp2_with (first | (go_at_call 48;refine (DE _ _).mono ?_;rintro e d ⟨rfl,rfl⟩) | (go_at_call 73;refine (FA _ _ _ _).mono ?_;rintro e d ⟨rfl,rfl⟩))
        go_ret
        exact ⟨by rw [a.out];rfl,zB.alloc zL _⟩
def MS.fresh(fm ou ra sl me he sp:Nat):MS:={ fm:=fm,ou:=ou,ra:=ra,sl:=sl,me:=me,he:=he,sp:=sp,st:=0,er:=0,tk:=0,pu:=0,mb:=0,held:=0,count:=0,marks:=0,head:=0,Az:=0,sx:=0,sy:=0,size:=0,last:=false,left:=0,nl:=0,nd:=0,told:=0,hlen:=0,En:=false,Aq:=0,Am:=0,lit:=0,least:=0,bits:=0,Cc:=0,rest:=[],qa:=[],qc:=[],hl:=[],row:=[],hs:=[],la:=[],lb:=[] }
theorem fX(cs:Array Value)(h:cs.size=7):(prog.info? 42).map (·.size)=some cs.size:=by rw [h];kernel_rfl
theorem Mj(n:Int)(w:World):Calls prog 49 #[.int .i64 n] w fun e a=>e= .returned (Gm.val ⟨n,9223372036854775807,0,9223372036854775807,9223372036854775807,9223372036854775807,9223372036854775807⟩)/\Below w.heap.size w a:=by
 unfold Gm.val;go_enter func49,ntmps49
 go_wp2_with fail
 refine zX (v:= .agg #[.int .i64 n, .int .i64 9223372036854775807, .int .i64 0, .int .i64 9223372036854775807, .int .i64 9223372036854775807, .int .i64 9223372036854775807, .int .i64 9223372036854775807]) ?_ rfl ?_
 ·exact xH results49 _ _ _ 42 _ _ _ rfl (zJ _ _) underlying42 rfl (fX _ rfl)
 ·exact ⟨rfl,zB.alloc zL _⟩
structure Ub(w W:World)(G fm ou ra sl me he sp:Nat):Prop where
 cs:W.cell? ⟨G,0,none⟩=some (.int .i64 fm)/\W.cell? ⟨G,1,none⟩=some (.int .i64 ou)/\W.cell? ⟨G,2,none⟩=some (.int .i64 ra)/\W.cell? ⟨G,3,none⟩=some (.int .i64 sl)/\W.cell? ⟨G,4,none⟩=some (.int .i64 me)/\W.cell? ⟨G,5,none⟩=some (.int .i64 he)/\W.cell? ⟨G,6,none⟩=some (.int .i64 sp)
 bel:Below w.heap.size w W
 lt:G<W.heap.size
theorem Ub.step{W W':World}{G:Nat}(h:Ub w W G fm ou ra sl me he sp)(f:Below W.heap.size W W'):Ub w W' G fm ou ra sl me he sp:=by
 obtain ⟨⟨a,c1,c2,c3,c,d,c6⟩,b,l⟩:=h;have k:∀ i,W'.cell? ⟨G,i,none⟩=W.cell? ⟨G,i,none⟩:=fun i=>f.cell l
 exact ⟨⟨by rw [k];exact a,by rw [k];exact c1,by rw [k];exact c2,by rw [k];exact c3,by rw [k];exact c,by rw [k];exact d,by rw [k];exact c6⟩,b.trans (f.mono b.size),zM l f.size⟩
theorem Ub.made(w:World)(fm ou ra sl me he sp:Nat):Ub w (w.alloc (.cells #[.int .i64 fm, .int .i64 ou, .int .i64 ra, .int .i64 sl, .int .i64 me, .int .i64 he, .int .i64 sp] 42)) w.heap.size fm ou ra sl me he sp:=by
 have h:=zJ w (.cells #[.int .i64 fm, .int .i64 ou, .int .i64 ra, .int .i64 sl, .int .i64 me, .int .i64 he, .int .i64 sp] 42);refine ⟨⟨?_,?_,?_,?_,?_,?_,?_⟩,zB.alloc zL _,zS⟩ <;> (rw [yA _ _ _ _ _ _ h];rfl)
theorem GJ.Wh{c N:Nat}{f:Nat->Nat}{q:List Nat}(h:GJ w r c N o f q)(b:Below w.heap.size w w'):GJ w' r c N o f q:=h.kp (R:=fun _=>False) (ρ:=fun _=>0) (Kp.Bk b) (fun e=>e) (fun e=>e)
theorem ID(h:g<w.heap.size)(o:Obj):(w.alloc o).cell? ⟨g,i,none⟩=w.cell? ⟨g,i,none⟩:=by
 unfold World.cell?;rw [xQ _ _ h]
theorem cN{a c d:Nat}(hs:w.heap.size<=a/\w.heap.size<=b)(h2:a<c/\a<d/\b<c/\b<d)(h3:a<w2.heap.size/\b<w2.heap.size/\c<w2.heap.size/\d<w2.heap.size)(j:GJ w2 a b 64 0 (fun _=>0) [])(l:GJ w2 c d 256 0 (fun _=>0) [])(u:Below w.heap.size w w2) :
  ∃ ρ,MQ ρ (w2.alloc (.cells (QN (MS.fresh fm ou ra sl me he sp) ⟨a,b,c,d, .slice none 0 0,0, .slice none 0 0, .pointer none, .slice none 0 0, .pointer none, .pointer none⟩).toArray 132)) w2.heap.size (MS.fresh fm ou ra sl me he sp)/\(∀ k,ρ k≠0->w.heap.size<=k):=by
 have n1:=j.ne;have y:=l.ne;obtain ⟨ρ,hρ⟩:∃ ρ:Nat->Nat,ρ=fun k=>if k=w2.heap.size then 1 else if k=a then 2 else if k=b then 3 else if k=c then 4 else if k=d then 5 else 0:=⟨_,rfl⟩
 have p:ρ w2.heap.size=1:=by rw [hρ];simp
 have q:ρ a=2:=by rw [hρ];simp;omega
 have r:ρ b=3:=by
  rw [hρ];show (if b=w2.heap.size then 1 else if b=a then 2 else if b=b then 3 else _)=3;rw [zA zO,zA (zY n1),zC rfl]
 have s:ρ c=4:=by
  rw [hρ];show (if c=w2.heap.size then 1 else if c=a then 2 else if c=b then 3 else if c=c then 4 else _)=4;rw [zA zO,zA zO,zA zO,zC rfl]
 have t:ρ d=5:=by
  rw [hρ];show (if d=w2.heap.size then 1 else if d=a then 2 else if d=b then 3 else if d=c then 4 else if d=d then 5 else 0)=5;rw [zA zO,zA zO,zA zO,zA (zY y),zC rfl]
 have n:∀ k,ρ k≠0->k=w2.heap.size\/k=a\/k=b\/k=c\/k=d:=fun k hk=>by
  apply yB;intro z;apply hk;rw [hρ];show (if k=w2.heap.size then 1 else if k=a then 2 else if k=b then 3 else if k=c then 4 else if k=d then 5 else 0)=0;rw [zA zO,zA zO,zA zO,zA zO,zA zO]
 have ba:∀ o,Below w2.heap.size w2 (w2.alloc o):=fun o=>zB.alloc zL o
 have v:=u.size;refine ⟨ρ,⟨⟨a,b,c,d, .slice none 0 0,0, .slice none 0 0, .pointer none, .slice none 0 0, .pointer none, .pointer none⟩,⟨?_,⟨0,_,j.Wh (ba _)⟩,⟨0,_,l.Wh (ba _)⟩,p,q,r,s,t⟩,⟨LY.dY _ _,⟨OI.nil _ _,fun g e=>by cases e⟩,⟨OI.nil _ _,fun g e=>by cases e⟩,Or.inl rfl,Or.inl rfl,Or.inl rfl,fun k hk=>?_⟩,rfl,rfl⟩,fun k hk=>?_⟩
 ·refine yL w2 _ 132 _ fun i hi=>?_
  have f:i<(QN (MS.fresh fm ou ra sl me he sp) ⟨a,b,c,d, .slice none 0 0,0, .slice none 0 0, .pointer none, .slice none 0 0, .pointer none, .pointer none⟩).length:=by simpa using hi
  unfold FY;rw [BR,yF,xR f];rfl
 ·have:=n k hk;simp;omega
 ·have:=n k hk;omega
theorem Jl(fm ou ra sl me he sp:Nat)(w:World):Calls prog 46 #[Gm.val ⟨fm,ou,ra,sl,me,he,sp⟩] w fun e E=>∃ p ρ,e= .returned (.pointer (some ⟨p,0,none⟩))/\MQ ρ E p (MS.fresh fm ou ra sl me he sp)/\(∀ k,ρ k≠0->w.heap.size<=k)/\Below w.heap.size w E:=by
 unfold Gm.val;go_enter func46,ntmps46
 go_wp2_with fail
 have i:=hid (Ub.made w fm ou ra sl me he sp);generalize (w.alloc (.cells #[.int .i64 fm, .int .i64 ou, .int .i64 ra, .int .i64 sl, .int .i64 me, .int .i64 he, .int .i64 sp] 42))=W at *;obtain ⟨G,hG⟩:=qe w.heap.size;rw [<- hG] at i |-;have F:=hid hG;clear hG;obtain ⟨H,c1,c2,c3,I,J,c6⟩:=i.out.cs;go_region_held3 (fun h=>h.cell? ⟨G,0,none⟩=some (.int .i64 fm)/\h.cell? ⟨G,1,none⟩=some (.int .i64 ou)/\h.cell? ⟨G,2,none⟩=some (.int .i64 ra)/\h.cell? ⟨G,3,none⟩=some (.int .i64 sl)/\h.cell? ⟨G,4,none⟩=some (.int .i64 me)/\h.cell? ⟨G,5,none⟩=some (.int .i64 he)/\h.cell? ⟨G,6,none⟩=some (.int .i64 sp)) (first | exact ⟨H,c1,c2,c3,I,J,c6⟩ | exact ⟨L,d1,d2,N,O,P,Q⟩ | exact ⟨v,y,z,A,B,C,D⟩ | exact ⟨(ID f _).trans v,(ID f _).trans y,(ID f _).trans z,(ID f _).trans A,(ID f _).trans B,(ID f _).trans C,(ID f _).trans D⟩)
  (first
   | (go_at_call 74;refine (iM 64 _ zD zD).mono ?_;rintro e w1 ⟨r1,o,rfl,q,s,t,g⟩;have j:Hid (Ub w w1 G fm ou ra sl me he sp/\GJ w1 r1 o 64 0 (fun _=>0) []/\W.heap.size<=r1/\W.heap.size<=o/\W.heap.size<=w1.heap.size):=⟨i.out.step ⟨g.os,g.tape,g.output,g.size,g.block⟩,q,s,t,g.size⟩;obtain ⟨L,d1,d2,N,O,P,Q⟩:=j.out.1.cs;clear q s t g)
   | (go_at_call 74;refine (iM 256 _ zD zD).mono ?_;rintro e w2 ⟨r2,Z,rfl,r,a2,u,k2⟩;have l:=ix (j.out.1.step k2) r a2 u k2;obtain ⟨v,y,z,A,B,C,D⟩:=l.out.1.cs;have f:=l.out.1.lt;clear r a2 u k2))
 all_goals
  go_wp2
  go_ret
  have n:=j.out;have g2:=l.out;have T:=n.2.1.row.lt;have U:=n.2.1.cells.lt;have V:=g2.2.1.row.lt;have X:=g2.2.1.cells.lt;have Y:=g2.2.2.2.2.size;have S:=i.out.lt;have R:=F.out;obtain ⟨ρ,M,hk⟩:=cN (w:=w) (w2:=w2) (fm:=fm) (ou:=ou) (ra:=ra) (sl:=sl) (me:=me) (he:=he) (sp:=sp) (a:=r1) (b:=o) (c:=r2) (d:=Z) ⟨zO,zO⟩ ⟨zO,zO,zO,zO⟩ ⟨zO,zO,zO,zO⟩ (n.2.1.Wh g2.2.2.2.2) g2.2.1 g2.1.bel;exact ⟨_,ρ,rfl,M,hk,g2.1.bel.alloc (by have:=g2.1.bel.size;omega) _⟩
structure OU(B b:Nat)(p v:Value)(l:List Nat)(w:World):Prop where
 le:B<=b
 at_:w.rowIs b 106 2 (FY [p,v])
 own:w.ownsRow B 5 1 v l.length (EJ l)
 ne:v.ownBlock≠some b
 self:p= .pointer none\/p= .pointer (some ⟨b,0,none⟩)
theorem OU.lt{p:Value}(h:OU B b p v l w):b<w.heap.size:=h.at_.lt
theorem OU.cell0{p:Value}(h:OU B b p v l w):w.cell? ⟨b,0,none⟩=some p:=h.at_.cell (i:=0) zO
theorem OU.br{p:Value}(h:OU B b p v l w):w.cell? ⟨b,1,none⟩=some v:=h.at_.cell (i:=1) zO
theorem OU.frozen{p:Value}(h:OU B b p v l w)(i:Nat):w.frozen? ⟨b,i,none⟩=false:=h.at_.frozen i
theorem WM:(prog.info? 106).map (·.size)=some 2:=zK
theorem Vl:liesAt prog prog.depth 106 (2 / prog.cellsOf 106) 0 106 1=true:=zK
theorem Zl:prog.cellsOf 5=1:=zK
theorem OU.shape{p:Value}(h:OU B b p v l w):w.shape? b=some (106,2):=by
 obtain ⟨cs,h1,h2,_⟩:=h.at_;simp [World.shape?,h1,h2]
theorem OU.used{p:Value}(h:OU B b p v l w):OU B b (.pointer (some ⟨b,0,none⟩)) v l (w.setCell ⟨b,0,none⟩ (.pointer (some ⟨b,0,none⟩))):=by
 refine ⟨h.le,?_,?_,h.ne,Or.inr rfl⟩
 ·exact MF h.at_ 0 _ rfl
 ·exact As h.own (R:=fun k=>k=b) (ρ:=fun k=>k) (Kp.Dm w ⟨b,0,none⟩ _ rfl) (fun g a e=>h.ne (by rw [a];exact yH some e))
theorem RU{p:Value}(h:OU B b p v l w):Calls prog 77 #[.pointer (some ⟨b,0,none⟩)] w fun e f=>e= .returned (.tuple #[])/\OU B b (.pointer (some ⟨b,0,none⟩)) v l f/\(f=w\/f=w.setCell ⟨b,0,none⟩ (.pointer (some ⟨b,0,none⟩))):=by
 obtain ⟨j,c,d⟩:=kW.1 WM;have i:=h.cell0;have z0:=h.frozen 0;have a:=h.shape;have g:=hid h;have hs:=h.self;clear h;rcases hs with rfl | rfl
 ·go_enter func77,ntmps77
  go_wp2_with fail
  rw [Lib.run_to_unsafe w ⟨b,0,none⟩ underlying104 underlying191 c (by rw [d];decide) a (Nat.zero_lt_succ 1)];simp only [Result.andThen];rw [AI];go_wp2_with fail
  rw [run_callFunc_extern func107 zK zK zK (e:=Extern.AbiNoEscape.same) zK];rw [Lib.run_noEscape];simp only [Result.andThen];rw [AI];go_wp2_with fail
  rw [Lib.run_from_unsafe w ⟨b,0,none⟩ underlying191 underlying104 c a Vl];simp only [Result.andThen];rw [AI];go_wp2
  go_end0
  exact ⟨rfl,g.out.used,Or.inr rfl⟩
 ·go_enter func77,ntmps77
  go_wp2_with fail
  rw [Lib.run_neq_ptr_same w _ underlying104 c];go_wp2
  go_end0
  exact ⟨rfl,g.out,Or.inl rfl⟩
structure nN(b:Nat)(o:Option Nat)(w w':World):Prop where
 size:w.heap.size<=w'.heap.size
 block:∀ k,k<w.heap.size->k≠b->o≠some k->w'.heap[k]?=w.heap[k]?
 os:w'.os=w.os
 tape:w'.tape=w.tape
 output:w'.output=w.output
def oF(B b:Nat)(v:Value)(l news:List Nat)(w:World)(e:Ending)(w':World):Prop:=
 ∃ v',e= .returned (.tuple #[.int .i64 news.length, .nilIface])/\OU B b (.pointer (some ⟨b,0,none⟩)) v' (l++news) w'/\(v'.ownBlock=v.ownBlock\/v'.ownBlock=some w.heap.size)/\nN b v.ownBlock w w'
theorem Zg{m:Nat}(h:w.rowIs g 5 m (fun j=> .int .u8 (news.getD j 0:Nat)))(hm:news.length=m):∀ j u,(EJ news)[j]?=some u->w.cell? (Addr.add ⟨g,0,none⟩ j)=some u:=fun j u a=>by
 have d:j<m:=by have:=(vH.1 a).1;simp [EJ] at this;omega
 have c:Addr.add ⟨g,0,none⟩ j=⟨g,j,none⟩:=by unfold Addr.add;by_cases b:j=0 <;> simp [b]
 rw [c,h.cell d];unfold EJ at a;rw [BT,xR zO] at a;rw [<- a];simp [yF,xR (show j<news.length by omega)]
theorem Ur{p:Value}{m:Nat}(h:OU B b p v l w)(hB:B<=w.heap.size)(O:w.rowIs g 5 m (fun j=> .int .u8 (news.getD j 0:Nat)))(hm:news.length=m)(E:g≠b)(hlen:l.length+m<=10000000000000) :
  Calls prog 51 #[.pointer (some ⟨b,0,none⟩), .slice (some ⟨g,0,none⟩) m m] w fun e W=>oF B b v l news w e W:=by
 have C:=CL h O;clear h O;obtain ⟨i5,F,H,I,J⟩:=yM Nq;go_enter func51,ntmps51
 go_wp2_with fail
 refine (RU C.out.1).mono ?_;rintro e w1 ⟨rfl,q,A⟩;have d:Hid (nN b none w w1/\w1.rowIs g 5 m (fun j=> .int .u8 (news.getD j 0:Nat))/\w1.heap.size=w.heap.size):=by
  rcases A with rfl | rfl
  ·exact ⟨⟨zE _,fun _ _ _ _=>rfl,rfl,rfl,rfl⟩,C.out.2,rfl⟩
  ·exact ⟨⟨zS,fun k _ hk _=>zZ _ _ _ _ hk,rfl,rfl,rfl⟩,C.out.2.setOther (a:=⟨b,0,none⟩) E _,zS⟩
 clear A;obtain ⟨r,w2,z,f,c,_,s⟩:=run_append_own_at (P:=prog) w1 B 34 34 5 i5 (.int .u8 0) 1 1 underlying34 F H I J rfl zD v l.length (EJ l) q.own ⟨g,0,none⟩ m m (EJ news) (by simp [EJ,hm]) (Zg d.out.2.1 hm) (fun u Q=>by unfold EJ at Q;obtain ⟨x,_,rfl⟩:=vT.1 Q;rfl) (by unfold maxLen;omega) zO (by rw [d.out.2.2];exact hB);have c1:=q.br;have D:=q.lt;have t:=c.block b D (fun e=>q.ne e.symm);have o:=q.at_.of_block t;have n:r.ownBlock≠some b:=by
  rcases s with e | e
  ·rw [e];exact q.ne
  ·rw [e];intro N;injection N with N;omega
 have T:Hid (OU B b (.pointer (some ⟨b,0,none⟩)) r (l++news) (w2.setCell ⟨b,1,none⟩ r)/\(r.ownBlock=v.ownBlock\/r.ownBlock=some w.heap.size)/\nN b v.ownBlock w (w2.setCell ⟨b,1,none⟩ r)):=by
  refine ⟨⟨q.le,MF o 1 r rfl,?_,n,Or.inr rfl⟩,?_,?_⟩
  ·have U:(l++news).length=l.length+m:=by rw [zI,hm]
   rw [U,show EJ (l++news)=EJ l++EJ news by simp [EJ]];exact As f (R:=fun k=>k=b) (ρ:=fun k=>k) (Kp.Dm w2 ⟨b,1,none⟩ _ rfl) (fun g V e=>n (by rw [V];exact yH some e))
  ·rw [<- d.out.2.2];exact s
  ·refine ⟨by rw [<- d.out.2.2];simpa using c.size,fun k hk y G=>?_,c.os.trans d.out.1.os,c.tape.trans d.out.1.tape,c.output.trans d.out.1.output⟩;rw [zZ _ _ _ _ y,c.block k (by rw [d.out.2.2];exact hk) (zY G)];exact d.out.1.block k hk y zS
 have d1:w2.cell? ⟨b,1,none⟩=some v:=o.cell (i:=1) zO;have X:=o.frozen 1;obtain ⟨L,S,M,rfl⟩:∃ L S cap,r= .slice L S cap:=by
  rcases f.2 with ⟨hv,_⟩ | ⟨g,cap,cur,hv,_⟩
  ·exact ⟨_,_,_,hv⟩
  ·exact ⟨_,_,_,hv⟩
 clear o t q s c f n;go_wp2_with (at_builtin;refine Lib.wpList_append_run w1 rfl _ _ 34 34 rfl _ _ rfl rfl _ w2 z ?_)
 go_ret2
 exact ⟨_,by rw [hm];rfl,T.out⟩
theorem eM(l:List Nat):DD l=⟨(l.map UInt8.ofNat).toArray⟩:=by
 unfold DD strOfNums;simp [Function.comp_def]
theorem Us(h:∀ x∈l,x<256):EJ l=Lib.byteCells (l.map UInt8.ofNat):=by
 unfold EJ Lib.byteCells;rw [List.map_map];apply List.map_congr_left;intro x hx;have:=h x hx;simp;omega
theorem Zc{p:Value}(h:OU B b p v l w)(hB:B<=w.heap.size)(hl:∀ x∈l,x<256) :
  Calls prog 54 #[.pointer (some ⟨b,0,none⟩)] w fun e M=>e= .returned (.string (DD l))/\Below B w M:=by
 have mixed:prog.follows Departure.mixedOrders=true:=zK;have A:=hid h;have c1:w.drew.cell? ⟨b,1,none⟩=some v:=h.br;have a:=h.own;clear h;rcases a.2 with ⟨rfl,h0⟩ | ⟨g,cap,cur,rfl,C,u,G,E,s,c⟩
 ·have F:=AZ h0;subst F;have r:(Builtin.unsafeSliceData_ #[34] 165 #[.slice none 0 0]).run prog w.drew= .ok (.pointer none) w.drew:=rfl;have k:=fun W=>BZ (P:=prog) W 165 3 9 none
  clear a;go_enter func54,ntmps54
  go_wp2_with fail
  go_region_o
  all_goals
   go_wp2
   go_ret
   exact ⟨rfl,Below.drew (zF B w)⟩
 ·by_cases h0:l=[]
  ·subst h0;simp only [xA] at c1 A G;by_cases t:cap=0
   ·subst t;have f:w.drew.heap[g]?=some (.cells cur 5 (0,0)):=u;have r:=Lib.run_unsafeSliceData_zero (P:=prog) w.drew #[34] 165 5 underlying165 ⟨g,0,none⟩ 0 (5,cur.size) (by simp [World.shape?,f]);have k:=fun W=>BZ (P:=prog) W 165 3 9 (some ⟨w.heap.size,0,none⟩)
    have D:=A.out.lt;have J:=A.out.br;have I:∀ o,(w.drew.alloc o).cell? ⟨b,1,none⟩=some (.slice (some ⟨g,0,none⟩) 0 0):=fun o=>by rw [ID (show b<w.drew.heap.size from D)];exact c1
    clear a u f c s;go_enter func54,ntmps54
    go_wp2_with fail
    go_region_o
    all_goals
     go_wp2
     go_ret
     exact ⟨rfl,(Below.drew (zF B w)).alloc hB _⟩
   ·have r:=Lib.run_unsafeSliceData_row (P:=prog) w.drew #[34] 165 ⟨g,0,none⟩ 0 cap t;have k:=fun W=>BZ (P:=prog) W 165 3 9 (some ⟨g,0,none⟩)
    clear a u c s;go_enter func54,ntmps54
    go_wp2_with fail
    go_region_o
    all_goals
     go_wp2
     go_ret
     exact ⟨rfl,Below.drew (zF B w)⟩
  ·have L:l.length≠0:=by simpa using h0
   obtain ⟨z,q⟩:=qe (l.map UInt8.ofNat);have i:z.length=l.length:=by rw [q];simp
   have y:z≠[]:=by intro e;rw [e] at i;simp at i;omega
   have d:∀ j x,z[j]?=some x->w.drew.cell? (Addr.add ⟨g,0,none⟩ j)=some (.int .u8 x.toNat):=fun j x hx=>by
    refine a.cells (g:=g) rfl j (.int .u8 x.toNat) ?_;rw [Us hl,<- q];simp [Lib.byteCells,hx]
   have f:w.drew.heap[g]?=some (.cells cur 5 (0,0)):=u;have r:=Lib.run_unsafeSliceData_row (P:=prog) w.drew #[34] 165 ⟨g,0,none⟩ l.length cap zO;have k:=Lib.run_unsafeString_row (P:=prog) w.drew 165 3 9 5 underlying165 Zl g cur.size (by simp [World.shape?,f]) z y zO (by unfold maxLen at E;omega) d;rw [i] at k;have H:Hid (DD l=⟨z.toArray⟩):=by show _=_;rw [eM,q]
   generalize l.length=n at *;clear a u f c s d q;go_enter func54,ntmps54
   go_wp2_with fail
   go_region_o
   all_goals
    go_wp2
    go_ret
    exact ⟨by rw [H.out];rfl,Lib.below_freeze (Below.drew (zF B w)) (p:=⟨g,0,none⟩) C _⟩
def MS.verdict(x:MS):Nat:=if x.er=0/\x.st≠24 then 15 else x.er
theorem QK(h:MM ρ w p x):Calls prog 53 #[.pointer (some ⟨p,0,none⟩)] w fun e f=>e= .returned (.int .i64 x.verdict)/\f=w:=by
 have b:=h.Bt.1;obtain ⟨L,B,_⟩:=h;have a:w.cell? ⟨p,8,none⟩=some (.int .i64 x.er):=B.row.cell (i:=8) zO;clear B;unfold MS.verdict;by_cases h0:x.er=0
 ·by_cases h1:x.st=24
  ·rw [zA (fun h=>h.2 h1),h0];rw [h0] at a;rw [h1] at b;go_enter func53,ntmps53
   go_wp2
   go_ret
   exact ⟨rfl,rfl⟩
  ·rw [zC ⟨h0,h1⟩];rw [h0] at a;have d:¬ (x.st:Int)=24:=zO;go_enter func53,ntmps53
   go_wp2
   go_ret
   exact ⟨rfl,rfl⟩
 ·rw [zA (fun h=>h0 h.1)];have c:¬ (x.er:Int)=0:=zO;go_enter func53,ntmps53
  go_wp2
  go_ret
  exact ⟨rfl,rfl⟩
theorem MQ.taken(h:MQ ρ w p x)(b:Nat)(hm:b<=1000000):∃ r,w.cell? ⟨p,16,none⟩=some (.pointer (some ⟨r,0,none⟩))/\Calls prog 52 #[.pointer (some ⟨r,0,none⟩), .int .i64 b] w fun e d=>
  ∃ g,e= .returned (.slice (some ⟨g,0,none⟩) (min b x.qa.length) (min b x.qa.length))/\w.heap.size<=g/\d.rowIs g 5 (min b x.qa.length) (fun j=> .int .u8 (x.qa.getD j 0:Nat))/\MQ ρ d p { x with qa:=x.qa.drop (min b x.qa.length) }/\Fr EC ρ w d:=by
 obtain ⟨L,B,T,h1,h2⟩:=h;obtain ⟨o,f,k⟩:=B.ra;obtain ⟨r1,r2,_,_⟩:=B.rl;refine ⟨L.a,B.row.cell (i:=16) zO,(dp b k (T.lt _ (by rw [r2];decide)) zO).mono ?_⟩;rintro e d ⟨g,rfl,q,c,n,l⟩;have F:=Fr.VB l r1 r2 zD zD;exact ⟨g,rfl,q,c,⟨L,B.WC n l,(T.bO F).same rfl rfl rfl rfl ⟨rfl,rfl⟩,h1,h2⟩,F.Ba⟩
theorem Sm.drain{q:Cm}(h:Sm q D s x c)(k:Nat)(hk:D+k<=c.outs.length):Sm q (D+k) s { x with qa:=x.qa.drop k } c:=
 { h with
  qa:=by show x.qa.drop k=c.outs.drop (D+k);rw [h.qa,List.drop_drop]
  Zu:=⟨hk,by have:=h.Zu.2;omega⟩ }
theorem Cg.drain{q:Cm}(h:Cg q D s x c)(k:Nat)(hk:D+k<=c.outs.length):Cg q (D+k) s { x with qa:=x.qa.drop k } c:=by
 cases h with
 | run h=>exact .run ⟨h.sm.drain k hk,h.st,h.mb,h.pre⟩
 | fresh h a b e=>exact .fresh (h.drain k hk) a b e
 | between h a b e f g i=>exact .between (h.drain k hk) a b e f g i
theorem Sm.feed{q:Cm}(h:Sm q D s x c)(a:ByteArray)(hs:c.pre.length<=a.size):Sm q D a { x with rest:=Cb a c.pre.length } c:=
 { h with
  rest:=rfl
  le:=hs }
theorem Cg.feed{q:Cm}(h:Cg q D s x c)(d:ByteArray)(hs:c.pre.length<=d.size):Cg q D d { x with rest:=Cb d c.pre.length } c:=by
 cases h with
 | run h=>exact .run ⟨h.sm.feed d hs,h.st,h.mb,h.pre⟩
 | fresh h a b e=>exact .fresh (h.feed d hs) a b e
 | between h a b e f g i=>exact .between (h.feed d hs) a b e f g i
theorem Cg.first{q:Cm}(b:fm<3)(hm:1<=mem)(s:ByteArray):Cg q 0 s { MS.fresh fm q.out q.ratio q.CH mem lim q.steps with rest:=Cb s 0 } (Cf.begin fm mem lim):=by
 refine .fresh ?_ rfl rfl rfl;have c:(Cf.begin fm mem lim).σ.st=if fm=0 then 6 else 0:=rfl;have a:¬ 10<=(Cf.begin fm mem lim).σ.st:=by rw [c];split <;> omega
 exact {
   wf:=St.La b
   fm:=rfl
   me:=rfl
   he:=rfl
   ou:=rfl
   ra:=rfl
   sl:=rfl
   sp:=rfl
   er:=rfl
   tk:=rfl
   pu:=rfl
   rest:=rfl
   le:=zH _
   held:=rfl
   count:=rfl
   qa:=rfl
   Zu:=⟨zH _,zH _⟩
   qc:=by show ([]:List Nat)=List.drop _ [];rw [List.drop_nil]
   marks:=rfl
   head:=⟨rfl,zH _⟩
   Az:=rfl
   sum:=fun h=>absurd rfl h
   Jx:=⟨zH _,zH _⟩
   ej:=zH _
   size:=rfl
   last:=rfl
   left:=rfl
   nl:=fun h=>absurd h.1 a
   nd:=fun h=>absurd (zG zD h.1) a
   told:=fun h=>absurd (zG zD h.1) a
   hl:=rfl
   row:=rfl
   hs:=fun h=>absurd (zG zD h.1) a
   hk:=fun h=>absurd (by rw [h];decide) a
   la:=fun h=>absurd (zG zD h.1) a
   lit:=rfl
   span:=⟨rfl,rfl⟩
   Cc:=rfl
   mb:=⟨rfl,hm⟩ }
theorem DL.ZF{q:Cm}{b:Cf}(W:St.Wf a.σ)(h:DL q D s a b):b.outs.length+SO s b<=a.outs.length+SO s a:=by
 have m:=(h.mu W).2;cases h with
 | take h1 h2 h3=>show a.outs.length+_<=_;omega
 | put y σ' h1 h2 h3=>
  show (a.outs++[y]).length+_<=_;rw [zI,yO];omega
 | DF σ' h1=>show a.outs.length+_<=_;omega
theorem Steps.ZF{q:Cm}{b:Cf}(h:Steps q D s a b):St.Wf a.σ->b.outs.length+SO s b<=a.outs.length+SO s a:=by
 induction h with
 | refl=>exact fun _=>zE _
 | step a b c h1 _ ih=>
  intro W;have:=h1.ZF W;have:=ih (h1.mu W).1;omega
theorem Steps.bytes{q:Cm}{b:Cf}(h:Steps q D s a b):St.Wf a.σ->(∀ y∈a.outs,y<256)->∀ y∈b.outs,y<256:=by
 induction h with
 | refl=>exact fun _ h=>h
 | step a b c h1 _ ih=>
  intro W e;refine ih (h1.mu W).1 ?_;cases h1 with
  | take=>exact e
  | put z σ' g1 g2 g3=>
   have N:=St.next W;rw [g1] at N;intro y d;rcases yW.1 d with d | d
   ·exact e y d
   ·rw [yY.1 d];exact N.2.1
  | DF=>exact e
inductive JX(s:ByteArray):Nat->MS->List Nat->ByteArray×Nat->Prop
 | go (k n:Nat) (x:MS) (l:List Nat) (r:MS×Nat) (res:ByteArray×Nat):x.tk<=s.size->Fm n { x with rest:=Cb s x.tk } r->r.2=2->r.1.qa.length<=64->(∀ y∈l++r.1.qa,y<256)->l.length+64<=10000000000000->JX s k { r.1 with rest:=[],qa:=[] } (l++r.1.qa) res->JX s (k+1) x l res
 | stop (n:Nat) (x:MS) (l:List Nat) (r:MS×Nat):x.tk<=s.size->Fm n { x with rest:=Cb s x.tk } r->r.2≠2->r.1.qa.length<=64->(∀ y∈l++r.1.qa,y<256)->l.length+64<=10000000000000->JX s 0 x l (if MS.verdict r.1≠0 then (⟨#[]⟩,MS.verdict r.1) else (DD (l++r.1.qa),0))
def MJ:Cm:=⟨9223372036854775807,0,9223372036854775807,9223372036854775807⟩
theorem mf:iB MJ 9223372036854775807 9223372036854775807:=⟨zE _,by show 0*9223372036854775807+9223372036854775807<=9223372036854775807;omega,zE _,zE _,zE _⟩
theorem Halt.cases{q:Cm}(h:Halt q D s false c e none):(e=0)\/(q.steps<=c.pre.length+c.outs.length)\/(∃ b σ',c.σ.act= .put b σ'/\Cl q c.pre.length c.outs.length=e/\e≠0)\/c.σ.act= .fail e:=by
 generalize d:(none:Option Bool)=a at h;cases h with
 | Cr h1 h2=>left;rw [zA (fun h=>by cases h.1)]
 | steps h1 h2 h3=>right;left;exact h3
 | full b σ' h1 h2=>left;rfl
 | quota b σ' h1 h2 h3=>right;right;left;exact ⟨b,σ',h1,rfl,h3⟩
 | fail _ h1=>right;right;right;exact h1
theorem aY(s:ByteArray)(fm mem lim:Nat)(h:fm<3):SO s (Cf.begin fm mem lim)<=1000*s.size+100:=by
 have:=St.dH (St.La (mem:=mem) (lim:=lim) h);unfold SO St.Gn;show 1000*(s.size - 0)+(100*0+_)<=_;have e:(Cf.begin fm mem lim).σ=St.begin fm mem lim:=rfl;rw [e];omega
structure PH(fm:Nat)(s:ByteArray)(c:Cf):Prop where
 path:Steps MJ c.outs.length s (Cf.begin fm 9223372036854775807 9223372036854775807) c
theorem PH.begin(fm:Nat)(s:ByteArray):PH fm s (Cf.begin fm 9223372036854775807 9223372036854775807):=⟨.refl _⟩
theorem PH.facts(h:PH fm s c)(a:fm<3)(hs:s.size<=1000000000) :
  Dr fm 9223372036854775807 9223372036854775807 c/\CI c.pre s/\c.outs.length<=1000*s.size+100/\(∀ y∈c.outs,y<256)/\GI fm 1152921504606846976 1152921504606846976 (c.re 1152921504606846976 1152921504606846976)/\(c.σ.re 1152921504606846976 1152921504606846976).act=c.σ.act.re 1152921504606846976 1152921504606846976:=by
 obtain ⟨G,T⟩:=Dr.steps h.path (Dr.begin a zD) (CI.nil s);have b:=St.La (mem:=9223372036854775807) (lim:=9223372036854775807) a;have h1:=h.path.ZF b;have h2:=aY s fm 9223372036854775807 9223372036854775807 a;have h3:(Cf.begin fm 9223372036854775807 9223372036854775807).outs.length=0:=rfl;have R:=Steps.re (M:=1152921504606846976) (L:=1152921504606846976) h.path b (ZX.begin _ _ _) (zH _) ⟨⟨by show s.size+1<9223372036854775807;omega,zO⟩,⟨by show s.size<9223372036854775807;omega,zO⟩⟩;obtain ⟨e,f,g,i,j⟩:=R;have d:=(Dr.steps e (Dr.begin (fm:=fm) (mem:=1152921504606846976) (lim:=1152921504606846976) a zD) (CI.nil s)).1;exact ⟨G,T,zO,h.path.bytes b (fun y k=>by cases k),d.gi,ZX.TF j f g i⟩
theorem PH.go(h:PH fm s c)(a:fm<3)(st:Steps MJ c.outs.length s c c'):PH fm s c':=by
 have T:=(Dr.steps (h.path.trans st) (Dr.begin a zD) (CI.nil s)).2;obtain ⟨k,hk⟩:=st.Lx.outs;exact ⟨(h.path.trans st).mono (by rw [hk,zI];omega) T⟩
theorem XD(h0:s.size=0):(Tr.readAll fm s).Dg=(⟨#[]⟩,15):=by
 have a:Tr.DJ (Tr.readAll fm s)=⟨[],[],0,[],0,true⟩:=by
  unfold Tr.readAll Tr.read Tr.Gb Tr.Ej Tr.FD;simp only [zC h0];split
  ·rfl
  ·split <;> rfl
 rw [Tr.QL a,zA zD,zC rfl]
theorem Vb(h:PH fm s c)(g:fm<3)(hs:s.size<=1000000000)(S:Cg MJ D s x c)(b:c.σ.act= .take)(hl:s.size<=c.pre.length) :
  (Tr.readAll fm s).Dg=if MS.verdict x≠0 then (⟨#[]⟩,MS.verdict x) else (DD c.outs,0):=by
 obtain ⟨G,T,_,_,f,d⟩:=h.facts g hs;have i:=S.sm.le;have a:=S.sm.er;have e:s.size≠0->(Tr.readAll fm s).Dg=if c.σ.st<23 then (⟨#[]⟩,15) else (DD c.outs,0):=fun h0=>by
  have O:=f.Cr (show (c.σ.re _ _).act=_ by rw [d,b];rfl) h0 T (show s.size=c.pre.length by omega);unfold Tr.readAll;rw [Tr.QL O,zA zD];show (if decide (c.σ.st<23)=true then _ else (DD c.outs,0))=_;by_cases h1:c.σ.st<23
  ·rw [zC (by simpa using h1),zC h1]
  ·rw [zA (by simpa using h1),zA h1]
 cases S with
 | run N=>
  rw [e (by have:=N.pre;omega)];have j:=N.st;have hw:=N.sm.wf.st;unfold MS.verdict;by_cases h1:c.σ.st<23
  ·rw [zC h1,zC (show x.er=0/\x.st≠24 from ⟨a,zO⟩),zC zD]
  ·rw [zA h1,zA (show ¬ (x.er=0/\x.st≠24) from fun h=>h.2 zO),a,zA zD]
 | fresh _ e1 _ e2=>
  have h0:c.pre.length=0:=by rw [e2];rfl
  rw [XD zO];unfold MS.verdict;rw [zC (show x.er=0/\x.st≠24 from ⟨a,zO⟩),zC zD]
 | between _ _ _ h23 _ h8 _=>
  exfalso
  rw [St.Af h23] at b;simp only [St.actAt,St.Ab] at b;rw [zA zO] at b;(repeat' split at b) <;> cases b
theorem Zt(h:PH fm s c)(f:fm<3)(hs:s.size<=1000000000)(S:ZY MJ x c e)(g:Stop MJ D s c e)(l:List Nat) :
  (Tr.readAll fm s).Dg=if MS.verdict x≠0 then (⟨#[]⟩,MS.verdict x) else (DD l,0):=by
 obtain ⟨G,T,ho,_,d,a⟩:=h.facts f hs;have j:=T.len;have hv:MS.verdict x=e:=by unfold MS.verdict;rw [zA (fun h=>S.ne (S.er.symm.trans h.1)),S.er]
 have i:c.σ.act= .fail e:=by
  rcases (g false).cases with h1 | h1 | ⟨b,σ',h1,h2,h3⟩ | h1
  ·exact absurd h1 S.ne
  ·have h2:9223372036854775807<=c.pre.length+c.outs.length:=h1;omega
  ·exfalso
   apply h3;rw [<- h2];unfold Cl;show (if 9223372036854775807<=c.pre.length+c.outs.length then 16 else if 9223372036854775807<=c.outs.length then 17 else if 0*c.pre.length+9223372036854775807<=c.outs.length then 18 else 0)=0;rw [zA zO,zA zO,zA zO]
  ·exact h1
 have h0:s.size≠0:=fun h0=>by
  have hp:c.pre=[]:=vV.1 zO;have:=(G.fs.act hp).1;rw [i] at this;cases this
 have O:=d.fail (e:=e) (show (c.σ.re _ _).act=_ by rw [a,i];rfl) h0 T;unfold Tr.readAll;rw [Tr.QL O.1,hv];rw [zC S.ne,zC S.ne]
theorem dP(a:fm<3)(hs:s.size<=1000000000)(m:Nat):∀ {x:MS} {c:Cf},SO s c<=m->Cg MJ c.outs.length s { x with rest:=Cb s x.tk } c->PH fm s c->∃ k,JX s k x c.outs (Tr.readAll fm s).Dg:=by
 induction m using Nat.strongRecOn with
 | _ m ih=>
  intro x c hm S C;obtain ⟨G,T,ho,i,_,_⟩:=C.facts a hs;have p:x.tk=c.pre.length:=S.sm.tk;have l:=S.sm.le;obtain ⟨n,r,R,E⟩:=S.runs (by rw [G.gi.fq,G.gi.fZ];exact mf);cases E with
  | full c' b σ' h1 h2 h3 h4 h5=>
   have C':=C.go a h1;obtain ⟨k,hk⟩:=h1.Lx.outs;have hq:r.1.qa=k:=by rw [h3.sm.qa,hk,BC]
   have hd:=h3.sm.Zu;have hl:k.length<=64:=by rw [hk,zI] at hd;omega
   have o:=h1.ZF S.sm.wf;obtain ⟨_,_,_,d,_,_⟩:=C'.facts a hs;have S':Cg MJ c'.outs.length s { ({ r.1 with rest:=[],qa:=[] }:MS) with rest:=Cb s ({ r.1 with rest:=[],qa:=[] }:MS).tk } c':=by
    have h6:=h3.drain k.length (by rw [hk,zI];exact zE _);have h:c.outs.length+k.length=c'.outs.length:=by rw [hk,zI]
    rw [h,hq,BA] at h6;have f:=h6.feed s h3.sm.le;rw [<- h3.sm.tk] at f;exact f
   obtain ⟨j,g⟩:=ih (SO s c') zO zL S' C';rw [hk,<- hq] at g;refine ⟨j+1, .go j n x c.outs r _ zO R h2 (by rw [hq];exact hl) ?_ zO g⟩;rw [hq,<- hk];exact d
  | Cr c' h1 h2 h3 h4 h5=>
   have C':=C.go a h1;obtain ⟨k,hk⟩:=h1.Lx.outs;have hq:r.1.qa=k:=by rw [h3.sm.qa,hk,BC]
   have hd:=h3.sm.Zu;have hl:k.length<=64:=by rw [hk,zI] at hd;omega
   obtain ⟨_,_,_,d,_,_⟩:=C'.facts a hs;refine ⟨0,?_⟩;rw [Vb C' a hs h3 h4 h5,hk,<- hq];exact .stop n x c.outs r zO R zO (by rw [hq];exact hl) (by rw [hq,<- hk];exact d) zO
  | dead c' e h1 h2 h3 h4=>
   have C':=C.go a h1;refine ⟨0,?_⟩;rw [Zt C' a hs h3 h4 (c.outs++r.1.qa)];exact .stop n x c.outs r zO R zO (by rw [h3.qa];decide) (by rw [h3.qa,xV];exact i) zO
theorem Xa(a:fm<3)(hs:s.size<=1000000000):∃ k,JX s k (MS.fresh fm 9223372036854775807 0 9223372036854775807 9223372036854775807 9223372036854775807 9223372036854775807) [] (Tr.readAll fm s).Dg:=
 dP a hs _ zL (c:=Cf.begin fm 9223372036854775807 9223372036854775807) (Cg.first (q:=MJ) (mem:=9223372036854775807) (lim:=9223372036854775807) a zD s) (PH.begin fm s)
theorem WT(a b:ByteArray):ES (a++b)=ES a++ES b:=by
 unfold ES;rw [ByteArray.data_append,Array.toList_append,jQ]
theorem eK(P:List ByteArray):∀ s:ByteArray,ES (P.foldl (·++·) s)=ES s++P.flatMap ES:=by
 induction P with
 | nil=>intro s;simp
 | cons x xs ih=>intro s;rw [List.foldl_cons,ih,WT,xL,yI]
theorem Xw(P:List ByteArray)(s:ByteArray)(h:s.size=n):Cb (P.foldl (·++·) s) n=P.flatMap ES:=by
 unfold Cb;rw [eK,<- h,<- IM,BC]
theorem Cg.verdict{q:Cm}(S:Cg q D s x c)(b:c.σ.act= .take):MS.verdict x=if c.σ.st<23 then 15 else 0:=by
 have a:=S.sm.er;unfold MS.verdict;cases S with
 | run N=>
  have d:=N.st;have hw:=N.sm.wf.st;by_cases h1:c.σ.st<23
  ·rw [zC h1,zC (show x.er=0/\x.st≠24 from ⟨a,zO⟩)]
  ·rw [zA h1,zA (show ¬ (x.er=0/\x.st≠24) from fun h=>h.2 zO),a]
 | fresh _ e1 _ e2=>
  have h6:c.σ.st<23:=by
   rw [e2];show (if c.σ.fmt=0 then 6 else 0)<23;split <;> omega
  rw [zC h6,zC (show x.er=0/\x.st≠24 from ⟨a,zO⟩)]
 | between _ _ _ h23 _ h8 _=>
  exfalso
  rw [St.Af h23] at b;simp only [St.actAt,St.Ab] at b;rw [zA zO] at b;(repeat' split at b) <;> cases b
theorem Cg.ny{q:Cm}(S:Cg q D s x c):x.mb=if c.pre.length=0 then 0 else c.Aa.length:=by
 cases S with
 | run N=>rw [N.mb,zA (by have:=N.pre;omega)]
 | fresh _ _ e1 e2=>rw [e1,zC (by rw [e2];rfl)]
 | between _ _ e1 _ _ _ e2=>rw [e1,zA zO]
theorem Steps.still{q:Cm}(h:Steps q D s c c')(d:c.σ.act= .take)(hl:s.size<=c.pre.length):c'=c:=by
 cases h with
 | refl=>rfl
 | step a b _ h1 _=>
  cases h1 with
  | take g1 g2 g3=>omega
  | put y σ' g1 _ _=>rw [g1] at d;cases d
  | DF σ' g1=>rw [g1] at d;cases d
structure PG(x:MS)(acc:Bool)(m:MG):Prop where
 live:m.err=0->∃ s,CI m.c.pre s/\s.size=m.c.pre.length/\Cg m.q m.Ac s x m.c
 dead:m.err≠0->ZY m.q x m.c m.err
 Wd:acc=m.acc
 Uk:m.acc=true->m.closed=true/\(m.err=0->m.c.σ.act= .take/\¬ m.c.σ.st<23)
 lim:iB m.q m.c.σ.mem m.c.σ.lim
theorem PG.er(h:PG x acc m):x.er=m.err:=by
 by_cases h0:m.err=0
 ·obtain ⟨s,_,_,S⟩:=h.live h0;rw [S.sm.er,h0]
 ·exact (h.dead h0).er
theorem PG.tk(h:PG x acc m):x.tk=m.c.pre.length/\x.pu=m.c.outs.length/\x.mb=if m.c.pre.length=0 then 0 else m.c.Aa.length:=by
 by_cases h0:m.err=0
 ·obtain ⟨s,_,_,S⟩:=h.live h0;exact ⟨S.sm.tk,S.sm.pu,S.ny⟩
 ·have D:=h.dead h0;exact ⟨D.tk,D.pu,D.mb⟩
inductive Ue(closed:Bool)(x:MS)(acc:Bool)(P:List ByteArray):MS->Bool->Prop
 | far (n:Nat) (r:MS×Nat):Fm n { x with rest:=P.flatMap ES } r->(r.2≠1\/closed=false)->Ue closed x acc P { r.1 with rest:=[] } acc
 | full (n:Nat) (r:MS×Nat):Fm n { x with rest:=P.flatMap ES } r->r.2=1->closed=true->MS.verdict r.1=0->Ue closed x acc P { r.1 with rest:=[] } true
 | short (n:Nat) (r:MS×Nat):Fm n { x with rest:=P.flatMap ES } r->r.2=1->closed=true->MS.verdict r.1≠0->Ue closed x acc P (MS.refuse { r.1 with rest:=[] } (MS.verdict r.1)).1 acc
theorem Cg.alone{q:Cm}(S:Cg q D s x c)(T:CI c.pre s):∃ b,CI c.pre b/\b.size=c.pre.length/\Cg q D b { x with rest:=[] } c:=by
 obtain ⟨d,a⟩:=T.cut;have S':=S.feed _ (kZ a.symm);rw [JF (kZ a)] at S';exact ⟨_,d,a,S'⟩
theorem PG.iu(h:PG x acc m)(he:m.err=0)(fm mem lim:Nat)(G:Dr fm mem lim m.c)(P:List ByteArray)(hP:m.acc=true->P=[]) :
  ∃ s t u acc',CI m.c.pre s/\s.size=m.c.pre.length/\Ue m.closed x acc P u acc'/\TC m (P.foldl (·++·) s) t/\PG u acc' t:=by
 obtain ⟨s,T,j,S⟩:=h.live he;have p:=KE P T;have S':=S.feed _ p.len;rw [Xw P s j] at S';obtain ⟨n,r,R,E⟩:=S'.runs h.lim;have i:m.acc=true->∀ a,Steps m.q m.Ac (P.foldl (·++·) s) m.c a->a=m.c:=fun g a st=>by
  have h0:=hP g;rw [h0] at st;exact st.still ((h.Uk g).2 he).1 (kZ j)
 have Vm:∀ a,Steps m.q m.Ac (P.foldl (·++·) s) m.c a->iB m.q a.σ.mem a.σ.lim:=fun a st=>by
  have e:=st.Vm G.gi.wf;rw [e.1,e.2.1];exact h.lim
 have k:∀ a,Steps m.q m.Ac (P.foldl (·++·) s) m.c a->CI a.pre (P.foldl (·++·) s):=fun a st=>(Dr.steps st G p).2
 refine ⟨s,?_⟩;cases E with
 | full a b σ' h1 h2 h3 h4 h5=>
  refine ⟨_,_,acc,T,j, .far n r R (Or.inl zO),⟨a,0,none,h1, .full b σ' h4 h5,rfl⟩,?_⟩;exact ⟨fun _=>h3.alone (k _ h1),fun h0=>absurd rfl h0,h.Wd,fun g=>by
   have e:=i g _ h1;have:=((h.Uk g).2 he).1;rw [e,this] at h4;(cases h4),Vm _ h1⟩
 | dead a e h1 h2 h3 h4=>
  refine ⟨_,_,acc,T,j, .far n r R (Or.inl zO),⟨a,e,none,h1,h4 m.closed,rfl⟩,?_⟩;exact ⟨fun h0=>absurd h0 h3.ne,fun _=>⟨h3.er,h3.ne,h3.tk,h3.pu,h3.qa,h3.mb⟩,h.Wd,fun g=>⟨(h.Uk g).1,fun h0=>absurd h0 h3.ne⟩,Vm _ h1⟩
 | Cr a h1 h2 h3 h4 h5=>
  have V:=h3.verdict h4;have hH:=Halt.Cr (q:=m.q) (D:=m.Ac) (closed:=m.closed) h4 h5;cases f:m.closed with
  | false=>
   rw [f] at hH;rw [zA (fun h=>by cases h.1),zA zD] at hH;refine ⟨_,_,acc,T,j, .far n r R (Or.inr rfl),⟨a,0,none,h1,by rw [f];exact hH,rfl⟩,?_⟩;exact ⟨fun _=>h3.alone (k _ h1),fun h0=>absurd rfl h0,h.Wd,fun g=>by
    have:=(h.Uk g).1;rw [f] at this;(cases this),Vm _ h1⟩
  | true=>
   rw [f] at hH;by_cases d:a.σ.st<23
   ·rw [zC ⟨rfl,d⟩,zC rfl,show decide (¬ a.σ.st<23)=false by simpa using d] at hH;rw [zC d] at V;have g:m.acc=false:=by
     cases g:m.acc with
     | false=>rfl
     | true=>
      have e:=i g _ h1;rw [e] at d;exact absurd d ((h.Uk g).2 he).2
    refine ⟨_,_,acc,T,j, .short n r R zO rfl (by rw [V];decide),⟨a,15,some false,h1,by rw [f];exact hH,rfl⟩,?_⟩;rw [V];refine ⟨fun h0=>absurd (show (15:Nat)=0 from h0) zD,fun _=>?_,by show acc=false;rw [h.Wd,g],fun l=>(by cases l),Vm _ h1⟩;obtain ⟨v,_,_,o⟩:=h3.alone (k _ h1);exact o.sm.dead zD o.ny
   ·rw [zA (fun h=>d h.2),zC rfl,show decide (¬ a.σ.st<23)=true by simpa using d] at hH;rw [zA d] at V;refine ⟨_,_,true,T,j, .full n r R zO rfl V,⟨a,0,some true,h1,by rw [f];exact hH,rfl⟩,?_⟩;exact ⟨fun _=>h3.alone (k _ h1),fun h0=>absurd rfl h0,rfl,fun _=>⟨f,fun _=>⟨h4,d⟩⟩,Vm _ h1⟩
theorem PG.fresh{c:Gm}(h:c.right=true):PG (MS.fresh c.fm.toNat c.out.toNat c.ratio.toNat c.CH.toNat c.mem.toNat c.lim.toNat c.steps.toNat) false ⟨Cf.begin c.fm.toNat c.mem.toNat c.lim.toNat,⟨c.out.toNat,c.ratio.toNat,c.CH.toNat,c.steps.toNat⟩,0,false,0,false⟩:=by
 have k:=KQ.1 h;refine ⟨fun _=>⟨⟨#[]⟩,CI.nil _,rfl,?_⟩,fun h0=>absurd rfl h0,rfl,fun a=>(by cases a),?_⟩
 ·exact Cg.first (q:=⟨c.out.toNat,c.ratio.toNat,c.CH.toNat,c.steps.toNat⟩) (fm:=c.fm.toNat) (mem:=c.mem.toNat) (lim:=c.lim.toNat) (show c.fm.toNat<3 by omega) (show 1<=c.mem.toNat by omega) ⟨#[]⟩
 ·refine ⟨by show c.steps.toNat<=_;omega,?_,by show c.out.toNat<=_;omega,by show c.lim.toNat<=_;omega,by show c.mem.toNat<=_;omega⟩;show c.ratio.toNat*c.steps.toNat+c.CH.toNat<=_;have h1:c.ratio.toNat<=1000:=zO;have h2:c.steps.toNat<=1000000:=zO;have h3:=Nat.mul_le_mul h1 h2;omega
theorem PG.Ac(h:PG x acc m)(he:m.err=0)(k:Nat)(hk:m.Ac+k<=m.c.outs.length):PG { x with qa:=x.qa.drop k } acc { m with Ac:=m.Ac+k }:=by
 obtain ⟨s,T,a,S⟩:=h.live he;exact ⟨fun _=>⟨s,T,a,S.drain k hk⟩,fun h0=>absurd he h0,h.Wd,h.Uk,h.lim⟩
theorem PG.shut(h:PG x acc m)(hc:m.closed=false):PG x acc { m with closed:=true }/\m.acc=false:=by
 have a:m.acc=false:=by
  cases a:m.acc with
  | false=>rfl
  | true=>have:=(h.Uk a).1;rw [hc] at this;cases this
 exact ⟨⟨h.live,h.dead,h.Wd,fun h0=>(by rw [show ({ m with closed:=true }:MG).acc=m.acc from rfl,a] at h0;cases h0),h.lim⟩,a⟩
theorem PG.qa(h:PG x acc m):x.qa=if m.err=0 then m.c.outs.drop m.Ac else []:=by
 by_cases h0:m.err=0
 ·obtain ⟨s,_,_,S⟩:=h.live h0;rw [zC h0];exact S.sm.qa
 ·rw [zA h0];exact (h.dead h0).qa
theorem MB.ig(h:MB ρ w p x L)(f:Kp (fun r=>r=0) ρ w w'):MB ρ w' p x L where
 row:=ER h.row f (by rw [h.rp];decide)
 ra:=by obtain ⟨o,g,k⟩:=h.ra;obtain ⟨r1,r2,r3,r4⟩:=h.rl;exact ⟨o,g,k.kp f (by rw [r1];decide) (by rw [r2];decide)⟩
 rc:=by obtain ⟨o,g,k⟩:=h.rc;obtain ⟨r1,r2,r3,r4⟩:=h.rl;exact ⟨o,g,k.kp f (by rw [r3];decide) (by rw [r4];decide)⟩
 rp:=h.rp
 rl:=h.rl
theorem MQ.ig(h:MQ ρ w p x)(f:Kp (fun r=>r=0) ρ w w'):MQ ρ w' p x:=by
 obtain ⟨L,h1,h2,h3⟩:=h;exact ⟨L,h1.ig f,h2.fr f (fun r e=>zO),h3⟩
theorem MQ.lt(h:MQ ρ w p x):(∀ k,ρ k≠0->k<w.heap.size)/\ρ p=1/\p<w.heap.size:=by
 obtain ⟨L,h1,h2,_⟩:=h;exact ⟨h2.lt,h1.rp,h1.row.lt⟩
theorem MQ.tk(h:MQ ρ w p x):w.cell? ⟨p,9,none⟩=some (.int .i64 x.tk):=by
 obtain ⟨L,h1,_,_⟩:=h;exact h1.row.cell (i:=9) zO
theorem OU.kp{R:Nat->Prop}{p:Value}(h:OU B b p v l w)(k:Kp R ρ w w')(h1:¬ R (ρ b))(h2:∀ g,v.ownBlock=some g->¬ R (ρ g)):OU B b p v l w':=⟨h.le,ER h.at_ k h1,As h.own k h2,h.ne,h.self⟩
theorem UH(h:i<=s.size):ES (s.extract i s.size)=Cb s i:=by
 unfold ES Cb ES;rw [ByteArray.data_extract,Array.toList_extract,List.extract_eq_take_drop,List.map_take,List.map_drop];apply xU;rw [xI,AS];exact zE _
structure GN(w0:World)(p b:Nat)(s:ByteArray)(res:ByteArray×Nat)(ρ:Nat->Nat)(x:MS)(pb vb:Value)(l:List Nat)(w:World):Prop where
 mq:MQ ρ w p x
 bl:OU w0.heap.size b pb vb l w
 rb:ρ b=0
 rv:∀ g,vb.ownBlock=some g->ρ g=0
 nw:∀ k,ρ k≠0->w0.heap.size<=k
 bel:Below w0.heap.size w0 w
theorem GN.below{res:ByteArray×Nat}(h:GN w0 p b s res ρ x pb vb l w)(f:Below w.heap.size w w'):GN w0 p b s res ρ x pb vb l w':=⟨h.mq.below f,h.bl.kp (R:=fun _=>False) (ρ:=ρ) (Kp.Bk f) (fun e=>e) (fun _ _ e=>e),h.rb,h.rv,h.nw,h.bel.trans (f.mono h.bel.size)⟩
theorem Up{R:Nat->Prop}(h:Below w0.heap.size w0 w)(f:Fr R ρ w w')(a:¬ R 0)(b:∀ k,ρ k≠0->w0.heap.size<=k):Below w0.heap.size w0 w':=by
 refine h.trans ⟨f.os,f.tape,f.output,f.kp.size,fun k hk=>?_⟩;refine f.kp.block k (zM hk h.size) ?_;have e:ρ k=0:=yB fun hc=>by have:=b k hc;omega
 rw [e];exact a
theorem GN.mF{res:ByteArray×Nat}(h:GN w0 p b s res ρ x pb vb l w)(A:Kg ρ w p y w'):∃ ρ',GN w0 p b s res ρ' y pb vb l w':=by
 obtain ⟨ρ',e,m⟩:=A.ex;have a:¬ EC 0:=by unfold EC;omega
 have d:∀ g,vb.ownBlock=some g->g<w.heap.size:=fun g c=>Bj h.bl.own c
 refine ⟨ρ',m,h.bl.kp A.fr.kp (by rw [h.rb];exact a) (fun g c=>by rw [h.rv g c];exact a),by rw [e b h.bl.lt];exact h.rb,fun g c=>by rw [e g (d g c)];exact h.rv g c,fun k hk=>?_,Up h.bel A.fr a h.nw⟩;by_cases hl:k<w.heap.size
 ·rw [e k hl] at hk;exact h.nw k hk
 ·have:=h.bel.size;omega
theorem GN.eU{res:ByteArray×Nat}(h:GN w0 p b s res ρ x pb vb l w)(m:MQ ρ w' p y)(f:Fr EC ρ w w'):GN w0 p b s res ρ y pb vb l w':=by
 have a:¬ EC 0:=by unfold EC;omega
 exact ⟨m,h.bl.kp f.kp (by rw [h.rb];exact a) (fun g c=>by rw [h.rv g c];exact a),h.rb,h.rv,h.nw,Up h.bel f a h.nw⟩
theorem GN.wrote{res:ByteArray×Nat}{vb':Value}{l':List Nat}(h:GN w0 p b s res ρ x pb vb l w)(k:OU w0.heap.size b (.pointer (some ⟨b,0,none⟩)) vb' l' w')(hv:vb'.ownBlock=vb.ownBlock\/vb'.ownBlock=some w.heap.size)(f:nN b vb.ownBlock w w'):GN w0 p b s res ρ x (.pointer (some ⟨b,0,none⟩)) vb' l' w':=by
 have F:Kp (fun r=>r=0) ρ w w':=⟨f.size,fun k hk c=>f.block k hk (fun e=>c (by rw [e];exact h.rb)) (fun e=>c (h.rv k e))⟩
 refine ⟨h.mq.ig F,k,h.rb,fun g a=>?_,h.nw,h.bel.trans ⟨f.os,f.tape,f.output,f.size,fun k hk=>f.block k (zM hk h.bel.size) (fun e=>?_) (fun e=>?_)⟩⟩
 ·rcases hv with e | e
  ·exact h.rv g (by rw [<- e];exact a)
  ·rw [e] at a;injection a with a
   exact yB fun hc=>by have:=h.mq.lt.1 g hc;omega
 ·have:=h.bl.le;omega
 ·have:=(h.bl.own.lt k e).1;omega
structure LU(B:Nat)(ρ:Nat->Nat)(w:World)(q p:Nat)(x:MS)(cl acc:Bool):Prop where
 row:w.rowIs q 100 3 (FY [.pointer (some ⟨p,0,none⟩), .bool cl, .bool acc])
 mq:MQ ρ w p x
 rq:ρ q=0
 nw:∀ k,ρ k≠0->B<=k
 qB:B<=q
 hB:B<=w.heap.size
structure Yb(ρ:Nat->Nat)(q:Nat)(w w':World):Prop where
 size:w.heap.size<=w'.heap.size
 block:∀ k,k<w.heap.size->k≠q->¬ EC (ρ k)->w'.heap[k]?=w.heap[k]?
 os:w'.os=w.os
 tape:w'.tape=w.tape
 output:w'.output=w.output
theorem Yb.refl(ρ:Nat->Nat)(q:Nat)(w:World):Yb ρ q w w:=⟨zE _,fun _ _ _ _=>rfl,rfl,rfl,rfl⟩
theorem Yb.of(h:Fr EC ρ w w'):Yb ρ q w w':=⟨h.kp.size,fun k hk _ a=>h.kp.block k hk a,h.os,h.tape,h.output⟩
theorem Yb.trans{a b c:World}(h:Yb ρ q a b)(k:Yb ρ' q b c)(e:Ext a.heap.size ρ ρ'):Yb ρ q a c:=⟨zG h.size k.size,fun i hi hq d=>(k.block i (zM hi h.size) hq (by rw [e i hi];exact d)).trans (h.block i hi hq d),k.os.trans h.os,k.tape.trans h.tape,k.output.trans h.output⟩
structure Cv(B:Nat)(ρ:Nat->Nat)(w:World)(q p:Nat)(x:MS)(cl acc:Bool)(w':World):Prop where
 ex:∃ ρ',Ext w.heap.size ρ ρ'/\LU B ρ' w' q p x cl acc
 fr:Yb ρ q w w'
theorem Cv.refl(h:LU B ρ w q p x cl acc):Cv B ρ w q p x cl acc w:=⟨⟨ρ,Ext.refl _ _,h⟩,Yb.refl _ _ _⟩
theorem Cv.next(e:Ext w.heap.size ρ ρ')(f:Yb ρ q w w1)(h:Cv B ρ' w1 q p x cl acc w2):Cv B ρ w q p x cl acc w2:=by
 obtain ⟨ρ2,a,g⟩:=h.ex;exact ⟨⟨ρ2,e.trans a f.size,g⟩,f.trans h.fr e⟩
theorem LU.drewN(h:LU B ρ w q p x cl acc)(n:Nat):LU B ρ (w.drewN n) q p x cl acc:=by
 obtain ⟨L,b,t,e⟩:=h.mq;exact ⟨h.row,⟨L,b.drewN n,t.drewN n,e⟩,h.rq,h.nw,h.qB,h.hB⟩
theorem Cv.drawn(h:Cv B ρ w q p x cl acc w'):Cv B ρ w q p x cl acc (w'.drewN n):=by
 obtain ⟨ρ1,e,g⟩:=h.ex;exact ⟨⟨ρ1,e,g.drewN n⟩,⟨h.fr.size,h.fr.block,h.fr.os,h.fr.tape,h.fr.output⟩⟩
theorem iH:¬ EC 0:=by unfold EC;omega
theorem LU.mF(h:LU B ρ w q p x cl acc)(A:Kg ρ w p y w'):Cv B ρ w q p y cl acc w':=by
 obtain ⟨ρ',e,m⟩:=A.ex;have hq:=h.row.lt;refine ⟨⟨ρ',e,ER h.row A.fr.kp (by rw [h.rq];exact iH),m,by rw [e q hq];exact h.rq,fun k hk=>?_,h.qB,zG h.hB A.fr.kp.size⟩,Yb.of A.fr⟩;by_cases hl:k<w.heap.size
 ·rw [e k hl] at hk;exact h.nw k hk
 ·have:=h.hB;omega
theorem LU.eU(h:LU B ρ w q p x cl acc)(m:MQ ρ w' p y)(f:Fr EC ρ w w'):Cv B ρ w q p y cl acc w':=
 h.mF ⟨⟨ρ,Ext.refl _ _,m⟩,f⟩
theorem LU.mark(h:LU B ρ w q p x cl acc)(i:Nat)(v:Value)(e:[Value.pointer (some ⟨p,0,none⟩), .bool cl, .bool acc].set i v=[Value.pointer (some ⟨p,0,none⟩), .bool cl', .bool acc']):Cv B ρ w q p x cl' acc' (w.setCell ⟨q,i,none⟩ v):=by
 have a:Kp (fun r=>r=0) ρ w (w.setCell ⟨q,i,none⟩ v):=Kp.Dm w _ _ h.rq;refine ⟨⟨ρ,Ext.refl _ _,?_,h.mq.ig a,h.rq,h.nw,h.qB,zG h.hB a.size⟩,⟨a.size,fun k _ hq _=>zZ _ _ _ _ hq,rfl,rfl,rfl⟩⟩;have:=MF h.row i v rfl;rw [e] at this;exact this
theorem LU.cells(h:LU B ρ w q p x cl acc):w.cell? ⟨q,0,none⟩=some (.pointer (some ⟨p,0,none⟩))/\w.cell? ⟨q,1,none⟩=some (.bool cl)/\w.cell? ⟨q,2,none⟩=some (.bool acc)/\w.cell? ⟨p,8,none⟩=some (.int .i64 x.er)/\w.cell? ⟨p,9,none⟩=some (.int .i64 x.tk)/\w.frozen? ⟨q,1,none⟩=false/\w.frozen? ⟨q,2,none⟩=false:=by
 obtain ⟨L,a,_,_⟩:=h.mq;exact ⟨h.row.cell (i:=0) zO,h.row.cell (i:=1) zO,h.row.cell (i:=2) zO,a.row.cell (i:=8) zO,a.row.cell (i:=9) zO,h.row.frozen 1,h.row.frozen 2⟩
theorem dL(e:Nat)(h:MQ ρ w p x) :
  Calls prog 79 #[.pointer (some ⟨p,0,none⟩), .int .i64 e] w fun v l=>v= .returned (.int .i64 (x.refuse e).2)/\MQ ρ l p (x.refuse e).1/\Fr EC ρ w l:=by
 obtain ⟨L,B,T,j⟩:=h;have s:=B.row.frozen 8;have r:w.cell? ⟨p,8,none⟩=some (.int .i64 x.er):=B.row.cell (i:=8) zO;have TN:w.cell? ⟨p,16,none⟩=some (.pointer (some ⟨L.a,0,none⟩)):=B.row.cell (i:=16) zO;have c:Hid (MB ρ (w.setCell ⟨p,8,none⟩ (.int .i64 e)) p { x with er:=e } L/\MT ρ (w.setCell ⟨p,8,none⟩ (.int .i64 e)) x L/\Fr V5 ρ w (w.setCell ⟨p,8,none⟩ (.int .i64 e))):=⟨B.set 8 (.int .i64 e) rfl ⟨rfl,rfl,rfl,rfl⟩ ⟨rfl,rfl⟩,T.set B.rp 8 _,Fr.own w p 8 _ B.rp⟩
 have n:=hid j;clear B T j;go_enter func79,ntmps79
 go_wp2_with fail
 obtain ⟨o,f,k⟩:=c.out.1.ra;refine (Ty k).mono ?_;rintro v w1 ⟨rfl,d,b⟩;have g:=Fr.VB b c.out.1.rl.1 c.out.1.rl.2.1 zD zD;have q:Hid (MQ ρ w1 p (x.refuse e).1/\Fr EC ρ w w1):=⟨⟨L,c.out.1.WC d b,(c.out.2.1.bO g).same rfl rfl rfl rfl ⟨rfl,rfl⟩,n.out⟩,(c.out.2.2.trans g).Ba⟩
 clear k d b g;go_wp2
 go_ret
 exact ⟨rfl,q.out⟩
def JS(x:MS)(cl:Bool):Nat:=if x.er=0/\cl=true then 3 else x.er
theorem Tb(h:LU B ρ w q p x cl acc):Calls prog 55 #[.pointer (some ⟨q,0,none⟩)] w fun e d=>e= .returned (.int .i64 (JS x cl))/\d=w:=by
 obtain ⟨f,c1,c2,a,_,_,_⟩:=h.cells;clear h;unfold JS;by_cases h0:x.er=0
 ·rw [h0] at a;cases cl with
  | false=>
   rw [zA zS,h0];go_enter func55,ntmps55
   go_wp2
   go_ret
   exact ⟨rfl,rfl⟩
  | true=>
   rw [zC ⟨h0,rfl⟩];go_enter func55,ntmps55
   go_wp2
   go_ret
   exact ⟨rfl,rfl⟩
 ·rw [zA (fun h=>h0 h.1)];have c:¬ (x.er:Int)=0:=zO;have b:((x.er:Int)==0)=false:=by simp;omega
  go_enter func55,ntmps55
  go_wp2
  go_ret
  exact ⟨rfl,rfl⟩
theorem XN(h:LU B ρ w q p x cl acc)(hp:Ye ρ w v P)(C:Ue cl x acc P x' acc')(s:EG w)(hG:ρ 0=0) :
  Calls prog 56 #[.pointer (some ⟨q,0,none⟩),v] w fun e j=>e= .returned (.tuple #[])/\Cv B ρ w q p x' cl acc' j:=by
 obtain ⟨F,c1,c2,_,_,G,H⟩:=h.cells;have d:=IQ h hp s hG;obtain ⟨ad,cap,rfl,_⟩:=hp.at_;clear h hp s hG;have run:∀ {n r},Fm n { x with rest:=P.flatMap ES } r->Calls prog 50 #[.pointer (some ⟨p,0,none⟩), .slice ad P.length cap] w fun e j=>e= .returned (.int .i64 r.2)/\Kg ρ w p { r.1 with rest:=[] } j:=fun R=>mY d.out.1.mq d.out.2.1 R d.out.2.2.1 d.out.2.2.2
 have l:Hid (∀ {n r},Fm n { x with rest:=P.flatMap ES } r->Calls prog 50 #[.pointer (some ⟨p,0,none⟩), .slice ad P.length cap] w fun e j=>e= .returned (.int .i64 r.2)/\Kg ρ w p { r.1 with rest:=[] } j):=run;clear run;cases C with
 | far n r R hr=>
  have b:=hid R;clear R;go_enter func56,ntmps56
  go_wp2_with fail
  refine (l.out b.out).mono ?_;rintro e w1 ⟨rfl,A⟩;have k:=d.out.1.mF A;have a:Hid (Cv B ρ w q p { r.1 with rest:=[] } cl acc w1):=k;have d1:w1.cell? ⟨q,1,none⟩=some (.bool cl):=by obtain ⟨ρ1,_,g⟩:=k.ex;exact g.cells.2.1
  clear A k;by_cases h1:r.2=1
  ·obtain rfl:cl=false:=hr.resolve_left (fun h=>h h1);rw [h1];go_wp2_with fail
   (try simp only [Exit.inBlock,Exit.then])
   refine zX (vM rfl _ _ _) rfl ?_;exact ⟨rfl,a.out⟩
  ·have z:¬ ((r.2:Nat):Int)=1:=zO;go_wp2_with fail
   (try simp only [Exit.inBlock,Exit.then])
   refine zX (vM rfl _ _ _) rfl ?_;exact ⟨rfl,a.out⟩
 | full n r R h1 hcl hv=>
  subst hcl;have b:=hid R;clear R;go_enter func56,ntmps56
  go_wp2_with fail
  refine (l.out b.out).mono ?_;rintro e w1 ⟨rfl,A⟩;obtain ⟨⟨ρ1,i,f⟩,c⟩:=d.out.1.mF A;have a:Hid (Ext w.heap.size ρ ρ1/\LU B ρ1 w1 q p { r.1 with rest:=[] } true acc/\Yb ρ q w w1):=⟨i,f,c⟩
  obtain ⟨y,d1,d2,_,_,_,k2⟩:=f.cells;clear A i f c;rw [h1];go_wp2_with fail
  refine (QK a.out.2.1.mq.mm).mono ?_;rintro e w2 ⟨rfl,rfl⟩;rw [show MS.verdict ({ r.1 with rest:=[] }:MS)=MS.verdict r.1 from rfl,hv];go_wp2
  go_end0
  exact ⟨rfl,Cv.next a.out.1 a.out.2.2 (a.out.2.1.mark 2 (.bool true) rfl)⟩
 | short n r R h1 hcl hv=>
  subst hcl;have b:=hid R;clear R;go_enter func56,ntmps56
  go_wp2_with fail
  refine (l.out b.out).mono ?_;rintro e w1 ⟨rfl,A⟩;obtain ⟨⟨ρ1,i,f⟩,c⟩:=d.out.1.mF A;have a:Hid (Ext w.heap.size ρ ρ1/\LU B ρ1 w1 q p { r.1 with rest:=[] } true acc/\Yb ρ q w w1):=⟨i,f,c⟩
  obtain ⟨y,d1,d2,_,_,_,k2⟩:=f.cells;clear A i f c;rw [h1];go_wp2_with fail
  refine (QK a.out.2.1.mq.mm).mono ?_;rintro e w2 ⟨rfl,rfl⟩;rw [show MS.verdict ({ r.1 with rest:=[] }:MS)=MS.verdict r.1 from rfl];have D:¬ ((MS.verdict r.1:Nat):Int)=0:=zO;go_wp2_with fail
  refine (dL (MS.verdict r.1) a.out.2.1.mq).mono ?_;rintro e E ⟨rfl,t,o⟩;have u:Hid (Cv B ρ w q p (MS.refuse { r.1 with rest:=[] } (MS.verdict r.1)).1 true acc E):=Cv.next a.out.1 a.out.2.2 (a.out.2.1.eU t o);clear t o;go_wp2_with fail
  (try simp only [Exit.inBlock,Exit.then])
  refine zX (vM rfl _ _ _) rfl ?_;exact ⟨rfl,u.out⟩
theorem MQ.bG(h:MQ ρ w p x)(b:Nat)(hm:b<=9223372036854775807):∃ r,w.cell? ⟨p,16,none⟩=some (.pointer (some ⟨r,0,none⟩))/\Calls prog 52 #[.pointer (some ⟨r,0,none⟩), .int .i64 b] w fun e d=>
  ∃ g,e= .returned (.slice (some ⟨g,0,none⟩) (min b x.qa.length) (min b x.qa.length))/\w.heap.size<=g/\d.rowIs g 5 (min b x.qa.length) (fun j=> .int .u8 (x.qa.getD j 0:Nat))/\MQ ρ d p { x with qa:=x.qa.drop (min b x.qa.length) }/\Fr EC ρ w d:=by
 obtain ⟨L,B,T,h1,h2⟩:=h;obtain ⟨o,f,k⟩:=B.ra;obtain ⟨r1,r2,_,_⟩:=B.rl;refine ⟨L.a,B.row.cell (i:=16) zO,(dp b k (T.lt _ (by rw [r2];decide)) hm).mono ?_⟩;rintro e d ⟨g,rfl,q,c,n,l⟩;have F:=Fr.VB l r1 r2 zD zD;exact ⟨g,rfl,q,c,⟨L,B.WC n l,(T.bO F).same rfl rfl rfl rfl ⟨rfl,rfl⟩,h1,h2⟩,F.Ba⟩
theorem QA(h:LU B ρ w q p x cl acc)(ad:Option Addr)(n cap:Nat)(hs:JS x cl≠0) :
  Calls prog 26 #[.pointer (some ⟨q,0,none⟩), .slice ad n cap] w fun e c=>e= .returned (.tuple #[.int .i64 0, .int .i64 (JS x cl)])/\c=w:=by
 have a:=hid h;clear h;have b:¬ ((JS x cl:Nat):Int)=0:=zO;go_enter func26,ntmps26
 go_wp2_with fail
 refine (Tb a.out).mono ?_;rintro e w1 ⟨rfl,rfl⟩;go_wp2_with fail
 go_ret2
 exact ⟨rfl,rfl⟩
theorem VV(h:LU B ρ w q p x cl acc)(hs:JS x cl=0)(hp:Ye ρ w v P)(c:Ue cl x acc P x' acc')(b:EG w)(hG:ρ 0=0)(f:x.tk<=1000000000000/\x'.tk<=1000000000000) :
  Calls prog 26 #[.pointer (some ⟨q,0,none⟩),v] w fun e i=>e= .returned (.tuple #[.int .i64 ((x'.tk:Int) - x.tk), .int .i64 x'.er])/\Cv B ρ w q p x' cl acc' i:=by
 have a:=ix h hp c b hG;obtain ⟨ad,cap,rfl,_⟩:=hp.at_;obtain ⟨j,_,_,_,k,_,_⟩:=h.cells;clear h hp c b hG;obtain ⟨h1,h2⟩:=f;go_enter func26,ntmps26
 go_wp2_with fail
 refine (Tb a.out.1).mono ?_;rintro e w1 ⟨rfl,rfl⟩;rw [hs];go_wp2_with fail
 refine (XN a.out.1 a.out.2.1 a.out.2.2.1 a.out.2.2.2.1 a.out.2.2.2.2).mono ?_;rintro e w2 ⟨rfl,A⟩;have d:=hid A;obtain ⟨l,n,o⟩:w2.cell? ⟨q,0,none⟩=some (.pointer (some ⟨p,0,none⟩))/\w2.cell? ⟨p,8,none⟩=some (.int .i64 x'.er)/\w2.cell? ⟨p,9,none⟩=some (.int .i64 x'.tk):=by
  obtain ⟨ρ2,_,g⟩:=A.ex;exact ⟨g.cells.1,g.cells.2.2.2.1,g.cells.2.2.2.2.1⟩
 clear A;go_wp2_with fail
 go_quiet (fail)
 go_wp2_with fail
 go_ret2
 exact ⟨rfl,d.out.drawn⟩
theorem gZ{m:Nat}(h:w.rowIs g 5 m (fun j=> .int .u8 (l.getD j 0:Nat)))(hm:m<=l.length):(convert 34 9 (.slice (some ⟨g,0,none⟩) m m)).run prog w= .ok (.string (DD (l.take m))) w:=by
 refine AD w 34 5 underlying34 underlying5 g 0 m m ((l.take m).map fun (n:Nat)=>(n:Int)) (by simp;omega) ?_ 9 underlying9;intro i hi;rw [yJ,h.cell hi];have a:i<l.length:=zO;simp [hi,a,yF]
theorem XM(h:LU B ρ w q p x cl acc)(n:Int)(hs:x.er≠0) :
  Calls prog 30 #[.pointer (some ⟨q,0,none⟩), .int .i64 n] w fun e c=>e= .returned (.tuple #[.string ⟨#[]⟩, .int .i64 x.er])/\Cv B ρ w q p x cl acc c:=by
 have a:=hid h;obtain ⟨d,_,_,f,_,_,_⟩:=h.cells;clear h;have b:¬ ((x.er:Nat):Int)=0:=zO;go_enter func30,ntmps30
 go_wp2_with fail
 go_quiet (fail)
 go_wp2_with fail
 go_ret2
 exact ⟨rfl,(Cv.refl a.out).drawn⟩
theorem VT(h:LU B ρ w q p x cl acc)(n:Int)(hs:x.er=0)(c:n<0) :
  Calls prog 30 #[.pointer (some ⟨q,0,none⟩), .int .i64 n] w fun e d=>e= .returned (.tuple #[.string ⟨#[]⟩, .int .i64 2])/\Cv B ρ w q p x cl acc d:=by
 have a:=hid h;obtain ⟨f,_,_,b,_,_,_⟩:=h.cells;rw [hs] at b;clear h;have hd:decide (n<0)=true:=by simpa using c
 go_enter func30,ntmps30
 go_wp2_with fail
 go_ret2
 exact ⟨rfl,Cv.refl a.out⟩
theorem VU(h:LU B ρ w q p x cl acc)(n:Nat)(hs:x.er=0)(C:n<=9223372036854775807)(y:Ue cl { x with qa:=x.qa.drop (min n x.qa.length) } acc [] x' acc')(v:EG w)(hG:ρ 0=0) :
  Calls prog 30 #[.pointer (some ⟨q,0,none⟩), .int .i64 n] w fun e D=>e= .returned (.tuple #[.string (DD (x.qa.take (min n x.qa.length))), .int .i64 0])/\Cv B ρ w q p x' cl acc' D:=by
 have c:=IQ h y v hG;obtain ⟨F,_,_,z,_,_,_⟩:=h.cells;rw [hs] at z;obtain ⟨rr,TN,t⟩:=h.mq.bG n C;have d:Hid _:=t;clear h y v hG t;have hd:decide ((n:Int)<0)=false:=zS;go_enter func30,ntmps30
 go_wp2_with fail
 refine jY d.out ?_;rintro e E ⟨g,rfl,A,a,s,i⟩;have o:=c.out.1.eU s i;have l:=gZ a (Nat.min_le_right _ _);have b:=CL o (c.out.2.2.1.fr i c.out.2.2.2);clear o s i a d TN;go_wp2_with fail
 obtain ⟨ρ4,k,u⟩:=b.out.1.ex;have f:ρ4 0=0:=by rw [k _ c.out.2.2.1.lt];exact c.out.2.2.2
 refine (XN u (Ye.dY ρ4 E) c.out.2.1 b.out.2 f).mono ?_;rintro e G ⟨rfl,r⟩;have j:=hid (Cv.next k b.out.1.fr r);clear r u k f;go_wp2_with fail
 go_ret2
 exact ⟨rfl,j.out⟩
theorem Pz(h:LU B ρ w q p x cl acc)(hs:JS x cl≠0) :
  Calls prog 31 #[.pointer (some ⟨q,0,none⟩)] w fun e c=>e= .returned (.int .i64 (JS x cl))/\c=w:=by
 have a:=hid h;clear h;have b:¬ ((JS x cl:Nat):Int)=0:=zO;go_enter func31,ntmps31
 go_wp2_with fail
 refine (Tb a.out).mono ?_;rintro e w1 ⟨rfl,rfl⟩;go_wp2
 go_ret
 exact ⟨rfl,rfl⟩
theorem VS(h:LU B ρ w q p x cl acc)(hs:JS x cl=0)(o:Ue true x acc [] x' acc')(n:EG w)(hG:ρ 0=0)(k:q≠0) :
  Calls prog 31 #[.pointer (some ⟨q,0,none⟩)] w fun e s=>e= .returned (.int .i64 x'.er)/\Cv B ρ w q p x' true acc' s:=by
 have b:=IQ h o n hG;obtain ⟨t,c1,_,_,_,y,_⟩:=h.cells;clear h o n hG;go_enter func31,ntmps31
 go_wp2_with fail
 refine (Tb b.out.1).mono ?_;rintro e w1 ⟨rfl,rfl⟩;rw [hs];have l:=b.out.1.mark 1 (.bool true) (cl':=true) (acc':=acc) rfl;have d:EG (w1.setCell ⟨q,1,none⟩ (.bool true)):=by
  obtain ⟨fr,h⟩:=b.out.2.2.1;exact ⟨fr,by rw [zZ _ _ _ _ (zY k)];exact h⟩
 have a:=CL l d;clear l d;go_wp2_with fail
 obtain ⟨ρ2,j,g2⟩:=a.out.1.ex;have c:ρ2 0=0:=by rw [j _ b.out.2.2.1.lt];exact b.out.2.2.2
 refine (XN g2 (Ye.dY ρ2 _) b.out.2.1 a.out.2 c).mono ?_;rintro e r ⟨rfl,f⟩;have i:=hid (Cv.next j a.out.1.fr f);obtain ⟨u,v⟩:r.cell? ⟨q,0,none⟩=some (.pointer (some ⟨p,0,none⟩))/\r.cell? ⟨p,8,none⟩=some (.int .i64 x'.er):=by
  obtain ⟨ρ3,_,g⟩:=f.ex;exact ⟨g.cells.1,g.cells.2.2.2.1⟩
 clear f g2 j c;go_wp2
 go_ret
 exact ⟨rfl,i.out⟩
theorem lI(c2:w.cell? ⟨r,2,none⟩=some (.int .i64 n)):Calls prog 57 #[.pointer (some ⟨r,0,none⟩)] w fun x a=>x= .returned (.int .i64 n)/\w=a:=by
 go_enter func57,ntmps57
 go_wp2
 go_ret
 exact ⟨rfl,rfl⟩
theorem lp(tk pu mb:Nat)(w:World)(h:tk+pu<=9223372036854775807) :
  Calls prog 58 #[.agg #[.int .i64 tk, .int .i64 pu, .int .i64 mb]] w fun x a=>x= .returned (.int .i64 (tk+pu:Nat))/\a=w.alloc (.cells #[.int .i64 tk, .int .i64 pu, .int .i64 mb] 110):=by
 go_enter func58,ntmps58
 go_wp2
 go_ret
 refine ⟨?_,rfl⟩;show Ending.returned (Value.int .i64 _)=_;simp
def MS.Fj(x:MS)(acc:Bool):Value:= .agg #[.int .i64 x.tk, .int .i64 x.pu, .int .i64 x.qa.length, .int .i64 x.mb, .int .i64 (x.tk+x.pu:Nat), .bool acc, .int .i64 x.er]
theorem UD{P:Nat->Prop}(h0:P 0)(h1:P 1)(h2:P 2)(h3:P 3)(h4:P 4)(h5:P 5)(h6:P 6)(i:Nat)(hi:i<7):P i:=by
 have:i=0\/i=1\/i=2\/i=3\/i=4\/i=5\/i=6:=zO;rcases this with rfl | rfl | rfl | rfl | rfl | rfl | rfl <;> assumption
theorem EI{B b:Nat}(a:B<=b):∀ (vs:List Value) (o:Nat) {w w':World},Below B w w'->Below B w (w'.setCells b o vs)
 | [],_,_,_,h=>h
 | v :: vs,o,w,w',h=>EI a vs (o+1) (h.setCell (p:=⟨b,o,none⟩) a v)
theorem there_alloc(h:w.there b o n)(a:Obj):(w.alloc a).there b o n:=fun j c=>by
 obtain ⟨h1,h2⟩:=h j c;obtain ⟨u,d⟩:=kM.1 h1;have hl:=xT w _ d;exact ⟨by rw [World.cell?_alloc_some _ _ _ h1];exact h1,by rw [kL (yK w a b hl)];exact h2⟩
theorem infoState:(prog.info? 50).map (·.size)=some 7:=zK
theorem iv(h:LU B ρ w q p x cl acc)(hs:x.tk+x.pu<=9223372036854775807) :
  Calls prog 27 #[.pointer (some ⟨q,0,none⟩)] w fun e I=>e= .returned (x.Fj acc)/\Below w.heap.size w I:=by
 obtain ⟨Q,_,c2,R,T,_,_⟩:=h.cells;have H:=h.row.lt;obtain ⟨L,k,_,_⟩:=h.mq;have t:=k.row.lt;have F:w.cell? ⟨p,10,none⟩=some (.int .i64 x.pu):=k.row.cell (i:=10) zO;have G:w.cell? ⟨p,11,none⟩=some (.int .i64 x.mb):=k.row.cell (i:=11) zO;have TN:w.cell? ⟨p,16,none⟩=some (.pointer (some ⟨L.a,0,none⟩)):=k.row.cell (i:=16) zO;obtain ⟨o,f,z⟩:=k.ra;have O:=z.row.lt;have U:w.cell? ⟨L.a,2,none⟩=some (.int .i64 x.qa.length):=z.row.cell (i:=2) zO;generalize L.a=r at *;clear h k z;have y:Hid (∀ V:World,Below w.heap.size w V->V.cell? ⟨p,9,none⟩=some (.int .i64 x.tk)/\V.cell? ⟨p,10,none⟩=some (.int .i64 x.pu)/\V.cell? ⟨p,11,none⟩=some (.int .i64 x.mb)/\V.cell? ⟨p,8,none⟩=some (.int .i64 x.er)/\V.cell? ⟨p,16,none⟩=some (.pointer (some ⟨r,0,none⟩))/\V.cell? ⟨q,2,none⟩=some (.bool acc)/\V.cell? ⟨r,2,none⟩=some (.int .i64 x.qa.length)):=fun V b=>⟨(b.cell (p:=⟨p,9,none⟩) t).trans T,(b.cell (p:=⟨p,10,none⟩) t).trans F,(b.cell (p:=⟨p,11,none⟩) t).trans G,(b.cell (p:=⟨p,8,none⟩) t).trans R,(b.cell (p:=⟨p,16,none⟩) t).trans TN,(b.cell (p:=⟨q,2,none⟩) H).trans c2,(b.cell (p:=⟨r,2,none⟩) O).trans U⟩
 have X:Hid (∀ V:World,Calls prog 58 #[.agg #[.int .i64 x.tk, .int .i64 x.pu, .int .i64 x.mb]] V fun e I=>e= .returned (.int .i64 (x.tk+x.pu:Nat))/\I=V.alloc (.cells #[.int .i64 x.tk, .int .i64 x.pu, .int .i64 x.mb] 110)):=fun V=>lp x.tk x.pu x.mb V hs
 have W:Hid (∀ V:World,V.cell? ⟨r,2,none⟩=some (.int .i64 x.qa.length)->Calls prog 57 #[.pointer (some ⟨r,0,none⟩)] V fun e I=>e= .returned (.int .i64 x.qa.length)/\I=V):=fun V h=>(lI h).mono fun _ _ ⟨a,b⟩=>⟨a,b.symm⟩
 obtain ⟨P,u⟩:=qe (w.alloc (.cells #[.int .i64 0, .int .i64 0, .int .i64 0, .int .i64 0, .int .i64 0, .bool false, .int .i64 0] 50));have M:Below w.heap.size w P:=by rw [u];exact zB.alloc zL _
 have g0:P.rowIs w.heap.size 50 7 (FY [.int .i64 0, .int .i64 0, .int .i64 0, .int .i64 0, .int .i64 0, .bool false, .int .i64 0]):=by rw [u];exact yL w #[.int .i64 0, .int .i64 0, .int .i64 0, .int .i64 0, .int .i64 0, .bool false, .int .i64 0] _ _ (UD rfl rfl rfl rfl rfl rfl rfl)
 have Z:=(M.cell (p:=⟨q,0,none⟩) H).trans Q;have J:=CL M g0;clear Q c2 R T F G TN U M g0;go_enter func27,ntmps27
 go_upto_region 1 with fail
 rw [<- u];clear u;go_upto_region 2 with fail
 clear Z;refine AB (S:=fun c=>Below w.heap.size w c/\c.there w.heap.size 0 7) zK ⟨J.out.1.drew,fun j N=>⟨by rw [yJ];exact kM.2 ⟨_,J.out.2.cell N⟩,J.out.2.frozen _⟩⟩ (fun hHeld=>?_);refine zW (i:=0) (v:=?v0) rfl zK zK zK (fun _ _ _ h=>h) (Or.inl ⟨by rfl,?y0⟩) hHeld ?r0
 case y0=>(intro c d;go_simp;try (with_reducible rfl))
 case r0=>
 simp only [Go.Act.put,zU,zP,zR,zV,zT,zQ];refine zW (i:=1) (v:=?v1) rfl zK zK zK (fun _ _ _ h=>h) (Or.inl ⟨by rfl,?y1⟩) hHeld ?r1
 case y1=>(intro c d;go_simp;try (with_reducible rfl))
 case r1=>
 simp only [Go.Act.put,zU,zP,zR,zV,zT,zQ];refine zW (i:=2) (v:=?v2) rfl zK zK zK (fun _ _ _ h=>h) (Or.inl ⟨by rfl,?y2⟩) hHeld ?r2
 case y2=>(intro c d;go_simp;try (with_reducible rfl))
 case r2=>
 simp only [Go.Act.put,zU,zP,zR,zV,zT,zQ];refine zW (i:=3) (v:=?v3) rfl zK zK zK (fun _ _ _ h=>h) (Or.inl ⟨by rfl,?y3⟩) hHeld ?r3
 case y3=>(intro c d;go_simp;try (with_reducible rfl))
 case r3=>
 simp only [Go.Act.put,zU,zP,zR,zV,zT,zQ];refine zW (i:=4) (v:=?v4) rfl zK zK zK (fun _ _ _ h=>h) (Or.inl ⟨by rfl,?y4⟩) hHeld ?r4
 case y4=>(intro c d;obtain ⟨D,l,n,C,s,d2,A⟩:=y.out c d.1;go_simp;try (with_reducible rfl))
 case r4=>
 simp only [Go.Act.put,zU,zP,zR,zV,zT,zQ];refine zW (i:=5) (v:=?v5) rfl zK zK zK (fun _ _ _ h=>h) (Or.inl ⟨by rfl,?y5⟩) hHeld ?r5
 case y5=>(intro c d;go_simp;try (with_reducible rfl))
 case r5=>
 simp only [Go.Act.put,zU,zP,zR,zV,zT,zQ];refine zW (i:=6) (v:=?v6) rfl zK zK zK (fun _ _ _ h=>h) (Or.inl ⟨by rfl,?y6⟩) hHeld ?r6
 case y6=>(intro c d;go_simp;try (with_reducible rfl))
 case r6=>
 simp only [Go.Act.put,zU,zP,zR,zV,zT,zQ];refine zW (i:=7) (v:=?v7) rfl zK zK zK (fun _ _ _ h=>h) (Or.inl ⟨by rfl,?y7⟩) hHeld ?r7
 case y7=>(intro c d;go_simp;try (with_reducible rfl))
 case r7=>
 simp only [Go.Act.put,zU,zP,zR,zV,zT,zQ];refine zW (i:=8) (v:=?v8) rfl zK zK zK (fun _ _ _ h=>h) (Or.inl ⟨by rfl,?y8⟩) hHeld ?r8
 case y8=>(intro c d;go_simp;try (with_reducible rfl))
 case r8=>
 simp only [Go.Act.put,zU,zP,zR,zV,zT,zQ];refine zW (i:=9) (v:=?v9) rfl zK zK zK (fun _ _ _ h=>h) (Or.inl ⟨by rfl,?y9⟩) hHeld ?r9
 case y9=>(intro c d;obtain ⟨D,l,n,C,s,d2,A⟩:=y.out c d.1;go_simp;try (with_reducible rfl))
 case r9=>
 simp only [Go.Act.put,zU,zP,zR,zV,zT,zQ];refine zW (i:=10) (v:=?v10) rfl zK zK zK (fun _ _ _ h=>h) (Or.inl ⟨by rfl,?y10⟩) hHeld ?r10
 case y10=>(intro c d;go_simp;try (with_reducible rfl))
 case r10=>
 simp only [Go.Act.put,zU,zP,zR,zV,zT,zQ];refine zW (i:=11) (v:=?v11) rfl zK zK zK (fun _ _ _ h=>h) (Or.inl ⟨by rfl,?y11⟩) hHeld ?r11
 case y11=>(intro c d;go_simp;try (with_reducible rfl))
 case r11=>
 simp only [Go.Act.put,zU,zP,zR,zV,zT,zQ];refine zW (i:=12) (v:=?v12) rfl zK zK zK (fun _ _ _ h=>h) (Or.inl ⟨by rfl,?y12⟩) hHeld ?r12
 case y12=>(intro c d;go_simp;try (with_reducible rfl))
 case r12=>
 simp only [Go.Act.put,zU,zP,zR,zV,zT,zQ];refine zW (i:=13) (v:=?v13) rfl zK zK zK (fun _ _ _ h=>h) (Or.inl ⟨by rfl,?y13⟩) hHeld ?r13
 case y13=>(intro c d;obtain ⟨D,l,n,C,s,d2,A⟩:=y.out c d.1;go_simp;try (with_reducible rfl))
 case r13=>
 simp only [Go.Act.put,zU,zP,zR,zV,zT,zQ];refine zW (i:=15) (v:=?v15) rfl zK zK zK (fun _ _ _ h=>h) (Or.inl ⟨by rfl,?y15⟩) hHeld ?Vx
 case y15=>(intro c d;go_simp;try (with_reducible rfl))
 case Vx=>
 simp only [Go.Act.put,zU,zP,zR,zV,zT,zQ];refine zW (i:=16) (v:=?v16) rfl zK zK zK (fun _ _ _ h=>h) (Or.inl ⟨by rfl,?y16⟩) hHeld ?r16
 case y16=>(intro c d;go_simp;try (with_reducible rfl))
 case r16=>
 simp only [Go.Act.put,zU,zP,zR,zV,zT,zQ];refine zW (i:=17) (v:=?v17) rfl zK zK zK (fun _ _ _ h=>h) (Or.inl ⟨by rfl,?y17⟩) hHeld ?r17
 case y17=>(intro c d;go_simp;try (with_reducible rfl))
 case r17=>
 simp only [Go.Act.put,zU,zP,zR,zV,zT,zQ];refine zW (i:=18) (v:=?v18) rfl zK zK zK (fun _ _ _ h=>h) (Or.inl ⟨by rfl,?y18⟩) hHeld ?r18
 case y18=>(intro c d;go_simp;try (with_reducible rfl))
 case r18=>
 simp only [Go.Act.put,zU,zP,zR,zV,zT,zQ];refine zW (i:=19) (v:=?v19) rfl zK zK zK (fun _ _ _ h=>h) (Or.inl ⟨by rfl,?y19⟩) hHeld ?r19
 case y19=>(intro c d;obtain ⟨D,l,n,C,s,d2,A⟩:=y.out c d.1;go_simp;try (with_reducible rfl))
 case r19=>
 simp only [Go.Act.put,zU,zP,zR,zV,zT,zQ];refine zW (i:=20) (v:=?v20) rfl zK zK zK (fun _ _ _ h=>h) (Or.inl ⟨by rfl,?y20⟩) hHeld ?r20
 case y20=>(intro c d;go_simp;try (with_reducible rfl))
 case r20=>
 simp only [Go.Act.put,zU,zP,zR,zV,zT,zQ];refine zW (i:=21) (v:=?v21) rfl zK zK zK (fun _ _ _ h=>h) (Or.inl ⟨by rfl,?y21⟩) hHeld ?r21
 case y21=>(intro c d;go_simp;try (with_reducible rfl))
 case r21=>
 simp only [Go.Act.put,zU,zP,zR,zV,zT,zQ];refine zW (i:=22) (v:=?v22) rfl zK zK zK (fun _ _ _ h=>h) (Or.inl ⟨by rfl,?y22⟩) hHeld ?r22
 case y22=>(intro c d;go_simp;try (with_reducible rfl))
 case r22=>
 simp only [Go.Act.put,zU,zP,zR,zV,zT,zQ];refine zW (i:=23) (v:=?v23) rfl zK zK zK (fun _ _ _ h=>h) (Or.inl ⟨by rfl,?y23⟩) hHeld ?r23
 case y23=>(intro c d;obtain ⟨D,l,n,C,s,d2,A⟩:=y.out c d.1;go_simp;try (with_reducible rfl))
 case r23=>
 simp only [Go.Act.put,zU,zP,zR,zV,zT,zQ];refine zW (i:=25) (v:=?v25) rfl zK zK zK (fun _ _ _ h=>h) (Or.inl ⟨by rfl,?y25⟩) hHeld ?r25
 case y25=>(intro c d;go_simp;try (with_reducible rfl))
 case r25=>
 simp only [Go.Act.put,zU,zP,zR,zV,zT,zQ];refine zW (i:=26) (v:=?v26) rfl zK zK zK (fun _ _ _ h=>h) (Or.inl ⟨by rfl,?y26⟩) hHeld ?r26
 case y26=>(intro c d;go_simp;try (with_reducible rfl))
 case r26=>
 simp only [Go.Act.put,zU,zP,zR,zV,zT,zQ];refine zW (i:=27) (v:=?v27) rfl zK zK zK (fun _ _ _ h=>h) (Or.inl ⟨by rfl,?y27⟩) hHeld ?r27
 case y27=>(intro c d;go_simp;try (with_reducible rfl))
 case r27=>
 simp only [Go.Act.put,zU,zP,zR,zV,zT,zQ];refine zW (i:=28) (v:=?v28) rfl zK zK zK (fun _ _ _ h=>h) (Or.inl ⟨by rfl,?y28⟩) hHeld ?r28
 case y28=>(intro c d;obtain ⟨D,l,n,C,s,d2,A⟩:=y.out c d.1;go_simp;try (with_reducible rfl))
 case r28=>
 simp only [Go.Act.put,zU,zP,zR,zV,zT,zQ];refine zW (i:=29) (v:=?v29) rfl zK zK zK (fun _ _ _ h=>h) (Or.inl ⟨by rfl,?y29⟩) hHeld ?r29
 case y29=>(intro c d;go_simp;try (with_reducible rfl))
 case r29=>
 simp only [Go.Act.put,zU,zP,zR,zV,zT,zQ];refine zW (i:=30) (v:=?v30) rfl zK zK zK (fun _ _ _ h=>h) (Or.inl ⟨by rfl,?y30⟩) hHeld ?r30
 case y30=>(intro c d;go_simp;try (with_reducible rfl))
 case r30=>
 simp only [Go.Act.put,zU,zP,zR,zV,zT,zQ];refine zW (i:=31) (v:=?v31) rfl zK zK zK (fun _ _ _ h=>h) (Or.inl ⟨by rfl,?y31⟩) hHeld ?r31
 case y31=>(intro c d;go_simp;try (with_reducible rfl))
 case r31=>
 simp only [Go.Act.put,zU,zP,zR,zV,zT,zQ];refine zW (i:=32) (v:=?v32) rfl zK zK zK (fun _ _ _ h=>h) (Or.inl ⟨by rfl,?y32⟩) hHeld ?r32
 case y32=>(intro c d;obtain ⟨D,l,n,C,s,d2,A⟩:=y.out c d.1;go_simp;try (with_reducible rfl))
 case r32=>
 simp only [Go.Act.put,zU,zP,zR,zV,zT,zQ];refine vD (rs:=[14]) zK zS ?_;refine vC rfl (fun K E=>?_) vK;refine Gl (by rfl) 57 _ zK _ _ (W.out _ (y.out _ hHeld.1).2.2.2.2.2.2) ?_;refine E.out _ _ hHeld (fun hHeld=>?_);simp only [Go.Act.put,zU,zP,zR,zV,zT,zQ];refine vD (rs:=[24]) zK zS ?_;refine vC rfl (fun K E=>?_) vK;refine Gl (by rfl) 58 _ zK _ _ (X.out _) ?_;refine E.out _ _ ⟨hHeld.1.alloc hHeld.1.size _,there_alloc hHeld.2 _⟩ (fun hHeld=>?_);simp only [Go.Act.put,zU,zP,zR,zV,zT,zQ];refine zW (i:=33) (v:=?v33) rfl zK zK zK (fun _ _ _ h=>h) (Or.inl ⟨by rfl,?y33⟩) hHeld ?r33
 case y33=>(intro c d;go_simp;try (with_reducible rfl))
 case r33=>
 simp only [Go.Act.put,zU,zP,zR,zV,zT,zQ];refine vD (rs:=[34]) zK zS ?_;refine vC rfl (fun K E=>?_) vK;rw [zC (by rfl)];refine jH 50 (.tmp 2) (.tmp 41) (by rfl) w.heap.size 0 #[.int .i64 x.tk, .int .i64 x.pu, .int .i64 x.qa.length, .int .i64 x.mb, .int .i64 (x.tk+x.pu:Nat), .bool acc, .int .i64 x.er] (by rfl) (by rfl) hHeld.2 infoState (kJ (by simp [Value.oneCell'])) ?_;have Y:Hid (Below w.heap.size w (World.setCells _ w.heap.size 0 [.int .i64 x.tk, .int .i64 x.pu, .int .i64 x.qa.length, .int .i64 x.mb, .int .i64 (x.tk+x.pu:Nat), .bool acc, .int .i64 x.er])):=EI zL _ _ hHeld.1;have g:=AE w.heap.size [.int .i64 x.tk, .int .i64 x.pu, .int .i64 x.qa.length, .int .i64 x.mb, .int .i64 (x.tk+x.pu:Nat), .bool acc, .int .i64 x.er] 0 _ (fun j N=>(hHeld.2 j N).1);refine E.out _ _ ⟨EI zL _ _ hHeld.1,BK hHeld.2 _ _ _⟩ (fun _=>?_);refine jJ zK ?_ _;have s0:=g 0 zS;have s1:=g 1 zS;have s2:=g 2 zS;have s3:=g 3 zS;have s4:=g 4 zS;have s5:=g 5 zS;have s6:=g 6 zS;clear g hHeld E K;generalize World.setCells _ w.heap.size 0 _=W9 at *;simp only [yJ,zR,zP] at s0 s1 s2 s3 s4 s5 s6;simp only [Go.Act.put,zU,zP,zR,zV,zT,zQ];go_wp2_with fail
 refine zX (v:= .agg #[.int .i64 x.tk, .int .i64 x.pu, .int .i64 x.qa.length, .int .i64 x.mb, .int .i64 (x.tk+x.pu:Nat), .bool acc, .int .i64 x.er]) (by simp [results,results27,go_sem, *]) rfl ⟨rfl,Y.out⟩
def PN(w0:World)(p b:Nat)(s:ByteArray)(res:ByteArray×Nat)(w:World)(n:Nat):Prop:=∃ ρ x pb vb l,GN w0 p b s res ρ x pb vb l w/\JX s n x l res
open Classical in
noncomputable def mleft(w0:World)(p b:Nat)(s:ByteArray)(res:ByteArray×Nat)(w:World):Nat:=if h:∃ n,PN w0 p b s res w n then Classical.choose (least h) else 0
theorem QM{res:ByteArray×Nat}(h:PN w0 p b s res w n):PN w0 p b s res w (mleft w0 p b s res w)/\mleft w0 p b s res w<=n:=by
 have a:∃ n,PN w0 p b s res w n:=⟨n,h⟩
 unfold mleft;rw [kH a];have:=Classical.choose_spec (least a);exact ⟨this.1,this.2 n h⟩
theorem JX.Hx{res:ByteArray×Nat}(h:JX s n x l res):∃ j r,x.tk<=s.size/\Fm j { x with rest:=Cb s x.tk } r/\r.1.qa.length<=64/\(∀ y∈l++r.1.qa,y<256)/\l.length+64<=10000000000000/\
  ((r.2=2/\∃ k,n=k+1/\JX s k { r.1 with rest:=[],qa:=[] } (l++r.1.qa) res)\/(r.2≠2/\res=if MS.verdict r.1≠0 then (⟨#[]⟩,MS.verdict r.1) else (DD (l++r.1.qa),0))):=by
 cases h with
 | go k j _ _ r _ h1 h2 h3 h4 h5 h6 h7=>exact ⟨j,r,h1,h2,h4,h5,h6,Or.inl ⟨h3,k,rfl,h7⟩⟩
 | stop j _ _ r h1 h2 h3 h4 h5 h6=>exact ⟨j,r,h1,h2,h4,h5,h6,Or.inr ⟨h3,rfl⟩⟩
theorem fp(fm:Int)(s:ByteArray)(w:World)(a:fm<0\/2<fm) :
  Calls prog 24 #[.int .i64 fm, .string s] w fun x b=>LX w (⟨#[]⟩,1) x b:=by
 have hw:wi fm 0 2=false:=by
  cases e:wi fm 0 2 with
  | false=>rfl
  | true=>have:=YY.1 e;omega
 go_enter func24,ntmps24
 go_wp2_with fail
 refine (DE fm w).mono ?_;rintro e w1 ⟨rfl,rfl⟩;rw [hw];go_wp2_with fail
 go_ret2
 exact ⟨rfl,zF _ _⟩
theorem dQ(fm:Nat)(s:ByteArray)(w:World)(a9:fm<=2)(hs:s.size<=1000000000)(hO:EG w) :
  Calls prog 24 #[.int .i64 fm, .string s] w fun x w'=>LX w (Tr.readAll fm s).Dg x w':=by
 have hw:wi fm 0 2=true:=YY.2 ⟨zO,zO⟩;obtain ⟨k0,hK⟩:=Xa (fm:=fm) zO hs;generalize (Tr.readAll fm s).Dg=res at *;have HK:=hid hK;have HO:=hid hO;clear hK hO;go_enter func24,ntmps24
 go_wp2_with fail
 refine (DE fm w).mono ?_;rintro e w1 ⟨rfl,rfl⟩;rw [hw];clear hw;go_wp2_with fail
 refine (Mj fm w).mono ?_;rintro e w1 ⟨rfl,b1⟩;have H1:=hid b1;clear b1;go_wp2_with fail
 refine (Jl fm 9223372036854775807 0 9223372036854775807 9223372036854775807 9223372036854775807 9223372036854775807 w1).mono ?_;rintro e w2 ⟨p,ρ,rfl,M,hk,W⟩;have H2:=Ji M hk W;clear M hk W;have L:Hid (PN w p w2.heap.size s res (w2.alloc (.cells #[.pointer none, .slice none 0 0] 106)) k0):=by
  obtain ⟨M,hk,W⟩:=H2.out;have a0:=H1.out.size;have a5:=W.size;have V:Below w2.heap.size w2 (w2.alloc (.cells #[.pointer none, .slice none 0 0] 106)):=zB.alloc zL _;refine ⟨ρ,_, .pointer none, .slice none 0 0,[],⟨M.below V,⟨zO,?_,yU _ _ _ _,by simp [Value.ownBlock],Or.inl rfl⟩,?_,fun g hg=>by simp [Value.ownBlock] at hg,fun k B=>by have:=hk k B;omega,(H1.out.trans (W.mono a0)).trans (V.mono zO)⟩,HK.out⟩
  ·exact yL w2 _ _ _ (fun i hi=>by
    simp at hi;have:i=0\/i=1:=zO;rcases this with rfl | rfl <;> rfl)
  ·exact yB fun hc=>by have:=M.lt.1 _ hc;omega
 have b0:=zG H1.out.size H2.out.2.2.size;clear H1 H2 HK;go_wp2_with fail
 go_loopw [] (fun wr=>Hid (∃ k,PN w p w2.heap.size s res wr k)) (fun wr=>mleft w p w2.heap.size s res wr)
 case atStart=>exact ⟨k0,L.out⟩
 case round=>
  clear L;obtain ⟨k,hk⟩:=hrel.out;obtain ⟨⟨ρ1,x,pb,vb,l,I,MN⟩,_⟩:=QM hk;obtain ⟨j,r,ht,R,hq,Z,b3,hc⟩:=MN.Hx;have HI:=hid I;have HR:Hid (Fm j { x with rest:=Cb s x.tk } r/\(∀ y∈l++r.1.qa,y<256)/\((r.2=2/\∃ k,mleft w p w2.heap.size s res wr=k+1/\JX s k { r.1 with rest:=[],qa:=[] } (l++r.1.qa) res)\/(r.2≠2/\res=if MS.verdict r.1≠0 then (⟨#[]⟩,MS.verdict r.1) else (DD (l++r.1.qa),0)))):=⟨R,Z,hc⟩
  have a2:=I.mq.tk;clear hk I MN R Z hc hrel;have V:Below wr.heap.size wr (wr.alloc (.cells #[.string (s.extract x.tk s.size)] 9)):=zB.alloc zL _;have v:=hid (HI.out.below V);have P:Hid (Ye ρ1 (wr.alloc (.cells #[.string (s.extract x.tk s.size)] 9)) (.slice (some ⟨wr.heap.size,0,none⟩) 1 1) [s.extract x.tk s.size]):=by
   have a8:=HO.out.lt;have a6:=HI.out.bel.size;refine ⟨some ⟨wr.heap.size,0,none⟩,1,rfl,fun k hk=>?_,zE _,by unfold maxLen;omega,fun t a4=>?_,fun b o e=>?_⟩
   ·have a3:k=0:=by simp at hk;omega
    subst a3;refine ⟨wr.heap.size,0,rfl,zS,?_⟩;rw [yA _ _ (0+0) _ _ _ (zJ wr _)];rfl
   ·rw [yY.1 a4,xG];unfold maxLen;omega
   ·injection e with e
    injection e with e1 e2
    subst e1;refine ⟨⟨yB fun hc=>by have:=HI.out.mq.lt.1 _ hc;omega,zO⟩,zS⟩
  have Q:Hid (Fm j { x with rest:=[s.extract x.tk s.size].flatMap ES } r):=by
   have e:[s.extract x.tk s.size].flatMap ES=Cb s x.tk:=by rw [xL,List.flatMap_nil,xV,UH ht]
   rw [e];exact HR.out.1
  clear V;go_wp2_with fail
  have Y:=HO.out.below (v.out.bel);have X:ρ1 0=0:=yB fun hc=>by have:=v.out.nw _ hc;have:=HO.out.lt;omega
  refine (mY v.out.mq P.out Q.out Y X).mono ?_;rintro e w3 ⟨rfl,A3⟩;obtain ⟨ρ2,I3⟩:=v.out.mF A3;have u:Hid (GN w p w2.heap.size s res ρ2 { r.1 with rest:=[] } pb vb l w3):=I3;clear I3 A3 Y X Q P v HI a2;rcases HR.out.2.2 with ⟨h2,k',B,T⟩ | ⟨h2,C⟩
  ·have O:Hid (mleft w p w2.heap.size s res wr=k'+1/\JX s k' { r.1 with rest:=[],qa:=[] } (l++r.1.qa) res):=⟨B,T⟩
   clear B T;rw [h2];obtain ⟨rr,TN,U⟩:=(show MQ ρ2 w3 p { r.1 with rest:=[] } from u.out.mq).taken 64 zD;have z:Hid _:=U;clear U;go_wp2_with fail
   refine jY z.out ?_;rintro e F ⟨g,rfl,hg,f,S,H⟩;have a:min 64 r.1.qa.length=r.1.qa.length:=zO;have c:r.1.qa.drop (min 64 r.1.qa.length)=[]:=by rw [a,BA]
   have d:Hid (GN w p w2.heap.size s res ρ2 { r.1 with rest:=[],qa:=[] } pb vb l F):=by
    have E:MQ ρ2 F p { r.1 with rest:=[],qa:=[] }:=by
     have h:=S;simp only [c] at h;exact h
    exact u.out.eU E H
   have q:Hid (F.rowIs g 5 r.1.qa.length (fun j=> .int .u8 (r.1.qa.getD j 0:Nat))/\g≠w2.heap.size):=⟨by rw [<- a];exact f,fun e=>by have:=u.out.bl.lt;omega⟩
   clear S H f z TN hg;rw [show min 64 ({ r.1 with rest:=[] }:MS).qa.length=r.1.qa.length from a];clear a c;go_wp2_with fail
   refine (Ur d.out.bl d.out.bel.size q.out.1 rfl q.out.2 zO).mono ?_;rintro e w5 ⟨v5,rfl,G,A,J⟩;have n:Hid (GN w p w2.heap.size s res ρ2 { r.1 with rest:=[],qa:=[] } (.pointer (some ⟨w2.heap.size,0,none⟩)) v5 (l++r.1.qa) w5):=d.out.wrote G A J;clear G A J q d;have N:Hid (PN w p w2.heap.size s res w5 k'):=⟨_,_,_,_,_,n.out,O.out.2⟩
   go_wp2_with fail
   go_roundw
   case rel=>exact ⟨k',N.out⟩
   case measure=>
    have h1:=(QM N.out).2;have h2:=O.out.1;omega
  ·have O:=hid C;clear C;have a7:¬ ((r.2:Nat):Int)=2:=zO;obtain ⟨rr,TN,U⟩:=(show MQ ρ2 w3 p { r.1 with rest:=[] } from u.out.mq).taken 64 zD;have z:Hid _:=U;clear U;go_wp2_with fail
   refine jY z.out ?_;rintro e F ⟨g,rfl,hg,f,S,H⟩;have a:min 64 r.1.qa.length=r.1.qa.length:=zO;have c:r.1.qa.drop (min 64 r.1.qa.length)=[]:=by rw [a,BA]
   have d:Hid (GN w p w2.heap.size s res ρ2 { r.1 with rest:=[],qa:=[] } pb vb l F):=by
    have E:MQ ρ2 F p { r.1 with rest:=[],qa:=[] }:=by
     have h:=S;simp only [c] at h;exact h
    exact u.out.eU E H
   have q:Hid (F.rowIs g 5 r.1.qa.length (fun j=> .int .u8 (r.1.qa.getD j 0:Nat))/\g≠w2.heap.size):=⟨by rw [<- a];exact f,fun e=>by have:=u.out.bl.lt;omega⟩
   clear S H f z TN hg;rw [show min 64 ({ r.1 with rest:=[] }:MS).qa.length=r.1.qa.length from a];clear a c;go_wp2_with fail
   refine (Ur d.out.bl d.out.bel.size q.out.1 rfl q.out.2 zO).mono ?_;rintro e w5 ⟨v5,rfl,G,A,J⟩;have n:Hid (GN w p w2.heap.size s res ρ2 { r.1 with rest:=[],qa:=[] } (.pointer (some ⟨w2.heap.size,0,none⟩)) v5 (l++r.1.qa) w5):=d.out.wrote G A J;clear G A J q d;go_wp2_with fail
   refine (QK n.out.mq.mm).mono ?_;rintro e w6 ⟨rfl,rfl⟩;rw [show MS.verdict ({ r.1 with rest:=[],qa:=[] }:MS)=MS.verdict r.1 from rfl];by_cases hv:MS.verdict r.1=0
   ·have D:Hid (res=(DD (l++r.1.qa),0)):=by show _=_;rw [show res=_ from O.out,zA (by rw [hv];simp)]
    rw [hv];go_wp2_with fail
    refine (Zc n.out.bl n.out.bel.size HR.out.2.1).mono ?_;rintro e w7 ⟨rfl,b7⟩;have a1:=hid (n.out.bel.trans b7);clear b7;go_wp2_with fail
    go_ret2
    rw [D.out];exact ⟨rfl,a1.out⟩
   ·have D:Hid (res=(⟨#[]⟩,MS.verdict r.1)):=by show _=_;rw [show res=_ from O.out,zC hv]
    have b4:¬ ((MS.verdict r.1:Nat):Int)=0:=zO;go_wp2_with fail
    go_ret2
    rw [D.out];exact ⟨rfl,n.out.bel⟩
theorem aJ(c:Gm)(w:World)(h:c.right=false):Calls prog 21 #[c.val] w fun e a=>e= .returned (.tuple #[.pointer none, .int .i64 1])/\Below w.heap.size w a:=by
 have g:Hid (∀ V:World,Calls prog 45 #[.agg #[.int .i64 c.fm, .int .i64 c.out, .int .i64 c.ratio, .int .i64 c.CH, .int .i64 c.mem, .int .i64 c.lim, .int .i64 c.steps]] V fun e a=>e= .returned (.bool c.right)/\Below V.heap.size V a):=fun V=>SN c V
 unfold Gm.val;have d:Hid (Below w.heap.size w (w.alloc (.cells #[.int .i64 c.fm, .int .i64 c.out, .int .i64 c.ratio, .int .i64 c.CH, .int .i64 c.mem, .int .i64 c.lim, .int .i64 c.steps] 42))):=zB.alloc zL _;go_enter func21,ntmps21
 go_wp2_with fail
 refine (g.out _).mono ?_;rintro e w1 ⟨rfl,b⟩;have f:=hid (Ds d.out b);clear b;rw [h];go_wp2_with fail
 go_ret2
 exact ⟨rfl,f.out⟩
theorem Gm.nat{c:Gm}(h:c.right=true):c=⟨(c.fm.toNat:Int),(c.out.toNat:Int),(c.ratio.toNat:Int),(c.CH.toNat:Int),(c.mem.toNat:Int),(c.lim.toNat:Int),(c.steps.toNat:Int)⟩:=by
 obtain ⟨h1,h2,h3,h4,h5,h6,a⟩:=Sd h;cases c
 simp only at h1 h2 h3 h4 h5 h6 a |-;rw [<- h1,<- h2,<- h3,<- h4,<- h5,<- h6,<- a]
theorem aI(fm ou ra sl me he sp:Nat)(w:World)(h:(Gm.mk fm ou ra sl me he sp).right=true) :
  Calls prog 21 #[(Gm.mk fm ou ra sl me he sp).val] w fun e a=>∃ q p ρ,e= .returned (.tuple #[.pointer (some ⟨q,0,none⟩), .int .i64 0])/\LU w.heap.size ρ a q p (MS.fresh fm ou ra sl me he sp) false false/\Below w.heap.size w a:=by
 have n:Hid (∀ V:World,Calls prog 45 #[.agg #[.int .i64 fm, .int .i64 ou, .int .i64 ra, .int .i64 sl, .int .i64 me, .int .i64 he, .int .i64 sp]] V fun e a=>e= .returned (.bool (Gm.mk fm ou ra sl me he sp).right)/\Below V.heap.size V a):=fun V=>SN (Gm.mk fm ou ra sl me he sp) V
 have o:Hid (∀ V:World,Calls prog 46 #[.agg #[.int .i64 fm, .int .i64 ou, .int .i64 ra, .int .i64 sl, .int .i64 me, .int .i64 he, .int .i64 sp]] V fun e a=>∃ p ρ,e= .returned (.pointer (some ⟨p,0,none⟩))/\MQ ρ a p (MS.fresh fm ou ra sl me he sp)/\(∀ k,ρ k≠0->V.heap.size<=k)/\Below V.heap.size V a):=fun V=>Jl fm ou ra sl me he sp V
 unfold Gm.val;have j:=hid (Ub.made w fm ou ra sl me he sp);go_enter func21,ntmps21
 go_wp2_with fail
 refine (n.out _).mono ?_;rintro e w1 ⟨rfl,g⟩;have c:=hid (j.out.step g);clear g;rw [h];obtain ⟨r,d1,d2,s,t,u,v⟩:=c.out.cs;go_wp2_with fail
 refine (o.out _).mono ?_;rintro e w2 ⟨p,ρ,rfl,M,hk,b⟩;have l:=IQ M hk (c.out.bel.trans (b.mono c.out.bel.size)) b.size;clear M hk b r d1 d2 s t u v;go_wp2_with fail
 go_ret2
 obtain ⟨M,hk,b,y⟩:=l.out;have f:Below w2.heap.size w2 (w2.alloc (.cells #[.pointer (some ⟨p,0,none⟩), .bool false, .bool false] 100)):=zB.alloc zL _;have d:=c.out.bel.size;refine ⟨w2.heap.size,p,ρ,rfl,⟨?_,M.below f,?_,fun k h0=>zG d (hk k h0),zO,by simp;omega⟩,b.trans (f.mono b.size)⟩
 ·exact yL w2 _ _ _ (fun i hi=>by
   simp at hi;have:i=0\/i=1\/i=2:=zO;rcases this with rfl | rfl | rfl <;> rfl)
 ·exact yB fun hc=>by have:=M.lt.1 _ hc;omega
theorem XO(c:Gm)(w:World)(h:c.right=true) :
  Calls prog 21 #[c.val] w fun e b=>∃ q p ρ,e= .returned (.tuple #[.pointer (some ⟨q,0,none⟩), .int .i64 0])/\LU w.heap.size ρ b q p (MS.fresh c.fm.toNat c.out.toNat c.ratio.toNat c.CH.toNat c.mem.toNat c.lim.toNat c.steps.toNat) false false/\Below w.heap.size w b:=by
 have e:=Gm.nat h;have a:=h;rw [e] at a;have:=aI c.fm.toNat c.out.toNat c.ratio.toNat c.CH.toNat c.mem.toNat c.lim.toNat c.steps.toNat w a;rw [<- e] at this;exact this
structure GM(B:Nat)(K:Nat->Prop)(w:World)(q fm mem lim:Nat)(m:MG):Prop where
 ex:∃ ρ p x acc,LU B ρ w q p x m.closed acc/\PG x acc m/\∀ k,K k↔(k=q\/ρ k≠0)
 Hv:Dr fm mem lim m.c
 kept:JN m
 qb:m.q.steps<=1000000
theorem GM.at_{K:Nat->Prop}(h:GM B K w q fm mem lim m)(hk:K k):B<=k/\k<w.heap.size:=by
 obtain ⟨ρ,p,x,acc,g,_,b⟩:=h.ex;rcases (b k).1 hk with rfl | a
 ·exact ⟨g.qB,g.row.lt⟩
 ·exact ⟨g.nw k a,g.mq.lt.1 k a⟩
theorem GM.same{K:Nat->Prop}(h:GM B K w q fm mem lim m)(hs:w.heap.size<=w'.heap.size)(b:∀ k,K k->w'.heap[k]?=w.heap[k]?):GM B K w' q fm mem lim m:=by
 obtain ⟨ρ,p,x,acc,g,e,a⟩:=h.ex;have d:Kp (fun r=>r=0) ρ w w':=⟨hs,fun k _ c=>b k ((a k).2 (Or.inr c))⟩
 exact ⟨⟨ρ,p,x,acc,⟨g.row.of_block (b q ((a q).2 (Or.inl rfl))),g.mq.ig d,g.rq,g.nw,g.qB,zG g.hB hs⟩,e,a⟩,h.Hv,h.kept,h.qb⟩
theorem GM.below{K:Nat->Prop}(h:GM B K w q fm mem lim m)(b:Below w.heap.size w w'):GM B K w' q fm mem lim m:=h.same b.size fun k hk=>b.block k (h.at_ hk).2
structure Fx(B:Nat)(K:Nat->Prop)(w:World)(q fm mem lim:Nat)(m:MG)(w':World):Prop where
 ex:∃ K',(∀ k,k<w.heap.size->(K' k↔K k))/\GM B K' w' q fm mem lim m
 size:w.heap.size<=w'.heap.size
 block:∀ k,k<w.heap.size->¬ K k->w'.heap[k]?=w.heap[k]?
 os:w'.os=w.os
 tape:w'.tape=w.tape
 output:w'.output=w.output
theorem Fx.refl{K:Nat->Prop}(h:GM B K w q fm mem lim m):Fx B K w q fm mem lim m w:=⟨⟨K,fun _ _=>yE,h⟩,zE _,fun _ _ _=>rfl,rfl,rfl,rfl⟩
theorem Fx.below{K:Nat->Prop}(h:GM B K w q fm mem lim m)(a:Fx B K w q fm mem lim m' w'):Below B w w':=by
 obtain ⟨ρ,p,x,acc,g,_,b⟩:=h.ex;refine ⟨a.os,a.tape,a.output,a.size,fun k hk=>a.block k (zM hk g.hB) fun e=>?_⟩;have:=(h.at_ e).1;omega
theorem Cv.cg{K:Nat->Prop}(g:LU B ρ w q p x cl acc)(b:∀ k,K k↔(k=q\/ρ k≠0))(A:Cv B ρ w q p x' cl' acc' w')(f:PG x' acc' m')(hc:m'.closed=cl')(G:Dr fm mem lim m'.c)(M:JN m')(hq:m'.q.steps<=1000000):Fx B K w q fm mem lim m' w':=by
 obtain ⟨ρ',e,d⟩:=A.ex;subst hc;refine ⟨⟨fun k=>k=q\/ρ' k≠0,fun k hk=>?_,⟨ρ',p,x',acc',d,f,fun _=>yE⟩,G,M,hq⟩,A.fr.size,fun k hk a=>?_,A.fr.os,A.fr.tape,A.fr.output⟩
 ·show (k=q\/ρ' k≠0)↔K k;rw [b k,e k hk]
 ·rw [b k] at a;have h0:ρ k=0:=yB fun h0=>a (Or.inr h0)
  exact A.fr.block k hk (fun h=>a (Or.inl h)) (by rw [h0];exact iH)
structure oE(K:Nat->Prop)(w:World)(ad:Option Addr)(cap:Nat)(P:List ByteArray):Prop where
 str:Kk w ad P
 Zi:P.length<=cap/\cap<=maxLen
 each:∀ s∈P,s.size<=maxLen
 off:∀ b o,ad=some ⟨b,o,none⟩->¬ K b/\b≠0/\b<w.heap.size
theorem PG.iO(h:PG x acc m):JS x m.closed=if m.err=0/\m.closed=true then 3 else m.err:=by
 unfold JS;rw [h.er]
theorem fS{K:Nat->Prop}(h:GM B K w q fm mem lim m)(ad:Option Addr)(cap:Nat)(P:List ByteArray)(hP:oE K w ad cap P)(y:EG w)(hG:¬ K 0) :
  Calls prog 26 #[.pointer (some ⟨q,0,none⟩), .slice ad P.length cap] w fun e i=>∃ n er d,e= .returned (.tuple #[.int .i64 n, .int .i64 (er:Nat)])/\Hf m P d n er/\Fx B K w q fm mem lim d i:=by
 obtain ⟨ρ,p,x,acc,g,f,l⟩:=h.ex;have a:=f.iO;by_cases h0:m.err=0
 ·cases hc:m.closed with
  | true=>
   rw [zC ⟨h0,hc⟩] at a;refine (QA g ad P.length cap (by rw [a];decide)).mono ?_;rintro e i ⟨rfl,rfl⟩;exact ⟨0,3,m,by rw [a], .closed h0 hc,Fx.refl h⟩
  | false=>
   rw [zA (by rw [hc];simp),h0] at a;obtain ⟨s,d,L,acc',T,F,C,go,c⟩:=f.iu h0 fm mem lim h.Hv P (fun z=>by have:=(f.Uk z).1;rw [hc] at this;cases this);obtain ⟨j,t,H,u,I⟩:=go.kept h.kept;have t0:=f.tk.1;have t1:=c.tk.1;have J:=h.kept.ck.st;have G:=j.ck.st;have hq:=h.qb;rw [t] at G;have r:∀ k,¬ K k->ρ k=0:=fun k E=>yB fun h0=>E ((l k).2 (Or.inr h0))
   refine (VV g a (v:= .slice ad P.length cap) (P:=P) ⟨ad,cap,rfl,hP.str,hP.Zi.1,hP.Zi.2,hP.each,fun b o e=>⟨⟨r b (hP.off b o e).1,(hP.off b o e).2.1⟩,(hP.off b o e).2.2⟩⟩ C y (r _ hG) ⟨zO,zO⟩).mono ?_;rintro e i ⟨rfl,A⟩;refine ⟨_,_,d,?_, .DK s d h0 hc T F go,A.cg g l c u (go.Hv h.Hv (KE P T)) j (by rw [t];exact h.qb)⟩;rw [t0,t1,c.er]
 ·rw [zA (fun D=>h0 D.1)] at a;refine (QA g ad P.length cap (by rw [a];exact h0)).mono ?_;rintro e i ⟨rfl,rfl⟩;exact ⟨0,m.err,m,by rw [a], .refused h0,Fx.refl h⟩
theorem fR{K:Nat->Prop}(h:GM B K w q fm mem lim m)(n:Int)(o: -9223372036854775808<=n/\n<=9223372036854775807)(z:EG w)(hG:¬ K 0) :
  Calls prog 30 #[.pointer (some ⟨q,0,none⟩), .int .i64 n] w fun e j=>∃ l er d,e= .returned (.tuple #[.string (DD l), .int .i64 (er:Nat)])/\Ki m n d l er/\Fx B K w q fm mem lim d j:=by
 obtain ⟨ρ,p,x,acc,g,f,i⟩:=h.ex;have a:=f.er;by_cases h0:m.err=0
 ·by_cases h1:n<0
  ·refine (VT g n (a.trans h0) h1).mono ?_;rintro e j ⟨rfl,A⟩;exact ⟨[],2,m,rfl, .iS h0 h1,A.cg g i f rfl h.Hv h.kept h.qb⟩
  ·obtain ⟨k,rfl⟩:∃ k:Nat,n=k:=⟨n.toNat,zO⟩
   have b:x.qa=m.c.outs.drop m.Ac:=by rw [f.qa,zC h0]
   have r:x.qa.length=m.c.outs.length - m.Ac:=by rw [b,xI]
   have C:=h.kept.dr;have u:=f.Ac h0 (min k x.qa.length) zO;obtain ⟨s,d,L,acc',T,F,D,go,t⟩:=u.iu h0 fm mem lim h.Hv [] (fun _=>rfl);have G:JN ({ m with Ac:=m.Ac+min k x.qa.length }:MG):=by
    have c:=h.kept.ck;exact ⟨⟨c.st,c.ou,c.ra,by have:=c.ro;show m.c.outs.length<=m.Ac+min k x.qa.length+64;omega⟩,by show m.Ac+min k x.qa.length<=m.c.outs.length;omega⟩
   obtain ⟨v,H,I,y,J⟩:=go.kept G;have E:∀ k,¬ K k->ρ k=0:=fun k o=>yB fun h0=>o ((i k).2 (Or.inr h0))
   refine (VU g k (a.trans h0) (by have:=o.2;omega) D z (E _ hG)).mono ?_;rintro e j ⟨rfl,A⟩;refine ⟨_,0,d,rfl,?_,A.cg g i t y (go.Hv h.Hv T) v (by rw [H];exact h.qb)⟩;rw [b,xI];rw [r] at go;exact .DK s d h0 zO T F go
 ·refine (XM g n (by rw [a];exact h0)).mono ?_;rintro e j ⟨rfl,A⟩;exact ⟨[],m.err,m,by rw [a];rfl, .refused h0,A.cg g i f rfl h.Hv h.kept h.qb⟩
theorem fQ{K:Nat->Prop}(h:GM B K w q fm mem lim m)(o:EG w)(hG:¬ K 0) :
  Calls prog 31 #[.pointer (some ⟨q,0,none⟩)] w fun e d=>∃ er b,e= .returned (.int .i64 (er:Nat))/\Kh m b er/\Fx B K w q fm mem lim b d:=by
 obtain ⟨ρ,p,x,acc,g,j,f⟩:=h.ex;have a:=j.iO;by_cases h0:m.err=0
 ·cases hc:m.closed with
  | true=>
   rw [zC ⟨h0,hc⟩] at a;refine (Pz g (by rw [a];decide)).mono ?_;rintro e d ⟨rfl,rfl⟩;exact ⟨3,m,by rw [a], .closed h0 hc,Fx.refl h⟩
  | false=>
   rw [zA (by rw [hc];simp),h0] at a;obtain ⟨i,F⟩:=j.shut hc;obtain ⟨s,b,G,acc',T,y,r,go,c⟩:=i.iu h0 fm mem lim h.Hv [] (fun _=>rfl);have z:JN ({ m with closed:=true }:MG):=⟨h.kept.ck,h.kept.dr⟩
   obtain ⟨l,C,D,n,E⟩:=go.kept z;have v:∀ k,¬ K k->ρ k=0:=fun k u=>yB fun h0=>u ((f k).2 (Or.inr h0))
   refine (VS g a r o (v _ hG) (fun e=>hG ((f _).2 (Or.inl e.symm)))).mono ?_;rintro e d ⟨rfl,A⟩;exact ⟨_,b,by rw [c.er], .DK s b h0 hc T y go,A.cg g f c n (go.Hv h.Hv T) l (by rw [C];exact h.qb)⟩
 ·rw [zA (fun t=>h0 t.1)] at a;refine (Pz g (by rw [a];exact h0)).mono ?_;rintro e d ⟨rfl,rfl⟩;exact ⟨m.err,m,by rw [a], .refused h0,Fx.refl h⟩
theorem iq{c:Gm}(w:World)(h:c.right=true) :
  Calls prog 21 #[c.val] w fun e a=>∃ q K,e= .returned (.tuple #[.pointer (some ⟨q,0,none⟩), .int .i64 0])/\GM w.heap.size K a q c.fm.toNat c.mem.toNat c.lim.toNat (MG.fresh c)/\K q/\Below w.heap.size w a:=by
 have hk:=KQ.1 h;refine (XO c w h).mono ?_;rintro e a ⟨q,p,ρ,rfl,g,b⟩;refine ⟨q,fun k=>k=q\/ρ k≠0,rfl,⟨⟨ρ,p,_,false,g,PG.fresh h,fun _=>yE⟩,Dr.begin zO zO,⟨⟨?_,?_,?_,?_⟩,zH _⟩,?_⟩,Or.inl rfl,b⟩
 ·exact zH _
 ·exact zH _
 ·exact zH _
 ·exact zH _
 ·show c.steps.toNat<=1000000;omega
def MG.wait(m:MG):Nat:=if m.err=0 then m.c.outs.length - m.Ac else 0
def MG.begun(m:MG):Nat:=if m.c.pre.length=0 then 0 else m.c.Aa.length
def MG.Fj(m:MG):Value:= .agg #[.int .i64 m.c.pre.length, .int .i64 m.c.outs.length, .int .i64 m.wait, .int .i64 m.begun, .int .i64 ((m.c.pre.length:Int)+m.c.outs.length), .bool m.acc, .int .i64 m.err]
theorem ir{K:Nat->Prop}(h:GM B K w q fm mem lim m) :
  Calls prog 27 #[.pointer (some ⟨q,0,none⟩)] w fun e c=>e= .returned m.Fj/\Below w.heap.size w c:=by
 obtain ⟨ρ,p,x,acc,g,a,d⟩:=h.ex;obtain ⟨t1,t2,t3⟩:=a.tk;have f:=h.kept.ck.st;have hq:=h.qb;refine (iv g zO).mono ?_;rintro e c ⟨rfl,b⟩;refine ⟨?_,b⟩;unfold MS.Fj MG.Fj MG.begun;have hw:x.qa.length=m.wait:=by
  rw [a.qa];unfold MG.wait;by_cases h0:m.err=0
  ·rw [zC h0,zC h0,xI]
  ·rw [zA h0,zA h0];rfl
 rw [hw,t1,t2,t3,a.er,a.Wd,Int.natCast_add]
end Go.Proofs.YtbcjmakpempkiaaGreatDoor
