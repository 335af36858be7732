import Derived.Test.YtbcjmakpempkiaaGreatDoorX08
import Derived.Test.YtbcjmakpempkiaaGreatDoorX09
import Derived.Test.YtbcjmakpempkiaaGreatDoorX10
set_option maxRecDepth 100000
set_option maxHeartbeats 8000000
set_option linter.all false
namespace Go.Proofs.YtbcjmakpempkiaaGreatDoor
variable {a b t t' x:Tr} {ρ:Nat->Nat} {D c e fm h i j k lim m mem members n p r:Nat} {l:List Int} {w w':World} {s:ByteArray} {o pre:List Nat} {closed:Bool}
open Go.Proofs.Tryz
open Go.RowKit
theorem al(ad:Option Addr)(n cap:Nat)(f:Nat->Int)(w:World)(d:n<=maxLen)(c:∀ k,0<=f k/\f k<=255)(hc:∀ k,k<n->∃ b o,ad=some ⟨b,o,none⟩/\w.cell? ⟨b,o+k,none⟩=some (.int .u8 (f k))) :
  Calls prog 81 #[.slice ad n cap] w fun e h=>e= .returned (.int .i64 (65536*(sxy f n).2+(sxy f n).1))/\h=w:=by
 unfold maxLen at d;go_enter func81,ntmps81
 go_wp2
 go_loop [3,4,5] (fun x y i=>∃ k:Nat,k<=n/\i= .int .i64 k/\x= .int .i64 (sxy f k).1/\y= .int .i64 (sxy f k).2) (fun _ _ i=>n - (intOf i).toNat)
 case atStart=>exact ⟨0,zH _,rfl,rfl,rfl⟩
 case round=>
  obtain ⟨k,hk,rfl,rfl,rfl⟩:=hrel;have j:=YT f k;have h1:=c k;by_cases a:k<n
  ·obtain ⟨b,o,rfl,g⟩:=hc k a;go_wp2
   go_round
   case rel=>exact ⟨k+1,zO,by go_num,rfl,rfl⟩
   case measure=>simp [intOf];omega
  ·obtain rfl:k=n:=zO;go_wp2
   go_ret
   exact ⟨rfl,rfl⟩
def Bp(t:Tr):Prop:=∀ b∈t.out,b<256
theorem Bp.get(h:Bp t)(k:Nat):0<=((t.out.getD k 0:Nat):Int)/\((t.out.getD k 0:Nat):Int)<=255:=by
 by_cases hk:k<t.out.length
 ·have:=h t.out[k] (yD hk);have e:t.out.getD k 0=t.out[k]:=by simp [hk]
  rw [e];omega
 ·have e:t.out.getD k 0=0:=by rw [yF,AU zO];rfl
  rw [e];omega
theorem cC(l:List Nat)(m k:Nat):(l.drop m).getD k 0=l.getD (m+k) 0:=by
 rw [yF,yF,jV]
theorem iR{B:Nat}{vo va vs:Value}(w:World)(h:Ft B p vo va vs t w)(hf:t.Ao)(hs:t.s.size<=maxLen)(L:t.out.length<=1000000000000)(G:Bp t) :
  Calls prog 181 #[.pointer (some ⟨p,0,none⟩)] w fun x f=>x= .returned (.tuple #[])/\Kept B p vo va vs t.sum w f:=by
 have N:=IQ hf hs L G;have X:=hid (Kept.refl h);clear h hf hs L G;go_enter func181,ntmps181
 go_wp2_with fail
 go_loopw [2,3] (fun v i wr=>∃ k x:Nat,k<=4/\i= .int .i64 k/\v= .int .i64 x/\Hid (x=(t.four k).1/\Kept B p vo va vs (t.four k).2 w wr)) (fun _ i _=>4 - (intOf i).toNat)
 case atStart=>exact ⟨0,0,zH _,rfl,rfl,⟨rfl,X.out⟩⟩
 case round=>
  obtain ⟨k,x,hk,rfl,rfl,C⟩:=hrel;clear X;have hx:x<4294967296:=by
   rw [C.out.1];have h1:=Tr.fN t k;have h2:256^k<=256^4:=yP zD hk;omega
  by_cases a4:k<4
  ·go_wp2_with fail
   refine (Gc _ C.out.2.inv (by rw [(Tr.Lq t k).s];exact N.out.2.1)).mono ?_;rintro e w1 ⟨rfl,k1⟩;have Q:Hid (256*x+(t.four k).2.Ad.1=(t.four (k+1)).1/\Kept B p vo va vs (t.four (k+1)).2 w w1):=⟨by rw [C.out.1];rfl,C.out.2.trans k1⟩
   have hb:=Tr.Dl (t.four k).2;clear k1;generalize (t.four k).2.Ad.1=b at *;go_wp2_with fail
   go_roundw
   case rel=>exact ⟨k+1,256*x+b,zO,by go_num,by go_num,Q⟩
   case measure=>simp [intOf];omega
  ·have R:Hid (k=4):=by show k=4;omega
   have O:=Tr.Lq t 4;have W:=N.out.1.four 4;have c:Hid (x=(t.four 4).1/\Kept B p vo va vs (t.four 4).2 w wr):=by have:=C.out;rw [R.out] at this;exact this
   have D:Hid (t.sum=if ((t.four 4).1:Int)=Tr.Qp ((t.four 4).2.out.drop (t.four 4).2.CY) then (t.four 4).2 else (t.four 4).2.fail 12):=by show _=_;rfl
   have a5:(t.four 4).2.out.length<=1000000000000:=by rw [O.out];exact N.out.2.2.1
   have P:Hid (Bp (t.four 4).2):=by show Bp _;unfold Bp;rw [O.out];exact N.out.2.2.2
   have a2:=W.CY;clear O W C;generalize t.four 4=q at *;have a:Hid (Tr.Qp (q.2.out.drop q.2.CY)=65536*(sxy (fun k=>((q.2.out.getD (q.2.CY+k) 0:Nat):Int)) (q.2.out.length - q.2.CY)).2+(sxy (fun k=>((q.2.out.getD (q.2.CY+k) 0:Nat):Int)) (q.2.out.length - q.2.CY)).1):=by
    show _=_;unfold Tr.Qp;rw [xI];have e:(fun k=>(((q.2.out.drop q.2.CY).getD k 0:Nat):Int))=(fun k=>((q.2.out.getD (q.2.CY+k) 0:Nat):Int)):=by funext k;rw [cC]
    rw [e]
   obtain ⟨n,A⟩:=qe (65536*(sxy (fun k=>((q.2.out.getD (q.2.CY+k) 0:Nat):Int)) (q.2.out.length - q.2.CY)).2+(sxy (fun k=>((q.2.out.getD (q.2.CY+k) 0:Nat):Int)) (q.2.out.length - q.2.CY)).1);have l:=hid A;have Z:wr.cell? ⟨p,9,none⟩=some (.int .i64 q.2.CY):=c.out.2.inv.row.cell (i:=9) zO;have F:wr.cell? ⟨p,0,none⟩=some vo:=c.out.2.inv.row.cell (i:=0) zO;have y:Hid (∀ (ad:Option Addr) (cap:Nat) (f:World),(∀ k,k<q.2.out.length - q.2.CY->∃ b o,ad=some ⟨b,o,none⟩/\f.cell? ⟨b,o+k,none⟩=some (.int .u8 ((q.2.out.getD (q.2.CY+k) 0:Nat):Int)))->Calls prog 81 #[.slice ad (q.2.out.length - q.2.CY) cap] f fun e j=>e= .returned (.int .i64 n)/\j=f):=fun ad cap f hc=>by
    rw [A];exact al ad (q.2.out.length - q.2.CY) cap (fun k=>((q.2.out.getD (q.2.CY+k) 0:Nat):Int)) f (by unfold maxLen;omega) (fun k=>P.out.get _) hc
   clear A;rcases c.out.2.inv.out.2 with ⟨e,h0⟩ | ⟨g,S,cur,e,a3,hg,hn,hm,V,ht⟩
   ·have I:q.2.CY=0:=zO;have z:wr.cell? ⟨p,0,none⟩=some (.slice none 0 0):=by rw [F,e]
    have a1:wr.cell? ⟨p,9,none⟩=some (.int .i64 0):=by rw [Z,I];rfl
    have d:Hid (∀ f,Calls prog 81 #[.slice none 0 0] f fun e j=>e= .returned (.int .i64 n)/\j=f):=fun f=>by
     have:=y.out none 0 f (fun k hk=>zO);rw [h0,I] at this;exact this
    clear F Z e;by_cases he:(x:Int)=n
    ·have hd:((x:Int) !=n)=false:=by simpa using he
     have r:=hid he;clear he;go_wp2_with fail
     go_quiet ((go_at_call 81;exact jG (d.out _)))
     go_wp2
     go_end0
     rw [D.out,zC (by rw [<- c.out.1,a.out,<- l.out];exact r.out)];exact ⟨rfl,c.out.2.drewN _⟩
    ·have hd:((x:Int) !=n)=true:=by simpa using he
     have r:=hid he;clear he;go_wp2_with fail
     go_quiet ((go_at_call 81;exact jG (d.out _)))
     go_wp2_with fail
     refine (Dn 12 _ (c.out.2.inv.drewN _)).mono ?_;rintro e w2 ⟨rfl,k2⟩;have u:=hid ((c.out.2.drewN _).trans k2);clear k2;go_wp2
     go_end0
     rw [D.out,zA (by rw [<- c.out.1,a.out,<- l.out];exact r.out)];exact ⟨rfl,u.out⟩
   ·have T:(q.2.CY:Int)<=(q.2.out.length:Int):=zO;have U:(q.2.out.length:Int)<=(S:Int):=zO;unfold maxLen at hm;have z:wr.cell? ⟨p,0,none⟩=some (.slice (some ⟨g,0,none⟩) q.2.out.length S):=by rw [F,e]
    have E:Hid (∀ i,i<q.2.out.length->wr.cell? ⟨g,i,none⟩=some (.int .u8 ((q.2.out.getD i 0:Nat):Int))):=fun i hi=>by
     obtain ⟨g',a0,e',hc⟩:=c.out.2.inv.bo hi;rw [e] at e';cases e'
     exact hc
    by_cases H:S=q.2.CY
    ·have M:q.2.out.length - q.2.CY=0:=zO;have d:Hid (∀ ad cap f,Calls prog 81 #[.slice ad 0 cap] f fun e j=>e= .returned (.int .i64 n)/\j=f):=fun ad cap f=>by
      have:=y.out ad cap f (fun k hk=>zO);rw [M] at this;exact this
     have J:q.2.out.length=q.2.CY:=zO;have Y:wr.cell? ⟨p,0,none⟩=some (.slice (some ⟨g,0,none⟩) q.2.CY q.2.CY):=by rw [z,J,H]
     clear z T U J M H hm hn V ht hg E;clear F e;by_cases he:(x:Int)=n
     ·have hd:((x:Int) !=n)=false:=by simpa using he
      have r:=hid he;clear he;go_wp2_with fail
      go_quiet ((go_at_call 81;exact jG (d.out _ _ _)))
      go_wp2
      go_end0
      rw [D.out,zC (by rw [<- c.out.1,a.out,<- l.out];exact r.out)];exact ⟨rfl,c.out.2.drewN _⟩
     ·have hd:((x:Int) !=n)=true:=by simpa using he
      have r:=hid he;clear he;go_wp2_with fail
      go_quiet ((go_at_call 81;exact jG (d.out _ _ _)))
      go_wp2_with fail
      refine (Dn 12 _ (c.out.2.inv.drewN _)).mono ?_;rintro e w2 ⟨rfl,k2⟩;have u:=hid ((c.out.2.drewN _).trans k2);clear k2;go_wp2
      go_end0
      rw [D.out,zA (by rw [<- c.out.1,a.out,<- l.out];exact r.out)];exact ⟨rfl,u.out⟩
    ·have d:Hid (∀ cap nq,Calls prog 81 #[.slice (some ⟨g,q.2.CY,none⟩) (q.2.out.length - q.2.CY) cap] (wr.drewN nq) fun e j=>e= .returned (.int .i64 n)/\j=wr.drewN nq):=fun cap nq=>y.out _ cap _ (fun k hk=>⟨g,q.2.CY,rfl,E.out (q.2.CY+k) zO⟩)
     clear F e;by_cases he:(x:Int)=n
     ·have hd:((x:Int) !=n)=false:=by simpa using he
      have r:=hid he;clear he;go_wp2_with fail
      go_quiet ((go_at_call 81;exact jG (d.out _ _)))
      go_wp2
      go_end0
      rw [D.out,zC (by rw [<- c.out.1,a.out,<- l.out];exact r.out)];exact ⟨rfl,c.out.2.drewN _⟩
     ·have hd:((x:Int) !=n)=true:=by simpa using he
      have r:=hid he;clear he;go_wp2_with fail
      go_quiet ((go_at_call 81;exact jG (d.out _ _)))
      go_wp2_with fail
      refine (Dn 12 _ (c.out.2.inv.drewN _)).mono ?_;rintro e w2 ⟨rfl,k2⟩;have u:=hid ((c.out.2.drewN _).trans k2);clear k2;go_wp2
      go_end0
      rw [D.out,zA (by rw [<- c.out.1,a.out,<- l.out];exact r.out)];exact ⟨rfl,u.out⟩
namespace Tr
theorem Da.Dp(h:Da a b)(c:Bp a):Bp b:=by unfold Bp;rw [h.out];exact c
theorem Gk(h:Bp t){b:Nat}(a:b<256):Bp (t.put b):=by
 cases hd:t.ended
 ·rw [CG hd];intro x hx;rcases yW.1 hx with hx | hx
  ·exact h x hx
  ·simp at hx;omega
 ·rw [FO hd];exact h
theorem RQ(n:Nat):∀ t:Tr,Bp t->Bp (Tr.bytes n t):=by
 induction n with
 | zero=>intro t h;exact h
 | succ n ih=>
  intro t h;unfold Tr.bytes;split
  ·exact h
  ·exact ih _ (Gk ((CS t).Dp h) (Dl t))
theorem Of(h:Bp t)(k:Nat):t.out.getD k 0<256:=by have:=h.get k;omega
theorem RV(a n:Nat):∀ t:Tr,Bp t->Bp (Tr.DC a n t):=by
 induction n with
 | zero=>intro t h;exact h
 | succ n ih=>
  intro t h;unfold Tr.DC;split
  ·exact h
  ·exact ih _ (Gk h (Of h _))
theorem Pk(h:Bp t)(b:CF)(k:Nat):Bp (t.Dh b k):=by
 unfold Tr.Dh;simp only;have c:=(Bb t (Ag k)).Dp h;have d:Bp (if b.many=0 then (t.number (Ag k)).2.fail 11 else (t.number (Ag k)).2):=(Gu _ _ zD).Dp c;generalize (if b.many=0 then (t.number (Ag k)).2.fail 11 else (t.number (Ag k)).2)=t1 at *;have a:=(Dj t1 b).Dp d;split
 ·exact (CK _ zD).Dp a
 ·have e:=(Bb (t1.symbol b).2 (Ag (t1.symbol b).1.toNat)).Dp a;generalize (t1.symbol b).2.number (Ag (t1.symbol b).1.toNat)=f at *;exact RV _ _ _ ((Gu _ _ zD).Dp e)
theorem KS(h:Bp t)(a b:CF):Bp (t.Bd a b):=by
 have f:=(Dj t a).Dp h;unfold Tr.Bd;split
 ·exact Gk f zO
 ·exact Pk f _ _
theorem JQ{a b:CF}(c:a.l.length<=269):∀ (n:Nat) (t:Tr),t.mu<=n->Bp t->Bp (content a b t):=by
 intro n;induction n with
 | zero=>
  intro t d h;have:t.ended=true:=by
   cases h:t.ended
   ·have:=IT h;omega
   ·rfl
  rw [Eh this];exact h
 | succ n ih=>
  intro t d h;cases h1:t.ended
  ·by_cases h2:(t.symbol a).2.ended=true\/(t.symbol a).1=256
   ·rw [Fz h1 h2];exact (Dj t a).Dp h
   ·have h3:(t.symbol a).2.ended=false:=by
     cases h:(t.symbol a).2.ended
     ·rfl
     ·exact absurd (Or.inl h) h2
    rw [Hi c h1 h3 (fun e=>h2 (Or.inr e))];have r:=Fc (b:=b) c h1;exact ih _ zO (KS h a b)
  ·rw [Eh h1];exact h
theorem RO(k:Nat)(h:Bp t):Bp (block k t):=by
 unfold block;split
 ·exact RQ _ _ ((IP t).Dp h)
 ·split
  ·exact JQ (by show Tr.Bi.length<=269;rw [Di];omega) t.mu t zL h
  ·split
   ·exact JQ (ZG t) _ _ zL ((Oe t).Dp h)
   ·exact (CK t zD).Dp h
theorem Km:∀ (n:Nat) (t:Tr),t.mu<=n->Bp t->Bp (Bz t):=by
 intro n;induction n with
 | zero=>
  intro t c h;have he:t.ended=true:=by
   cases h:t.ended
   ·have:=IT h;omega
   ·rfl
  rw [Fe he];exact h
 | succ n ih=>
  intro t c h;cases h1:t.ended
  ·have a:=((Fb t).trans (Bb t.bit.2 2)).Dp h;cases h2:(t.bit.2.number 2).2.ended
   ·have rb:=RO (t.bit.2.number 2).1 a;have b:=MH h1;by_cases h3:t.bit.1=0
    ·rw [KC h1 h2 h3];exact ih _ (show (block (t.bit.2.number 2).1 (t.bit.2.number 2).2).mu<=n by omega) rb
    ·rw [IA h1 h2 h3];split
     ·exact rb
     ·exact (Lt _).Dp rb
   ·rw [Gt h1 h2];exact a
  ·rw [Fe h1];exact h
theorem PV(h:Bp t):Bp t.blocks:=Km _ _ zL h
structure Part(t t':Tr):Prop where
 s:t'.s=t.s
 Aa:t'.Aa=t.Aa
 Ai:t'.Ai=t.Ai
 mu:t'.mu<=t.mu
 cost:t'.cost<=t.cost
 ended:t.ended=true->t'.ended=true
 bytes:Bp t->Bp t'
 CU:Ao t->Ao t'
theorem Part.trans{c:Tr}(h:Part a b)(k:Part b c):Part a c:=⟨k.s.trans h.s,k.Aa.trans h.Aa,k.Ai.trans h.Ai,zG k.mu h.mu,zG k.cost h.cost,fun x=>k.ended (h.ended x),fun x=>k.bytes (h.bytes x),fun x=>k.CU (h.CU x)⟩
theorem Da.part(h:Da a b)(c:Ao a->Ao b):Part a b:=⟨h.s,h.Aa,h.Ai,h.mu,h.cost,h.ended,h.Dp,c⟩
theorem Vu(t:Tr)(m:Nat):Da t (t.marked m)/\(Ao t->Ao (t.marked m))/\(∀ n,IN n t->IN (n+1) (t.marked m)):=by
 unfold marked;dsimp only
 have d:Da t (if 7<m then t.fail 4 else t):=Gu _ t zD;have g2:Ao t->Ao (if 7<m then t.fail 4 else t):=fun h=>Ao.Vg _ h zD
 have c:∀ n,IN n t->IN n (if 7<m then t.fail 4 else t):=fun n h=>by
  split
  ·exact h.fail zD
  ·exact h
 generalize (if 7<m then t.fail 4 else t)=t2 at *;have a:Da t2 (if m%2=1 then t2.text else t2)/\(Ao t2->Ao (if m%2=1 then t2.text else t2))/\(∀ n,IN n t2->IN n (if m%2=1 then t2.text else t2)):=by
  split
  ·exact ⟨Lv t2,fun h=>h.text,fun n h=>h.text⟩
  ·exact ⟨Da.refl _,fun h=>h,fun n h=>h⟩
 generalize (if m%2=1 then t2.text else t2)=t3 at *;have b:Da t3 (if m / 2%2=1 then t3.text else t3)/\(Ao t3->Ao (if m / 2%2=1 then t3.text else t3))/\(∀ n,IN n t3->IN n (if m / 2%2=1 then t3.text else t3)):=by
  split
  ·exact ⟨Lv t3,fun h=>h.text,fun n h=>h.text⟩
  ·exact ⟨Da.refl _,fun h=>h,fun n h=>h⟩
 generalize (if m / 2%2=1 then t3.text else t3)=t4 at *;have f:=(d.trans a.1).trans b.1;split
 ·exact ⟨f.trans (GZ t4 _),fun h=>(b.2.1 (a.2.1 (g2 h))).Ea _,fun n h=>(b.2.2 n (a.2.2 n (c n h))).Ea _⟩
 ·exact ⟨f,fun h=>b.2.1 (a.2.1 (g2 h)),fun n h=>(b.2.2 n (a.2.2 n (c n h))).mono zO⟩
theorem Gi(h:Ao t):Part t t.blocks:=by
 have f:=Lc h;exact ⟨f.1,f.2.1,f.2.2.2.2.2.2,f.2.2.2.1,f.2.2.1,f.2.2.2.2.2.1,PV,fun _=>f.2.2.2.2.1⟩
theorem aE(t:Tr):Da t t.sized:=by
 unfold sized;split
 ·exact (CS t).trans (CS _)
 ·exact ((CS t).trans (CS _)).trans (CK _ zD)
theorem Ao.sized(h:Ao t):Ao t.sized:=by
 unfold Tr.sized;split
 ·exact h.Ad.Ad
 ·exact h.Ad.Ad.fail zD
theorem RM(t:Tr):Da t { t with head:=0,many:=0 }/\(Ao t->Ao { t with head:=0,many:=0 })/\IN t.mu { t with head:=0,many:=0 }:=⟨⟨rfl,rfl,rfl,rfl,rfl,rfl,zE _,fun h=>h⟩,fun h=>⟨h.left,h.cur,h.Aw,h.CY,h.Br,h.err⟩,⟨by show 0<256;omega,by show 0+t.mu<=t.mu;omega⟩⟩
theorem Ly(t:Tr):Da t t.DA/\(Ao t->Ao t.DA)/\IN (t.mu+2) t.DA/\(t.ended=false->t.DA.mu<t.mu):=by
 have z:=RM t;refine ⟨z.1.trans ((GZ _ 76).trans (GZ _ 2)),fun h=>((z.2.1 h).Ea 76).Ea 2,(z.2.2.Ea 76).Ea 2,fun he=>?_⟩;have h1:(({ t with head:=0,many:=0 }:Tr).Ea 76).mu<t.mu:=by
  have hm:({ t with head:=0,many:=0 }:Tr).Au.2.mu<t.mu:=Jk (t:={ t with head:=0,many:=0 }) he;unfold Ea;split
  ·exact hm
  ·rw [Oi _ zD];exact IT he
 exact vR (GZ _ 2).mu h1
theorem Jq(h:Ao t):Part t t.Dw/\(t.ended=false->t.Dw.mu<t.mu):=by
 have a:=Ly t;have m:=Vu t.DA.Au.2 t.DA.Au.1;have b:=(a.1.trans ((FK _).trans m.1)).part (fun h=>m.2.1 (a.2.1 h).Au);have f:=b.CU h;have c:=Gi f;have d:Part (t.DA.Au.2.marked t.DA.Au.1).blocks (t.DA.Au.2.marked t.DA.Au.1).blocks.sum:=(Lu _).part (fun h=>h.sum);have e:Part (t.DA.Au.2.marked t.DA.Au.1).blocks.sum t.Dw:=(aE _).part (fun h=>h.sized);refine ⟨((b.trans c).trans d).trans e,fun he=>?_⟩;have h1:=a.2.2.2 he;have h2:=((FK t.DA).trans m.1).mu;have h3:=((c.trans d).trans e).mu;omega
def Hm(members:Nat)(t:Tr):Tr:=
 if t.ended=false/\t.Aw<t.s.size then
  if members<=t.Aa.length then ({ t with Aw:=t.Aw+1 }:Tr).fail 6
  else if _h:({ t with Aa:=t.Aa++[t.Aw] }:Tr).Dw.mu<t.mu then Hm members ({ t with Aa:=t.Aa++[t.Aw] }:Tr).Dw
  else t
 else t
 termination_by t.mu
def Ej(s:ByteArray)(Ai:Nat):Tr:=if s.size=0 then { Tr.start s Ai with CZ:=true } else (((({ Tr.start s Ai with Aa:=[0] }:Tr).Ea 115).Ea 1).blocks.sum).DP
def FD(s:ByteArray)(members Ai:Nat):Tr:=if s.size=0 then { Tr.start s Ai with CZ:=true } else Hm members (Tr.start s Ai)
def read(format:Nat)(members Ai:Nat)(s:ByteArray):Tr:=if format=0 then Gb s Ai else if format=1 then Ej s Ai else FD s members Ai
theorem Hd(h:¬ (t.ended=false/\t.Aw<t.s.size)):Hm members t=t:=by rw [Hm,zA h]
theorem NI(h:t.ended=false/\t.Aw<t.s.size)(h2:members<=t.Aa.length):Hm members t=({ t with Aw:=t.Aw+1 }:Tr).fail 6:=by rw [Hm,zC h,zC h2]
theorem Oh(a:Ao t)(h:t.ended=false/\t.Aw<t.s.size)(h2:¬ members<=t.Aa.length):Hm members t=Hm members ({ t with Aa:=t.Aa++[t.Aw] }:Tr).Dw:=by
 have hm:({ t with Aa:=t.Aa++[t.Aw] }:Tr).Dw.mu<t.mu:=(Jq (t:={ t with Aa:=t.Aa++[t.Aw] }) ⟨a.left,a.cur,a.Aw,a.CY,a.Br,a.err⟩).2 h.1;rw [Hm,zC h,zA h2,kH hm]
end Tr
namespace Tr
def le(s:ByteArray):Nat->Nat->Nat
 | _,0=>0
 | i,n+1=>Bm s i+256*le s (i+1) n
theorem le_last(s:ByteArray)(n:Nat):∀ i,le s i (n+1)=le s i n+256^n*Bm s (i+n):=by
 induction n with
 | zero=>intro i;simp [le]
 | succ n ih=>
  intro i;have h1:le s i (n+1+1)=Bm s i+256*le s (i+1) (n+1):=rfl;have h2:le s i (n+1)=Bm s i+256*le s (i+1) n:=rfl;rw [h1,h2,ih (i+1),yN,show i+1+n=i+(n+1) by omega,jM];have:256*(256^n*Bm s (i+(n+1)))=256^n*256*Bm s (i+(n+1)):=by
   rw [<- Nat.mul_assoc,vQ 256 (256^n)]
  omega
structure Hand(t:Tr)(h c:Nat):Prop where
 left:t.left=c%8
 cur:t.cur<2^(c%8)
 Aw:t.Aw+c / 8<=t.s.size
 val:h=t.cur+2^(c%8)*le t.s t.Aw (c / 8)
theorem aj(c:Nat):2^(c%8)*256^(c / 8)=2^c:=by
 rw [show (256:Nat)=2^8 from rfl,<- Nat.pow_mul,<- Nat.pow_add];congr 1;omega
theorem Hand.take(H:Hand t h c)(hs:t.Aw+c / 8<t.s.size):Hand t (h+2^c*Bm t.s (t.Aw+c / 8)) (c+8):=by
 have a:(c+8)%8=c%8:=zO;have b:(c+8) / 8=c / 8+1:=zO;refine ⟨by rw [a];exact H.left,by rw [a];exact H.cur,zO,?_⟩;rw [a,b,le_last,jM,<- Nat.mul_assoc,aj,H.val];omega
def Rd(t t':Tr):Prop:=t'={ t with Aw:=t'.Aw,cur:=t'.cur,left:=t'.left }
theorem Rd.refl(t:Tr):Rd t t:=rfl
theorem Rd.trans{c:Tr}(h:Rd a b)(k:Rd b c):Rd a c:=by unfold Rd at *;rw [k,h]
theorem Rd.ended(h:Rd a b):b.ended=a.ended:=by unfold Rd at h;rw [h];rfl
theorem Hand.bit(H:Hand t h c)(e:t.ended=false)(hc:0<c) :
  t.bit.1=h%2/\Hand t.bit.2 (h / 2) (c - 1)/\Rd t t.bit.2/\t.bit.2.Aw+(c - 1) / 8=t.Aw+c / 8:=by
 obtain ⟨h1,h2,h3,h4⟩:=H;by_cases h0:c%8=0
 ·obtain ⟨m,hm⟩:∃ m,c / 8=m+1:=⟨c / 8 - 1,zO⟩
  have a:(c - 1)%8=7:=zO;have b:(c - 1) / 8=m:=zO;rw [h0] at h1 h2 h4;rw [hm] at h3 h4;have g:=Ex t.s t.Aw;have hl:t.load={ t with Aw:=t.Aw+1,cur:=Bm t.s t.Aw,left:=8 }:=by
   rw [DB h1,FB e zO]
  have hv:h=Bm t.s t.Aw+256*le t.s (t.Aw+1) m:=by
   rw [h4];simp only [AJ] at h2;have:le t.s t.Aw (m+1)=Bm t.s t.Aw+256*le t.s (t.Aw+1) m:=rfl;omega
  have d:t.bit=(Bm t.s t.Aw%2,{ t with Aw:=t.Aw+1,cur:=Bm t.s t.Aw / 2,left:=7 }):=by unfold Tr.bit;rw [hl];rfl
  rw [d];refine ⟨by show Bm t.s t.Aw%2=h%2;omega,⟨?_,?_,?_,?_⟩,rfl,?_⟩
  ·show 7=(c - 1)%8;omega
  ·show Bm t.s t.Aw / 2<2^((c - 1)%8);rw [a];omega
  ·show t.Aw+1+(c - 1) / 8<=t.s.size;omega
  ·show h / 2=Bm t.s t.Aw / 2+2^((c - 1)%8)*le t.s (t.Aw+1) ((c - 1) / 8);rw [a,b];omega
  ·show t.Aw+1+(c - 1) / 8=t.Aw+c / 8;omega
 ·obtain ⟨r,f⟩:∃ r,c%8=r+1:=⟨c%8 - 1,zO⟩
  have a:(c - 1)%8=r:=zO;have b:(c - 1) / 8=c / 8:=zO;rw [f] at h1 h2 h4;have d:t.bit=(t.cur%2,{ t with cur:=t.cur / 2,left:=r }):=by
   unfold Tr.bit;rw [Ib zO,h1];rfl
  rw [d];rw [yN] at h2 h4;have h5:h=t.cur+2*(2^r*le t.s t.Aw (c / 8)):=by
   rw [h4,vQ (2^r) 2,AL]
  refine ⟨by show t.cur%2=h%2;omega,⟨?_,?_,?_,?_⟩,rfl,?_⟩
  ·show r=(c - 1)%8;omega
  ·show t.cur / 2<2^((c - 1)%8);rw [a];omega
  ·show t.Aw+(c - 1) / 8<=t.s.size;omega
  ·show h / 2=t.cur / 2+2^((c - 1)%8)*le t.s t.Aw ((c - 1) / 8);rw [a,b];omega
  ·show t.Aw+(c - 1) / 8=t.Aw+c / 8;omega
theorem Hand.number(H:Hand t h c)(g:t.ended=false)(k:Nat)(hk:k<=c) :
  (t.number k).1=h%2^k/\Hand (t.number k).2 (h / 2^k) (c - k)/\Rd t (t.number k).2/\(t.number k).2.Aw+(c - k) / 8=t.Aw+c / 8:=by
 induction k with
 | zero=>exact ⟨by simp [Tr.number,Nat.mod_one],by simpa [Tr.number] using H,Rd.refl t,rfl⟩
 | succ k ih=>
  obtain ⟨a,b,r,e⟩:=ih zO;obtain ⟨a2,d,r2,i⟩:=b.bit (by rw [r.ended,g]) zO;refine ⟨?_,?_,r.trans r2,?_⟩
  ·show (t.number k).1+(t.number k).2.bit.1*2^k=_;rw [a,a2,Nat.mod_pow_succ,vQ]
  ·have f:h / 2^(k+1)=h / 2^k / 2:=by rw [yN,kD]
   rw [f,show c - (k+1)=c - k - 1 by omega];exact d
  ·rw [show c - (k+1)=c - k - 1 by omega];show (t.number k).2.bit.2.Aw+_=_;omega
structure Ob where
 out:List Nat
 Br:List Nat
 Aw:Nat
 Aa:List Nat
 err:Nat
 CZ:Bool
def DJ(t:Tr):Ob:=⟨t.out,t.Br,t.Aw,t.Aa,t.err,t.CZ⟩
theorem SR(h:DJ a=DJ b):a.ended=b.ended:=by
 unfold DJ at h;injection h with h1 h2 h3 h4 h5 h6
 unfold Tr.ended;rw [h5,h6]
def DR(t t':Tr):Prop:=t.ended=true->DJ t'=DJ t
theorem DR.refl(t:Tr):DR t t:=fun _=>rfl
theorem DR.trans{c:Tr}(h:DR a b)(k:DR b c):DR a c:=fun he=>by
 have h1:=h he;rw [k (by rw [SR h1];exact he),h1]
theorem GB(t:Tr)(e:Nat):DR t (t.fail e):=fun h=>by rw [EZ h]
theorem FJ(t:Tr):DR t t.Ad.2:=fun h=>by rw [Fq h]
theorem TZ(t:Tr):DR t t.bit.2:=fun h=>by
 unfold Tr.bit;by_cases hl:t.left=0
 ·rw [DB hl,Fq h];rfl
 ·rw [Ib zO];rfl
theorem Ff(t:Tr)(k:Nat):DR t (t.number k).2:=by
 induction k with
 | zero=>exact DR.refl t
 | succ k ih=>exact ih.trans (TZ _)
theorem cU(t:Tr):DR t t.skip:=fun h=>by
 unfold Tr.skip;split
 ·rw [EZ h];rfl
 ·rfl
theorem fO(t:Tr)(b:Nat):DR t (t.put b):=fun h=>by rw [FO h]
theorem fP(S:CF)(r n c:Nat)(t:Tr):DR t (sym S r n c t).2:=fun h=>by
 cases r with
 | zero=>rfl
 | succ r=>
  unfold Tr.sym;have a:=TZ t h;rw [zC (by rw [SR a];exact h)];exact a
theorem Py(t:Tr)(S:CF):DR t (t.symbol S).2:=fP S 11 1 0 t
theorem KJ(n:Nat)(t:Tr):DR t (bytes n t):=fun h=>by
 cases n with
 | zero=>rfl
 | succ n=>unfold Tr.bytes;rw [zC h]
theorem DV(c:Prop)[Decidable c](t:Tr)(e:Nat):DR t (if c then t.fail e else t):=by
 split
 ·exact GB t e
 ·exact DR.refl t
theorem Dd(c:Prop)[Decidable c](t:Tr)(e:Nat):DR t (if c then t else t.fail e):=by
 split
 ·exact DR.refl t
 ·exact GB t e
theorem Mz(a n:Nat)(t:Tr):DR t (DC a n t):=fun h=>by
 cases n with
 | zero=>rfl
 | succ n=>unfold Tr.DC;rw [zC h]
theorem VH(a b:CF)(t:Tr):DR t (content a b t):=fun h=>by rw [Eh h]
theorem Pv(t:Tr):DR t (Bz t):=fun h=>by rw [Fe h]
theorem XK(t:Tr):DR t t.blocks:=fun h=>by unfold Tr.blocks;rw [Fe (t:={ t with CY:=t.out.length,left:=0 }) h];rfl
theorem cP(t:Tr)(k:Nat):DR t (t.four k).2:=by
 induction k with
 | zero=>exact DR.refl t
 | succ k ih=>exact ih.trans (FJ _)
theorem Yq(t:Tr):DR t t.sum:=(cP t 4).trans (by unfold Tr.sum;exact Dd _ _ _)
theorem Nn(t:Tr)(b:Nat):DR t (t.Dq b):=fun h=>by
 unfold Tr.Dq;split
 ·rw [EZ h];rfl
 ·rfl
theorem Rt(t:Tr):DR t t.Au.2:=(FJ t).trans (Nn _ _)
theorem Ta(t:Tr)(b:Nat):DR t (t.Ea b):=(Rt t).trans (by unfold Tr.Ea;exact Dd _ _ _)
theorem Lp(t:Tr):DR t t.text:=fun h=>by rw [Mg h]
theorem Ru(t:Tr):DR t t.sized:=((FJ t).trans (FJ _)).trans (by unfold Tr.sized;exact Dd _ _ _)
theorem Px(m:Nat)(t:Tr):DR t (Hm m t):=fun h=>by rw [Hd (by rw [h];simp)]
theorem Od(H:CF)(n:Nat)(l:List Int)(t:Tr):DR t (row H n l t).2:=fun h=>by rw [Im (by rw [h];simp)]
theorem NA(t:Tr):DR t t.DP:=fun h=>by unfold Tr.DP;rw [zA (by rw [h];simp)]
def RW(t:Tr):Ob:=⟨t.out,t.Br,t.s.size,t.Aa,0,true⟩
theorem cD(h:Rd a b)(hi:b.Aw=a.s.size)(c:a.ended=false)(d:b.left=0):DJ b.bit.2=RW a:=by
 have hs:b.s=a.s:=by unfold Rd at h;rw [h]
 unfold Tr.bit;rw [DB d,Eb (by rw [h.ended];exact c) (by rw [hs];omega)];have he:=((KG a).1 c).1;unfold Rd at h;rw [h];show Ob.mk a.out a.Br b.Aw a.Aa a.err true=Ob.mk a.out a.Br a.s.size a.Aa 0 true;rw [hi,he]
theorem Fp(h:DJ t'=RW t):t'.ended=true:=by
 unfold DJ RW at h;injection h with h1 h2 h3 h4 h5 h6
 unfold Tr.ended;rw [h6];simp
theorem Hand.Jv(H:Hand t h c)(d:t.ended=false)(hs:t.Aw+c / 8=t.s.size)(k:Nat)(hk:c<k):DJ (t.number k).2=RW t:=by
 obtain ⟨a,b,r,e⟩:=H.number d c zL;rw [kX] at b e;have h1:DJ (t.number (c+1)).2=RW t:=cD r zO d b.left;have h2:∀ j,DJ (t.number (c+1+j)).2=RW t:=by
  intro j;induction j with
  | zero=>exact h1
  | succ j ih=>
   have:DJ (t.number (c+1+j)).2.bit.2=DJ (t.number (c+1+j)).2:=TZ _ (Fp ih);exact this.trans ih
 have:=h2 (k - (c+1));rwa [show c+1+(k - (c+1))=k by omega] at this
theorem Hand.Ad(H:Hand t h c)(e:t.ended=false)(h0:c%8=0)(hc:8<=c) :
  t.Ad.1=h%256/\Hand t.Ad.2 (h / 256) (c - 8)/\Rd t t.Ad.2/\t.Ad.2.Aw+(c - 8) / 8=t.Aw+c / 8:=by
 obtain ⟨h1,h2,h3,h4⟩:=H;obtain ⟨m,hm⟩:∃ m,c / 8=m+1:=⟨c / 8 - 1,zO⟩
 rw [h0] at h1 h2 h4;rw [hm] at h3 h4;have f:=Ex t.s t.Aw;have hv:h=Bm t.s t.Aw+256*le t.s (t.Aw+1) m:=by
  have:le t.s t.Aw (m+1)=Bm t.s t.Aw+256*le t.s (t.Aw+1) m:=rfl;rw [h4];simp only [AJ] at h2;omega
 have a:t.cur=0:=by simp only [AJ] at h2;omega
 have b:(c - 8)%8=0:=zO;have d:(c - 8) / 8=m:=zO;rw [FB e zO];refine ⟨by show Bm t.s t.Aw=h%256;omega,⟨?_,?_,?_,?_⟩,rfl,?_⟩
 ·show t.left=(c - 8)%8;omega
 ·show t.cur<2^((c - 8)%8);rw [b];simpa using h2
 ·show t.Aw+1+(c - 8) / 8<=t.s.size;omega
 ·show h / 256=t.cur+2^((c - 8)%8)*le t.s (t.Aw+1) ((c - 8) / 8);rw [b,d,a];simp only [AJ];omega
 ·show t.Aw+1+(c - 8) / 8=t.Aw+c / 8;omega
theorem Hand.NS(H:Hand t h 0)(a:t.ended=false)(hs:t.Aw=t.s.size):DJ t.Ad.2=RW t:=by
 rw [Eb a zO];have he:=((KG t).1 a).1;show Ob.mk t.out t.Br t.Aw t.Aa t.err true=Ob.mk t.out t.Br t.s.size t.Aa 0 true;rw [hs,he]
end Tr
def lng(l:List Int):Nat->Nat
 | 0=>0
 | k+1=>if 0<cn l k then k else lng l k
theorem NH(l:List Int)(k:Nat):lng l (k+1)<=k:=by
 induction k with
 | zero=>simp [lng]
 | succ k ih=>
  rw [lng];split
  ·omega
  ·omega
theorem aR(l:List Int)(n k:Nat)(h:lng l n<k)(hk:k<n):cn l k=0:=by
 induction n with
 | zero=>omega
 | succ n ih=>
  rw [lng] at h;have:=EK l k;split at h
  ·omega
  ·by_cases e:k=n
   ·subst e;omega
   ·exact ih h zO
theorem Vn(h:sumOf (fun _=>1) l=0)(n:Nat):lng l n=0:=by
 induction n with
 | zero=>rfl
 | succ n ih=>
  rw [lng,ih];split
  ·rename_i hp
   rcases jA n with e | e
   ·exact e
   ·rw [Pf l n e,LK l h] at hp;omega
  ·rfl
theorem QG(b:Ae l=true)(h:single l=true):lng l 12=1:=by
 rw [JI b,NG] at h;have e:∀ j,j<12->cn l j=if j=1 then 1 else 0:=fun j a=>by rw [h j a];rfl
 simp [lng,e]
inductive Scan where
 | hit (k m:Nat)
 | more
 | none
def scan(l:List Int):Nat->Nat->Nat->Nat->Nat->Scan
 | 0,_,_,_,_=> .none
 | r+1,n,code,h,c=>
  if c=0 then .more
  else if 0<=find (Ax l) n ((2*code+h%2:Nat):Int) then .hit (find (Ax l) n ((2*code+h%2:Nat):Int)).toNat n
  else scan l r (n+1) (2*code+h%2) (h / 2) (c - 1)
def EW(l:List Int)(h c:Nat):Scan:=scan l (lng l 12) 1 0 h c
theorem Io(l:List Int)(r:Nat):∀ (n code h c k m:Nat),scan l r n code h c= .hit k m->n<=m/\m+1<=n+c/\m<n+r/\k<l.length:=by
 induction r with
 | zero=>intro n code h c k m e;simp [scan] at e
 | succ r ih=>
  intro n code h c k m e;rw [scan] at e;split at e
  ·cases e
  ·split at e
   ·rename_i h2
    injection e with e1 e2
    have h3:=Tr.Yo (Ax l) n ((2*code+h%2:Nat):Int);have h4:(Ax l).l.length=l.length:=rfl;omega
   ·have:=ih _ _ _ _ _ _ e;omega
theorem NZ(l:List Int)(r:Nat):∀ (n code h c:Nat),scan l r n code h c= .more->c<r:=by
 induction r with
 | zero=>intro n code h c e;simp [scan] at e
 | succ r ih=>
  intro n code h c e;rw [scan] at e;split at e
  ·omega
  ·split at e
   ·cases e
   ·have:=ih _ _ _ _ e;omega
theorem dw(l:List Int)(b:Nat)(r:Nat):∀ (n code h c k m:Nat),scan l r n code h c= .more->scan l r n code (h+2^c*b) (c+8)= .hit k m->n+c<=m:=by
 induction r with
 | zero=>intro n code h c k m e;simp [scan] at e
 | succ r ih=>
  intro n code h c k m e a;rw [scan] at e;split at e
  ·have:=Io l _ _ _ _ _ _ _ a;omega
  ·rename_i hc
   obtain ⟨d,rfl⟩:∃ d,c=d+1:=⟨c - 1,zO⟩
   have h1:h+2^(d+1)*b=h+2*(2^d*b):=by rw [yN,vQ (2^d) 2,AL]
   have h2:(h+2^(d+1)*b)%2=h%2:=zO;have h3:(h+2^(d+1)*b) / 2=h / 2+2^d*b:=zO;split at e
   ·cases e
   ·rename_i f
    rw [scan,zA zO,h2,zA f,h3,show d+1+8 - 1=d+8 by omega] at a;have:=ih (n+1) _ _ _ _ _ e a;omega
def Co(l:List Int)(h c:Nat):Prop:=(∀ k m,EW l h c= .hit k m->c<m+8)/\(EW l h c= .none->c<lng l 12+8)
theorem Co.of_lt(hc:c<8):Co l h c:=⟨fun _ _ _=>zO,fun _=>zO⟩
theorem Co.take(b:Nat)(hm:EW l h c= .more):Co l (h+2^c*b) (c+8):=by
 refine ⟨fun k m e=>?_,fun _=>?_⟩
 ·have:=dw l b _ _ _ _ _ _ _ hm e;omega
 ·have:=NZ l _ _ _ _ _ hm;omega
theorem UL(l:List Int)(r:Nat):∀ (R n code h c k m:Nat) (t:Tr),scan l r n code h c= .hit k m->Tr.Hand t h c->t.ended=false->r<=R->(single l=true->r<=1)->
  ∃ b,Tr.sym (Ax l) R n code t=((k:Int),b)/\Tr.Hand b (h / 2^(m+1 - n)) (c - (m+1 - n))/\Tr.Rd t b/\b.Aw+(c - (m+1 - n)) / 8=t.Aw+c / 8:=by
 induction r with
 | zero=>intro R n code h c k m t e;simp [scan] at e
 | succ r ih=>
  intro R n code h c k m t e H j v ho;obtain ⟨R,rfl⟩:∃ R',R=R'+1:=⟨R - 1,zO⟩
  have s:=Io l _ _ _ _ _ _ _ e;rw [scan] at e;split at e
  ·cases e
  ·rename_i hc
   obtain ⟨o,i,f,b4⟩:=H.bit j zO;have d:t.bit.2.ended=false:=by rw [f.ended];exact j
   unfold Tr.sym;rw [zA (by rw [d];simp),o];split at e
   ·rename_i g
    injection e with e1 e2
    rw [zC g];subst e2;refine ⟨t.bit.2,?_,?_,f,?_⟩
    ·rw [<- e1];congr 1;omega
    ·rw [show n+1 - n=1 by omega];exact i
    ·rw [show n+1 - n=1 by omega];exact b4
   ·rename_i g
    rw [zA g];have h1:=Io l _ _ _ _ _ _ _ e;have a:single l=false:=by
     cases hs:single l
     ·rfl
     ·have:=ho hs;omega
    rw [zA (by show ¬ (single l=true);rw [a];simp)];obtain ⟨b,d1,d2,p,u⟩:=ih R (n+1) _ _ _ _ _ t.bit.2 e i d zO (fun hs=>by rw [a] at hs;cases hs);refine ⟨b,d1,?_,f.trans p,?_⟩
    ·have q:m+1 - n=(m+1 - (n+1))+1:=zO;rw [q,yN,vQ,<- Nat.div_div_eq_div_mul,show c - (m+1 - (n+1)+1)=c - 1 - (m+1 - (n+1)) by omega];exact d2
    ·rw [show c - (m+1 - n)=c - 1 - (m+1 - (n+1)) by omega];omega
theorem Tr.Rd.RW(h:Tr.Rd a b):b.RW=a.RW:=by
 unfold Tr.Rd at h;rw [h];rfl
theorem gx(l:List Int)(r:Nat):∀ (R n code h c:Nat) (t:Tr),scan l r n code h c= .more->Tr.Hand t h c->t.ended=false->t.Aw+c / 8=t.s.size->r<=R->(single l=true->r<=1)->
  (Tr.sym (Ax l) R n code t).1= -1/\Tr.DJ (Tr.sym (Ax l) R n code t).2=t.RW:=by
 induction r with
 | zero=>intro R n code h c t e;simp [scan] at e
 | succ r ih=>
  intro R n code h c t e H f hs o ho;obtain ⟨R,rfl⟩:∃ R',R=R'+1:=⟨R - 1,zO⟩
  rw [scan] at e;split at e
  ·rename_i hc
   subst hc;have hd:=Tr.cD (Tr.Rd.refl t) zO f H.left;unfold Tr.sym;rw [zC (Tr.Fp hd)];exact ⟨rfl,hd⟩
  ·rename_i hc
   obtain ⟨i,j,d,b4⟩:=H.bit f zO;have b:t.bit.2.ended=false:=by rw [d.ended];exact f
   unfold Tr.sym;rw [zA (by rw [b];simp),i];split at e
   ·cases e
   ·rename_i k
    rw [zA k];have h1:=NZ l _ _ _ _ _ e;have a:single l=false:=by
     cases hs:single l
     ·rfl
     ·have:=ho hs;omega
    rw [zA (by show ¬ (single l=true);rw [a];simp)];have g:t.bit.2.s=t.s:=by have:=d;unfold Tr.Rd at this;rw [this]
    have:=ih R (n+1) _ _ _ t.bit.2 e j b (by rw [g];omega) zO (fun hs=>by rw [a] at hs;cases hs);rw [d.RW] at this;exact this
theorem gk(l:List Int):shr (cn l) (lng l 12+1)=shr (cn l) 12:=by
 have h:∀ d,lng l 12+1+d<=12->shr (cn l) (lng l 12+1+d)=shr (cn l) (lng l 12+1):=by
  intro d;induction d with
  | zero=>intro _;rfl
  | succ d ih=>
   intro hd;rw [show lng l 12+1+(d+1)=(lng l 12+1+d)+1 by omega,MY,ih zO,aR l 12 _ zO zO];simp
 have:lng l 12<=11:=NH l 11;have:=h (12 - (lng l 12+1)) zO;rw [<- this];congr 1;omega
theorem Rm(p:Ae l=true)(hc:sumOf gw l=2048)(r:Nat):∀ (k code h c:Nat),k+r=lng l 12->code<2^k->shr (cn l) (k+1)<=(code:Int)*2^(11 - k)->scan l r (k+1) code h c≠ .none:=by
 induction r with
 | zero=>
  intro k code h c hk a hs _;have j:k=lng l 12:=zO;have d:lng l 12<=11:=NH l 11;have e:shr (cn l) (k+1)=2048:=by rw [j,gk,Nb l p,QB,hc]
  rw [e] at hs;have h1:(code:Int)*2^(11 - k)<2^k*2^(11 - k):=Int.mul_lt_mul_of_pos_right (by exact_mod_cast a) (xJ zD);rw [<- Int.pow_add,show k+(11 - k)=11 by omega] at h1;have:(2:Int)^11=2048:=zD;omega
 | succ r ih=>
  intro k code h c hk a hs;have d:lng l 12<=11:=NH l 11;rw [scan];split
  ·simp
  ·split
   ·simp
   ·rename_i s
    have t:h%2<=1:=zO;refine ih (k+1) _ _ _ zO (by rw [yN];omega) ?_;have hP:(0:Int)<2^(11 - (k+1)):=xJ zD;have o:=XE (cn l) (k+1) zO;have q:(2:Int)^(11 - k)=2*2^(11 - (k+1)):=by
     rw [show 11 - k=(11 - (k+1))+1 by omega,jX];omega
    rw [MY (cn l) (k+1)];rw [q] at hs;generalize (2:Int)^(11 - (k+1))=P at *;have g:fc (cn l) (k+1)<=((2*code+h%2:Nat):Int):=by
     apply KZ hP;rw [o];refine jF hs ?_;have:(code:Int)*(2*P)=(2*code)*P:=by rw [<- Int.mul_assoc,BD (code:Int) 2]
     rw [this];exact jE zO zO
    have b:fc (cn l) (k+1)+cn l (k+1)<=((2*code+h%2:Nat):Int):=by
     apply yB;intro u;obtain ⟨i,_,_,_,f⟩:=Jg (S:=Ax l) p (n:=k+1) zO g (by show _<fc (cn l) (k+1)+cn l (k+1);omega);rw [f] at s;omega
    rw [<- o,<- Int.add_mul];exact jE b zO
theorem Hr(a:Ae l=true)(hc:sumOf gw l=2048)(h c:Nat):EW l h c≠ .none:=
 Rm a hc (lng l 12) 0 0 h c zO zD (by rw [MY,OY];simp [shr])
structure St where
 fmt:Nat
 mem:Nat
 lim:Nat
 st:Nat
 held:Nat
 count:Nat
 begun:Nat
 marks:Nat
 Az:Nat
 Bq:Nat
 om:List Nat
 last:Bool
 left:Nat
 nl:Nat
 nd:Nat
 told:Nat
 hl:List Int
 hs:List Int
 hk:Nat
 row:List Int
 la:List Int
 lb:List Int
 lit:Nat
 least:Nat
 bits:Nat
 Cc:Nat
inductive Act where
 | take
 | put (b:Nat) (σ:St)
 | DF (σ:St)
 | fail (e:Nat)
def Am(k:Nat):Nat:=if k=12 then 2 else if k=13 then 3 else if k=14 then 6 else 0
def Aq(k:Nat):Nat:=if k=12 then 3 else if k=13 then 3 else if k=14 then 11 else 1
def hval(k:Nat)(row:List Int):Int:=if k=12 then row.getD (row.length - 1) 0 else if k=13 then 0 else if k=14 then 0 else k
def Hl:List Int->Nat->List Int->List Int
 | [],_,l=>l
 | x :: xs,i,l=>Hl xs (i+1) (l.set (Tr.order.getD i 0) x)
def EF(hl:List Int):List Int:=Hl hl 0 (List.replicate 15 0)
def EA(a b:List Int):Prop:=a.getD 256 0=0\/sumOf gw a≠2048\/(sumOf gw b≠2048/\single b=false/\0<sumOf (fun _=>1) b)
instance (a b:List Int):Decidable (EA a b):=by unfold EA;infer_instance
def Lb(h:Nat):Nat:=256*(256*(256*(h%256)+h / 256%256)+h / 65536%256)+h / 16777216%256
namespace St
def rd(σ:St)(k:Nat):St:={ σ with held:=σ.held / 2^k,count:=σ.count - k }
def num(σ:St)(k:Nat):Nat:=σ.held%2^k
def add(σ:St)(b:Nat):St:={ σ with held:=σ.held+2^σ.count*b,count:=σ.count+8 }
def Ab(σ:St)(k:Nat)(A:Act):Act:=if σ.count<k then .take else A
def Au(σ:St):St:={ σ.rd 8 with Az:=(σ.Az+σ.num 8)%256,Bq:=σ.Bq+1 }
def DG(σ:St)(want next:Nat):Act:=if σ.lim<=σ.Bq then .fail 5 else if σ.num 8=want then .DF { σ.Au with st:=next } else .fail 4
def text(σ:St)(next:Nat):Act:=if σ.lim<=σ.Bq then .fail 5 else .DF { σ.Au with st:=if σ.num 8=0 then next else σ.st }
def endBlock(σ:St):Act:=if σ.last then (if σ.held≠0 then .fail 8 else .DF { σ with held:=0,count:=0,st:=21 }) else .DF { σ with st:=6 }
def kind(σ:St):Act:=
 let τ:St:={ σ.rd 3 with last:=σ.num 1==1 }
 if σ.held / 2%4=0 then (if τ.held≠0 then .fail 8 else .DF { τ with held:=0,count:=0,st:=7 })
 else if σ.held / 2%4=1 then .DF { τ with la:=Tr.Bi,lb:=Tr.Bw,st:=16 }
 else if σ.held / 2%4=2 then .DF { τ with st:=9 }
 else .fail 7
def EM(σ:St):Act:=
 if EA (σ.row.take σ.nl) (σ.row.drop σ.nl) then .fail 10
 else .DF { σ with la:=σ.row.take σ.nl,lb:=σ.row.drop σ.nl,hl:=[],hs:=[],row:=[],st:=16 }
def Ek(σ:St):Act:=
 let times:=Aq σ.hk+σ.num (Am σ.hk)
 if σ.hk=12/\σ.row.length=0 then .fail 10
 else if σ.nl+σ.nd < σ.row.length+times then .fail 10
 else
  let τ:St:={ σ.rd (Am σ.hk) with row:=σ.row++List.replicate times (hval σ.hk σ.row),st:=13 }
  if τ.row.length=σ.nl+σ.nd then τ.EM else .DF τ
def literal(σ:St)(k:Nat):Act:=
 if k<256 then .DF { σ with lit:=k,st:=15 }
 else if k=256 then σ.endBlock
 else .DF { σ with least:=Tr.Ar 3 (k - 257),bits:=Tr.Ag (k - 257),st:=17 }
def symbol(σ:St)(l:List Int)(f:St->Nat->Act):Act:=
 match EW l σ.held σ.count with
 | .hit k m=>f (σ.rd m) k
 | .more=> .take
 | .none=> .fail 11
def actAt(n:Nat)(σ:St):Act:=
 match n with
 | 0=>σ.Ab 8 (σ.DG (if σ.fmt=1 then 115 else 76) 1)
 | 1=>σ.Ab 8 (σ.DG (if σ.fmt=1 then 1 else 2) 2)
 | 2=>if σ.fmt=2 then σ.Ab 8 (if σ.lim<=σ.Bq then .fail 5 else if 7 < σ.num 8 then .fail 4 else .DF { σ.Au with marks:=σ.num 8,st:=3 }) else .DF { σ with st:=3 }
 | 3=>if σ.marks%2=1 then σ.Ab 8 (σ.text 4) else .DF { σ with st:=4 }
 | 4=>if σ.marks / 2%2=1 then σ.Ab 8 (σ.text 5) else .DF { σ with st:=5 }
 | 5=>if σ.marks / 4=1 then σ.Ab 8 (σ.DG σ.Az 6) else .DF { σ with st:=6 }
 | 6=>σ.Ab 3 σ.kind
 | 7=>σ.Ab 32 (if σ.held / 65536%65536=65535 - σ.num 16 then .DF { σ.rd 32 with left:=σ.num 16,st:=8 } else .fail 9)
 | 8=>if σ.left=0 then σ.endBlock else σ.Ab 8 (.put (σ.num 8) { σ.rd 8 with left:=σ.left - 1,om:=σ.om++[σ.num 8] })
 | 9=>σ.Ab 4 (if 12 < σ.num 4 then .fail 10 else .DF { σ.rd 4 with nl:=257+σ.num 4,st:=10 })
 | 10=>σ.Ab 4 (.DF { σ.rd 4 with nd:=1+σ.num 4,st:=11 })
 | 11=>σ.Ab 4 (if 11 < σ.num 4 then .fail 10 else .DF { σ.rd 4 with told:=4+σ.num 4,st:=12 })
 | 12=>if σ.hl.length < σ.told then σ.Ab 3 (.DF { σ.rd 3 with hl:=σ.hl++[(σ.num 3:Int)] })
   else if sumOf gw (EF σ.hl)=2048 then .DF { σ with hs:=EF σ.hl,st:=13 } else .fail 10
 | 13=>σ.symbol σ.hs (fun τ k=> .DF { τ with hk:=k,st:=14 })
 | 14=>σ.Ab (Am σ.hk) σ.Ek
 | 15=> .put σ.lit { σ with om:=σ.om++[σ.lit],st:=16 }
 | 16=>σ.symbol σ.la (fun τ k=>τ.literal k)
 | 17=>σ.Ab σ.bits (.DF { σ.rd σ.bits with left:=σ.least+σ.num σ.bits,st:=18 })
 | 18=>σ.symbol σ.lb (fun τ k=> .DF { τ with least:=Tr.Ar 1 k,bits:=Tr.Ag k,st:=19 })
 | 19=>σ.Ab σ.bits (if σ.om.length < σ.least+σ.num σ.bits then .fail 11 else .DF { σ.rd σ.bits with Cc:=σ.least+σ.num σ.bits,st:=20 })
 | 20=>if σ.left=0 then .DF { σ with st:=16 } else .put (σ.om.getD (σ.om.length - σ.Cc) 0) { σ with left:=σ.left - 1,om:=σ.om++[σ.om.getD (σ.om.length - σ.Cc) 0] }
 | 21=>if σ.fmt=0 then .DF { σ with st:=22 } else σ.Ab 32 (if (Lb σ.held:Int)=Tr.Qp σ.om then .DF { σ.rd 32 with st:=22 } else .fail 12)
 | 22=>if σ.fmt=2 then σ.Ab 16 (if σ.num 16=σ.om.length%65536 then .DF { σ.rd 16 with st:=23 } else .fail 13) else .DF { σ with st:=23 }
 | _=>σ.Ab 8 (if σ.fmt≠2 then .fail 14 else if σ.mem<=σ.begun then .fail 6 else .DF { σ with st:=0,om:=[],Az:=0,Bq:=0,marks:=0,begun:=σ.begun+1 })
def act(σ:St):Act:=actAt σ.st σ
def en(n:Nat)(σ:St):Prop:=
 match n with
 | 6=>σ.count<11
 | 7=>σ.count%8=0/\σ.count<=32
 | 8=>σ.count%8=0/\σ.count<=8/\(σ.left=0->σ.count=0)
 | 9=>σ.count<12
 | 10=>σ.count<12
 | 11=>σ.count<12
 | 12=>σ.count<11/\(σ.hl.length=σ.told->σ.count<8)
 | 13=>Co σ.hs σ.held σ.count
 | 14=>σ.count<8+Am σ.hk
 | 15=>σ.count<8
 | 16=>Co σ.la σ.held σ.count
 | 17=>σ.count<8+σ.bits
 | 18=>Co σ.lb σ.held σ.count
 | 19=>σ.count<8+σ.bits
 | 20=>σ.count<8
 | 21=>σ.count%8=0/\σ.count<=32/\(σ.fmt=0->σ.count=0)
 | 22=>σ.count%8=0/\σ.count<=16/\(σ.fmt≠2->σ.count=0)
 | _=>σ.count%8=0/\σ.count<=8
def Om(l:List Int):Prop:=sumOf gw l=2048\/single l=true\/sumOf (fun _=>1) l=0
structure Sets(σ:St):Prop where
 ra:Ae σ.la=true
 wa:sumOf gw σ.la=2048
 na:257<=σ.la.length/\σ.la.length<=269
 rb:Ae σ.lb=true
 wb:Om σ.lb
 nb:σ.lb.length<=16
def At(n:Nat)(σ:St):Prop:=
 match n with
 | 0=>σ.om=[]
 | 1=>σ.om=[]
 | 2=>σ.om=[]
 | 3=>σ.om=[]
 | 4=>σ.om=[]
 | 5=>σ.om=[]
 | 8=>σ.left<=65535
 | 10=>257<=σ.nl/\σ.nl<=269
 | 11=>(257<=σ.nl/\σ.nl<=269)/\1<=σ.nd/\σ.nd<=16
 | 12=>(257<=σ.nl/\σ.nl<=269)/\(1<=σ.nd/\σ.nd<=16)/\(4<=σ.told/\σ.told<=15)/\σ.hl.length<=σ.told/\(∀ x∈σ.hl,0<=x/\x<8)/\σ.row=[]
 | 13=>(257<=σ.nl/\σ.nl<=269)/\(1<=σ.nd/\σ.nd<=16)/\(Ae σ.hs=true/\sumOf gw σ.hs=2048/\σ.hs.length=15)/\Ae σ.row=true/\σ.row.length < σ.nl+σ.nd
 | 14=>((257<=σ.nl/\σ.nl<=269)/\(1<=σ.nd/\σ.nd<=16)/\(Ae σ.hs=true/\sumOf gw σ.hs=2048/\σ.hs.length=15)/\Ae σ.row=true/\σ.row.length < σ.nl+σ.nd)/\σ.hk<15
 | 15=>Sets σ/\σ.lit<256
 | 16=>Sets σ
 | 17=>Sets σ/\σ.bits<=4/\3<=σ.least/\σ.least+2^σ.bits<=67
 | 18=>Sets σ/\3<=σ.left/\σ.left<=66
 | 19=>(Sets σ/\3<=σ.left/\σ.left<=66)/\σ.bits<=6/\1<=σ.least/\σ.least+2^σ.bits<=257
 | 20=>(Sets σ/\σ.left<=66)/\1<=σ.Cc/\σ.Cc<=σ.om.length/\σ.Cc<=256
 | _=>True
structure Wf(σ:St):Prop where
 fmt:σ.fmt<3
 st:σ.st<24
 raw:σ.fmt=0->6<=σ.st
 held:σ.held<2^σ.count
 CN:en σ.st σ
 at_:At σ.st σ
 own:σ.st<12\/14 < σ.st->σ.hl=[]/\σ.row=[]
 om:∀ x∈σ.om,x<256
 marks:σ.marks<=7/\(σ.fmt≠2->σ.marks=0)
 Az:σ.Az<256
end St
namespace Tr
def FN(t:Tr):Nat×Tr:=
 let a:=t.Ad
 let b:=a.2.Ad
 let c:=b.2.Ad
 let d:=c.2.Ad
 (a.1+256*b.1,if c.1+256*d.1=65535 - (a.1+256*b.1) then d.2 else d.2.fail 9)
theorem Re(t:Tr):DR t t.FN.2:=
 ((((FJ t).trans (FJ _)).trans (FJ _)).trans (FJ _)).trans (by unfold FN;exact Dd _ _ _)
def FF(nl:Nat)(r:List Int×Tr):CF×CF×Tr:=
 if r.2.ended then (Du,Du,r.2)
 else (Ax (r.1.take nl),Ax (r.1.drop nl),if EA (r.1.take nl) (r.1.drop nl) then r.2.fail 10 else r.2)
theorem Iy(nl:Nat)(r:List Int×Tr):DR r.2 (FF nl r).2.2:=by
 unfold FF;split
 ·exact DR.refl _
 ·exact DV _ _ _
def IE(nl nd:Nat)(h:List Int×Tr):CF×CF×Tr:=
 if (if sumOf gw h.1=2048 then h.2 else h.2.fail 10).ended then (Du,Du,if sumOf gw h.1=2048 then h.2 else h.2.fail 10)
 else FF nl (row (Ax h.1) (nl+nd) [] (if sumOf gw h.1=2048 then h.2 else h.2.fail 10))
theorem VI(nl nd:Nat)(h:List Int×Tr):DR h.2 (IE nl nd h).2.2:=by
 unfold IE;have a:=Dd (sumOf gw h.1=2048) h.2 10;generalize (if sumOf gw h.1=2048 then h.2 else h.2.fail 10)=x at *;by_cases hx:x.ended=true
 ·rw [zC hx];exact a
 ·rw [zA hx];exact a.trans ((Od _ _ _ _).trans (Iy _ _))
theorem aD(r i:Nat)(L:List Int)(t:Tr):DR t (helps r i L t).2:=fun h=>by
 cases r with
 | zero=>rfl
 | succ r=>unfold Tr.helps;rw [zC h]
def MK(nl nd r i:Nat)(L:List Int)(t:Tr):CF×CF×Tr:=IE nl nd (helps r i L t)
theorem Lm(nl nd r i:Nat)(L:List Int)(t:Tr):DR t (MK nl nd r i L t).2.2:=by
 unfold MK;exact (aD r i L t).trans (VI _ _ _)
def ab(nl nd:Nat)(t:Tr):CF×CF×Tr:=
 MK nl nd (4+(t.number 4).1) 0 (List.replicate 15 0) (if 11<(t.number 4).1 then (t.number 4).2.fail 10 else (t.number 4).2)
theorem VK(nl nd:Nat)(t:Tr):DR t (ab nl nd t).2.2:=by
 unfold ab;have h1:=Ff t 4;generalize t.number 4=c at *;have h2:=DV (11<c.1) c.2 10;generalize (if 11<c.1 then c.2.fail 10 else c.2)=x at *;exact h1.trans (h2.trans (Lm _ _ _ _ _ _))
def Xg(nl:Nat)(t:Tr):CF×CF×Tr:=ab nl (1+(t.number 4).1) (t.number 4).2
theorem VJ(nl:Nat)(t:Tr):DR t (Xg nl t).2.2:=by
 unfold Xg;exact (Ff t 4).trans (VK _ _ _)
def lF(t:Tr):CF×CF×Tr:=Xg (257+(t.number 4).1) (if 12<(t.number 4).1 then (t.number 4).2.fail 10 else (t.number 4).2)
theorem de(t:Tr):t.own=lF t:=by
 unfold own lF Xg ab MK IE FF ownRow DW CP;simp only;simp only [AN,Nat.add_comm 1];congr
def Ow(H:CF)(n k:Nat)(l:List Int)(t:Tr):List Int×Tr:=
 row H n (if (JH n l.length (Bu t k l)).ended then l else l++List.replicate (Bu t k l).2.1 (Bu t k l).1) (JH n l.length (Bu t k l))
def Nl(n least bits:Nat)(t:Tr):Tr:=
 DC (least+(t.number bits).1) n (if (t.number bits).2.out.length - (t.number bits).2.CY<least+(t.number bits).1 then (t.number bits).2.fail 11 else (t.number bits).2)
def Pl(b:CF)(n:Nat)(t:Tr):Tr:=
 if ((if b.many=0 then t.fail 11 else t).symbol b).1<0 then ((if b.many=0 then t.fail 11 else t).symbol b).2.fail 11
 else Nl n (Ar 1 ((if b.many=0 then t.fail 11 else t).symbol b).1.toNat) (Ag ((if b.many=0 then t.fail 11 else t).symbol b).1.toNat) ((if b.many=0 then t.fail 11 else t).symbol b).2
def Hj(b:CF)(least bits:Nat)(t:Tr):Tr:=Pl b (least+(t.number bits).1) (t.number bits).2
theorem TU(t:Tr)(b:CF)(k:Nat):t.Dh b k=Hj b (Ar 3 k) (Ag k) t:=rfl
theorem Rs(n least bits:Nat)(t:Tr):DR t (Nl n least bits t):=by
 unfold Nl;exact (Ff t bits).trans ((DV _ _ _).trans (Mz _ _ _))
theorem aC(b:CF)(n:Nat)(t:Tr):DR t (Pl b n t):=by
 refine (DV (b.many=0) t 11).trans ((Py _ b).trans ?_);unfold Pl;generalize (if b.many=0 then t.fail 11 else t)=x;split
 ·exact GB _ _
 ·exact Rs _ _ _ _
theorem XL(t:Tr)(k:Int)(l:List Int):DR t (Bu t k l).2.2:=by
 unfold Bu;split
 ·split
  ·exact (Ff t 2).trans (GB _ _)
  ·exact Ff t 2
 ·split
  ·exact Ff t 3
  ·split
   ·exact Ff t 6
   ·exact DR.refl t
theorem VL(n len:Nat)(h:Int×Nat×Tr):DR h.2.2 (JH n len h):=by unfold JH;exact DV _ _ _
theorem DR.ite{c:Prop}[Decidable c](d:DR t a)(e:DR t b):DR t (if c then a else b):=by
 split
 ·exact d
 ·exact e
theorem Kr(t:Tr)(m:Nat):DR t (t.marked m):=by
 unfold marked;dsimp only
 exact (DV (7<m) t 4).trans ((DR.ite (c:=m%2=1) (Lp _) (DR.refl _)).trans ((DR.ite (c:=m / 2%2=1) (Lp _) (DR.refl _)).trans (DR.ite (c:=m / 4=1) (Ta _ _) (DR.refl _))))
theorem DR.Tl{o:Ob}(h:DR a b)(ho:DJ a=o)(he:a.ended=true):DJ b=o:=(h he).trans ho
end Tr
namespace St
def fin(σ:St)(t:Tr):Tr:=if σ.fmt=0 then t.DP else if σ.fmt=1 then t.sum.DP else Tr.Hm σ.mem t.sum.sized
def after(σ:St)(t:Tr):Tr:=σ.fin (if σ.last then (if t.ended then t else t.skip) else Tr.Bz t)
def cont(σ:St)(x:CF×CF×Tr):Tr:=σ.after (Tr.content x.1 x.2.1 x.2.2)
def Wr(σ:St)(t:Tr):Tr:=σ.cont (Ax σ.la,Ax σ.lb,t)
def k6(σ:St)(t:Tr):Tr:=σ.fin t.blocks
def k5(σ:St)(t:Tr):Tr:=σ.k6 (if σ.marks / 4=1 then t.Ea t.head else t)
def k4(σ:St)(t:Tr):Tr:=σ.k5 (if σ.marks / 2%2=1 then t.text else t)
def k3(σ:St)(t:Tr):Tr:=σ.k4 (if σ.marks%2=1 then t.text else t)
def k2(σ:St)(t:Tr):Tr:=if σ.fmt=2 then σ.k6 (t.Au.2.marked t.Au.1) else σ.k6 t
def Kat(n:Nat)(σ:St)(t:Tr):Tr:=
 match n with
 | 0=>σ.k2 ((t.Ea (if σ.fmt=1 then 115 else 76)).Ea (if σ.fmt=1 then 1 else 2))
 | 1=>σ.k2 (t.Ea (if σ.fmt=1 then 1 else 2))
 | 2=>σ.k2 t
 | 3=>σ.k3 t
 | 4=>σ.k4 t
 | 5=>σ.k5 t
 | 6=>σ.fin (Tr.Bz t)
 | 7=>σ.after (Tr.bytes t.FN.1 t.FN.2)
 | 8=>σ.after (Tr.bytes σ.left t)
 | 9=>σ.cont (Tr.lF t)
 | 10=>σ.cont (Tr.Xg σ.nl t)
 | 11=>σ.cont (Tr.ab σ.nl σ.nd t)
 | 12=>σ.cont (Tr.MK σ.nl σ.nd (σ.told - σ.hl.length) σ.hl.length (EF σ.hl) t)
 | 13=>σ.cont (Tr.FF σ.nl (Tr.row (Ax σ.hs) (σ.nl+σ.nd) σ.row t))
 | 14=>σ.cont (Tr.FF σ.nl (Tr.Ow (Ax σ.hs) (σ.nl+σ.nd) σ.hk σ.row t))
 | 15=>σ.Wr (t.put σ.lit)
 | 16=>σ.Wr t
 | 17=>σ.Wr (Tr.Hj (Ax σ.lb) σ.least σ.bits t)
 | 18=>σ.Wr (Tr.Pl (Ax σ.lb) σ.left t)
 | 19=>σ.Wr (Tr.Nl σ.left σ.least σ.bits t)
 | 20=>σ.Wr (Tr.DC σ.Cc σ.left t)
 | 21=>σ.fin t
 | 22=>if σ.fmt=2 then Tr.Hm σ.mem t.sized else t.DP
 | _=>if σ.fmt=2 then Tr.Hm σ.mem t else t.DP
def K(σ:St)(t:Tr):Tr:=Kat σ.st σ t
theorem Oc(σ:St)(t:Tr):Tr.DR t (σ.fin t):=by
 unfold fin;split
 ·exact Tr.NA t
 ·split
  ·exact (Tr.Yq t).trans (Tr.NA _)
  ·exact ((Tr.Yq t).trans (Tr.Ru _)).trans (Tr.Px _ _)
theorem GS(σ:St)(t:Tr):Tr.DR t (σ.after t):=by
 unfold after;exact (Tr.DR.ite (c:=σ.last=true) (Tr.DR.ite (c:=t.ended=true) (Tr.DR.refl t) (Tr.cU t)) (Tr.Pv t)).trans (Oc σ _)
theorem Ee(σ:St)(x:CF×CF×Tr):Tr.DR x.2.2 (σ.cont x):=(Tr.VH _ _ _).trans (GS σ _)
theorem KK(σ:St)(t:Tr):Tr.DR t (σ.Wr t):=Ee σ (Ax σ.la,Ax σ.lb,t)
theorem Jh(σ:St)(t:Tr):Tr.DR t (σ.k6 t):=(Tr.XK t).trans (Oc σ _)
theorem cR(σ:St)(t:Tr):Tr.DR t (σ.k5 t):=(Tr.DR.ite (c:=σ.marks / 4=1) (Tr.Ta t _) (Tr.DR.refl t)).trans (Jh σ _)
theorem ij(σ:St)(t:Tr):Tr.DR t (σ.k4 t):=(Tr.DR.ite (c:=σ.marks / 2%2=1) (Tr.Lp t) (Tr.DR.refl t)).trans (cR σ _)
theorem cQ(σ:St)(t:Tr):Tr.DR t (σ.k2 t):=by
 unfold k2;split
 ·exact ((Tr.Rt t).trans (Tr.Kr _ _)).trans (Jh σ _)
 ·exact Jh σ t
structure Rel(σ:St)(t:Tr):Prop where
 going:t.ended=false
 hand:Tr.Hand t σ.held σ.count
 lim:t.Ai=σ.lim
 CU:Tr.Ao t
 om:6<=σ.st->t.out.drop t.CY=σ.om
 head:σ.st<6->t.head=σ.Az/\t.many=σ.Bq
 begun:σ.fmt=2->t.Aa.length=σ.begun
 bytes:Bp t
def SimA(A:Act)(σ:St)(t:Tr):Prop:=
 match A with
 | .take=>t.Aw+σ.count / 8=t.s.size->Tr.DJ (σ.K t)=⟨t.out,t.Br,t.s.size,t.Aa,0,decide (σ.st<23)⟩
 | .put b σ'=>∃ t',Rel σ' t'/\σ'.K t'=σ.K t/\t'.out=t.out++[b]/\t'.Br=t.Br++[t.Aw+σ.count / 8]/\t'.Aw+σ'.count / 8=t.Aw+σ.count / 8/\t'.Aa=t.Aa/\t'.s=t.s
 | .DF σ'=>∃ t',Rel σ' t'/\σ'.K t'=σ.K t/\t'.out=t.out/\t'.Br=t.Br/\t'.Aw+σ'.count / 8=t.Aw+σ.count / 8/\t'.Aa=(if σ.st=23 then t.Aa++[t.Aw] else t.Aa)/\t'.s=t.s
 | .fail e=>Tr.DJ (σ.K t)=⟨t.out,t.Br,t.Aw+σ.count / 8,t.Aa,e,false⟩
def GK(σ:St)(t:Tr):Prop:=SimA σ.act σ t
end St
namespace Tr
structure PO(t t':Tr):Prop where
 out:t'.out=t.out
 Br:t'.Br=t.Br
 Aa:t'.Aa=t.Aa
 s:t'.s=t.s
 CY:t'.CY=t.CY
 Ai:t'.Ai=t.Ai
 ended:t'.ended=t.ended
theorem PO.refl(t:Tr):PO t t:=⟨rfl,rfl,rfl,rfl,rfl,rfl,rfl⟩
theorem Rd.Dx(h:Rd a b):PO a b:=by
 unfold Rd at h;rw [h];exact ⟨rfl,rfl,rfl,rfl,rfl,rfl,rfl⟩
theorem Rd.head(h:Rd a b):b.head=a.head/\b.many=a.many:=by
 unfold Rd at h;rw [h];exact ⟨rfl,rfl⟩
theorem Cj(h:t.ended=false)(e:Nat):DJ (t.fail e)=⟨t.out,t.Br,t.Aw,t.Aa,e,false⟩:=by
 rw [GR h];have:=((KG t).1 h).2;unfold DJ;simp only;rw [this]
theorem PO.Cj(h:PO a b)(c:a.ended=false)(e:Nat):DJ (b.fail e)=⟨a.out,a.Br,b.Aw,a.Aa,e,false⟩:=by
 rw [Tr.Cj (by rw [h.ended];exact c),h.out,h.Br,h.Aa]
theorem gL{a:List Nat}{s:List Nat}{n:Bool}(h:DJ t=⟨o,a,i,s,e,n⟩)(he:e≠0\/n=true):t.ended=true:=by
 unfold DJ at h;injection h with h1 h2 h3 h4 h5 h6
 unfold Tr.ended;rw [h5,h6];rcases he with he | he
 ·simp [he]
 ·simp [he]
theorem DR.Fu{t:List Nat}{s:List Nat}{n:Bool}(h:DR a b)(ho:DJ a=⟨o,t,i,s,e,n⟩)(he:e≠0\/n=true):DJ b=⟨o,t,i,s,e,n⟩:=(h (gL ho he)).trans ho
end Tr
namespace St
theorem Rel.Dx{σ σ':St}(R:Rel σ t)(N:Tr.PO t t')(F:Tr.Ao t')(H:Tr.Hand t' σ'.held σ'.count)(hl:σ'.lim=σ.lim)(ho:6<=σ'.st->t.out.drop t.CY=σ'.om)(b:σ'.st<6->t'.head=σ'.Az/\t'.many=σ'.Bq)(a:σ'.fmt=2->t.Aa.length=σ'.begun):Rel σ' t':=⟨N.ended.trans R.going,H,N.Ai.trans (R.lim.trans hl.symm),F,fun h=>by rw [N.out,N.CY];exact ho h,b,fun h=>by rw [N.Aa];exact a h,by unfold Bp;rw [N.out];exact R.bytes⟩
structure OV(σ:St)(t x:Tr):Prop where
 Dx:Tr.PO t x
 CU:Tr.Ao x
 hand:Tr.Hand x σ.Au.held σ.Au.count
 head:x.head=σ.Au.Az/\x.many=σ.Au.Bq
 Aw:x.Aw+σ.Au.count / 8=t.Aw+σ.count / 8
theorem Mv{σ:St}(R:Rel σ t)(hc:σ.count=0)(hs:t.Aw=t.s.size):Tr.DJ t.Au.2=t.RW/\t.Au.1=0:=by
 have H:=R.hand;rw [hc] at H;have h1:=H.NS R.going hs;exact ⟨(Tr.Nn _ _).Tl h1 (Tr.Fp h1),by show t.Ad.1=0;rw [Tr.Eb R.going zO]⟩
theorem Kq{σ:St}(R:Rel σ t)(a:σ.st<6)(hc:σ.count=8)(hl:σ.lim<=σ.Bq):Tr.DJ t.Au.2=⟨t.out,t.Br,t.Aw+σ.count / 8,t.Aa,5,false⟩:=by
 obtain ⟨h1,h2,h3,h4⟩:=R.hand.Ad R.going zO zO;have N:=h3.Dx;show Tr.DJ (t.Ad.2.Dq t.Ad.1)=_;have e:Tr.DJ (t.Ad.2.Dq t.Ad.1)=Tr.DJ (if t.Ad.2.Ai<=t.Ad.2.many then t.Ad.2.fail 5 else t.Ad.2):=rfl;rw [e,zC (by rw [N.Ai,h3.head.2,R.lim,(R.head a).2];exact hl),N.Cj R.going,<- h4,hc];rfl
theorem Li{σ:St}(R:Rel σ t)(a:σ.st<6)(hc:σ.count=8)(hl:¬ σ.lim<=σ.Bq):t.Au.1=σ.num 8/\OV σ t t.Au.2:=by
 obtain ⟨h1,h2,h3,h4⟩:=R.hand.Ad R.going zO zO;have N:=h3.Dx;refine ⟨h1,?_⟩;have e:t.Au.2={ t.Ad.2 with many:=t.Ad.2.many+1,head:=(t.Ad.2.head+t.Ad.1)%256 }:=by
  show t.Ad.2.Dq t.Ad.1=_;unfold Tr.Dq;rw [zA (by rw [N.Ai,h3.head.2,R.lim,(R.head a).2];exact hl)]
 rw [e];refine ⟨⟨N.out,N.Br,N.Aa,N.s,N.CY,N.Ai,N.ended⟩,?_,?_,?_,h4⟩
 ·have f:=R.CU.Ad;exact ⟨f.left,f.cur,f.Aw,f.CY,f.Br,f.err⟩
 ·exact ⟨h2.left,h2.cur,h2.Aw,h2.val⟩
 ·refine ⟨?_,?_⟩
  ·show (t.Ad.2.head+t.Ad.1)%256=_;rw [h3.head.1,(R.head a).1,h1];rfl
  ·show t.Ad.2.many+1=_;rw [h3.head.2,(R.head a).2];rfl
theorem Yw{σ:St}(R:Rel σ t)(hc:σ.count=0)(hs:t.Aw=t.s.size)(w:Nat):Tr.DJ (t.Ea w)=t.RW:=by
 have h1:=(Mv R hc hs).1;unfold Tr.Ea;split
 ·exact h1
 ·exact (Tr.GB _ _).Tl h1 (Tr.Fp h1)
theorem Vd{σ:St}(R:Rel σ t)(a:σ.st<6)(hc:σ.count=8)(hl:σ.lim<=σ.Bq)(w:Nat):Tr.DJ (t.Ea w)=⟨t.out,t.Br,t.Aw+σ.count / 8,t.Aa,5,false⟩:=by
 have h1:=Kq R a hc hl;unfold Tr.Ea;split
 ·exact h1
 ·exact (Tr.GB _ _).Fu h1 (Or.inl zD)
theorem cy{σ:St}(R:Rel σ t)(a:σ.st<6)(hc:σ.count=8)(hl:¬ σ.lim<=σ.Bq){w:Nat}(hw:σ.num 8≠w):Tr.DJ (t.Ea w)=⟨t.out,t.Br,t.Aw+σ.count / 8,t.Aa,4,false⟩:=by
 obtain ⟨h1,h2⟩:=Li R a hc hl;unfold Tr.Ea;rw [zA (by rw [h1];exact hw),h2.Dx.Cj R.going,<- h2.Aw];have:σ.Au.count=σ.count - 8:=rfl;rw [this,hc];rfl
theorem cz{σ:St}(R:Rel σ t)(a:σ.st<6)(hc:σ.count=8)(hl:¬ σ.lim<=σ.Bq){w:Nat}(hw:σ.num 8=w):OV σ t (t.Ea w):=by
 obtain ⟨h1,h2⟩:=Li R a hc hl;unfold Tr.Ea;rw [zC (by rw [h1];exact hw)];exact h2
theorem eS{σ:St}(R:Rel σ t)(hc:σ.count=0)(hs:t.Aw=t.s.size):Tr.DJ t.text=t.RW:=by
 obtain ⟨h1,h2⟩:=Mv R hc hs;rw [Tr.Is R.going h2];exact h1
theorem bH{σ:St}(R:Rel σ t)(a:σ.st<6)(hc:σ.count=8)(hl:σ.lim<=σ.Bq):Tr.DJ t.text=⟨t.out,t.Br,t.Aw+σ.count / 8,t.Aa,5,false⟩:=by
 have h1:=Kq R a hc hl;by_cases h0:t.Au.1=0
 ·rw [Tr.Is R.going h0];exact h1
 ·rw [Tr.KR R.going h0];exact (Tr.Lp _).Fu h1 (Or.inl zD)
theorem DU{σ:St}(b:Tr.DR x (σ.K t))(hx:Tr.DJ x=t.RW)(a:σ.st<23):Tr.DJ (σ.K t)=⟨t.out,t.Br,t.s.size,t.Aa,0,decide (σ.st<23)⟩:=by
 rw [b.Tl hx (Tr.Fp hx)];unfold Tr.RW;rw [vZ a]
theorem Fg{σ:St}(hc:σ.count%8=0/\σ.count<=8):σ.count=0\/σ.count=8:=zO
theorem OV.rel{σ σ':St}(C:OV σ t x)(R:Rel σ t)(a:σ'.st<6)(h1:σ'.held=σ.Au.held)(h2:σ'.count=σ.Au.count)(h3:σ'.lim=σ.lim)(h4:σ'.Az=σ.Au.Az)(h5:σ'.Bq=σ.Au.Bq)(h6:σ'.fmt=σ.fmt)(b:σ'.begun=σ.begun):Rel σ' x:=
 R.Dx C.Dx C.CU (by rw [h1,h2];exact C.hand) h3 (fun h=>zO) (fun _=>by rw [h4,h5];exact C.head) (fun h=>by rw [b];exact R.begun (h6 ▸ h))
theorem Si{σ:St}(R:Rel σ t)(a:σ.st<6)(hc:σ.count%8=0/\σ.count<=8)(w nx:Nat)(d:nx<6)(f:σ.act=σ.Ab 8 (σ.DG w nx))(F:Tr->Tr)(hF:∀ x,Tr.DR x (F x))(b:σ.K t=F (t.Ea w))(g:∀ x,({ σ.Au with st:=nx }:St).K x=F x):GK σ t:=by
 unfold GK SimA;rw [f];unfold Ab;rcases Fg hc with e | c
 ·rw [zC zO];intro hs;exact DU (x:=t.Ea w) (by rw [b];exact hF _) (Yw R e (by rw [<- hs,e];rfl) w) zO
 ·rw [zA zO];unfold DG;by_cases hl:σ.lim<=σ.Bq
  ·rw [zC hl];show Tr.DJ (σ.K t)=_;rw [b];exact (hF _).Fu (Vd R a c hl w) (Or.inl zD)
  ·rw [zA hl];by_cases hw:σ.num 8=w
   ·rw [zC hw];have C:=cz R a c hl hw;have N:=C.Dx;exact ⟨t.Ea w,C.rel R d rfl rfl rfl rfl rfl rfl rfl,by rw [g,b],N.out,N.Br,C.Aw,by rw [zA zO];exact N.Aa,N.s⟩
   ·rw [zA hw];show Tr.DJ (σ.K t)=_;rw [b];exact (hF _).Fu (cy R a c hl hw) (Or.inl zD)
theorem Af{σ:St}(h:σ.st=n):σ.act=actAt n σ:=by unfold act;rw [h]
theorem Em{σ:St}(h:σ.st=n)(t:Tr):σ.K t=Kat n σ t:=by unfold K;rw [h]
theorem mw{σ:St}(R:Rel σ t)(a:σ.st=0)(hc:σ.count%8=0/\σ.count<=8):GK σ t:=
 Si R zO hc (if σ.fmt=1 then 115 else 76) 1 zD (Af a) (fun x=>σ.k2 (x.Ea (if σ.fmt=1 then 1 else 2))) (fun x=>(Tr.Ta x _).trans (cQ σ _)) (Em a t) (fun x=>rfl)
theorem mx{σ:St}(R:Rel σ t)(a:σ.st=1)(hc:σ.count%8=0/\σ.count<=8):GK σ t:=
 Si R zO hc (if σ.fmt=1 then 1 else 2) 2 zD (Af a) (fun x=>σ.k2 x) (fun x=>cQ σ x) (Em a t) (fun x=>rfl)
theorem Qk{σ:St}(R:Rel σ t)(a:σ.st<6)(nx:Nat)(d:nx<6)(c:σ.act= .DF { σ with st:=nx })(b:σ.K t=({ σ with st:=nx }:St).K t):GK σ t:=by
 unfold GK SimA;rw [c];exact ⟨t,⟨R.going,R.hand,R.lim,R.CU,fun h=>by have:6<=nx:=h;omega,fun _=>R.head a,R.begun,R.bytes⟩,b.symm,rfl,rfl,rfl,by rw [zA zO],rfl⟩
theorem XZ(hm:¬ 7<m)(σ:St):σ.k6 (t.marked m)=({ σ with marks:=m }:St).k3 t:=by
 unfold k3 k4 k5 Tr.marked;simp only [zA hm];rfl
theorem my{σ:St}(R:Rel σ t)(b:σ.st=2)(hc:σ.count%8=0/\σ.count<=8)(hm:σ.fmt≠2->σ.marks=0):GK σ t:=by
 by_cases c:σ.fmt=2
 ·have h:σ.act=σ.Ab 8 (if σ.lim<=σ.Bq then .fail 5 else if 7 < σ.num 8 then .fail 4 else .DF { σ.Au with marks:=σ.num 8,st:=3 }):=by
   rw [Af b];exact zC c
  have f:σ.K t=σ.k6 (t.Au.2.marked t.Au.1):=by rw [Em b];exact zC c
  have j:Tr.DR t.Au.2 (σ.k6 (t.Au.2.marked t.Au.1)):=(Tr.Kr _ _).trans (Jh σ _);unfold GK SimA;rw [h];unfold Ab;rcases Fg hc with i | g
  ·rw [zC zO];intro hs;exact DU (x:=t.Au.2) (by rw [f];exact j) (Mv R i (by rw [<- hs,i];rfl)).1 zO
  ·rw [zA zO];by_cases hl:σ.lim<=σ.Bq
   ·rw [zC hl];show Tr.DJ (σ.K t)=_;rw [f];exact j.Fu (Kq R zO g hl) (Or.inl zD)
   ·rw [zA hl];obtain ⟨h1,C⟩:=Li R zO g hl;by_cases d:7 < σ.num 8
    ·rw [zC d];show Tr.DJ (σ.K t)=_;have e:t.Au.2.marked t.Au.1=(t.Au.2.fail 4).marked t.Au.1:=by
      unfold Tr.marked;simp only [h1,zC d];rw [Tr.EZ (Tr.Cz _ zD)]
     rw [f,e];refine ((Tr.Kr _ _).trans (Jh σ _)).Fu (a:=t.Au.2.fail 4) ?_ (Or.inl zD);rw [C.Dx.Cj R.going,<- C.Aw];have:σ.Au.count=σ.count - 8:=rfl;rw [this,g];rfl
    ·rw [zA d];have N:=C.Dx;refine ⟨t.Au.2,C.rel R (by show 3<6;omega) rfl rfl rfl rfl rfl rfl rfl,?_,N.out,N.Br,C.Aw,by rw [zA zO];exact N.Aa,N.s⟩;rw [f,h1,XZ d];rfl
 ·have h:σ.act= .DF { σ with st:=3 }:=by rw [Af b];exact zA c
  refine Qk R zO 3 zD h ?_;rw [Em b];show σ.k2 t=σ.k3 t;unfold k2 k3 k4 k5;rw [zA c,hm c];rfl
theorem WL{σ:St}(R:Rel σ t)(a:σ.st<6)(hc:σ.count%8=0/\σ.count<=8)(nx:Nat)(c:nx<6)(f:σ.act=σ.Ab 8 (σ.text nx))(F:Tr->Tr)(hF:∀ x,Tr.DR x (F x))(b:σ.K t=F t.text)(hs:∀ x,({ σ.Au with st:=σ.st }:St).K x=F x.text)(g:∀ x,({ σ.Au with st:=nx }:St).K x=F x):GK σ t:=by
 unfold GK SimA;rw [f];unfold Ab;rcases Fg hc with d | e
 ·rw [zC zO];intro hs;exact DU (x:=t.text) (by rw [b];exact hF _) (eS R d (by rw [<- hs,d];rfl)) zO
 ·rw [zA zO];unfold text;by_cases hl:σ.lim<=σ.Bq
  ·rw [zC hl];show Tr.DJ (σ.K t)=_;rw [b];exact (hF _).Fu (bH R a e hl) (Or.inl zD)
  ·rw [zA hl];obtain ⟨h1,C⟩:=Li R a e hl;have N:=C.Dx;by_cases hw:σ.num 8=0
   ·rw [zC hw];exact ⟨t.Au.2,C.rel R c rfl rfl rfl rfl rfl rfl rfl,by rw [g,b,Tr.Is R.going (by rw [h1];exact hw)],N.out,N.Br,C.Aw,by rw [zA zO];exact N.Aa,N.s⟩
   ·rw [zA hw];exact ⟨t.Au.2,C.rel R a rfl rfl rfl rfl rfl rfl rfl,by rw [hs,b,Tr.KR R.going (by rw [h1];exact hw)],N.out,N.Br,C.Aw,by rw [zA zO];exact N.Aa,N.s⟩
theorem mz{σ:St}(R:Rel σ t)(a:σ.st=3)(hc:σ.count%8=0/\σ.count<=8):GK σ t:=by
 by_cases h:σ.marks%2=1
 ·refine WL R zO hc 4 zD (by rw [Af a];exact zC h) σ.k4 (ij σ) ?_ ?_ (fun x=>rfl)
  ·rw [Em a];show σ.k3 t=_;unfold k3;rw [zC h]
  ·intro x;refine (Em (σ:={ σ.Au with st:=σ.st }) (n:=3) a x).trans ?_;show ({ σ.Au with st:=σ.st }:St).k3 x=_;unfold k3;rw [zC (show ({ σ.Au with st:=σ.st }:St).marks%2=1 from h)];rfl
 ·refine Qk R zO 4 zD (by rw [Af a];exact zA h) ?_;rw [Em a];show σ.k3 t=σ.k4 t;unfold k3;rw [zA h]
theorem nA{σ:St}(R:Rel σ t)(a:σ.st=4)(hc:σ.count%8=0/\σ.count<=8):GK σ t:=by
 by_cases h:σ.marks / 2%2=1
 ·refine WL R zO hc 5 zD (by rw [Af a];exact zC h) σ.k5 (cR σ) ?_ ?_ (fun x=>rfl)
  ·rw [Em a];show σ.k4 t=_;unfold k4;rw [zC h]
  ·intro x;refine (Em (σ:={ σ.Au with st:=σ.st }) (n:=4) a x).trans ?_;show ({ σ.Au with st:=σ.st }:St).k4 x=_;unfold k4;rw [zC (show ({ σ.Au with st:=σ.st }:St).marks / 2%2=1 from h)];rfl
 ·refine Qk R zO 5 zD (by rw [Af a];exact zA h) ?_;rw [Em a];show σ.k4 t=σ.k5 t;unfold k4;rw [zA h]
theorem Rel.blocks{σ σ':St}(R:Rel σ t)(N:Tr.PO t x)(F:Tr.Ao x)(H:Tr.Hand x σ'.held σ'.count)(d:σ'.count%8=0)(c:σ'.st=6)(hl:σ'.lim=σ.lim)(ho:σ'.om=[])(b:σ'.fmt=σ.fmt)(a:σ'.begun=σ.begun):Rel σ' { x with CY:=x.out.length,left:=0 }:=by
 refine ⟨N.ended.trans R.going,⟨?_,H.cur,H.Aw,H.val⟩,N.Ai.trans (R.lim.trans hl.symm),⟨zH _,F.cur,F.Aw,zE _,F.Br,F.err⟩,fun _=>?_,fun h=>zO,fun h=>by rw [a];exact N.Aa ▸ R.begun (b ▸ h),?_⟩
 ·show 0=_;omega
 ·show x.out.drop x.out.length=_;rw [ho];simp
 ·unfold Bp;show ∀ y∈x.out,y<256;rw [N.out];exact R.bytes
theorem nB{σ:St}(R:Rel σ t)(a:σ.st=5)(hc:σ.count%8=0/\σ.count<=8)(ho:σ.om=[]):GK σ t:=by
 by_cases h:σ.marks / 4=1
 ·have d:σ.act=σ.Ab 8 (σ.DG σ.Az 6):=by rw [Af a];exact zC h
  have b:σ.K t=σ.k6 (t.Ea σ.Az):=by rw [Em a];show σ.k5 t=_;unfold k5;rw [zC h,(R.head zO).1]
  unfold GK SimA;rw [d];unfold Ab;rcases Fg hc with e | c
  ·rw [zC zO];intro hs;exact DU (x:=t.Ea σ.Az) (by rw [b];exact Jh σ _) (Yw R e (by rw [<- hs,e];rfl) _) zO
  ·rw [zA zO];unfold DG;by_cases hl:σ.lim<=σ.Bq
   ·rw [zC hl];show Tr.DJ (σ.K t)=_;rw [b];exact (Jh σ _).Fu (Vd R zO c hl _) (Or.inl zD)
   ·rw [zA hl];by_cases hw:σ.num 8=σ.Az
    ·rw [zC hw];have C:=cz R zO c hl hw;have N:=C.Dx;refine ⟨{ t.Ea σ.Az with CY:=(t.Ea σ.Az).out.length,left:=0 },R.blocks N C.CU C.hand (by show (σ.count - 8)%8=0;omega) rfl rfl ho rfl rfl,?_,N.out,N.Br,C.Aw,by rw [zA zO];exact N.Aa,N.s⟩;rw [b];rfl
    ·rw [zA hw];show Tr.DJ (σ.K t)=_;rw [b];exact (Jh σ _).Fu (cy R zO c hl hw) (Or.inl zD)
 ·have d:σ.act= .DF { σ with st:=6 }:=by rw [Af a];exact zA h
  unfold GK SimA;rw [d];refine ⟨{ t with CY:=t.out.length,left:=0 },R.blocks (Tr.PO.refl t) R.CU R.hand hc.1 rfl rfl ho rfl rfl,?_,rfl,rfl,rfl,by rw [zA zO],rfl⟩;rw [Em a];show _=σ.k5 t;unfold k5;rw [zA h];rfl
end St
namespace Tr
def octN:Nat->Tr->Tr
 | 0,t=>t
 | k+1,t=>(octN k t).Ad.2
theorem Hand.octN(H:Hand t h c)(f:t.ended=false)(h0:c%8=0)(k:Nat)(hk:8*k<=c):Hand (Tr.octN k t) (h / 256^k) (c - 8*k)/\Rd t (Tr.octN k t)/\(Tr.octN k t).Aw+(c - 8*k) / 8=t.Aw+c / 8:=by
 induction k with
 | zero=>exact ⟨by simpa [Tr.octN] using H,Rd.refl t,by simp [Tr.octN]⟩
 | succ k ih=>
  obtain ⟨a,b,e⟩:=ih zO;obtain ⟨h1,h2,h3,h4⟩:=a.Ad (by rw [b.ended];exact f) zO zO;refine ⟨?_,b.trans h3,?_⟩
  ·have d:h / 256^(k+1)=h / 256^k / 256:=by rw [yN,kD]
   rw [d,show c - 8*(k+1)=c - 8*k - 8 by omega];exact h2
  ·rw [show c - 8*(k+1)=c - 8*k - 8 by omega];show (Tr.octN k t).Ad.2.Aw+_=_;omega
theorem Hand.Rj(H:Hand t h c)(d:t.ended=false)(h0:c%8=0)(k:Nat)(hk:8*(k+1)<=c):(Tr.octN k t).Ad.1=h / 256^k%256:=by
 obtain ⟨a,b,e⟩:=H.octN d h0 k zO;exact (a.Ad (by rw [b.ended];exact d) zO zO).1
theorem cT(k:Nat)(t:Tr):DR t (octN k t):=by
 induction k with
 | zero=>exact DR.refl t
 | succ k ih=>exact ih.trans (FJ _)
theorem dZ(k j:Nat)(t:Tr):octN (k+j) t=octN j (octN k t):=by
 induction j with
 | zero=>rfl
 | succ j ih=>show (octN (k+j) t).Ad.2=_;rw [ih];rfl
theorem Hand.QR(H:Hand t h c)(f:t.ended=false)(h0:c%8=0)(hs:t.Aw+c / 8=t.s.size)(k:Nat)(hk:c<8*k):DJ (Tr.octN k t)=RW t:=by
 obtain ⟨a,b,e⟩:=H.octN f h0 (c / 8) zO;rw [show c - 8*(c / 8)=0 by omega] at a e;have d:=b.Dx.s;have h1:=a.NS (by rw [b.ended];exact f) (by rw [d];omega);rw [show k=(c / 8+1)+(k - (c / 8+1)) by omega,dZ];have h2:DJ (Tr.octN (c / 8+1) t)=RW t:=by
  show DJ (Tr.octN (c / 8) t).Ad.2=_;rw [h1];unfold RW;rw [b.Dx.out,b.Dx.Br,b.Dx.s,b.Dx.Aa]
 exact (cT _ _).Tl h2 (Fp h2)
theorem Ia(t:Tr)(k:Nat):(t.four k).2=octN k t:=by
 induction k with
 | zero=>rfl
 | succ k ih=>show (t.four k).2.Ad.2=_;rw [ih];rfl
theorem cM(t:Tr):(t.four 4).1=256*(256*(256*t.Ad.1+(octN 1 t).Ad.1)+(octN 2 t).Ad.1)+(octN 3 t).Ad.1:=by
 show 256*(256*(256*(256*0+(t.four 0).2.Ad.1)+(t.four 1).2.Ad.1)+(t.four 2).2.Ad.1)+(t.four 3).2.Ad.1=_;rw [Ia,Ia,Ia,Ia];show 256*(256*(256*(256*0+t.Ad.1)+_)+_)+_=_;omega
theorem Hand.four(H:Hand t h c)(a:t.ended=false)(h0:c=32):(t.four 4).1=Lb h:=by
 rw [cM];have a0:=H.Rj a zO 0 zO;have b:=H.Rj a zO 1 zO;have a2:=H.Rj a zO 2 zO;have a3:=H.Rj a zO 3 zO;have d:(Tr.octN 0 t).Ad.1=t.Ad.1:=rfl;rw [d] at a0;rw [a0,b,a2,a3];unfold Lb;simp
theorem ZT(H:Hand t h c)(hc:c<8)(h0:h=0):t.skip={ t with left:=0 }/\Hand { t with left:=0 } 0 0:=by
 have e:c / 8=0:=zO;have b:c%8=c:=zO;have hv:=H.val;rw [e,b] at hv;have h1:le t.s t.Aw 0=0:=rfl;rw [h1,Nat.mul_zero] at hv;have a:t.cur=0:=zO;refine ⟨?_,⟨rfl,by show t.cur<1;omega,by have:=H.Aw;show t.Aw+0<=t.s.size;omega,?_⟩⟩
 ·unfold skip;rw [zA (by rw [a];simp)]
 ·show 0=t.cur+2^0*0;omega
theorem WN(H:Hand t h c)(f:t.ended=false)(hc:c<8)(h0:h≠0):DJ t.skip=⟨t.out,t.Br,t.Aw,t.Aa,8,false⟩:=by
 have e:c / 8=0:=zO;have d:c%8=c:=zO;have hv:=H.val;rw [e,d] at hv;have h1:le t.s t.Aw 0=0:=rfl;rw [h1,Nat.mul_zero] at hv;have b:t.cur≠0:=zO;have hl:=H.cur;rw [d] at hl;have a:0<t.left:=by
  rw [H.left,d];rcases jA c with h | h
  ·subst h;simp at hl;omega
  ·exact h
 unfold skip;rw [zC ⟨a,b⟩];exact Cj f 8
end Tr
namespace St
theorem MZ{σ τ:St}(R:Rel σ t)(h6:6<=σ.st)(d:σ.st<23)(N:Tr.PO t x)(F:Tr.Ao x)(H:Tr.Hand x τ.held τ.count)(hc:τ.count<8)(hi:x.Aw+τ.count / 8=t.Aw+σ.count / 8)(h1:τ.lim=σ.lim)(h2:τ.fmt=σ.fmt)(h3:τ.om=σ.om)(h4:τ.begun=σ.begun)(b:σ.K t=τ.after x):SimA τ.endBlock σ t:=by
 have hx:x.ended=false:=by rw [N.ended];exact R.going
 unfold SimA endBlock;by_cases hl:τ.last=true
 ·rw [zC hl];have e:τ.after x=τ.fin x.skip:=by unfold after;rw [zC hl,zA (by rw [hx];simp)]
  by_cases c:τ.held≠0
  ·rw [zC c];show Tr.DJ (σ.K t)=_;rw [b,e];refine (Oc τ _).Fu (a:=x.skip) ?_ (Or.inl zD);rw [Tr.WN H hx hc c,N.out,N.Br,N.Aa];congr 1
   omega
  ·rw [zA c];obtain ⟨f,g⟩:=Tr.ZT H hc zO;refine ⟨{ x with left:=0 },?_,?_,N.out,N.Br,?_,by rw [zA zO];exact N.Aa,N.s⟩
   ·refine R.Dx ⟨N.out,N.Br,N.Aa,N.s,N.CY,N.Ai,N.ended⟩ ⟨zH _,F.cur,F.Aw,F.CY,F.Br,F.err⟩ g h1 (fun _=>by rw [R.om h6];exact h3.symm) (fun h=>by have:(21:Nat)<6:=h;omega) (fun h=>by show _=τ.begun;rw [h4];exact R.begun (h2 ▸ h))
   ·rw [b,e,f];rfl
   ·show x.Aw+0 / 8=_;omega
 ·rw [zA hl];have e:τ.after x=τ.fin (Tr.Bz x):=by unfold after;rw [zA hl]
  refine ⟨x,?_,?_,N.out,N.Br,hi,by rw [zA zO];exact N.Aa,N.s⟩
  ·exact R.Dx N F H h1 (fun _=>by rw [R.om h6];exact h3.symm) (fun h=>by have:(6:Nat)<6:=h;omega) (fun h=>by show _=τ.begun;rw [h4];exact R.begun (h2 ▸ h))
  ·rw [b,e];rfl
theorem Xd{σ:St}(R:Rel σ t)(h6:6<=σ.st):σ.om.length=t.out.length - t.CY:=by rw [<- R.om h6];simp
theorem FE{σ σ':St}(R:Rel σ t)(h6:6<=σ.st)(hd:Tr.Rd t t')(F:Tr.Ao t')(H:Tr.Hand t' σ'.held σ'.count)(a:6<=σ'.st)(h1:σ'.lim=σ.lim)(h2:σ'.fmt=σ.fmt)(h3:σ'.om=σ.om)(h4:σ'.begun=σ.begun):Rel σ' t':=
 R.Dx hd.Dx F H h1 (fun _=>by rw [R.om h6];exact h3.symm) (fun h=>zO) (fun h=>by rw [h4];exact R.begun (h2 ▸ h))
theorem nC{σ:St}(R:Rel σ t)(j:σ.st=6)(hc:σ.count<11):GK σ t:=by
 have d:=R.going;unfold GK;rw [Af j];simp only [actAt,Ab];have u:σ.K t=σ.fin (Tr.Bz t):=Em j t;by_cases h3:σ.count<3
 ·rw [zC h3];unfold SimA;intro hs;have hd:=R.hand.Jv d hs 3 h3;have e:(t.number 3).2=(t.bit.2.number 2).2:=rfl;rw [e] at hd;refine DU (x:=(t.bit.2.number 2).2) ?_ hd zO;rw [u,Tr.Gt d (Tr.Fp hd)];exact Oc σ _
 ·rw [zA h3];obtain ⟨q,w,r,b4⟩:=R.hand.bit d zO;have i:t.bit.2.ended=false:=by rw [r.ended];exact d
  obtain ⟨n1,g,v,E⟩:=w.number i 2 zO;have f:(t.bit.2.number 2).2.ended=false:=by rw [v.ended];exact i
  have b:=R.CU.bit.number 2;have hd:=r.trans v;rw [show (2:Nat)^2=4 from rfl] at n1 g;have B:σ.held / 2 / 4=σ.held / 2^3:=by rw [kD]
  have hi:(t.bit.2.number 2).2.Aw+(σ.count - 3) / 8=t.Aw+σ.count / 8:=by rw [show σ.count - 3=σ.count - 1 - 2 by omega];omega
  rw [B,show σ.count - 1 - 2=σ.count - 3 by omega] at g;have c:σ.K t=({ σ.rd 3 with last:=σ.num 1==1 }:St).after (Tr.block (σ.held / 2%4) (t.bit.2.number 2).2):=by
   rw [u,<- n1];unfold after;show σ.fin _=σ.fin _;by_cases hl:t.bit.1=0
   ·rw [Tr.KC d f hl,zA];show ¬ (σ.held%2^1==1)=true;rw [q] at hl;simp;omega
   ·have n:(σ.num 1==1)=true:=by
     show (σ.held%2^1==1)=true;rw [q] at hl;simp;omega
    rw [Tr.IA d f hl,zC (show ({ σ.rd 3 with last:=σ.num 1==1 }:St).last=true from n)]
  generalize (t.bit.2.number 2).2=x at *;unfold kind;simp only;by_cases k:σ.held / 2%4=0
  ·rw [zC k];rw [k] at c;have y:Tr.block 0 x=Tr.bytes x.skip.FN.1 x.skip.FN.2:=rfl;rw [y] at c;by_cases o:(σ.rd 3).held≠0
   ·rw [zC o];unfold SimA;show Tr.DJ (σ.K t)=_;rw [c];refine (((Tr.Re _).trans (Tr.KJ _ _)).trans (GS _ _)).Fu (a:=x.skip) ?_ (Or.inl zD);rw [Tr.WN g f zO o,hd.Dx.out,hd.Dx.Br,hd.Dx.Aa];congr 1
    omega
   ·rw [zA o];have p:σ.held / 2^3=0:=by
     have:(σ.rd 3).held=σ.held / 2^3:=rfl;omega
    obtain ⟨C,D⟩:=Tr.ZT g zO p;unfold SimA;have N:=hd.Dx;refine ⟨{ x with left:=0 },?_,?_,N.out,N.Br,?_,by rw [zA zO];exact N.Aa,N.s⟩
    ·exact R.Dx ⟨N.out,N.Br,N.Aa,N.s,N.CY,N.Ai,N.ended⟩ ⟨zH _,b.cur,b.Aw,b.CY,b.Br,b.err⟩ D rfl (fun _=>R.om zO) (fun h=>by have:(7:Nat)<6:=h;omega) (fun h=>R.begun h)
    ·rw [c,C];rfl
    ·show x.Aw+0 / 8=_;omega
  ·rw [zA k];by_cases l:σ.held / 2%4=1
   ·rw [zC l];unfold SimA;have N:=hd.Dx;refine ⟨x,FE R zO hd b g (by show 6<=16;omega) rfl rfl rfl rfl,?_,N.out,N.Br,hi,by rw [zA zO];exact N.Aa,N.s⟩;rw [c,l];rfl
   ·rw [zA l];by_cases k2:σ.held / 2%4=2
    ·rw [zC k2];unfold SimA;have N:=hd.Dx;refine ⟨x,FE R zO hd b g (by show 6<=9;omega) rfl rfl rfl rfl,?_,N.out,N.Br,hi,by rw [zA zO];exact N.Aa,N.s⟩;rw [c,k2];have z:Tr.block 2 x=Tr.content x.own.1 x.own.2.1 x.own.2.2:=rfl;rw [z,Tr.de];rfl
    ·rw [zA k2];unfold SimA;show Tr.DJ (σ.K t)=_;have A:Tr.block (σ.held / 2%4) x=x.fail 7:=by unfold Tr.block;rw [zA k,zA l,zA k2]
     rw [c,A];refine (GS _ _).Fu (a:=x.fail 7) ?_ (Or.inl zD);rw [hd.Dx.Cj d];congr 1
     omega
theorem nD{σ:St}(R:Rel σ t)(d:σ.st=7)(hc:σ.count%8=0/\σ.count<=32):GK σ t:=by
 have b:=R.going;unfold GK;rw [Af d];simp only [actAt,Ab];have e:σ.K t=σ.after (Tr.bytes t.FN.1 t.FN.2):=Em d t;have c:t.FN=(t.Ad.1+256*(Tr.octN 1 t).Ad.1,if (Tr.octN 2 t).Ad.1+256*(Tr.octN 3 t).Ad.1=65535 - (t.Ad.1+256*(Tr.octN 1 t).Ad.1) then Tr.octN 4 t else (Tr.octN 4 t).fail 9):=rfl;have k:Tr.DR (Tr.octN 4 t) (σ.K t):=by
  rw [e];refine Tr.DR.trans ?_ ((Tr.KJ _ _).trans (GS σ _));rw [c];exact Tr.Dd _ _ _
 by_cases h3:σ.count<32
 ·rw [zC h3];unfold SimA;intro hs;exact DU (x:=Tr.octN 4 t) k (R.hand.QR b hc.1 hs 4 zO) zO
 ·rw [zA h3];have h:σ.count=32:=zO;have a0:=R.hand.Rj b zO 0 zO;have g:=R.hand.Rj b zO 1 zO;have a2:=R.hand.Rj b zO 2 zO;have a3:=R.hand.Rj b zO 3 zO;obtain ⟨l,hd,hi⟩:=R.hand.octN b zO 4 zO;have i:(Tr.octN 0 t).Ad.1=t.Ad.1:=rfl;rw [i] at a0;have j:t.Ad.1+256*(Tr.octN 1 t).Ad.1=σ.num 16:=by
   rw [a0,g];show _=σ.held%2^16;simp;omega
  have f:(Tr.octN 2 t).Ad.1+256*(Tr.octN 3 t).Ad.1=σ.held / 65536%65536:=by
   rw [a2,a3];simp;omega
  rw [j,f] at c;by_cases hk:σ.held / 65536%65536=65535 - σ.num 16
  ·rw [zC hk];rw [zC hk] at c;unfold SimA;have N:=hd.Dx;refine ⟨Tr.octN 4 t,FE R zO hd ?_ ?_ (by show 6<=8;omega) rfl rfl rfl rfl,?_,N.out,N.Br,?_,by rw [zA zO];exact N.Aa,N.s⟩
   ·exact R.CU.Ad.Ad.Ad.Ad
   ·exact l
   ·rw [e,c];rfl
   ·exact hi
  ·rw [zA hk];rw [zA hk] at c;unfold SimA;show Tr.DJ (σ.K t)=_;rw [e,c];refine ((Tr.KJ _ _).trans (GS σ _)).Fu (a:=(Tr.octN 4 t).fail 9) ?_ (Or.inl zD);rw [hd.Dx.Cj b];congr 1
   omega
theorem nE{σ:St}(R:Rel σ t)(c:σ.st=8)(hc:σ.count%8=0/\σ.count<=8/\(σ.left=0->σ.count=0)):GK σ t:=by
 have e:=R.going;unfold GK;rw [Af c];simp only [actAt,Ab];have d:σ.K t=σ.after (Tr.bytes σ.left t):=Em c t;by_cases hl:σ.left=0
 ·rw [zC hl];exact MZ R zO zO (Tr.PO.refl t) R.CU R.hand zO rfl rfl rfl rfl rfl (by rw [d,hl];rfl)
 ·rw [zA hl];obtain ⟨n,r⟩:∃ n,σ.left=n+1:=⟨σ.left - 1,zO⟩
  have q:Tr.bytes σ.left t=Tr.bytes n (t.Ad.2.put t.Ad.1):=by
   rw [r];show (if t.ended then t else _)=_;rw [zA (by rw [e];simp)]
  rw [q] at d;by_cases l:σ.count<8
  ·rw [zC l];unfold SimA;intro hs;have j:σ.count=0:=zO;have H:=R.hand;rw [j] at H;refine DU (x:=t.Ad.2) ?_ (H.NS e (by rw [<- hs,j];rfl)) zO;rw [d];exact ((Tr.fO _ _).trans (Tr.KJ _ _)).trans (GS σ _)
  ·rw [zA l];have k:σ.count=8:=zO;obtain ⟨u,g,p,v⟩:=R.hand.Ad e zO zO;have a:t.Ad.2.ended=false:=by rw [p.ended];exact e
   unfold SimA;have N:=p.Dx;have o:σ.num 8=t.Ad.1:=u.symm;have i:=Tr.Dl t;refine ⟨t.Ad.2.put t.Ad.1,?_,?_,?_,?_,?_,?_,?_⟩
   ·have f:=R.CU.Ad.put t.Ad.1;rw [Tr.CG a] at f |-;refine ⟨a,⟨g.left,g.cur,g.Aw,g.val⟩,N.Ai.trans R.lim,f,fun _=>?_,fun h=>by have:σ.st<6:=h;omega,fun h=>by show t.Ad.2.Aa.length=_;rw [N.Aa];exact R.begun h,?_⟩
    ·show (t.Ad.2.out++[t.Ad.1]).drop t.Ad.2.CY=σ.om++[σ.num 8];rw [N.out,N.CY,o,kR R.CU.CY,R.om zO]
    ·have:=Tr.Gk (t:=t.Ad.2) (b:=t.Ad.1) (by unfold Bp;rw [N.out];exact R.bytes) i;rw [Tr.CG a] at this;exact this
   ·rw [d,Em (n:=8) (by exact c)];show σ.after (Tr.bytes (σ.left - 1) _)=_;rw [show σ.left - 1=n by omega]
   ·rw [Tr.CG a];show t.Ad.2.out++_=_;rw [N.out,o]
   ·rw [Tr.CG a];show t.Ad.2.Br++_=_;rw [N.Br,k];congr 2;rw [k] at v;omega
   ·rw [Tr.CG a];show t.Ad.2.Aw+(σ.count - 8) / 8=_;omega
   ·rw [Tr.CG a];exact N.Aa
   ·rw [Tr.CG a];exact N.s
end St
namespace St
theorem lY{σ:St}(R:Rel σ t)(e:σ.st=21)(k:σ.fmt<3)(hc:σ.count%8=0/\σ.count<=32/\(σ.fmt=0->σ.count=0)):GK σ t:=by
 have d:=R.going;unfold GK;rw [Af e];simp only [actAt,Ab];have i:σ.K t=σ.fin t:=Em e t;by_cases f:σ.fmt=0
 ·rw [zC f];unfold SimA;refine ⟨t,⟨d,R.hand,R.lim,R.CU,fun _=>R.om zO,fun h=>by have:(22:Nat)<6:=h;omega,R.begun,R.bytes⟩,?_,rfl,rfl,rfl,by rw [zA zO],rfl⟩;rw [i];show (if σ.fmt=2 then _ else _)=_;unfold fin;rw [zA zO,zC f]
 ·rw [zA f];have b:σ.K t=(if σ.fmt=2 then Tr.Hm σ.mem t.sum.sized else t.sum.DP):=by
   rw [i];unfold fin;rw [zA f];by_cases h1:σ.fmt=1
   ·rw [zC h1,zA zO]
   ·rw [zA h1,zC zO]
  have j:Tr.DR t.sum (σ.K t):=by
   rw [b];exact Tr.DR.ite (c:=σ.fmt=2) ((Tr.Ru _).trans (Tr.Px _ _)) (Tr.NA _)
  have a:t.sum=if ((t.four 4).1:Int)=Tr.Qp ((Tr.octN 4 t).out.drop (Tr.octN 4 t).CY) then Tr.octN 4 t else (Tr.octN 4 t).fail 12:=by
   unfold Tr.sum;rw [Tr.Ia]
  by_cases h3:σ.count<32
  ·rw [zC h3];unfold SimA;intro hs;refine DU (x:=Tr.octN 4 t) (Tr.DR.trans ?_ j) (R.hand.QR d hc.1 hs 4 zO) zO;rw [a];exact Tr.Dd _ _ _
  ·rw [zA h3];have g:σ.count=32:=zO;obtain ⟨l,hd,hi⟩:=R.hand.octN d zO 4 zO;have hv:=R.hand.four d g;have N:=hd.Dx;rw [hv,N.out,N.CY,R.om zO] at a;by_cases hk:(Lb σ.held:Int)=Tr.Qp σ.om
   ·rw [zC hk];rw [zC hk] at a;unfold SimA;refine ⟨Tr.octN 4 t,FE R zO hd R.CU.Ad.Ad.Ad.Ad l (by show 6<=22;omega) rfl rfl rfl rfl,?_,N.out,N.Br,hi,by rw [zA zO];exact N.Aa,N.s⟩;rw [b,a];rfl
   ·rw [zA hk];rw [zA hk] at a;unfold SimA;show Tr.DJ (σ.K t)=_;refine j.Fu ?_ (Or.inl zD);rw [a,N.Cj d];congr 1
    omega
theorem lZ{σ:St}(R:Rel σ t)(a:σ.st=22)(hc:σ.count%8=0/\σ.count<=16/\(σ.fmt≠2->σ.count=0)):GK σ t:=by
 have d:=R.going;unfold GK;rw [Af a];simp only [actAt,Ab];by_cases c:σ.fmt=2
 ·rw [zC c];have e:σ.K t=Tr.Hm σ.mem t.sized:=by rw [Em a];show (if σ.fmt=2 then _ else _)=_;rw [zC c]
  have f:Tr.DR t.sized (σ.K t):=by rw [e];exact Tr.Px _ _
  have b:t.sized=if t.Ad.1+256*(Tr.octN 1 t).Ad.1=((Tr.octN 2 t).out.length - (Tr.octN 2 t).CY)%65536 then Tr.octN 2 t else (Tr.octN 2 t).fail 13:=rfl;by_cases h3:σ.count<16
  ·rw [zC h3];unfold SimA;intro hs;refine DU (x:=Tr.octN 2 t) (Tr.DR.trans ?_ f) (R.hand.QR d hc.1 hs 2 zO) zO;rw [b];exact Tr.Dd _ _ _
  ·rw [zA h3];have TN:σ.count=16:=zO;obtain ⟨k,hd,hi⟩:=R.hand.octN d zO 2 zO;have a0:=R.hand.Rj d zO 0 zO;have g:=R.hand.Rj d zO 1 zO;have i:(Tr.octN 0 t).Ad.1=t.Ad.1:=rfl;rw [i] at a0;have j:t.Ad.1+256*(Tr.octN 1 t).Ad.1=σ.num 16:=by
    rw [a0,g];show _=σ.held%2^16;simp;omega
   have N:=hd.Dx;rw [j,N.out,N.CY,<- Xd R zO] at b;by_cases hk:σ.num 16=σ.om.length%65536
   ·rw [zC hk];rw [zC hk] at b;unfold SimA;refine ⟨Tr.octN 2 t,FE R zO hd R.CU.Ad.Ad k (by show 6<=23;omega) rfl rfl rfl rfl,?_,N.out,N.Br,hi,by rw [zA zO];exact N.Aa,N.s⟩;rw [e,b];show (if σ.fmt=2 then _ else _)=_;rw [zC c];rfl
   ·rw [zA hk];rw [zA hk] at b;unfold SimA;show Tr.DJ (σ.K t)=_;refine f.Fu ?_ (Or.inl zD);rw [b,N.Cj d];congr 1
    omega
 ·rw [zA c];unfold SimA;refine ⟨t,⟨d,R.hand,R.lim,R.CU,fun _=>R.om zO,fun h=>by have:(23:Nat)<6:=h;omega,R.begun,R.bytes⟩,?_,rfl,rfl,rfl,by rw [zA zO],rfl⟩;rw [Em a];show (if σ.fmt=2 then _ else _)=(if σ.fmt=2 then _ else _);rw [zA c,zA c]
theorem lf{σ:St}(R:Rel σ t)(a:σ.st=23)(hc:σ.count%8=0/\σ.count<=8):GK σ t:=by
 have g:=R.going;obtain ⟨he,l⟩:=(Tr.KG t).1 g;unfold GK;rw [Af a];simp only [actAt,Ab];have c:σ.K t=if σ.fmt=2 then Tr.Hm σ.mem t else t.DP:=Em a t;rcases Fg hc with j | i
 ·rw [zC zO];unfold SimA;intro hs;rw [j] at hs;have hi:¬ (t.ended=false/\t.Aw<t.s.size):=zO;have e:σ.K t=t:=by
   rw [c];split
   ·exact Tr.Hd hi
   ·unfold Tr.DP;rw [zA hi]
  rw [e,a];show Tr.Ob.mk t.out t.Br t.Aw t.Aa t.err t.CZ=_;rw [he,l,show t.Aw=t.s.size by omega];rfl
 ·rw [zA zO];have hi:=R.hand.Aw;rw [i] at hi;have b:t.ended=false/\t.Aw<t.s.size:=⟨g,zO⟩
  by_cases d:σ.fmt=2
  ·rw [zA zO];rw [zC d] at c;have k:=R.begun d;by_cases hm:σ.mem<=σ.begun
   ·rw [zC hm];unfold SimA;show Tr.DJ (σ.K t)=_;rw [c,Tr.NI b zO,Tr.Cj (by exact g),i]
   ·rw [zA hm];unfold SimA;refine ⟨{ t with Aa:=t.Aa++[t.Aw],head:=0,many:=0 },?_,?_,rfl,rfl,rfl,by rw [zC a],rfl⟩
    ·have f:=R.CU;have h:=R.hand;exact ⟨g,⟨h.left,h.cur,h.Aw,h.val⟩,R.lim,⟨f.left,f.cur,f.Aw,f.CY,f.Br,f.err⟩,fun h=>by have:6<=(0:Nat):=h;omega,fun _=>⟨rfl,rfl⟩,fun _=>by show (t.Aa++[t.Aw]).length=σ.begun+1;simp [k],R.bytes⟩
    ·rw [c,Tr.Oh R.CU b zO];show ({ σ with st:=0,om:=[],Az:=0,Bq:=0,marks:=0,begun:=σ.begun+1 }:St).k2 _=_;unfold k2 k6 fin;simp only [zC d,zA (show ¬ σ.fmt=0 by omega),zA (show ¬ σ.fmt=1 by omega)];rfl
  ·rw [zC d];rw [zA d] at c;unfold SimA;show Tr.DJ (σ.K t)=_;rw [c];unfold Tr.DP;rw [zC b,Tr.Cj (by exact g),i]
theorem ZJ{σ σ':St}(R:Rel σ t)(h6:6<=σ.st)(b:Nat)(a:b<256)(d:6<=σ'.st)(c:σ'.held=σ.held)(hc:σ'.count=σ.count)(h1:σ'.lim=σ.lim)(h2:σ'.fmt=σ.fmt)(h3:σ'.om=σ.om++[b])(h4:σ'.begun=σ.begun):Rel σ' (t.put b):=by
 have f:=R.CU.put b;have k:=Tr.Gk R.bytes a;rw [Tr.CG R.going] at f k |-;have h:=R.hand;refine ⟨R.going,by rw [c,hc];exact ⟨h.left,h.cur,h.Aw,h.val⟩,R.lim.trans h1.symm,f,fun _=>?_,fun h=>zO,fun h=>by rw [h4];exact R.begun (h2 ▸ h),k⟩;show (t.out++[b]).drop t.CY=_;rw [h3,kR R.CU.CY,R.om h6]
theorem lS{σ:St}(R:Rel σ t)(b:σ.st=15)(hc:σ.count<8)(hl:σ.lit<256):GK σ t:=by
 have a:=R.going;unfold GK;rw [Af b];simp only [actAt,SimA];refine ⟨t.put σ.lit,ZJ R zO σ.lit hl (by show 6<=16;omega) rfl rfl rfl rfl rfl rfl,?_,?_,?_,?_,?_,?_⟩
 ·rw [Em b];rfl
 ·rw [Tr.CG a]
 ·rw [Tr.CG a,show σ.count / 8=0 by omega];rfl
 ·rw [Tr.CG a]
 ·rw [Tr.CG a]
 ·rw [Tr.CG a]
structure Full(l:List Int):Prop where
 range:Ae l=true
 whole:sumOf gw l=2048
theorem Full.one(h:Full l):single l=false:=Lh h.whole
theorem dG(l:List Int):lng l 12<=11:=NH l 11
theorem LO(ho:single l=true->lng l 12<=1)(e:EW l h c= .hit k m)(H:Tr.Hand t h c)(b:t.ended=false) :
  ∃ a,t.symbol (Ax l)=((k:Int),a)/\Tr.Hand a (h / 2^m) (c - m)/\Tr.Rd t a/\a.Aw+(c - m) / 8=t.Aw+c / 8:=by
 have:=UL l (lng l 12) 11 1 0 h c k m t e H b (dG l) ho;rw [Nat.add_sub_cancel] at this;exact this
theorem LN(ho:single l=true->lng l 12<=1)(e:EW l h c= .more)(H:Tr.Hand t h c)(a:t.ended=false)(hs:t.Aw+c / 8=t.s.size):(t.symbol (Ax l)).1= -1/\Tr.DJ (t.symbol (Ax l)).2=t.RW:=
 gx l (lng l 12) 11 1 0 h c t e H a hs (dG l) ho
theorem lT{σ:St}(R:Rel σ t)(d:σ.st=16)(hc:Co σ.la σ.held σ.count)(o:Full σ.la)(hlen:σ.la.length<=269):GK σ t:=by
 have b:=R.going;have ho:single σ.la=true->lng σ.la 12<=1:=fun h=>by rw [o.one] at h;cases h
 unfold GK;rw [Af d];simp only [actAt,symbol];have f:σ.K t=σ.after (Tr.content (Ax σ.la) (Ax σ.lb) t):=Em d t;cases e:EW σ.la σ.held σ.count with
 | none=>exact absurd e (Hr o.range o.whole _ _)
 | more=>
  unfold SimA;intro hs;obtain ⟨d1,d2⟩:=LN ho e R.hand b hs;refine DU (x:=(t.symbol (Ax σ.la)).2) ?_ d2 zO;rw [f,Tr.Fz b (Or.inl (Tr.Fp d2))];exact GS σ _
 | hit k m=>
  obtain ⟨a,d1,d2,i,l⟩:=LO ho e R.hand b;have hk:=Io σ.la _ _ _ _ _ _ _ e;have q:=hc.1 k m e;have N:=i.Dx;have c:a.ended=false:=by rw [N.ended];exact b
  have g:Tr.Ao a:=by have:=R.CU.symbol (Ax σ.la);rw [d1] at this;exact this
  show SimA ((σ.rd m).literal k) σ t;unfold literal;by_cases p:k<256
  ·rw [zC p];unfold SimA;refine ⟨a,FE R zO i g d2 (by show 6<=15;omega) rfl rfl rfl rfl,?_,N.out,N.Br,l,by rw [zA zO];exact N.Aa,N.s⟩;have n:Tr.Bd t (Ax σ.la) (Ax σ.lb)=a.put k:=by
    unfold Tr.Bd;rw [d1,zC (by show (k:Int)<256;omega)];show a.put ((k:Int)%256).toNat=_;rw [show ((k:Int)%256).toNat=k by omega]
   rw [f,Tr.Hi (by exact hlen) b (by rw [d1];exact c) (by rw [d1];show (k:Int)≠256;omega),n];rfl
  ·rw [zA p];by_cases k2:k=256
   ·rw [zC k2];refine MZ R zO zO N g d2 (by show σ.count - m<8;omega) l rfl rfl rfl rfl ?_;rw [f,Tr.Fz b (Or.inr (by rw [d1];show (k:Int)=256;omega)),d1];rfl
   ·rw [zA k2];unfold SimA;refine ⟨a,FE R zO i g d2 (by show 6<=17;omega) rfl rfl rfl rfl,?_,N.out,N.Br,l,by rw [zA zO];exact N.Aa,N.s⟩;have n:Tr.Bd t (Ax σ.la) (Ax σ.lb)=a.Dh (Ax σ.lb) (k - 257):=by
     unfold Tr.Bd;rw [d1,zA (by show ¬ (k:Int)<256;omega)];show a.Dh (Ax σ.lb) ((k:Int) - 257).toNat=_;rw [show ((k:Int) - 257).toNat=k - 257 by omega]
    rw [f,Tr.Hi (by exact hlen) b (by rw [d1];exact c) (by rw [d1];show (k:Int)≠256;omega),n,Tr.TU];generalize k - 257=j;rfl
theorem lU{σ:St}(R:Rel σ t)(a:σ.st=17):GK σ t:=by
 have c:=R.going;unfold GK;rw [Af a];simp only [actAt,Ab];have b:σ.K t=σ.Wr (Tr.Hj (Ax σ.lb) σ.least σ.bits t):=Em a t;by_cases h3:σ.count < σ.bits
 ·rw [zC h3];unfold SimA;intro hs;refine DU (x:=(t.number σ.bits).2) ?_ (R.hand.Jv c hs σ.bits h3) zO;rw [b];exact (Tr.aC _ _ _).trans (KK σ _)
 ·rw [zA h3];obtain ⟨n1,e,d,f⟩:=R.hand.number c σ.bits zO;have N:=d.Dx;unfold SimA;refine ⟨(t.number σ.bits).2,FE R zO d (R.CU.number _) e (by show 6<=18;omega) rfl rfl rfl rfl,?_,N.out,N.Br,f,by rw [zA zO];exact N.Aa,N.s⟩;rw [b];unfold Tr.Hj;rw [n1];rfl
theorem lV{σ:St}(R:Rel σ t)(g:σ.st=18)(hc:Co σ.lb σ.held σ.count)(o:Ae σ.lb=true)(hB:Om σ.lb):GK σ t:=by
 have f:=R.going;have ho:single σ.lb=true->lng σ.lb 12<=1:=fun h=>by rw [QG o h];omega
 unfold GK;rw [Af g];simp only [actAt,symbol];have r:σ.K t=σ.Wr (Tr.Pl (Ax σ.lb) σ.left t):=Em g t;by_cases i:sumOf (fun _=>1) σ.lb=0
 ·have e:EW σ.lb σ.held σ.count= .none:=by unfold EW;rw [Vn i];rfl
  have j:=hc.2 e;rw [Vn i] at j;rw [e];unfold SimA;show Tr.DJ (σ.K t)=_;have hk:Tr.DR (t.fail 11) (σ.K t):=by
   rw [r];refine Tr.DR.trans ?_ (KK σ _);unfold Tr.Pl;rw [zC (show (Ax σ.lb).many=0 from i)];refine (Tr.Py _ (Ax σ.lb)).trans ?_;exact Tr.DR.ite (Tr.GB _ _) (Tr.Rs _ _ _ _)
  refine hk.Fu ?_ (Or.inl zD);rw [Tr.Cj f,show σ.count / 8=0 by omega];rfl
 ·have z:(if (Ax σ.lb).many=0 then t.fail 11 else t)=t:=by rw [zA (show ¬ (Ax σ.lb).many=0 from i)]
  have d:σ.K t=σ.Wr (if (t.symbol (Ax σ.lb)).1<0 then (t.symbol (Ax σ.lb)).2.fail 11 else Tr.Nl σ.left (Tr.Ar 1 (t.symbol (Ax σ.lb)).1.toNat) (Tr.Ag (t.symbol (Ax σ.lb)).1.toNat) (t.symbol (Ax σ.lb)).2):=by
   rw [r];unfold Tr.Pl;rw [z]
  cases e:EW σ.lb σ.held σ.count with
  | more=>
   unfold SimA;intro hs;obtain ⟨d1,d2⟩:=LN ho e R.hand f hs;refine DU (x:=(t.symbol (Ax σ.lb)).2) ?_ d2 zO;rw [d,zC zO];exact (Tr.GB _ _).trans (KK σ _)
  | hit k m=>
   obtain ⟨u,d1,d2,q,y⟩:=LO ho e R.hand f;have N:=q.Dx;have v:Tr.Ao u:=by have:=R.CU.symbol (Ax σ.lb);rw [d1] at this;exact this
   unfold SimA;refine ⟨u,FE R zO q v d2 (by show 6<=19;omega) rfl rfl rfl rfl,?_,N.out,N.Br,y,by rw [zA zO];exact N.Aa,N.s⟩;rw [d,d1,zA (by show ¬ (k:Int)<0;omega)];rfl
  | none=>
   have b:single σ.lb=true:=by
    rcases hB with h | h | h
    ·exact absurd e (Hr o h _ _)
    ·exact h
    ·exact absurd h i
   have n:=QG o b;have B:=hc.2 e;have c:=e;unfold EW at c;rw [n,scan] at c;by_cases h0:σ.count=0
   ·rw [zC h0] at c;cases c
   ·rw [zA h0] at c;obtain ⟨w,D,p,b4⟩:=R.hand.bit f zO;have l:t.bit.2.ended=false:=by rw [p.ended];exact f
    have A:t.symbol (Ax σ.lb)=(-1,t.bit.2):=by
     unfold Tr.symbol Tr.sym;rw [zA (by rw [l];simp),w];split at c
     ·cases c
     ·rename_i C
      rw [zA C,zC (show (Ax σ.lb).one=true from b)]
    unfold SimA;show Tr.DJ (σ.K t)=_;rw [d,A,zC (by show (-1:Int)<0;omega)];refine (KK σ _).Fu (a:=t.bit.2.fail 11) ?_ (Or.inl zD);rw [p.Dx.Cj f];congr 1
    omega
theorem lW{σ:St}(R:Rel σ t)(c:σ.st=19)(hc:σ.count<8+σ.bits):GK σ t:=by
 have d:=R.going;unfold GK;rw [Af c];simp only [actAt,Ab];have b:σ.K t=σ.Wr (Tr.Nl σ.left σ.least σ.bits t):=Em c t;by_cases h3:σ.count < σ.bits
 ·rw [zC h3];unfold SimA;intro hs;refine DU (x:=(t.number σ.bits).2) ?_ (R.hand.Jv d hs σ.bits h3) zO;rw [b];exact ((Tr.DV _ _ _).trans (Tr.Mz _ _ _)).trans (KK σ _)
 ·rw [zA h3];obtain ⟨n1,g,f,h⟩:=R.hand.number d σ.bits zO;have N:=f.Dx;have e:Tr.Nl σ.left σ.least σ.bits t=Tr.DC (σ.least+σ.num σ.bits) σ.left (if σ.om.length < σ.least+σ.num σ.bits then (t.number σ.bits).2.fail 11 else (t.number σ.bits).2):=by
   unfold Tr.Nl;rw [n1,N.out,N.CY,<- Xd R zO];rfl
  rw [e] at b;by_cases hk:σ.om.length < σ.least+σ.num σ.bits
  ·rw [zC hk];rw [zC hk] at b;unfold SimA;show Tr.DJ (σ.K t)=_;rw [b];refine ((Tr.Mz _ _ _).trans (KK σ _)).Fu (a:=(t.number σ.bits).2.fail 11) ?_ (Or.inl zD);rw [N.Cj d];congr 1
   omega
  ·rw [zA hk];rw [zA hk] at b;unfold SimA;refine ⟨(t.number σ.bits).2,FE R zO f (R.CU.number _) g (by show 6<=20;omega) rfl rfl rfl rfl,?_,N.out,N.Br,h,by rw [zA zO];exact N.Aa,N.s⟩;rw [b];rfl
theorem lX{σ:St}(R:Rel σ t)(c:σ.st=20)(hc:σ.count<8)(hd:1<=σ.Cc/\σ.Cc<=σ.om.length):GK σ t:=by
 have b:=R.going;unfold GK;rw [Af c];simp only [actAt];have d:σ.K t=σ.Wr (Tr.DC σ.Cc σ.left t):=Em c t;by_cases hl:σ.left=0
 ·rw [zC hl];unfold SimA;refine ⟨t,⟨b,R.hand,R.lim,R.CU,fun _=>R.om zO,fun h=>by have:(16:Nat)<6:=h;omega,R.begun,R.bytes⟩,?_,rfl,rfl,rfl,by rw [zA zO],rfl⟩;rw [d,hl];rfl
 ·rw [zA hl];have hm:=Xd R zO;have a:σ.om.getD (σ.om.length - σ.Cc) 0=t.out.getD (t.out.length - σ.Cc) 0:=by
   have:=R.CU.CY;rw [<- R.om zO];simp only [yF,jV,xI];congr 2
   omega
  have f:σ.om.getD (σ.om.length - σ.Cc) 0<256:=by rw [a];exact Tr.Of R.bytes _
  obtain ⟨n,g⟩:∃ n,σ.left=n+1:=⟨σ.left - 1,zO⟩
  unfold SimA;refine ⟨t.put (σ.om.getD (σ.om.length - σ.Cc) 0),ZJ R zO _ f (by show 6<=σ.st;omega) rfl rfl rfl rfl rfl rfl,?_,?_,?_,?_,?_,?_⟩
  ·rw [d,g];have e:Tr.DC σ.Cc (n+1) t=Tr.DC σ.Cc n (t.put (t.out.getD (t.out.length - σ.Cc) 0)):=by
    show (if t.ended then t else _)=_;rw [zA (by rw [b];simp)]
   rw [e,<- a,Em (n:=20) (by exact c)];show σ.Wr (Tr.DC σ.Cc (n+1 - 1) _)=_;rfl
  ·rw [Tr.CG b]
  ·rw [Tr.CG b,show σ.count / 8=0 by omega];rfl
  ·rw [Tr.CG b]
  ·rw [Tr.CG b]
  ·rw [Tr.CG b]
end St
theorem No(x:Int):∀ (hl:List Int) (i:Nat) (l:List Int),Hl (hl++[x]) i l=(Hl hl i l).set (Tr.order.getD (i+hl.length) 0) x
 | [],i,l=>rfl
 | y :: ys,i,l=>by
  show Hl (ys++[x]) (i+1) _=(Hl ys (i+1) _).set _ x;rw [No x ys (i+1),show i+1+ys.length=i+(y :: ys).length by simp;omega]
theorem SC(hl:List Int)(x:Int):EF (hl++[x])=(EF hl).set (Tr.order.getD hl.length 0) x:=by
 have:=No x hl 0 (List.replicate 15 0);rw [yJ] at this;exact this
namespace St
theorem cI{σ σ':St}(h:σ'.fmt=σ.fmt)(hm:σ'.mem=σ.mem)(t:Tr):σ'.fin t=σ.fin t:=by unfold fin;rw [h,hm]
theorem Um{σ σ':St}(h:σ'.fmt=σ.fmt)(hm:σ'.mem=σ.mem)(hl:σ'.last=σ.last)(t:Tr):σ'.after t=σ.after t:=by unfold after;rw [hl,cI h hm]
theorem Yl{σ σ':St}(h:σ'.fmt=σ.fmt)(hm:σ'.mem=σ.mem)(hl:σ'.last=σ.last)(x:CF×CF×Tr):σ'.cont x=σ.cont x:=by unfold cont;rw [Um h hm hl]
theorem oC{σ:St}(h:σ.st=10)(t:Tr):σ.K t=σ.cont (Tr.Xg σ.nl t):=Em h t
theorem nF{σ:St}(R:Rel σ t)(c:σ.st=9)(hc:σ.count<12):GK σ t:=by
 have d:=R.going;unfold GK;rw [Af c];simp only [actAt,Ab];have b:σ.K t=σ.cont (Tr.Xg (257+(t.number 4).1) (if 12<(t.number 4).1 then (t.number 4).2.fail 10 else (t.number 4).2)):=Em c t;by_cases h3:σ.count<4
 ·rw [zC h3];unfold SimA;intro hs;refine DU (x:=(t.number 4).2) ?_ (R.hand.Jv d hs 4 h3) zO;rw [b];exact ((Tr.DV _ _ _).trans (Tr.VJ _ _)).trans (Ee σ _)
 ·rw [zA h3];obtain ⟨n1,h,f,i⟩:=R.hand.number d 4 zO;have N:=f.Dx;have e:σ.num 4=(t.number 4).1:=n1.symm;rw [e];have g:=R.CU.number 4;generalize (t.number 4).2=x at *;generalize (t.number 4).1=v at *;by_cases hk:12<v
  ·rw [zC hk];rw [zC hk] at b;unfold SimA;show Tr.DJ (σ.K t)=_;rw [b];refine ((Tr.VJ _ _).trans (Ee σ _)).Fu (a:=x.fail 10) ?_ (Or.inl zD);rw [N.Cj d];congr 1
   omega
  ·rw [zA hk];rw [zA hk] at b;unfold SimA;refine ⟨x,FE R zO f g h (by show 6<=10;omega) rfl rfl rfl rfl,?_,N.out,N.Br,i,by rw [zA zO];exact N.Aa,N.s⟩;rw [b,oC rfl];exact Yl (σ:=σ) rfl rfl rfl _
theorem lN{σ:St}(R:Rel σ t)(a:σ.st=10):GK σ t:=by
 have c:=R.going;unfold GK;rw [Af a];simp only [actAt,Ab];have b:σ.K t=σ.cont (Tr.ab σ.nl (1+(t.number 4).1) (t.number 4).2):=Em a t;by_cases h3:σ.count<4
 ·rw [zC h3];unfold SimA;intro hs;refine DU (x:=(t.number 4).2) ?_ (R.hand.Jv c hs 4 h3) zO;rw [b];exact (Tr.VK _ _ _).trans (Ee σ _)
 ·rw [zA h3];obtain ⟨n1,g,d,h⟩:=R.hand.number c 4 zO;have N:=d.Dx;have e:σ.num 4=(t.number 4).1:=n1.symm;rw [e];have f:=R.CU.number 4;generalize (t.number 4).2=x at *;generalize (t.number 4).1=v at *;unfold SimA;refine ⟨x,FE R zO d f g (by show 6<=11;omega) rfl rfl rfl rfl,?_,N.out,N.Br,h,by rw [zA zO];exact N.Aa,N.s⟩;rw [b];rfl
theorem lO{σ:St}(R:Rel σ t)(c:σ.st=11)(hc:σ.count<12)(hl:σ.hl=[]):GK σ t:=by
 have d:=R.going;unfold GK;rw [Af c];simp only [actAt,Ab];have b:σ.K t=σ.cont (Tr.MK σ.nl σ.nd (4+(t.number 4).1) 0 (List.replicate 15 0) (if 11<(t.number 4).1 then (t.number 4).2.fail 10 else (t.number 4).2)):=Em c t;by_cases h3:σ.count<4
 ·rw [zC h3];unfold SimA;intro hs;refine DU (x:=(t.number 4).2) ?_ (R.hand.Jv d hs 4 h3) zO;rw [b];exact ((Tr.DV _ _ _).trans (Tr.Lm _ _ _ _ _ _)).trans (Ee σ _)
 ·rw [zA h3];obtain ⟨n1,h,f,i⟩:=R.hand.number d 4 zO;have N:=f.Dx;have e:σ.num 4=(t.number 4).1:=n1.symm;rw [e];have g:=R.CU.number 4;generalize (t.number 4).2=x at *;generalize (t.number 4).1=v at *;by_cases hk:11<v
  ·rw [zC hk];rw [zC hk] at b;unfold SimA;show Tr.DJ (σ.K t)=_;rw [b];refine ((Tr.Lm _ _ _ _ _ _).trans (Ee σ _)).Fu (a:=x.fail 10) ?_ (Or.inl zD);rw [N.Cj d];congr 1
   omega
  ·rw [zA hk];rw [zA hk] at b;unfold SimA;refine ⟨x,FE R zO f g h (by show 6<=12;omega) rfl rfl rfl rfl,?_,N.out,N.Br,i,by rw [zA zO];exact N.Aa,N.s⟩;rw [b];show σ.cont (Tr.MK σ.nl σ.nd (4+v - σ.hl.length) σ.hl.length (EF σ.hl) _)=_;rw [hl];rfl
theorem lP{σ:St}(R:Rel σ t)(b:σ.st=12)(hc:σ.count<11/\(σ.hl.length=σ.told->σ.count<8))(k:σ.hl.length<=σ.told)(f:σ.row=[]):GK σ t:=by
 have d:=R.going;unfold GK;rw [Af b];simp only [actAt,Ab];have c:σ.K t=σ.cont (Tr.MK σ.nl σ.nd (σ.told - σ.hl.length) σ.hl.length (EF σ.hl) t):=Em b t;by_cases hl:σ.hl.length < σ.told
 ·rw [zC hl];obtain ⟨r,l⟩:∃ r,σ.told - σ.hl.length=r+1:=⟨σ.told - σ.hl.length - 1,zO⟩
  have g:Tr.MK σ.nl σ.nd (σ.told - σ.hl.length) σ.hl.length (EF σ.hl) t=Tr.MK σ.nl σ.nd r (σ.hl.length+1) ((EF σ.hl).set (Tr.order.getD σ.hl.length 0) (t.number 3).1) (t.number 3).2:=by
   unfold Tr.MK;rw [l];show Tr.IE _ _ (if t.ended then _ else _)=_;rw [zA (by rw [d];simp)]
  rw [g] at c;by_cases h3:σ.count<3
  ·rw [zC h3];unfold SimA;intro hs;refine DU (x:=(t.number 3).2) ?_ (R.hand.Jv d hs 3 h3) zO;rw [c];exact (Tr.Lm _ _ _ _ _ _).trans (Ee σ _)
  ·rw [zA h3];obtain ⟨n1,o,i,p⟩:=R.hand.number d 3 zO;have N:=i.Dx;have e:σ.num 3=(t.number 3).1:=n1.symm;rw [e];unfold SimA;refine ⟨(t.number 3).2,FE R zO i (R.CU.number _) o (by show 6<=σ.st;omega) rfl rfl rfl rfl,?_,N.out,N.Br,p,by rw [zA zO];exact N.Aa,N.s⟩;rw [c,Em (n:=12) (by exact b)];show σ.cont (Tr.MK σ.nl σ.nd (σ.told - (σ.hl++[((t.number 3).1:Int)]).length) (σ.hl++[((t.number 3).1:Int)]).length (EF (σ.hl++[((t.number 3).1:Int)])) _)=_;rw [SC,zI,yO,show σ.told - (σ.hl.length+1)=r by omega]
 ·rw [zA hl];have j:σ.told - σ.hl.length=0:=zO;have g:Tr.MK σ.nl σ.nd (σ.told - σ.hl.length) σ.hl.length (EF σ.hl) t=Tr.IE σ.nl σ.nd (EF σ.hl,t):=by
   unfold Tr.MK;rw [j];rfl
  rw [g] at c;by_cases hk:sumOf gw (EF σ.hl)=2048
  ·rw [zC hk];unfold SimA;refine ⟨t,⟨d,R.hand,R.lim,R.CU,fun _=>R.om zO,fun h=>by have:(13:Nat)<6:=h;omega,R.begun,R.bytes⟩,?_,rfl,rfl,rfl,by rw [zA zO],rfl⟩;rw [c];unfold Tr.IE;simp only [zC hk];rw [zA (by rw [d];simp)];show σ.cont (Tr.FF σ.nl (Tr.row (Ax (EF σ.hl)) (σ.nl+σ.nd) σ.row t))=_;rw [f]
  ·rw [zA hk];unfold SimA;show Tr.DJ (σ.K t)=_;rw [c];refine (Tr.DR.trans ?_ (Ee σ _)).Fu (a:=t.fail 10) ?_ (Or.inl zD)
   ·unfold Tr.IE;simp only [zA hk];rw [zC (Tr.Cz t zD)];exact Tr.DR.refl _
   ·rw [Tr.Cj d];congr 1
    have:=hc.2 zO;omega
theorem lQ{σ:St}(R:Rel σ t)(b:σ.st=13)(hH:Full σ.hs)(a:σ.row.length < σ.nl+σ.nd):GK σ t:=by
 have d:=R.going;have ho:single σ.hs=true->lng σ.hs 12<=1:=fun h=>by rw [hH.one] at h;cases h
 unfold GK;rw [Af b];simp only [actAt,symbol];have c:σ.K t=σ.cont (Tr.FF σ.nl (Tr.row (Ax σ.hs) (σ.nl+σ.nd) σ.row t)):=Em b t;rw [Tr.Tz a d,Tr.JG] at c;cases e:EW σ.hs σ.held σ.count with
 | none=>exact absurd e (Hr hH.range hH.whole _ _)
 | more=>
  unfold SimA;intro hs;obtain ⟨d1,d2⟩:=LN ho e R.hand d hs;refine DU (x:=(t.symbol (Ax σ.hs)).2) ?_ d2 zO;rw [c];exact ((((Tr.XL _ _ _).trans (Tr.VL _ _ _)).trans (Tr.Od _ _ _ _)).trans (Tr.Iy _ _)).trans (Ee σ _)
 | hit k m=>
  obtain ⟨g,d1,d2,f,j⟩:=LO ho e R.hand d;have N:=f.Dx;have i:Tr.Ao g:=by have:=R.CU.symbol (Ax σ.hs);rw [d1] at this;exact this
  unfold SimA;refine ⟨g,FE R zO f i d2 (by show 6<=14;omega) rfl rfl rfl rfl,?_,N.out,N.Br,j,by rw [zA zO];exact N.Aa,N.s⟩;rw [c,d1];rfl
theorem aK(hk:k<15):Tr.Bu t k l=(if k=12/\l.length=0 then 0 else hval k l,Aq k+(t.number (Am k)).1,if k=12/\l.length=0 then (t.number (Am k)).2.fail 10 else (t.number (Am k)).2):=by
 have b:t.number 0=(0,t):=rfl;have:k=12\/k=13\/k=14\/k<12:=zO;rcases this with h | h | h | h
 ·subst h;unfold Tr.Bu hval Aq Am;by_cases hl:l.length=0
  ·simp [hl]
  ·simp [hl]
 ·subst h;rfl
 ·subst h;rfl
 ·unfold Tr.Bu hval Aq Am;have c:¬ (k:Int)=12:=zO;have i2:¬ (k:Int)=13:=zO;have i3:¬ (k:Int)=14:=zO;have a:¬ k=12:=zO;have d:¬ k=13:=zO;have e:¬ k=14:=zO;simp only [zA c,zA i2,zA i3,zA a,zA d,zA e,b];simp [a]
theorem lR{σ:St}(R:Rel σ t)(j:σ.st=14)(hc:σ.count<8+Am σ.hk)(hk:σ.hk<15):GK σ t:=by
 have g:=R.going;unfold GK;rw [Af j];simp only [actAt,Ab];have d:σ.K t=σ.cont (Tr.FF σ.nl (Tr.Ow (Ax σ.hs) (σ.nl+σ.nd) σ.hk σ.row t)):=Em j t;have h:=aK (t:=t) (l:=σ.row) hk;have k:Tr.DR (Tr.Bu t σ.hk σ.row).2.2 (σ.K t):=by
  rw [d];exact (((Tr.VL _ _ _).trans (Tr.Od _ _ _ _)).trans (Tr.Iy _ _)).trans (Ee σ _)
 by_cases h3:σ.count<Am σ.hk
 ·rw [zC h3];unfold SimA;intro hs;refine DU (x:=(t.number (Am σ.hk)).2) (Tr.DR.trans ?_ k) (R.hand.Jv g hs _ h3) zO;rw [h];exact Tr.DR.ite (Tr.GB _ _) (Tr.DR.refl _)
 ·rw [zA h3];obtain ⟨n1,y,r,z⟩:=R.hand.number g (Am σ.hk) zO;have N:=r.Dx;have i:(t.number (Am σ.hk)).2.ended=false:=by rw [N.ended];exact g
  have u:=R.CU.number (Am σ.hk);have e:σ.num (Am σ.hk)=(t.number (Am σ.hk)).1:=n1.symm;unfold Ek;simp only;rw [e];generalize (t.number (Am σ.hk)).2=x at *;generalize (t.number (Am σ.hk)).1=v at *;have c:∀ o,o=x.Aw->Tr.Ob.mk t.out t.Br o t.Aa 10 false=⟨t.out,t.Br,t.Aw+σ.count / 8,t.Aa,10,false⟩:=by
   intro o ho;congr 1
   omega
  by_cases f:σ.hk=12/\σ.row.length=0
  ·rw [zC f];unfold SimA;show Tr.DJ (σ.K t)=_;refine k.Fu ?_ (Or.inl zD);rw [h];simp only [zC f];rw [N.Cj g];exact c _ rfl
  ·rw [zA f];simp only [zA f] at h;have n:Tr.JH (σ.nl+σ.nd) σ.row.length (Tr.Bu t σ.hk σ.row)=if σ.nl+σ.nd < σ.row.length+(Aq σ.hk+v) then x.fail 10 else x:=by
    rw [h];rfl
   by_cases a:σ.nl+σ.nd < σ.row.length+(Aq σ.hk+v)
   ·rw [zC a];rw [zC a] at n;unfold SimA;show Tr.DJ (σ.K t)=_;have q:Tr.DR (x.fail 10) (σ.K t):=by
     rw [<- n,d];exact ((Tr.Od _ _ _ _).trans (Tr.Iy _ _)).trans (Ee σ _)
    refine q.Fu ?_ (Or.inl zD);rw [N.Cj g];exact c _ rfl
   ·rw [zA a];rw [zA a] at n;have A:Tr.Ow (Ax σ.hs) (σ.nl+σ.nd) σ.hk σ.row t=Tr.row (Ax σ.hs) (σ.nl+σ.nd) (σ.row++List.replicate (Aq σ.hk+v) (hval σ.hk σ.row)) x:=by
     unfold Tr.Ow;rw [n,zA (by rw [i];simp),h]
    rw [A] at d;generalize w:σ.row++List.replicate (Aq σ.hk+v) (hval σ.hk σ.row)=b at *;by_cases hw:b.length=σ.nl+σ.nd
    ·rw [zC hw];rw [Tr.Im zO] at d;unfold Tr.FF at d;simp only at d;rw [zA (by rw [i];simp)] at d;unfold EM;show SimA (if EA (b.take σ.nl) (b.drop σ.nl) then _ else _) σ t;by_cases p:EA (b.take σ.nl) (b.drop σ.nl)
     ·rw [zC p];rw [zC p] at d;unfold SimA;show Tr.DJ (σ.K t)=_;rw [d];refine (Ee σ _).Fu ?_ (Or.inl zD);show Tr.DJ (x.fail 10)=_;rw [N.Cj g];exact c _ rfl
     ·rw [zA p];rw [zA p] at d;unfold SimA;refine ⟨x,FE R zO r u y (by show 6<=16;omega) rfl rfl rfl rfl,?_,N.out,N.Br,z,by rw [zA zO];exact N.Aa,N.s⟩;rw [d];rfl
    ·rw [zA hw];unfold SimA;refine ⟨x,FE R zO r u y (by show 6<=13;omega) rfl rfl rfl rfl,?_,N.out,N.Br,z,by rw [zA zO];exact N.Aa,N.s⟩;rw [d];rfl
end St
namespace St
theorem IB(h:n<24):n=0\/n=1\/n=2\/n=3\/n=4\/n=5\/n=6\/n=7\/n=8\/n=9\/n=10\/n=11\/n=12\/n=13\/n=14\/n=15\/n=16\/n=17\/n=18\/n=19\/n=20\/n=21\/n=22\/n=23:=zO
theorem mG{σ:St}(W:Wf σ)(R:Rel σ t):GK σ t:=by
 have CN:=W.CN;have at_:=W.at_;rcases IB W.st with h | h | h | h | h | h | h | h | h | h | h | h | h | h | h | h | h | h | h | h | h | h | h | h <;> rw [h] at CN at_
 ·exact mw R h CN
 ·exact mx R h CN
 ·exact my R h CN W.marks.2
 ·exact mz R h CN
 ·exact nA R h CN
 ·exact nB R h CN at_
 ·exact nC R h CN
 ·exact nD R h CN
 ·exact nE R h CN
 ·exact nF R h CN
 ·exact lN R h
 ·exact lO R h CN (W.own zO).1
 ·exact lP R h CN at_.2.2.2.1 at_.2.2.2.2.2
 ·exact lQ R h ⟨at_.2.2.1.1,at_.2.2.1.2.1⟩ at_.2.2.2.2
 ·exact lR R h CN at_.2
 ·exact lS R h CN at_.2
 ·exact lT R h CN ⟨at_.ra,at_.wa⟩ at_.na.2
 ·exact lU R h
 ·exact lV R h CN at_.1.rb at_.1.wb
 ·exact lW R h CN
 ·exact lX R h CN ⟨at_.2.1,at_.2.2.1⟩
 ·exact lY R h W.fmt CN
 ·exact lZ R h CN
 ·exact lf R h CN
def loc(n:Nat)(σ:St):Nat:=
 match n with
 | 0=>11
 | 1=>10
 | 2=>9
 | 3=>8
 | 4=>7
 | 5=>6
 | 6=>5
 | 7=>21
 | 8=>20
 | 9=>4
 | 10=>3
 | 11=>2
 | 12=>30
 | 13=>29
 | 14=>31
 | 15=>17
 | 16=>16
 | 17=>86
 | 18=>85
 | 19=>84
 | 20=>17+σ.left
 | 21=>14
 | 22=>13
 | _=>12
def Gn(σ:St):Nat:=100*σ.count+loc σ.st σ
theorem dH{σ:St}(W:Wf σ):loc σ.st σ<100:=by
 have at_:=W.at_;by_cases h:σ.st=20
 ·rw [h] at at_ |-;have:(Sets σ/\σ.left<=66)/\_:=at_;show 17+σ.left<100;omega
 ·unfold loc;split <;> omega
def Db(A:Act)(σ:St):Prop:=
 match A with
 | .take=>∀ b,b<256->Wf (σ.add b)
 | .put b σ'=>Wf σ'/\b<256/\Gn σ'<Gn σ/\σ'.fmt=σ.fmt/\σ'.mem=σ.mem/\σ'.lim=σ.lim
 | .DF σ'=>Wf σ'/\Gn σ'<Gn σ/\σ'.fmt=σ.fmt/\σ'.mem=σ.mem/\σ'.lim=σ.lim/\(σ'.st=23->σ'.count=0)
 | .fail e=>4<=e/\e<=14
theorem DM{σ:St}(W:Wf σ)(hk:k<=σ.count):σ.held / 2^k<2^(σ.count - k):=by
 have h:=W.held;rw [show σ.count=k+(σ.count - k) by omega,kC] at h;exact Nat.div_lt_of_lt_mul h
theorem cj{σ:St}(W:Wf σ){b:Nat}(a:b<256):(σ.add b).held<2^(σ.add b).count:=by
 have h:=W.held;show σ.held+2^σ.count*b<2^(σ.count+8);rw [kC];have:2^σ.count*(b+1)<=2^σ.count*2^8:=AK _ zO;rw [jM] at this;omega
theorem Wf.take{σ:St}(W:Wf σ){b:Nat}(c:b<256)(d:en σ.st (σ.add b))(a:At σ.st (σ.add b)):Wf (σ.add b):=⟨W.fmt,W.st,W.raw,cj W c,d,a,W.own,W.om,W.marks,W.Az⟩
end St
namespace St
theorem Oa{σ:St}(W:Wf σ)(h:σ.st<6):σ.fmt≠0:=fun h0=>by have:=W.raw h0;omega
theorem nG(h:n<6):n=0\/n=1\/n=2\/n=3\/n=4\/n=5:=zO
theorem Po{σ:St}(h:n<6)(hc:σ.count%8=0/\σ.count<=8):en n σ:=by
 rcases nG h with rfl | rfl | rfl | rfl | rfl | rfl <;> exact hc
theorem Ix{σ:St}(h:n<6)(a:en n σ):σ.count%8=0/\σ.count<=8:=by
 rcases nG h with rfl | rfl | rfl | rfl | rfl | rfl <;> exact a
theorem TJ{σ:St}(h:n<6)(hc:σ.om=[]):At n σ:=by
 rcases nG h with rfl | rfl | rfl | rfl | rfl | rfl <;> exact hc
theorem bh{σ:St}(h:n<6)(a:At n σ):σ.om=[]:=by
 rcases nG h with rfl | rfl | rfl | rfl | rfl | rfl <;> exact a
theorem ME{σ:St}(h:n<6):loc n σ=11 - n:=by
 rcases nG h with rfl | rfl | rfl | rfl | rfl | rfl <;> rfl
theorem Ng{σ:St}(W:Wf σ)(a:σ.st<6)(d:σ.count<8)(b:Nat)(c:b<256):Wf (σ.add b):=by
 have hc:=Ix a W.CN;exact W.take c (Po a ⟨by show (σ.count+8)%8=0;omega,by show σ.count+8<=8;omega⟩) (TJ a (show σ.om=[] from bh a W.at_))
theorem RE{σ σ':St}(W:Wf σ)(a:σ.st<6)(i:¬ σ.count<8)(j:σ'.st<=6)(h1:σ'.fmt=σ.fmt)(h2:σ'.held=σ.held / 2^8)(h3:σ'.count=σ.count - 8)(h4:σ'.hl=σ.hl)(h5:σ'.row=σ.row)(h6:σ'.om=σ.om)(d:σ'.marks<=7/\(σ.fmt≠2->σ'.marks=0))(f:σ'.Az=(σ.Az+σ.num 8)%256)(b:σ'.mem=σ.mem)(c:σ'.lim=σ.lim):Db (.DF σ') σ:=by
 have hc:=Ix a W.CN;have ho:=bh a W.at_;have g:=Oa W a;refine ⟨⟨by rw [h1];exact W.fmt,zO,fun h0=>absurd (h1 ▸ h0) g,by rw [h2,h3];exact DM W zO,?_,?_,fun _=>by rw [h4,h5];exact W.own zO,by rw [h6];exact W.om,by rw [h1];exact d,by rw [f];omega⟩,?_,h1,b,c,fun h=>zO⟩
 ·by_cases e:σ'.st=6
  ·rw [e];show σ'.count<11;omega
  ·exact Po zO ⟨zO,zO⟩
 ·by_cases e:σ'.st=6
  ·rw [e];exact trivial
  ·exact TJ zO (by rw [h6];exact ho)
 ·unfold Gn;rw [ME a];by_cases e:σ'.st=6
  ·rw [e];show 100*σ'.count+5<_;omega
  ·rw [ME zO];omega
theorem Oz{σ:St}(W:Wf σ)(a:σ.st<6):Db (.DF { σ with st:=σ.st+1 }) σ:=by
 have hc:=Ix a W.CN;have ho:=bh a W.at_;have b:=Oa W a;refine ⟨⟨W.fmt,by show σ.st+1<24;omega,fun h0=>absurd h0 b,W.held,?_,?_,fun _=>W.own zO,W.om,W.marks,W.Az⟩,?_,rfl,rfl,rfl,fun h=>by have:σ.st+1=23:=h;omega⟩
 ·show en (σ.st+1) _;by_cases e:σ.st=5
  ·rw [e];show σ.count<11;omega
  ·exact Po zO hc
 ·show At (σ.st+1) _;by_cases e:σ.st=5
  ·rw [e];exact trivial
  ·exact TJ zO ho
 ·unfold Gn;rw [ME a];show 100*σ.count+loc (σ.st+1) _<_;by_cases e:σ.st=5
  ·rw [e];show 100*σ.count+5<_;omega
  ·rw [ME zO];omega
theorem NQ{σ:St}(W:Wf σ)(a:σ.st<6)(w:Nat):Db (σ.Ab 8 (σ.DG w (σ.st+1))) σ:=by
 unfold Ab DG;by_cases c:σ.count<8
 ·rw [zC c];exact fun b d=>Ng W a c b d
 ·rw [zA c];split
  ·exact ⟨zD,zD⟩
  ·split
   ·exact RE W a c (by show σ.st+1<=6;omega) rfl rfl rfl rfl rfl rfl W.marks rfl rfl rfl
   ·exact ⟨zD,zD⟩
theorem SQ{σ:St}(W:Wf σ)(a:σ.st<6):Db (σ.Ab 8 (σ.text (σ.st+1))) σ:=by
 unfold Ab text;by_cases c:σ.count<8
 ·rw [zC c];exact fun b d=>Ng W a c b d
 ·rw [zA c];split
  ·exact ⟨zD,zD⟩
  ·refine RE W a c ?_ rfl rfl rfl rfl rfl rfl W.marks rfl rfl rfl;show (if σ.num 8=0 then σ.st+1 else σ.st)<=6;split <;> omega
theorem ko{σ:St}(W:Wf σ)(h:σ.st=0):Db σ.act σ:=by
 have:=NQ W zO (if σ.fmt=1 then 115 else 76);rw [Af h];rw [h] at this;exact this
theorem kq{σ:St}(W:Wf σ)(h:σ.st=1):Db σ.act σ:=by
 have:=NQ W zO (if σ.fmt=1 then 1 else 2);rw [Af h];rw [h] at this;exact this
theorem kr{σ:St}(W:Wf σ)(h:σ.st=2):Db σ.act σ:=by
 rw [Af h];simp only [actAt,Ab];split
 ·rename_i d
  by_cases a:σ.count<8
  ·rw [zC a];exact fun b c=>Ng W zO a b c
  ·rw [zA a];split
   ·exact ⟨zD,zD⟩
   ·split
    ·exact ⟨zD,zD⟩
    ·rename_i e
     exact RE W zO a (by show 3<=6;omega) rfl rfl rfl rfl rfl rfl ⟨by show σ.num 8<=7;omega,fun h=>absurd d h⟩ rfl rfl rfl
 ·have:=Oz W zO;rw [h] at this;exact this
theorem ks{σ:St}(W:Wf σ)(h:σ.st=3):Db σ.act σ:=by
 rw [Af h];simp only [actAt];split
 ·have:=SQ W zO;rw [h] at this;exact this
 ·have:=Oz W zO;rw [h] at this;exact this
theorem kt{σ:St}(W:Wf σ)(h:σ.st=4):Db σ.act σ:=by
 rw [Af h];simp only [actAt];split
 ·have:=SQ W zO;rw [h] at this;exact this
 ·have:=Oz W zO;rw [h] at this;exact this
theorem ku{σ:St}(W:Wf σ)(h:σ.st=5):Db σ.act σ:=by
 rw [Af h];simp only [actAt];split
 ·have:=NQ W zO σ.Az;rw [h] at this;exact this
 ·have:=Oz W zO;rw [h] at this;exact this
theorem Vr{σ τ:St}(W:Wf σ)(hs:6<=σ.st)(e:τ.held<2^τ.count)(hc:τ.count<8)(hp:100*τ.count+14<Gn σ)(h1:τ.fmt=σ.fmt)(h2:τ.hl=[]/\τ.row=[])(h6:τ.om=σ.om)(c:τ.marks=σ.marks)(d:τ.Az=σ.Az)(a:τ.mem=σ.mem)(b:τ.lim=σ.lim):Db τ.endBlock σ:=by
 unfold endBlock;split
 ·split
  ·exact ⟨zD,zD⟩
  ·refine ⟨⟨by show τ.fmt<3;rw [h1];exact W.fmt,by show 21<24;omega,fun _=>by show 6<=21;omega,by show 0<2^0;omega,⟨rfl,by show 0<=32;omega,fun _=>rfl⟩,trivial,fun _=>h2,by show ∀ x∈τ.om,x<256;rw [h6];exact W.om,by show τ.marks<=7/\(τ.fmt≠2->τ.marks=0);rw [h1,c];exact W.marks,by show τ.Az<256;rw [d];exact W.Az⟩,?_,h1,a,b,fun h=>by have:(21:Nat)=23:=h;omega⟩;show 100*0+14<_;omega
 ·refine ⟨⟨by show τ.fmt<3;rw [h1];exact W.fmt,by show 6<24;omega,fun _=>by show 6<=6;omega,e,by show τ.count<11;omega,trivial,fun _=>h2,by show ∀ x∈τ.om,x<256;rw [h6];exact W.om,by show τ.marks<=7/\(τ.fmt≠2->τ.marks=0);rw [h1,c];exact W.marks,by show τ.Az<256;rw [d];exact W.Az⟩,?_,h1,a,b,fun h=>by have:(6:Nat)=23:=h;omega⟩;show 100*τ.count+5<_;omega
theorem XH:Ae Tr.Bi=true/\sumOf gw Tr.Bi=2048/\Tr.Bi.length=269/\Ae Tr.Bw=true/\sumOf gw Tr.Bw=2048/\Tr.Bw.length=16:=zD
theorem kx{σ:St}(W:Wf σ)(h:σ.st=6):Db σ.act σ:=by
 have CN:=W.CN;rw [h] at CN;have hc:σ.count<11:=CN;rw [Af h];simp only [actAt,Ab];have c:Gn σ=100*σ.count+5:=by unfold Gn;rw [h];rfl
 by_cases h3:σ.count<3
 ·rw [zC h3];exact fun b j=>W.take j (by rw [h];show σ.count+8<11;omega) (by rw [h];trivial)
 ·rw [zA h3];have d:=DM W (k:=3) zO;have a:=W.own zO;unfold kind;simp only;split
  ·split
   ·exact ⟨zD,zD⟩
   ·refine ⟨⟨W.fmt,by show 7<24;omega,fun _=>by show 6<=7;omega,by show 0<2^0;omega,⟨rfl,by show 0<=32;omega⟩,trivial,fun _=>a,W.om,W.marks,W.Az⟩,?_,rfl,rfl,rfl,fun h=>by have:(7:Nat)=23:=h;omega⟩;rw [c];show 100*0+21<_;omega
  ·split
   ·obtain ⟨e,f,l,g,i,n⟩:=XH;refine ⟨⟨W.fmt,by show 16<24;omega,fun _=>by show 6<=16;omega,d,Co.of_lt (by show σ.count - 3<8;omega),⟨e,f,by show 257<=Tr.Bi.length/\Tr.Bi.length<=269;omega,g,Or.inl i,by show Tr.Bw.length<=16;omega⟩,fun _=>a,W.om,W.marks,W.Az⟩,?_,rfl,rfl,rfl,fun h=>by have:(16:Nat)=23:=h;omega⟩;rw [c];show 100*(σ.count - 3)+16<_;omega
   ·split
    ·refine ⟨⟨W.fmt,by show 9<24;omega,fun _=>by show 6<=9;omega,d,by show σ.count - 3<12;omega,trivial,fun _=>a,W.om,W.marks,W.Az⟩,?_,rfl,rfl,rfl,fun h=>by have:(9:Nat)=23:=h;omega⟩;rw [c];show 100*(σ.count - 3)+4<_;omega
    ·exact ⟨zD,zD⟩
theorem ky{σ:St}(W:Wf σ)(h:σ.st=7):Db σ.act σ:=by
 have CN:=W.CN;rw [h] at CN;have hc:σ.count%8=0/\σ.count<=32:=CN;rw [Af h];simp only [actAt,Ab];have a:Gn σ=100*σ.count+21:=by unfold Gn;rw [h];rfl
 by_cases h3:σ.count<32
 ·rw [zC h3];exact fun b c=>W.take c (by rw [h];show (σ.count+8)%8=0/\σ.count+8<=32;omega) (by rw [h];trivial)
 ·rw [zA h3];have d:=DM W (k:=32) zO;split
  ·refine ⟨⟨W.fmt,by show 8<24;omega,fun _=>by show 6<=8;omega,d,⟨by show (σ.count - 32)%8=0;omega,by show σ.count - 32<=8;omega,fun _=>by show σ.count - 32=0;omega⟩,?_,fun _=>W.own zO,W.om,W.marks,W.Az⟩,?_,rfl,rfl,rfl,fun h=>by have:(8:Nat)=23:=h;omega⟩
   ·show σ.num 16<=65535;have:σ.num 16<2^16:=yC _ zD;omega
   ·rw [a];show 100*(σ.count - 32)+20<_;omega
  ·exact ⟨zD,zD⟩
theorem NR(σ:St)(k:Nat):σ.num k<2^k:=yC _ (kB zD)
theorem Oo{l:List Nat}(h:∀ x∈l,x<256){b:Nat}(a:b<256):∀ x∈l++[b],x<256:=fun x hx=>by
 rcases yW.1 hx with hx | hx
 ·exact h x hx
 ·simp at hx;omega
theorem kz{σ:St}(W:Wf σ)(h:σ.st=8):Db σ.act σ:=by
 have CN:=W.CN;have at_:=W.at_;rw [h] at CN at_;have hc:σ.count%8=0/\σ.count<=8/\(σ.left=0->σ.count=0):=CN;have d:σ.left<=65535:=at_;rw [Af h];simp only [actAt,Ab];have a:Gn σ=100*σ.count+20:=by unfold Gn;rw [h];rfl
 split
 ·exact Vr W zO W.held zO zO rfl (W.own zO) rfl rfl rfl rfl rfl
 ·rename_i hl
  by_cases h3:σ.count<8
  ·rw [zC h3];exact fun b e=>W.take e (by rw [h];show (σ.count+8)%8=0/\σ.count+8<=8/\(σ.left=0->σ.count+8=0);omega) (by rw [h];exact d)
  ·rw [zA h3];have f:=DM W (k:=8) zO;have c:=NR σ 8;refine ⟨⟨W.fmt,W.st,W.raw,f,?_,?_,fun _=>W.own zO,Oo W.om c,W.marks,W.Az⟩,c,?_,rfl,rfl,rfl⟩
   ·show en σ.st _;rw [h];show (σ.count - 8)%8=0/\σ.count - 8<=8/\(σ.left - 1=0->σ.count - 8=0);omega
   ·show At σ.st _;rw [h];show σ.left - 1<=65535;omega
   ·rw [a];show 100*(σ.count - 8)+loc σ.st _<_;rw [h];show 100*(σ.count - 8)+20<_;omega
theorem gI{σ:St}(W:Wf σ)(h:σ.st=21):Db σ.act σ:=by
 have CN:=W.CN;rw [h] at CN;have hc:σ.count%8=0/\σ.count<=32/\(σ.fmt=0->σ.count=0):=CN;rw [Af h];simp only [actAt,Ab];have a:Gn σ=100*σ.count+14:=by unfold Gn;rw [h];rfl
 split
 ·rename_i d
  refine ⟨⟨W.fmt,by show 22<24;omega,fun _=>by show 6<=22;omega,W.held,⟨by show σ.count%8=0;omega,by show σ.count<=16;omega,fun _=>by show σ.count=0;omega⟩,trivial,fun _=>W.own zO,W.om,W.marks,W.Az⟩,?_,rfl,rfl,rfl,fun h=>by have:(22:Nat)=23:=h;omega⟩;rw [a];show 100*σ.count+13<_;omega
 ·rename_i d
  by_cases h3:σ.count<32
  ·rw [zC h3];exact fun b c=>W.take c (by rw [h];show (σ.count+8)%8=0/\σ.count+8<=32/\(σ.fmt=0->σ.count+8=0);omega) (by rw [h];trivial)
  ·rw [zA h3];have e:=DM W (k:=32) zO;split
   ·refine ⟨⟨W.fmt,by show 22<24;omega,fun _=>by show 6<=22;omega,e,⟨by show (σ.count - 32)%8=0;omega,by show σ.count - 32<=16;omega,fun _=>by show σ.count - 32=0;omega⟩,trivial,fun _=>W.own zO,W.om,W.marks,W.Az⟩,?_,rfl,rfl,rfl,fun h=>by have:(22:Nat)=23:=h;omega⟩;rw [a];show 100*(σ.count - 32)+13<_;omega
   ·exact ⟨zD,zD⟩
theorem gJ{σ:St}(W:Wf σ)(h:σ.st=22):Db σ.act σ:=by
 have CN:=W.CN;rw [h] at CN;have hc:σ.count%8=0/\σ.count<=16/\(σ.fmt≠2->σ.count=0):=CN;rw [Af h];simp only [actAt,Ab];have a:Gn σ=100*σ.count+13:=by unfold Gn;rw [h];rfl
 split
 ·rename_i d
  by_cases h3:σ.count<16
  ·rw [zC h3];exact fun b c=>W.take c (by rw [h];show (σ.count+8)%8=0/\σ.count+8<=16/\(σ.fmt≠2->σ.count+8=0);omega) (by rw [h];trivial)
  ·rw [zA h3];have e:=DM W (k:=16) zO;split
   ·refine ⟨⟨W.fmt,by show 23<24;omega,fun _=>by show 6<=23;omega,e,⟨by show (σ.count - 16)%8=0;omega,by show σ.count - 16<=8;omega⟩,trivial,fun _=>W.own zO,W.om,W.marks,W.Az⟩,?_,rfl,rfl,rfl,fun _=>by show σ.count - 16=0;omega⟩;rw [a];show 100*(σ.count - 16)+12<_;omega
   ·exact ⟨zD,zD⟩
 ·rename_i d
  refine ⟨⟨W.fmt,by show 23<24;omega,fun _=>by show 6<=23;omega,W.held,⟨by show σ.count%8=0;omega,by show σ.count<=8;omega⟩,trivial,fun _=>W.own zO,W.om,W.marks,W.Az⟩,?_,rfl,rfl,rfl,fun _=>by show σ.count=0;omega⟩;rw [a];show 100*σ.count+12<_;omega
theorem gK{σ:St}(W:Wf σ)(h:σ.st=23):Db σ.act σ:=by
 have CN:=W.CN;rw [h] at CN;have hc:σ.count%8=0/\σ.count<=8:=CN;rw [Af h];simp only [actAt,Ab];have a:Gn σ=100*σ.count+12:=by unfold Gn;rw [h];rfl
 by_cases h3:σ.count<8
 ·rw [zC h3];exact fun b c=>W.take c (by rw [h];show (σ.count+8)%8=0/\σ.count+8<=8;omega) (by rw [h];trivial)
 ·rw [zA h3];split
  ·exact ⟨zD,zD⟩
  ·rename_i d
   split
   ·exact ⟨zD,zD⟩
   ·refine ⟨⟨W.fmt,by show 0<24;omega,fun h0=>absurd (show σ.fmt=0 from h0) zO,W.held,hc,rfl,fun _=>W.own zO,fun x hx=>(by cases hx),⟨zH _,fun _=>rfl⟩,by show 0<256;omega⟩,?_,rfl,rfl,rfl,fun h=>by have:(0:Nat)=23:=h;omega⟩;rw [a];show 100*σ.count+11<_;omega
end St
theorem Rz:∀ (hl:List Int) (i:Nat) (l:List Int),(∀ x∈hl,0<=x/\x<8)->Ae l=true->Ae (Hl hl i l)=true/\(Hl hl i l).length=l.length
 | [],_,l,_,h=>⟨h,rfl⟩
 | x :: xs,i,l,hx,h=>by
  have h1:=hx x zS;have h2:Ae (l.set (Tr.order.getD i 0) x)=true:=by
   rw [EV] at h |-;intro y a;rcases AR a with a | a
   ·exact h y a
   ·omega
  have:=Rz xs (i+1) (l.set (Tr.order.getD i 0) x) (fun y a=>hx y (by simp [a])) h2;exact ⟨this.1,by show (Hl xs (i+1) _).length=_;rw [this.2];simp⟩
theorem Yu{hl:List Int}(h:∀ x∈hl,0<=x/\x<8):Ae (EF hl)=true/\(EF hl).length=15:=Rz hl 0 _ h zD
theorem II{m:List Int}(h:Ae l=true)(hs:∀ x∈m,x∈l):Ae m=true:=by
 rw [EV] at h |-;exact fun x hx=>h x (hs x hx)
theorem QU(h:Ae l=true)(k:Nat):De (l.getD k 0)=true:=by
 rw [EV] at h;rw [yF];cases e:l[k]? with
 | none=>decide
 | some x=>
  have:=h x (List.mem_of_getElem? e);simp [De];omega
theorem fW(hk:k<15)(h:Ae l=true):De (hval k l)=true:=by
 unfold hval;split
 ·exact QU h _
 ·split
  ·decide
  ·split
   ·decide
   ·simp [De];omega
theorem WR(h:j<12):Tr.Ag j<=4/\3<=Tr.Ar 3 j/\Tr.Ar 3 j+2^Tr.Ag j<=67:=by
 have:j=0\/j=1\/j=2\/j=3\/j=4\/j=5\/j=6\/j=7\/j=8\/j=9\/j=10\/j=11:=zO;rcases this with rfl | rfl | rfl | rfl | rfl | rfl | rfl | rfl | rfl | rfl | rfl | rfl <;> decide
theorem Sj(h:j<16):Tr.Ag j<=6/\1<=Tr.Ar 1 j/\Tr.Ar 1 j+2^Tr.Ag j<=257:=by
 have:j=0\/j=1\/j=2\/j=3\/j=4\/j=5\/j=6\/j=7\/j=8\/j=9\/j=10\/j=11\/j=12\/j=13\/j=14\/j=15:=zO;rcases this with rfl | rfl | rfl | rfl | rfl | rfl | rfl | rfl | rfl | rfl | rfl | rfl | rfl | rfl | rfl | rfl <;> decide
namespace St
theorem lA{σ:St}(W:Wf σ)(h:σ.st=9):Db σ.act σ:=by
 have CN:=W.CN;rw [h] at CN;have hc:σ.count<12:=CN;rw [Af h];simp only [actAt,Ab];have a:Gn σ=100*σ.count+4:=by unfold Gn;rw [h];rfl
 by_cases h3:σ.count<4
 ·rw [zC h3];exact fun b c=>W.take c (by rw [h];show σ.count+8<12;omega) (by rw [h];trivial)
 ·rw [zA h3];have d:=DM W (k:=4) zO;split
  ·exact ⟨zD,zD⟩
  ·rename_i e
   refine ⟨⟨W.fmt,by show 10<24;omega,fun _=>by show 6<=10;omega,d,by show σ.count - 4<12;omega,by show 257<=257+σ.num 4/\257+σ.num 4<=269;omega,fun _=>W.own zO,W.om,W.marks,W.Az⟩,?_,rfl,rfl,rfl,fun h=>by have:(10:Nat)=23:=h;omega⟩;rw [a];show 100*(σ.count - 4)+3<_;omega
theorem fu{σ:St}(W:Wf σ)(h:σ.st=10):Db σ.act σ:=by
 have CN:=W.CN;have at_:=W.at_;rw [h] at CN at_;have hc:σ.count<12:=CN;have c:257<=σ.nl/\σ.nl<=269:=at_;rw [Af h];simp only [actAt,Ab];have a:Gn σ=100*σ.count+3:=by unfold Gn;rw [h];rfl
 have f:=NR σ 4;by_cases h3:σ.count<4
 ·rw [zC h3];exact fun b d=>W.take d (by rw [h];show σ.count+8<12;omega) (by rw [h];exact c)
 ·rw [zA h3];have e:=DM W (k:=4) zO;refine ⟨⟨W.fmt,by show 11<24;omega,fun _=>by show 6<=11;omega,e,by show σ.count - 4<12;omega,⟨c,by show 1<=1+σ.num 4/\1+σ.num 4<=16;omega⟩,fun _=>W.own zO,W.om,W.marks,W.Az⟩,?_,rfl,rfl,rfl,fun h=>by have:(11:Nat)=23:=h;omega⟩;rw [a];show 100*(σ.count - 4)+2<_;omega
theorem fv{σ:St}(W:Wf σ)(h:σ.st=11):Db σ.act σ:=by
 have CN:=W.CN;have at_:=W.at_;rw [h] at CN at_;have hc:σ.count<12:=CN;have d:(257<=σ.nl/\σ.nl<=269)/\1<=σ.nd/\σ.nd<=16:=at_;have ho:=W.own zO;rw [Af h];simp only [actAt,Ab];have a:Gn σ=100*σ.count+2:=by unfold Gn;rw [h];rfl
 by_cases h3:σ.count<4
 ·rw [zC h3];exact fun b e=>W.take e (by rw [h];show σ.count+8<12;omega) (by rw [h];exact d)
 ·rw [zA h3];have f:=DM W (k:=4) zO;split
  ·exact ⟨zD,zD⟩
  ·rename_i g
   refine ⟨⟨W.fmt,by show 12<24;omega,fun _=>by show 6<=12;omega,f,⟨by show σ.count - 4<11;omega,fun _=>by show σ.count - 4<8;omega⟩,⟨d.1,d.2,by show 4<=4+σ.num 4/\4+σ.num 4<=15;omega,by show σ.hl.length<=_;rw [ho.1];exact zH _,(fun x hx=>by have c:x∈σ.hl:=hx;rw [ho.1] at c;cases c),ho.2⟩,fun h=>by have:(12:Nat)<12\/14<12:=h;omega,W.om,W.marks,W.Az⟩,?_,rfl,rfl,rfl,fun h=>by have:(12:Nat)=23:=h;omega⟩;rw [a];show 100*(σ.count - 4)+30<_;omega
theorem fy{σ:St}(W:Wf σ)(h:σ.st=12):Db σ.act σ:=by
 have CN:=W.CN;have at_:=W.at_;rw [h] at CN at_;have hc:σ.count<11/\(σ.hl.length=σ.told->σ.count<8):=CN;obtain ⟨d,a2,a3,a4,a5,c⟩:=at_;rw [Af h];simp only [actAt,Ab];have a:Gn σ=100*σ.count+30:=by unfold Gn;rw [h];rfl
 have i:=NR σ 3;split
 ·rename_i hl
  by_cases h3:σ.count<3
  ·rw [zC h3];exact fun b f=>W.take f (by rw [h];exact ⟨by show σ.count+8<11;omega,fun e=>by have:σ.hl.length=σ.told:=e;omega⟩) (by rw [h];exact ⟨d,a2,a3,a4,a5,c⟩)
  ·rw [zA h3];have g:=DM W (k:=3) zO;refine ⟨⟨W.fmt,W.st,W.raw,g,?_,?_,fun e=>by have:σ.st<12\/14 < σ.st:=e;omega,W.om,W.marks,W.Az⟩,?_,rfl,rfl,rfl,fun e=>by have:σ.st=23:=e;omega⟩
   ·show en σ.st _;rw [h];exact ⟨by show σ.count - 3<11;omega,fun _=>by show σ.count - 3<8;omega⟩
   ·show At σ.st _;rw [h];refine ⟨d,a2,a3,by show (σ.hl++[_]).length<=σ.told;simp;omega,?_,c⟩;intro x hx;rcases yW.1 hx with hx | hx
    ·exact a5 x hx
    ·simp at hx;omega
   ·rw [a];show 100*(σ.count - 3)+loc σ.st _<_;rw [h];show 100*(σ.count - 3)+30<_;omega
 ·rename_i hl
  split
  ·rename_i hw
   obtain ⟨r1,r2⟩:=Yu a5;refine ⟨⟨W.fmt,by show 13<24;omega,fun _=>by show 6<=13;omega,W.held,Co.of_lt (by show σ.count<8;exact hc.2 zO),⟨d,a2,⟨r1,hw,r2⟩,by show Ae σ.row=true;rw [c];rfl,by show σ.row.length < σ.nl+σ.nd;rw [c];show 0<_;omega⟩,fun e=>by have:(13:Nat)<12\/14<13:=e;omega,W.om,W.marks,W.Az⟩,?_,rfl,rfl,rfl,fun h=>by have:(13:Nat)=23:=h;omega⟩;rw [a];show 100*σ.count+29<_;omega
  ·exact ⟨zD,zD⟩
theorem KM(e:EW l h c= .hit k m):1<=m/\m<=c/\k<l.length:=by
 have:=Io l _ _ _ _ _ _ _ e;omega
theorem fz{σ:St}(W:Wf σ)(h:σ.st=13):Db σ.act σ:=by
 have CN:=W.CN;have at_:=W.at_;rw [h] at CN at_;have hc:Co σ.hs σ.held σ.count:=CN;obtain ⟨c,a2,a3,a4,a5⟩:=at_;rw [Af h];simp only [actAt,symbol];have a:Gn σ=100*σ.count+29:=by unfold Gn;rw [h];rfl
 cases e:EW σ.hs σ.held σ.count with
 | none=>exact ⟨zD,zD⟩
 | more=>exact fun b d=>W.take d (by rw [h];exact Co.take b e) (by rw [h];exact ⟨c,a2,a3,a4,a5⟩)
 | hit k m=>
  obtain ⟨h1,h2,h3⟩:=KM e;have hm:=hc.1 k m e;refine ⟨⟨W.fmt,by show 14<24;omega,fun _=>by show 6<=14;omega,DM W h2,by show σ.count - m<8+Am k;omega,⟨⟨c,a2,a3,a4,a5⟩,by show k<15;omega⟩,fun e=>by have:(14:Nat)<12\/14<14:=e;omega,W.om,W.marks,W.Az⟩,?_,rfl,rfl,rfl,fun h=>by have:(14:Nat)=23:=h;omega⟩;rw [a];show 100*(σ.count - m)+31<_;omega
theorem gA{σ:St}(W:Wf σ)(h:σ.st=14):Db σ.act σ:=by
 have CN:=W.CN;have at_:=W.at_;rw [h] at CN at_;have hc:σ.count<8+Am σ.hk:=CN;obtain ⟨⟨i,a2,a3,a4,a5⟩,j⟩:=at_;rw [Af h];simp only [actAt,Ab];have c:Gn σ=100*σ.count+31:=by unfold Gn;rw [h];rfl
 by_cases h3:σ.count<Am σ.hk
 ·rw [zC h3];exact fun b d=>W.take d (by rw [h];show σ.count+8<8+Am σ.hk;omega) (by rw [h];exact ⟨⟨i,a2,a3,a4,a5⟩,j⟩)
 ·rw [zA h3];have l:=DM W (k:=Am σ.hk) zO;have g:=Tr.Dk a4 (fW j a4) (Aq σ.hk+σ.num (Am σ.hk));unfold Ek;simp only;split
  ·exact ⟨zD,zD⟩
  ·split
   ·exact ⟨zD,zD⟩
   ·rename_i hl
    generalize f:σ.row++List.replicate (Aq σ.hk+σ.num (Am σ.hk)) (hval σ.hk σ.row)=a at *;have hlen:a.length<=σ.nl+σ.nd:=by rw [<- f];simp;omega
    split
    ·rename_i hw
     unfold EM;show Db (if EA (a.take σ.nl) (a.drop σ.nl) then _ else _) σ;split
     ·exact ⟨zD,zD⟩
     ·rename_i d
      unfold EA at d;refine ⟨⟨W.fmt,by show 16<24;omega,fun _=>by show 6<=16;omega,l,Co.of_lt (by show σ.count - Am σ.hk<8;omega),⟨II g (fun x hx=>BQ hx),?_,?_,II g (fun x hx=>jO hx),?_,?_⟩,fun _=>⟨rfl,rfl⟩,W.om,W.marks,W.Az⟩,?_,rfl,rfl,rfl,fun h=>by have:(16:Nat)=23:=h;omega⟩
      ·exact yB fun n=>d (Or.inr (Or.inl n))
      ·show 257<=(a.take σ.nl).length/\(a.take σ.nl).length<=269;rw [jS];omega
      ·show Om (a.drop σ.nl);unfold Om;by_cases h1:sumOf gw (a.drop σ.nl)=2048
       ·exact Or.inl h1
       ·cases h2:single (a.drop σ.nl)
        ·have h0:=(Mb (fun _=>1) 1 (fun _=>⟨zD,zD⟩) zD (a.drop σ.nl)).1;have:¬ 0<sumOf (fun _=>1) (a.drop σ.nl):=fun hp=>d (Or.inr (Or.inr ⟨h1,h2,hp⟩))
         exact Or.inr (Or.inr zO)
        ·exact Or.inr (Or.inl rfl)
      ·show (a.drop σ.nl).length<=16;rw [xI];omega
      ·rw [c];show 100*(σ.count - Am σ.hk)+16<_;omega
    ·rename_i hw
     refine ⟨⟨W.fmt,by show 13<24;omega,fun _=>by show 6<=13;omega,l,Co.of_lt (by show σ.count - Am σ.hk<8;omega),⟨i,a2,a3,g,by show a.length < σ.nl+σ.nd;omega⟩,fun e=>by have:(13:Nat)<12\/14<13:=e;omega,W.om,W.marks,W.Az⟩,?_,rfl,rfl,rfl,fun h=>by have:(13:Nat)=23:=h;omega⟩;rw [c];show 100*(σ.count - Am σ.hk)+29<_;omega
theorem gC{σ:St}(W:Wf σ)(h:σ.st=15):Db σ.act σ:=by
 have CN:=W.CN;have at_:=W.at_;rw [h] at CN at_;have hc:σ.count<8:=CN;obtain ⟨a,a2⟩:=at_;rw [Af h];simp only [actAt];have b:Gn σ=100*σ.count+17:=by unfold Gn;rw [h];rfl
 refine ⟨⟨W.fmt,by show 16<24;omega,fun _=>by show 6<=16;omega,W.held,Co.of_lt hc,⟨a.ra,a.wa,a.na,a.rb,a.wb,a.nb⟩,fun _=>W.own zO,Oo W.om a2,W.marks,W.Az⟩,a2,?_,rfl,rfl,rfl⟩;rw [b];show 100*σ.count+16<_;omega
theorem gD{σ:St}(W:Wf σ)(h:σ.st=16):Db σ.act σ:=by
 have CN:=W.CN;have at_:=W.at_;rw [h] at CN at_;have hc:Co σ.la σ.held σ.count:=CN;have a:Sets σ:=at_;rw [Af h];simp only [actAt,symbol];have c:Gn σ=100*σ.count+16:=by unfold Gn;rw [h];rfl
 cases e:EW σ.la σ.held σ.count with
 | none=>exact ⟨zD,zD⟩
 | more=>exact fun b d=>W.take d (by rw [h];exact Co.take b e) (by rw [h];exact ⟨a.ra,a.wa,a.na,a.rb,a.wb,a.nb⟩)
 | hit k m=>
  obtain ⟨h1,h2,h3⟩:=KM e;have hm:=hc.1 k m e;have l:=a.na;show Db ((σ.rd m).literal k) σ;unfold literal;split
  ·rename_i hk
   refine ⟨⟨W.fmt,by show 15<24;omega,fun _=>by show 6<=15;omega,DM W h2,by show σ.count - m<8;omega,⟨⟨a.ra,a.wa,a.na,a.rb,a.wb,a.nb⟩,hk⟩,fun _=>W.own zO,W.om,W.marks,W.Az⟩,?_,rfl,rfl,rfl,fun h=>by have:(15:Nat)=23:=h;omega⟩;rw [c];show 100*(σ.count - m)+17<_;omega
  ·split
   ·exact Vr W zO (DM W h2) (by show σ.count - m<8;omega) (by rw [c];show 100*(σ.count - m)+14<_;omega) rfl (W.own zO) rfl rfl rfl rfl rfl
   ·rename_i n k2
    obtain ⟨f,g,i⟩:=WR (j:=k - 257) zO;generalize k - 257=j at *;refine ⟨⟨W.fmt,by show 17<24;omega,fun _=>by show 6<=17;omega,DM W h2,by show σ.count - m<8+Tr.Ag j;omega,⟨⟨a.ra,a.wa,a.na,a.rb,a.wb,a.nb⟩,f,g,i⟩,fun _=>W.own zO,W.om,W.marks,W.Az⟩,?_,rfl,rfl,rfl,fun h=>by have:(17:Nat)=23:=h;omega⟩;rw [c];show 100*(σ.count - m)+86<_;omega
theorem gE{σ:St}(W:Wf σ)(h:σ.st=17):Db σ.act σ:=by
 have CN:=W.CN;have at_:=W.at_;rw [h] at CN at_;have hc:σ.count<8+σ.bits:=CN;obtain ⟨a,a2,a3,a4⟩:=at_;rw [Af h];simp only [actAt,Ab];have c:Gn σ=100*σ.count+86:=by unfold Gn;rw [h];rfl
 have f:=NR σ σ.bits;by_cases h3:σ.count < σ.bits
 ·rw [zC h3];exact fun b d=>W.take d (by rw [h];show σ.count+8<8+σ.bits;omega) (by rw [h];exact ⟨⟨a.ra,a.wa,a.na,a.rb,a.wb,a.nb⟩,a2,a3,a4⟩)
 ·rw [zA h3];have e:=DM W (k:=σ.bits) zO;refine ⟨⟨W.fmt,by show 18<24;omega,fun _=>by show 6<=18;omega,e,Co.of_lt (by show σ.count - σ.bits<8;omega),⟨⟨a.ra,a.wa,a.na,a.rb,a.wb,a.nb⟩,by show 3<=σ.least+σ.num σ.bits/\σ.least+σ.num σ.bits<=66;omega⟩,fun _=>W.own zO,W.om,W.marks,W.Az⟩,?_,rfl,rfl,rfl,fun h=>by have:(18:Nat)=23:=h;omega⟩;rw [c];show 100*(σ.count - σ.bits)+85<_;omega
theorem gF{σ:St}(W:Wf σ)(h:σ.st=18):Db σ.act σ:=by
 have CN:=W.CN;have at_:=W.at_;rw [h] at CN at_;have hc:Co σ.lb σ.held σ.count:=CN;obtain ⟨a,a2⟩:=at_;rw [Af h];simp only [actAt,symbol];have c:Gn σ=100*σ.count+85:=by unfold Gn;rw [h];rfl
 cases e:EW σ.lb σ.held σ.count with
 | none=>exact ⟨zD,zD⟩
 | more=>exact fun b d=>W.take d (by rw [h];exact Co.take b e) (by rw [h];exact ⟨⟨a.ra,a.wa,a.na,a.rb,a.wb,a.nb⟩,a2⟩)
 | hit k m=>
  obtain ⟨h1,h2,h3⟩:=KM e;have hm:=hc.1 k m e;have l:=a.nb;obtain ⟨f,g,i⟩:=Sj (j:=k) zO;refine ⟨⟨W.fmt,by show 19<24;omega,fun _=>by show 6<=19;omega,DM W h2,by show σ.count - m<8+Tr.Ag k;omega,⟨⟨⟨a.ra,a.wa,a.na,a.rb,a.wb,a.nb⟩,a2⟩,f,g,i⟩,fun _=>W.own zO,W.om,W.marks,W.Az⟩,?_,rfl,rfl,rfl,fun h=>by have:(19:Nat)=23:=h;omega⟩;rw [c];show 100*(σ.count - m)+84<_;omega
theorem gG{σ:St}(W:Wf σ)(h:σ.st=19):Db σ.act σ:=by
 have CN:=W.CN;have at_:=W.at_;rw [h] at CN at_;have hc:σ.count<8+σ.bits:=CN;obtain ⟨⟨a,a5⟩,a2,a3,a4⟩:=at_;rw [Af h];simp only [actAt,Ab];have c:Gn σ=100*σ.count+84:=by unfold Gn;rw [h];rfl
 have f:=NR σ σ.bits;by_cases h3:σ.count < σ.bits
 ·rw [zC h3];exact fun b d=>W.take d (by rw [h];show σ.count+8<8+σ.bits;omega) (by rw [h];exact ⟨⟨⟨a.ra,a.wa,a.na,a.rb,a.wb,a.nb⟩,a5⟩,a2,a3,a4⟩)
 ·rw [zA h3];have e:=DM W (k:=σ.bits) zO;split
  ·exact ⟨zD,zD⟩
  ·rename_i hd
   refine ⟨⟨W.fmt,by show 20<24;omega,fun _=>by show 6<=20;omega,e,by show σ.count - σ.bits<8;omega,⟨⟨⟨a.ra,a.wa,a.na,a.rb,a.wb,a.nb⟩,a5.2⟩,by show 1<=σ.least+σ.num σ.bits/\σ.least+σ.num σ.bits<=σ.om.length/\σ.least+σ.num σ.bits<=256;omega⟩,fun _=>W.own zO,W.om,W.marks,W.Az⟩,?_,rfl,rfl,rfl,fun h=>by have:(20:Nat)=23:=h;omega⟩;rw [c];show 100*(σ.count - σ.bits)+(17+σ.left)<_;omega
theorem gH{σ:St}(W:Wf σ)(h:σ.st=20):Db σ.act σ:=by
 have CN:=W.CN;have at_:=W.at_;rw [h] at CN at_;have hc:σ.count<8:=CN;obtain ⟨⟨a,a5⟩,a2,a3,a4⟩:=at_;rw [Af h];simp only [actAt];have b:Gn σ=100*σ.count+(17+σ.left):=by unfold Gn;rw [h];rfl
 split
 ·rename_i hl
  refine ⟨⟨W.fmt,by show 16<24;omega,fun _=>by show 6<=16;omega,W.held,Co.of_lt hc,⟨a.ra,a.wa,a.na,a.rb,a.wb,a.nb⟩,fun _=>W.own zO,W.om,W.marks,W.Az⟩,?_,rfl,rfl,rfl,fun h=>by have:(16:Nat)=23:=h;omega⟩;rw [b];show 100*σ.count+16<_;omega
 ·rename_i hl
  have c:σ.om.getD (σ.om.length - σ.Cc) 0<256:=by
   rw [yF];cases e:σ.om[σ.om.length - σ.Cc]? with
   | none=>decide
   | some x=>exact W.om x (List.mem_of_getElem? e)
  refine ⟨⟨W.fmt,W.st,W.raw,W.held,?_,?_,fun _=>W.own zO,Oo W.om c,W.marks,W.Az⟩,c,?_,rfl,rfl,rfl⟩
  ·show en σ.st _;rw [h];exact hc
  ·show At σ.st _;rw [h];exact ⟨⟨⟨a.ra,a.wa,a.na,a.rb,a.wb,a.nb⟩,by show σ.left - 1<=66;omega⟩,a2,by show σ.Cc<=(σ.om++[_]).length;simp;omega,a4⟩
  ·rw [b];show 100*σ.count+loc σ.st _<_;rw [h];show 100*σ.count+(17+(σ.left - 1))<_;omega
theorem next{σ:St}(W:Wf σ):Db σ.act σ:=by
 rcases IB W.st with h | h | h | h | h | h | h | h | h | h | h | h | h | h | h | h | h | h | h | h | h | h | h | h
 ·exact ko W h
 ·exact kq W h
 ·exact kr W h
 ·exact ks W h
 ·exact kt W h
 ·exact ku W h
 ·exact kx W h
 ·exact ky W h
 ·exact kz W h
 ·exact lA W h
 ·exact fu W h
 ·exact fv W h
 ·exact fy W h
 ·exact fz W h
 ·exact gA W h
 ·exact gC W h
 ·exact gD W h
 ·exact gE W h
 ·exact gF W h
 ·exact gG W h
 ·exact gH W h
 ·exact gI W h
 ·exact gJ W h
 ·exact gK W h
end St
namespace St
def pos(σ:St)(t:Tr):Nat:=t.Aw+σ.count / 8
def low(σ:St)(t:Tr):Nat:=t.Aw+if σ.st=23 then 0 else σ.count / 8
theorem TX(σ:St)(b:Nat)(t:Tr):(σ.add b).fin t=σ.fin t:=cI rfl rfl t
theorem Ro(σ:St)(b:Nat)(t:Tr):(σ.add b).after t=σ.after t:=Um rfl rfl rfl t
theorem Hh(σ:St)(b:Nat)(x:CF×CF×Tr):(σ.add b).cont x=σ.cont x:=Yl rfl rfl rfl x
theorem KD(σ:St)(b:Nat)(t:Tr):(σ.add b).Wr t=σ.Wr t:=Hh σ b (Ax σ.la,Ax σ.lb,t)
theorem XT(σ:St)(b:Nat)(t:Tr):(σ.add b).k6 t=σ.k6 t:=TX σ b _
theorem dC(σ:St)(b:Nat)(t:Tr):(σ.add b).k5 t=σ.k5 t:=XT σ b _
theorem dB(σ:St)(b:Nat)(t:Tr):(σ.add b).k4 t=σ.k4 t:=dC σ b _
theorem ja(σ:St)(b:Nat)(t:Tr):(σ.add b).k3 t=σ.k3 t:=dB σ b _
theorem XS(σ:St)(b:Nat)(t:Tr):(σ.add b).k2 t=σ.k2 t:=by
 unfold k2;rw [XT,XT];rfl
theorem iA(σ:St)(b:Nat)(t:Tr):(σ.add b).K t=σ.K t:=by
 show Kat σ.st (σ.add b) t=Kat σ.st σ t;unfold Kat;split
 ·exact XS σ b _
 ·exact XS σ b _
 ·exact XS σ b _
 ·exact ja σ b _
 ·exact dB σ b _
 ·exact dC σ b _
 ·exact TX σ b _
 ·exact Ro σ b _
 ·exact Ro σ b _
 ·exact Hh σ b _
 ·exact Hh σ b _
 ·exact Hh σ b _
 ·exact Hh σ b _
 ·exact Hh σ b _
 ·exact Hh σ b _
 ·exact KD σ b _
 ·exact KD σ b _
 ·exact KD σ b _
 ·exact KD σ b _
 ·exact KD σ b _
 ·exact KD σ b _
 ·exact TX σ b _
 ·rfl
 ·rfl
theorem ZI{σ:St}(R:Rel σ t)(h:pos σ t<t.s.size):Rel (σ.add (Bm t.s (pos σ t))) t:=⟨R.going,R.hand.take h,R.lim,R.CU,R.om,R.head,R.begun,R.bytes⟩
structure Ext(σ:St)(t:Tr)(T:Tr.Ob):Prop where
 out:∃ l,T.out=t.out++l
 Br:∃ l,T.Br=t.Br++l/\∀ x∈l,pos σ t<=x
 len:T.Br.length=T.out.length
 Aw:pos σ t<=T.Aw/\T.Aw<=t.s.size
 Aa:∃ l,T.Aa=t.Aa++l/\∀ x∈l,low σ t<=x
 err:T.err<=14/\(T.err≠0->T.CZ=false)
theorem Xm{σ:St}(R:Rel σ t):pos σ t<=t.s.size:=R.hand.Aw
theorem Ext.here{σ:St}(R:Rel σ t){n:Bool}(hi:pos σ t<=i/\i<=t.s.size)(he:e<=14/\(e≠0->n=false)):Ext σ t ⟨t.out,t.Br,i,t.Aa,e,n⟩:=⟨⟨[],zS⟩,⟨[],zS,fun x hx=>by cases hx⟩,R.CU.Br,hi,⟨[],zS,fun x hx=>by cases hx⟩,he⟩
theorem dI(σ:St)(t:Tr):low σ t<=pos σ t:=by
 unfold low pos;split <;> omega
theorem ext:∀ (n:Nat) (σ:St) (t:Tr),Wf σ->Rel σ t->Gn σ+900*(t.s.size - pos σ t)<=n->Ext σ t (Tr.DJ (σ.K t)):=by
 intro n;induction n with
 | zero=>
  intro σ t W R hn;have S:=mG W R;have N:=next W;unfold GK at S;cases a:σ.act with
  | take=>
   rw [a] at S N;have hp:=Xm R;have e:=S (by show pos σ t=_;omega);rw [e];exact Ext.here R ⟨hp,zE _⟩ ⟨zD,fun h=>absurd rfl h⟩
  | put b σ'=>rw [a] at N;have:=N.2.2.1;omega
  | DF σ'=>rw [a] at N;have:=N.2.1;omega
  | fail e=>
   rw [a] at S N;have e:=S;rw [e];exact Ext.here R ⟨zE _,Xm R⟩ ⟨N.2,fun _=>rfl⟩
 | succ n ih=>
  intro σ t W R hn;have S:=mG W R;have N:=next W;unfold GK at S;have hp:=Xm R;cases a:σ.act with
  | take=>
   rw [a] at S N;by_cases hs:pos σ t=t.s.size
   ·rw [S hs];exact Ext.here R ⟨hp,zE _⟩ ⟨zD,fun h=>absurd rfl h⟩
   ·have r:pos σ t<t.s.size:=zO;have f:pos (σ.add (Bm t.s (pos σ t))) t=pos σ t+1:=by show t.Aw+(σ.count+8) / 8=t.Aw+σ.count / 8+1;omega
    have z:Gn (σ.add (Bm t.s (pos σ t)))=Gn σ+800:=by
     have:loc σ.st (σ.add (Bm t.s (pos σ t)))=loc σ.st σ:=by unfold loc;split <;> rfl
     show 100*(σ.count+8)+loc σ.st (σ.add (Bm t.s (pos σ t)))=100*σ.count+loc σ.st σ+800;omega
    have E:=ih (σ.add (Bm t.s (pos σ t))) t (N _ (Ex _ _)) (ZI R r) (by rw [f,z];omega);rw [iA] at E;obtain ⟨l,hl,hx⟩:=E.Br;obtain ⟨m,hm,i⟩:=E.Aa;refine ⟨E.out,⟨l,hl,fun x h=>by have:=hx x h;omega⟩,E.len,⟨by have:=E.Aw.1;omega,E.Aw.2⟩,⟨m,hm,fun x h=>?_⟩,E.err⟩;have h1:=i x h;have h2:low σ t<=low (σ.add (Bm t.s (pos σ t))) t:=by
     unfold low;show t.Aw+(if σ.st=23 then 0 else σ.count / 8)<=t.Aw+(if σ.st=23 then 0 else (σ.count+8) / 8);split <;> omega
    omega
  | put b σ'=>
   rw [a] at S N;obtain ⟨d,R',q,v,w,y,j,o⟩:=S;obtain ⟨W',D,k,A⟩:=N;have f:pos σ' d=pos σ t:=y;have E:=ih σ' d W' R' (by rw [f,o];omega);rw [q] at E;obtain ⟨u,g⟩:=E.out;obtain ⟨l,hl,hx⟩:=E.Br;obtain ⟨m,hm,i⟩:=E.Aa;refine ⟨⟨b :: u,by rw [g,v];simp⟩,⟨pos σ t :: l,by rw [hl,w];simp [pos],fun x h=>?_⟩,E.len,⟨by rw [<- f];exact E.Aw.1,by rw [<- o];exact E.Aw.2⟩,⟨m,by rw [hm,j],fun x h=>?_⟩,E.err⟩
   ·rcases xB.1 h with h | h
    ·omega
    ·have:=hx x h;omega
   ·have h1:=i x h;have h2:=dI σ t;by_cases c:σ'.st=23
    ·have hc:σ.st≠23:=fun h=>by rw [Af h] at a;simp only [actAt,Ab] at a;(repeat' split at a) <;> cases a
     exfalso
     have p:σ.st=8\/σ.st=15\/σ.st=20:=by
      rcases IB W.st with h | h | h | h | h | h | h | h | h | h | h | h | h | h | h | h | h | h | h | h | h | h | h | h
      all_goals first
       | omega
       | (exfalso;rw [Af h] at a;simp only [actAt,Ab,DG,text,kind,endBlock,symbol,literal,Ek,EM] at a;(repeat' split at a) <;> cases a)
     rcases p with h | h | h <;> rw [Af h] at a <;> simp only [actAt,Ab] at a
     ·split at a
      ·unfold endBlock at a;(repeat' split at a) <;> cases a
      ·split at a
       ·cases a
       ·cases a;have:σ.st=23:=c;omega
     ·cases a;have:(16:Nat)=23:=c;omega
     ·split at a
      ·cases a
      ·cases a;have:σ.st=23:=c;omega
    ·have h3:low σ' d=pos σ' d:=by unfold low pos;rw [zA c]
     omega
  | DF σ'=>
   rw [a] at S N;obtain ⟨d,R',q,v,w,y,j,o⟩:=S;obtain ⟨W',k,A,C,B,c⟩:=N;have f:pos σ' d=pos σ t:=y;have E:=ih σ' d W' R' (by rw [f,o];omega);rw [q] at E;obtain ⟨u,g⟩:=E.out;obtain ⟨l,hl,hx⟩:=E.Br;obtain ⟨m,hm,i⟩:=E.Aa;have h2:=dI σ t;have h3:low σ' d=pos σ' d:=by
    unfold low pos;split
    ·rename_i h;rw [c h]
    ·rfl
   refine ⟨⟨u,by rw [g,v]⟩,⟨l,by rw [hl,w],fun x h=>by have:=hx x h;omega⟩,E.len,⟨by rw [<- f];exact E.Aw.1,by rw [<- o];exact E.Aw.2⟩,?_,E.err⟩;by_cases h:σ.st=23
   ·rw [zC h] at j;refine ⟨t.Aw :: m,by rw [hm,j];simp,fun x hx=>?_⟩;have:low σ t=t.Aw:=by unfold low;rw [zC h];rfl
    rcases xB.1 hx with hx | hx
    ·omega
    ·have:=i x hx;omega
   ·rw [zA h] at j;exact ⟨m,by rw [hm,j],fun x hx=>by have:=i x hx;omega⟩
  | fail e=>
   rw [a] at S N;have e:=S;rw [e];exact Ext.here R ⟨zE _,hp⟩ ⟨N.2,fun _=>rfl⟩
theorem Rel.ext{σ:St}(W:Wf σ)(R:Rel σ t):Ext σ t (Tr.DJ (σ.K t)):=St.ext _ σ t W R zL
end St
structure CI(pre:List Nat)(s:ByteArray):Prop where
 len:pre.length<=s.size
 at_:∀ k,k<pre.length->Bm s k=pre.getD k 0
theorem CI.snoc{b:Nat}(h:CI (pre++[b]) s):CI pre s/\pre.length<s.size/\Bm s pre.length=b:=by
 have hl:=h.len;rw [zI,yO] at hl;refine ⟨⟨zO,fun k hk=>?_⟩,zO,?_⟩
 ·rw [h.at_ k (by simp;omega)];simp [yF,kE hk]
 ·rw [h.at_ pre.length zS];simp [yF]
theorem CI.push(h:CI pre s)(hl:pre.length<s.size):CI (pre++[Bm s pre.length]) s:=by
 refine ⟨by simp;omega,fun k hk=>?_⟩;rw [zI,yO] at hk;by_cases a:k<pre.length
 ·rw [h.at_ k a];simp [yF,kE a]
 ·have e:k=pre.length:=zO;subst e;simp [yF]
structure Cf where
 σ:St
 pre:List Nat
 outs:List Nat
 Br:List Nat
 Aa:List Nat
structure GI(fm mem lim:Nat)(c:Cf):Prop where
 wf:St.Wf c.σ
 fM:c.σ.fmt=fm
 fq:c.σ.mem=mem
 fZ:c.σ.lim=lim
 tr:∀ s:ByteArray,s.size≠0->CI c.pre s->∃ t,St.Rel c.σ t/\t.s=s/\St.pos c.σ t=c.pre.length/\t.out=c.outs/\t.Br=c.Br/\t.Aa=c.Aa/\Tr.DJ (c.σ.K t)=Tr.DJ (Tr.read fm mem lim s)
def St.begin(fm mem lim:Nat):St:=
 { fmt:=fm,mem:=mem,lim:=lim,st:=if fm=0 then 6 else 0,held:=0,count:=0,begun:=1,marks:=0,Az:=0,Bq:=0,om:=[],last:=false,left:=0,nl:=0,nd:=0,told:=0,hl:=[],hs:=[],hk:=0,row:=[],la:=[],lb:=[],lit:=0,least:=0,bits:=0,Cc:=0 }
def Cf.begin(fm mem lim:Nat):Cf:=⟨St.begin fm mem lim,[],[],[],[0]⟩
theorem St.La(h:fm<3):St.Wf (St.begin fm mem lim):=by
 by_cases h0:fm=0
 ·subst h0;exact ⟨h,by show 6<24;omega,fun _=>by show 6<=6;omega,by show 0<2^0;omega,by show 0<11;omega,trivial,fun _=>⟨rfl,rfl⟩,fun x hx=>(by cases hx),⟨zH _,fun _=>rfl⟩,by show 0<256;omega⟩
 ·have e:(St.begin fm mem lim).st=0:=by show (if fm=0 then 6 else 0)=0;rw [zA h0]
  exact ⟨h,by rw [e];omega,fun a=>absurd a h0,by show 0<2^0;omega,by rw [e];exact ⟨rfl,zH _⟩,by rw [e];rfl,fun _=>⟨rfl,rfl⟩,fun x hx=>(by cases hx),⟨zH _,fun _=>rfl⟩,by show 0<256;omega⟩
theorem St.Za(s:ByteArray):St.Rel (St.begin fm mem lim) ({ Tr.start s lim with Aa:=[0] }:Tr):=⟨rfl,⟨rfl,by show 0<2^0;omega,by show 0+0 / 8<=s.size;omega,by show 0=0+2^(0%8)*Tr.le s 0 (0 / 8);rw [show (0:Nat) / 8=0 from rfl];rfl⟩,rfl,⟨by show 0<=8;omega,by show 0<256;omega,zH _,zE _,rfl,by show 0<=18;omega⟩,fun _=>rfl,fun _=>⟨rfl,rfl⟩,fun _=>rfl,fun x hx=>(by cases hx)⟩
theorem GI.begin(h:fm<3)(hm:1<=mem):GI fm mem lim (Cf.begin fm mem lim):=by
 refine ⟨St.La h,rfl,rfl,rfl,fun s hs _=>⟨({ Tr.start s lim with Aa:=[0] }:Tr),St.Za s,rfl,by show 0+0 / 8=0;rfl,rfl,rfl,rfl,?_⟩⟩;have h3:fm=0\/fm=1\/fm=2:=zO;rcases h3 with rfl | rfl | rfl
 ·have e:Tr.read 0 mem lim s=({ Tr.start s lim with Aa:=[0] }:Tr).blocks.DP:=by
   unfold Tr.read Tr.Gb;rw [zC rfl,zA hs]
  rw [e];rfl
 ·have e:Tr.read 1 mem lim s=(((({ Tr.start s lim with Aa:=[0] }:Tr).Ea 115).Ea 1).blocks.sum).DP:=by
   unfold Tr.read Tr.Ej;rw [zA zD,zC rfl,zA hs]
  have hk:∀ x:Tr,(St.begin 1 mem lim).k2 x=x.blocks.sum.DP:=fun x=>by
   unfold St.k2 St.k6 St.fin;have b:(St.begin 1 mem lim).fmt=1:=rfl;rw [b,zA zD,zA zD,zC rfl]
  have a:∀ x:Tr,(St.begin 1 mem lim).K x=(St.begin 1 mem lim).k2 ((x.Ea (if (1:Nat)=1 then 115 else 76)).Ea (if (1:Nat)=1 then 1 else 2)):=fun x=>St.Em (n:=0) rfl x
  rw [e];show Tr.DJ ((St.begin 1 mem lim).K _)=_;rw [a,hk,zC rfl,zC rfl]
 ·have e:Tr.read 2 mem lim s=Tr.Hm mem ({ Tr.start s lim with Aa:=[0] }:Tr).Dw:=by
   unfold Tr.read Tr.FD;rw [zA zD,zA zD,zA hs,Tr.Oh (GW s lim) ⟨rfl,by show 0<s.size;omega⟩ (by show ¬ mem<=0;omega)];rfl
  have hk:∀ x:Tr,(St.begin 2 mem lim).k2 x=Tr.Hm mem ((x.Au.2.marked x.Au.1).blocks.sum.sized):=fun x=>by
   unfold St.k2 St.k6 St.fin;have b:(St.begin 2 mem lim).fmt=2:=rfl;rw [b,zC rfl,zA zD,zA zD];rfl
  have a:∀ x:Tr,(St.begin 2 mem lim).K x=(St.begin 2 mem lim).k2 ((x.Ea (if (2:Nat)=1 then 115 else 76)).Ea (if (2:Nat)=1 then 1 else 2)):=fun x=>St.Em (n:=0) rfl x
  rw [e];show Tr.DJ ((St.begin 2 mem lim).K _)=_;rw [a,hk,zA zD,zA zD];unfold Tr.Dw Tr.DA;rfl
theorem GI.take{c:Cf}(h:GI fm mem lim c)(j:c.σ.act= .take){b:Nat}(k:b<256):GI fm mem lim { c with σ:=c.σ.add b,pre:=c.pre++[b] }:=by
 have N:=St.next h.wf;rw [j] at N;refine ⟨N b k,h.fM,h.fq,h.fZ,fun s hs l=>?_⟩;obtain ⟨t1,t2,t3⟩:=l.snoc;obtain ⟨t,R,a,d,e,f,g,i⟩:=h.tr s hs t1;have hp:St.pos c.σ t<t.s.size:=by rw [a,d];exact t2
 have R':=St.ZI R hp;rw [a,d,t3] at R';refine ⟨t,R',a,?_,e,f,g,?_⟩
 ·show t.Aw+(c.σ.count+8) / 8=(c.pre++[b]).length;rw [zI,yO,<- d];show _=t.Aw+c.σ.count / 8+1;omega
 ·show Tr.DJ ((c.σ.add b).K t)=_;rw [St.iA];exact i
theorem GI.put{c:Cf}(h:GI fm mem lim c){b:Nat}{σ':St}(d:c.σ.act= .put b σ'):GI fm mem lim { c with σ:=σ',outs:=c.outs++[b],Br:=c.Br++[c.pre.length] }/\b<256:=by
 have N:=St.next h.wf;rw [d] at N;obtain ⟨W',r,e,n,o,p⟩:=N;refine ⟨⟨W',n.trans h.fM,o.trans h.fq,p.trans h.fZ,fun s hs u=>?_⟩,r⟩;obtain ⟨t,R,g,a,i,j,k,l⟩:=h.tr s hs u;have S:=St.mG h.wf R;unfold St.GK at S;rw [d] at S;obtain ⟨f,R',q,v,w,y,z,A⟩:=S;refine ⟨f,R',A.trans g,?_,by rw [v,i],?_,z.trans k,by rw [<- l];exact yH _ q⟩
 ·show f.Aw+σ'.count / 8=_;rw [y];exact a
 ·rw [w,j];show _=c.Br++[c.pre.length];rw [<- a];rfl
theorem GI.DF{c:Cf}(h:GI fm mem lim c){σ':St}(b:c.σ.act= .DF σ'):GI fm mem lim { c with σ:=σ',Aa:=if c.σ.st=23 then c.Aa++[c.pre.length - 1] else c.Aa }:=by
 have N:=St.next h.wf;rw [b] at N;obtain ⟨W',g,o,p,q,r⟩:=N;refine ⟨W',o.trans h.fM,p.trans h.fq,q.trans h.fZ,fun s hs v=>?_⟩;obtain ⟨t,R,j,e,k,l,f,n⟩:=h.tr s hs v;have S:=St.mG h.wf R;unfold St.GK at S;rw [b] at S;obtain ⟨i,R',u,w,y,z,A,B⟩:=S;refine ⟨i,R',B.trans j,?_,by rw [w,k],by rw [y,l],?_,by rw [<- n];exact yH _ u⟩
 ·show i.Aw+σ'.count / 8=_;rw [z];exact e
 ·rw [A];show _=if c.σ.st=23 then c.Aa++[c.pre.length - 1] else c.Aa;by_cases a:c.σ.st=23
  ·rw [zC a,zC a,f];have CN:=h.wf.CN;rw [a] at CN;have hc:c.σ.count%8=0/\c.σ.count<=8:=CN;have d:c.σ.count=8:=by
    rcases St.Fg hc with C | d
    ·rw [St.Af a] at b;simp only [St.actAt,St.Ab] at b;rw [zC zO] at b;cases b
    ·exact d
   have:t.Aw=c.pre.length - 1:=by
    rw [<- e];show t.Aw=t.Aw+c.σ.count / 8 - 1;omega
   rw [this]
  ·rw [zA a,zA a,f]
theorem GI.fail{c:Cf}(h:GI fm mem lim c)(a:c.σ.act= .fail e)(hs:s.size≠0)(k:CI c.pre s):Tr.DJ (Tr.read fm mem lim s)=⟨c.outs,c.Br,c.pre.length,c.Aa,e,false⟩/\4<=e/\e<=14:=by
 have N:=St.next h.wf;rw [a] at N;obtain ⟨t,R,l,d,f,g,i,j⟩:=h.tr s hs k;have S:=St.mG h.wf R;unfold St.GK at S;rw [a] at S;refine ⟨?_,N⟩;rw [<- j];have b:Tr.DJ (c.σ.K t)=⟨t.out,t.Br,t.Aw+c.σ.count / 8,t.Aa,e,false⟩:=S;rw [b,f,g,i,<- d];rfl
theorem GI.Cr{c:Cf}(h:GI fm mem lim c)(j:c.σ.act= .take)(hs:s.size≠0)(k:CI c.pre s)(hl:s.size=c.pre.length):Tr.DJ (Tr.read fm mem lim s)=⟨c.outs,c.Br,c.pre.length,c.Aa,0,decide (c.σ.st<23)⟩:=by
 obtain ⟨t,R,a,d,e,f,g,i⟩:=h.tr s hs k;have S:=St.mG h.wf R;unfold St.GK at S;rw [j] at S;rw [<- i];have b:Tr.DJ (c.σ.K t)=_:=S (by show St.pos c.σ t=_;rw [a,d,hl]);rw [b,e,f,g,a,hl]
structure On(c:Cf)(T:Tr.Ob):Prop where
 out:∃ l,T.out=c.outs++l
 Br:∃ l,T.Br=c.Br++l/\∀ x∈l,c.pre.length<=x
 len:T.Br.length=T.out.length
 mO:c.Br.length=c.outs.length
 Aw:c.pre.length<=T.Aw
 Aa:∃ l,T.Aa=c.Aa++l/\(c.σ.st≠23\/c.σ.count=0->∀ x∈l,c.pre.length<=x)
 err:T.err<=14/\(T.err≠0->T.CZ=false)
theorem GI.on{c:Cf}(h:GI fm mem lim c)(hs:s.size≠0)(i:CI c.pre s):On c (Tr.DJ (Tr.read fm mem lim s))/\(Tr.DJ (Tr.read fm mem lim s)).Aw<=s.size:=by
 obtain ⟨t,R,d,k,a,b,e,f⟩:=h.tr s hs i;have E:=R.ext h.wf;rw [f] at E;generalize Tr.DJ (Tr.read fm mem lim s)=T at *;obtain ⟨l,hl⟩:=E.out;obtain ⟨m,hm,hx⟩:=E.Br;obtain ⟨n,g,j⟩:=E.Aa;refine ⟨⟨⟨l,by rw [hl,a]⟩,⟨m,by rw [hm,b],fun x h=>by have:=hx x h;omega⟩,E.len,by rw [<- a,<- b];exact R.CU.Br,by have:=E.Aw.1;omega,⟨n,by rw [g,e],fun hc x h=>?_⟩,E.err⟩,by have:=E.Aw.2;rw [d] at this;exact this⟩;have h1:=j x h;have:St.low c.σ t=St.pos c.σ t:=by
  unfold St.low St.pos;rcases hc with hc | hc
  ·rw [zA hc]
  ·split
   ·rw [hc]
   ·rfl
 omega
structure Cm where
 out:Nat
 ratio:Nat
 CH:Nat
 steps:Nat
def Cl(q:Cm)(i o:Nat):Nat:=if q.steps<=i+o then 16 else if q.out<=o then 17 else if q.ratio*i+q.CH<=o then 18 else 0
def play(T:Tr.Ob)(q:Cm)(D:Nat)(closed:Bool):Nat->Nat->Nat->Nat×Nat×Nat×Option Bool
 | 0,i,o=>(i,o,0,none)
 | f+1,i,o=>
  if o<T.out.length/\T.Br.getD o 0=i then
   if D+64<=o then (i,o,0,none)
   else if Cl q i o≠0 then (i,o,Cl q i o,none)
   else play T q D closed f i (o+1)
  else if i<T.Aw then
   if q.steps<=i+o then (i,o,16,none) else play T q D closed f (i+1) o
  else if T.err=0/\closed=true then (i,o,if T.CZ then 15 else 0,some (!T.CZ))
  else (i,o,T.err,none)
inductive DL(q:Cm)(D:Nat)(s:ByteArray):Cf->Cf->Prop
 | take (c:Cf):c.σ.act= .take->c.pre.length<s.size->¬ q.steps<=c.pre.length+c.outs.length->DL q D s c { c with σ:=c.σ.add (Bm s c.pre.length),pre:=c.pre++[Bm s c.pre.length] }
 | put (c:Cf) (b:Nat) (σ':St):c.σ.act= .put b σ'->¬ D+64<=c.outs.length->Cl q c.pre.length c.outs.length=0->DL q D s c { c with σ:=σ',outs:=c.outs++[b],Br:=c.Br++[c.pre.length] }
 | DF (c:Cf) (σ':St):c.σ.act= .DF σ'->DL q D s c { c with σ:=σ',Aa:=if c.σ.st=23 then c.Aa++[c.pre.length - 1] else c.Aa }
inductive Steps(q:Cm)(D:Nat)(s:ByteArray):Cf->Cf->Prop
 | refl (c:Cf):Steps q D s c c
 | step (a b c:Cf):DL q D s a b->Steps q D s b c->Steps q D s a c
theorem Steps.trans{q:Cm}{a b c:Cf}(h:Steps q D s a b)(k:Steps q D s b c):Steps q D s a c:=by
 induction h with
 | refl=>exact k
 | step a b _ h1 _ ih=>exact .step a b _ h1 (ih k)
theorem Steps.one{q:Cm}{a b:Cf}(h:DL q D s a b):Steps q D s a b:= .step a b b h (.refl b)
inductive Halt(q:Cm)(D:Nat)(s:ByteArray)(closed:Bool)(c:Cf):Nat->Option Bool->Prop
 | Cr:c.σ.act= .take->s.size<=c.pre.length->Halt q D s closed c (if closed=true/\c.σ.st<23 then 15 else 0) (if closed=true then some (decide (¬ c.σ.st<23)) else none)
 | steps:c.σ.act= .take->c.pre.length<s.size->q.steps<=c.pre.length+c.outs.length->Halt q D s closed c 16 none
 | full (b:Nat) (σ':St):c.σ.act= .put b σ'->D+64<=c.outs.length->Halt q D s closed c 0 none
 | quota (b:Nat) (σ':St):c.σ.act= .put b σ'->¬ D+64<=c.outs.length->Cl q c.pre.length c.outs.length≠0->Halt q D s closed c (Cl q c.pre.length c.outs.length) none
 | fail (e:Nat):c.σ.act= .fail e->Halt q D s closed c e none
structure PC(c:Cf):Prop where
 below:∀ x∈c.Aa,x=0\/x<c.pre.length
 none:c.pre.length=0->c.Aa=[0]
 one:c.σ.fmt≠2->c.Aa=[0]
 bytes:∀ x∈c.pre,x<256
theorem PC.begin(fm mem lim:Nat):PC (Cf.begin fm mem lim):=⟨fun x hx=>by have:x∈[0]:=hx;simp at this;exact Or.inl this,fun _=>rfl,fun _=>rfl,fun x hx=>(by cases hx)⟩
theorem GI.step{q:Cm}{c c':Cf}(h:GI fm mem lim c)(st:DL q D s c c')(a:CI c.pre s):GI fm mem lim c'/\CI c'.pre s:=by
 cases st with
 | take h1 h2 h3=>exact ⟨h.take h1 (Ex _ _),a.push h2⟩
 | put b σ' h1 h2 h3=>exact ⟨(h.put h1).1,a⟩
 | DF σ' h1=>exact ⟨h.DF h1,a⟩
theorem Ym{c:Cf}(h:GI fm mem lim c)(a:c.σ.st=23):c.σ.count=0\/c.σ.count=8:=by
 have CN:=h.wf.CN;rw [a] at CN;exact St.Fg CN
theorem WO(h:∀ x∈pre,x<256):∃ s:ByteArray,s.size≠0/\CI pre s:=by
 refine ⟨⟨((pre++[0]).map UInt8.ofNat).toArray⟩,by simp [ByteArray.size],⟨by simp [ByteArray.size],fun k hk=>?_⟩⟩;unfold Bm;have h1:=h pre[k] (yD hk);simp only [yF,BT,kE hk,xR hk,Option.map_some,Option.getD_some];simp;omega
theorem nK{c:Cf}(h:GI fm mem lim c)(f:∀ x∈c.pre,x<256){σ':St}(j:c.σ.act= .DF σ')(b:c.σ.st=23):c.σ.fmt=2/\0<c.pre.length:=by
 have hc:=Ym h b;have a:=j;rw [St.Af b] at a;simp only [St.actAt,St.Ab] at a;have d:¬ c.σ.count<8:=fun d=>by rw [zC d] at a;cases a
 rw [zA d] at a;have g:c.σ.fmt=2:=yB fun g=>by rw [zC g] at a;cases a
 refine ⟨g,?_⟩;have e:=WO f;obtain ⟨s,hs,k⟩:=e;obtain ⟨t,R,l,i,_⟩:=h.tr s hs k;rw [<- i];show 0<t.Aw+c.σ.count / 8;omega
theorem PC.step{q:Cm}{c c':Cf}(h:GI fm mem lim c)(b:PC c)(st:DL q D s c c'):PC c':=by
 have N:=St.next h.wf;cases st with
 | take h1 h2 h3=>
  refine ⟨fun x hx=>?_,fun h0=>?_,b.one,St.Oo b.bytes (Ex _ _)⟩
  ·have h4:=b.below x hx;show x=0\/x<(c.pre++[_]).length;rw [zI,yO];omega
  ·have h5:(c.pre++[Bm s c.pre.length]).length=0:=h0;simp at h5
 | put y σ' h1 h2 h3=>
  rw [h1] at N;exact ⟨b.below,b.none,fun g=>b.one (by have:=N.2.2.2.1;intro h6;exact g (this.trans h6)),b.bytes⟩
 | DF σ' h1=>
  rw [h1] at N;have g:=N.2.2.1;by_cases a:c.σ.st=23
  ·obtain ⟨i,hp⟩:=nK h b.bytes h1 a;refine ⟨fun x hx=>?_,fun h0=>by have:c.pre.length=0:=h0;omega,fun h6=>absurd (g.trans i) h6,b.bytes⟩;have f:x∈(if c.σ.st=23 then c.Aa++[c.pre.length - 1] else c.Aa):=hx;rw [zC a] at f;rcases yW.1 f with d | d
   ·exact b.below x d
   ·simp at d;right;show x<c.pre.length;omega
  ·have e:(if c.σ.st=23 then c.Aa++[c.pre.length - 1] else c.Aa)=c.Aa:=zA a;exact ⟨fun x hx=>b.below x (by rw [<- e];exact hx),fun h0=>e.trans (b.none h0),fun h6=>e.trans (b.one fun d=>h6 (g.trans d)),b.bytes⟩
theorem getD_at{l m:List Nat}{x:Nat}:(l++x :: m).getD l.length 0=x:=by simp [yF]
theorem GI.LF{c:Cf}(h:GI fm mem lim c)(hs:s.size≠0)(g:CI c.pre s){b:Nat}{σ':St}(f:c.σ.act= .put b σ'):c.outs.length<(Tr.DJ (Tr.read fm mem lim s)).out.length/\(Tr.DJ (Tr.read fm mem lim s)).Br.getD c.outs.length 0=c.pre.length:=by
 have O:=((h.put f).1.on hs g).1;generalize Tr.DJ (Tr.read fm mem lim s)=T at *;obtain ⟨l,hl⟩:=O.out;obtain ⟨m,hm,_⟩:=O.Br;have hc:(c.Br++[c.pre.length]).length=(c.outs++[b]).length:=O.mO;have a:T.out=(c.outs++[b])++l:=hl;have d:T.Br=(c.Br++[c.pre.length])++m:=hm;refine ⟨by rw [a];simp,?_⟩;have e:c.outs.length=c.Br.length:=by simp at hc;omega
 rw [d,e,yI];exact getD_at
theorem GI.Ss{c:Cf}(h:GI fm mem lim c)(hs:s.size≠0)(d:CI c.pre s)(b:c.σ.act= .take)(hl:c.pre.length<s.size):¬ (c.outs.length<(Tr.DJ (Tr.read fm mem lim s)).out.length/\(Tr.DJ (Tr.read fm mem lim s)).Br.getD c.outs.length 0=c.pre.length)/\c.pre.length<(Tr.DJ (Tr.read fm mem lim s)).Aw:=by
 have O:=((h.take b (Ex s c.pre.length)).on hs (d.push hl)).1;generalize Tr.DJ (Tr.read fm mem lim s)=T at *;obtain ⟨m,hm,hx⟩:=O.Br;have hc:c.Br.length=c.outs.length:=O.mO;have a:T.Br=c.Br++m:=hm;have hi:(c.pre++[Bm s c.pre.length]).length<=T.Aw:=O.Aw;rw [zI,yO] at hi;refine ⟨fun ⟨h1,h2⟩=>?_,zO⟩;have h3:=O.len;cases m with
 | nil=>rw [a,xV] at h3;omega
 | cons x m=>
  rw [a,<- hc,getD_at] at h2;have h4:(c.pre++[Bm s c.pre.length]).length<=x:=hx x zS;rw [zI,yO] at h4;omega
theorem af{q:Cm}{c:Cf}{a:Option Bool}(h:GI fm mem lim c)(hs:s.size≠0)(g:CI c.pre s)(j:Halt q D s closed c e a)(f:Nat) :
  play (Tr.DJ (Tr.read fm mem lim s)) q D closed (f+1) c.pre.length c.outs.length=(c.pre.length,c.outs.length,e,a):=by
 cases j with
 | Cr h1 h2=>
  have i:s.size=c.pre.length:=by have:=g.len;omega
  rw [h.Cr h1 hs g i,play];rw [zA (by show ¬ (c.outs.length<c.outs.length/\_);omega),zA (by show ¬ c.pre.length<c.pre.length;omega)];cases closed with
  | false=>simp
  | true=>
   by_cases h3:c.σ.st<23
   ·simp [h3]
   ·simp [h3]
 | steps h1 h2 h3=>
  obtain ⟨d,g2⟩:=h.Ss hs g h1 h2;rw [play,zA d,zC g2,zC h3]
 | full b σ' h1 h2=>
  obtain ⟨d,g2⟩:=h.LF hs g h1;rw [play,zC ⟨d,g2⟩,zC h2]
 | quota b σ' h1 h2 h3=>
  obtain ⟨d,g2⟩:=h.LF hs g h1;rw [play,zC ⟨d,g2⟩,zA h2,zC h3]
 | fail _ h1=>
  obtain ⟨d,g2⟩:=h.fail h1 hs g;rw [d,play,zA (by show ¬ (c.outs.length<c.outs.length/\_);omega),zA (by show ¬ c.pre.length<c.pre.length;omega),zA (by show ¬ (e=0/\_);omega)]
def leftOf(T:Tr.Ob)(c:Cf):Nat:=(T.Aw - c.pre.length)+(T.out.length - c.outs.length)
theorem Xl{q:Cm}{c c':Cf}(hs:s.size≠0)(st:Steps q D s c c'):∀ {e:Nat} {a:Option Bool},GI fm mem lim c->CI c.pre s->Halt q D s closed c' e a->∀ f,leftOf (Tr.DJ (Tr.read fm mem lim s)) c<f->
  play (Tr.DJ (Tr.read fm mem lim s)) q D closed f c.pre.length c.outs.length=(c'.pre.length,c'.outs.length,e,a):=by
 induction st with
 | refl c=>
  intro e a h j i f k;obtain ⟨f,rfl⟩:∃ g,f=g+1:=⟨f - 1,zO⟩
  exact af h hs j i f
 | step a b c h1 _ ih=>
  intro e o h j i f k;obtain ⟨l,d⟩:=h.step h1 j;obtain ⟨f,rfl⟩:∃ g,f=g+1:=⟨f - 1,zO⟩
  cases h1 with
  | take g1 g2 g3=>
   obtain ⟨n,k2⟩:=h.Ss hs j g1 g2;have:=ih l d i f (by
    unfold leftOf at k |-;show ((Tr.DJ (Tr.read fm mem lim s)).Aw - (a.pre++[_]).length)+_<f;rw [zI,yO];show _+((Tr.DJ (Tr.read fm mem lim s)).out.length - a.outs.length)<f;omega)
   rw [play,zA n,zC k2,zA g3,<- this];show _=play _ q D closed f (a.pre++[_]).length a.outs.length;rw [zI,yO]
  | put y σ' g1 g2 g3=>
   obtain ⟨n,k2⟩:=h.LF hs j g1;have:=ih l d i f (by
    unfold leftOf at k |-;show ((Tr.DJ (Tr.read fm mem lim s)).Aw - a.pre.length)+((Tr.DJ (Tr.read fm mem lim s)).out.length - (a.outs++[y]).length)<f;rw [zI,yO];omega)
   rw [play,zC ⟨n,k2⟩,zA g2,zA zO,<- this];show _=play _ q D closed f a.pre.length (a.outs++[y]).length;rw [zI,yO]
  | DF σ' g1=>exact ih l d i (f+1) k
structure MS where
 fm:Nat
 ou:Nat
 ra:Nat
 sl:Nat
 me:Nat
 he:Nat
 sp:Nat
 st:Nat
 er:Nat
 tk:Nat
 pu:Nat
 mb:Nat
 held:Nat
 count:Nat
 marks:Nat
 head:Nat
 Az:Nat
 sx:Nat
 sy:Nat
 size:Nat
 last:Bool
 left:Nat
 nl:Nat
 nd:Nat
 told:Nat
 hlen:Nat
 En:Bool
 Aq:Nat
 Am:Nat
 lit:Nat
 least:Nat
 bits:Nat
 Cc:Nat
 rest:List Nat
 qa:List Nat
 qc:List Nat
 hl:List Int
 row:List Int
 hs:List Int
 la:List Int
 lb:List Int
structure Lo where
 a:Nat
 b:Nat
 c:Nat
 d:Nat
 sv:Value
 sa:Nat
 hv:Value
 hp:Value
 rv:Value
 fx:Value
 Ev:Value
def QN(x:MS)(L:Lo):List Value:=
 [.int .i64 x.fm, .int .i64 x.ou, .int .i64 x.ra, .int .i64 x.sl, .int .i64 x.me, .int .i64 x.he, .int .i64 x.sp,
  .int .i64 x.st, .int .i64 x.er, .int .i64 x.tk, .int .i64 x.pu, .int .i64 x.mb,L.sv, .int .i64 L.sa, .int .u64 x.held, .int .i64 x.count,
  .pointer (some ⟨L.a,0,none⟩), .pointer (some ⟨L.c,0,none⟩), .int .u8 x.marks, .int .i64 x.head, .int .u8 x.Az, .int .i64 x.sx, .int .i64 x.sy, .int .u16 x.size,
  .bool x.last, .int .i64 x.left, .int .i64 x.nl, .int .i64 x.nd, .int .i64 x.told,L.hv,L.hp, .int .i64 x.hlen, .bool x.En, .int .i64 x.Aq, .int .i64 x.Am,L.rv,
  L.fx,L.Ev, .int .u8 x.lit, .int .i64 x.least, .int .i64 x.bits, .int .i64 x.Cc]
def FY(l:List Value)(j:Nat):Value:=l.getD j (.int .i64 0)
theorem MF{T:TypeId}{l:List Value}(h:w.rowIs p T n (FY l))(i:Nat)(v:Value)(b:l.length=n):(w.setCell ⟨p,i,none⟩ v).rowIs p T n (FY (l.set i v)):=by
 refine (h.set i v).congr fun j a=>?_
 unfold FY;by_cases e:j=i
 ·subst e;rw [zC rfl];simp [yF,b,a]
 ·rw [zA e];simp [yF,zY e]
structure Ge(ρ:Nat->Nat)(w:World)(T:TypeId)(k:Nat)(Dg:Nat->List Value)(t:Nat)(l:List Int):Prop where
 Oy:∃ m n mg,It w T k t m n (cn l) (fc (cn l)) (FT l 12) (EB l 12) mg/\bsum l 12=n/\(∀ i,i<l.length->0<l.getD i 0->mg (pos l i)=Dg i)/\ρ m=8
 role:ρ t=8
 ON:Ae l=true
 len:l.length<=269
def JO(ρ:Nat->Nat)(w:World)(g:Nat)(la lb:List Int):Prop:=
 ∃ t u,w.rowIs g 224 2 (FY [.pointer (some ⟨t,0,none⟩), .pointer (some ⟨u,0,none⟩)])/\ρ g=8/\
  Ge ρ w 268 4 (fun i=>(FL i).toList) t la/\Ge ρ w 271 2 (fun i=>(Eu 1 i).toList) u lb
def ES(s:ByteArray):List Nat:=s.data.toList.map UInt8.toNat
structure LY(ρ:Nat->Nat)(w:World)(v:Value)(sa:Nat)(rest:List Nat):Prop where
 at_:∃ ad P cap,v= .slice ad P.length cap/\Kk w ad P/\P.length<=cap/\cap<=maxLen/\(∀ s∈P,s.size<=maxLen)/\sa<=((P.head?.map ByteArray.size).getD 0)/\rest=(P.flatMap ES).drop sa/\∀ b o,ad=some ⟨b,o,none⟩->ρ b=9
structure MB(ρ:Nat->Nat)(w:World)(p:Nat)(x:MS)(L:Lo):Prop where
 row:w.rowIs p 132 42 (FY (QN x L))
 ra:∃ o f,GJ w L.a L.b 64 o f x.qa
 rc:∃ o f,GJ w L.c L.d 256 o f x.qc
 rp:ρ p=1
 rl:ρ L.a=2/\ρ L.b=3/\ρ L.c=4/\ρ L.d=5
structure MT(ρ:Nat->Nat)(w:World)(x:MS)(L:Lo):Prop where
 sup:LY ρ w L.sv L.sa x.rest
 hl:OI w 0 L.hv x.hl/\∀ g,L.hv.ownBlock=some g->ρ g=6
 rw:OI w 0 L.rv x.row/\∀ g,L.rv.ownBlock=some g->ρ g=7
 hp:x.hs=[]\/∃ t,L.hp= .pointer (some ⟨t,0,none⟩)/\Ge ρ w 265 4 (fun i=>(EU i).toList) t x.hs
 Ev:x.la=[]\/∃ g,L.Ev= .pointer (some ⟨g,0,none⟩)/\JO ρ w g x.la x.lb
 fx:L.fx= .pointer none\/∃ g,L.fx= .pointer (some ⟨g,0,none⟩)/\JO ρ w g Tr.Bi Tr.Bw
 lt:∀ k,ρ k≠0->k<w.heap.size
def MM(ρ:Nat->Nat)(w:World)(p:Nat)(x:MS):Prop:=∃ L,MB ρ w p x L/\MT ρ w x L
structure Fr(R:Nat->Prop)(ρ:Nat->Nat)(w w':World):Prop where
 kp:Kp R ρ w w'
 os:w'.os=w.os
 tape:w'.tape=w.tape
 output:w'.output=w.output
theorem Fr.refl(R:Nat->Prop)(ρ:Nat->Nat)(w:World):Fr R ρ w w:=⟨Kp.refl _ _ _,rfl,rfl,rfl⟩
theorem Fr.trans{R:Nat->Prop}{a b c:World}(h:Fr R ρ a b)(k:Fr R ρ b c):Fr R ρ a c:=⟨h.kp.trans k.kp,k.os.trans h.os,k.tape.trans h.tape,k.output.trans h.output⟩
theorem Fr.mono{R R':Nat->Prop}{a b:World}(h:Fr R ρ a b)(c:∀ x,R x->R' x):Fr R' ρ a b:=⟨h.kp.mono c,h.os,h.tape,h.output⟩
theorem Fr.below{R:Nat->Prop}{a b:World}(h:Below a.heap.size a b):Fr R ρ a b:=⟨Kp.Bk h,h.os,h.tape,h.output⟩
theorem Fr.set{R:Nat->Prop}(a:World)(p:Nat)(i:Nat)(v:Value)(b:R (ρ p)):Fr R ρ a (a.setCell ⟨p,i,none⟩ v):=⟨Kp.Dm a _ _ b,rfl,rfl,rfl⟩
theorem Fr.drewN{R:Nat->Prop}{a b:World}(h:Fr R ρ a b)(n:Nat):Fr R ρ a (b.drewN n):=⟨⟨h.kp.size,h.kp.block⟩,h.os,h.tape,h.output⟩
theorem Fr.two{R:Nat->Prop}{a b:World}(h:Hy r c a b)(h1:R (ρ r))(h2:R (ρ c)):Fr R ρ a b:=⟨⟨h.kp.size,fun k hk d=>h.kp.block k hk (fun e=>by rcases e with e | e <;> subst e <;> exact d (by assumption))⟩,h.os,h.tape,h.output⟩
theorem Ge.fr{R:Nat->Prop}{T:TypeId}{Dg:Nat->List Value}{t:Nat}(h:Ge ρ w T k Dg t l)(f:Kp R ρ w w')(a:¬ R 8):Ge ρ w' T k Dg t l:=by
 obtain ⟨m,n,c,I,h1,h2,h3⟩:=h.Oy;refine ⟨⟨m,n,c,⟨ER I.row f (by rw [h.role];exact a),fun j b=>⟨(I.at_ j b).1,?_⟩,⟨zM I.pm.1 f.size,zM I.pm.2 f.size⟩⟩,h1,h2,h3⟩,h.role,h.ON,h.len⟩;intro i v hv;have:=(I.at_ j b).2 i v hv;unfold World.cell? at this |-;rw [f.block m I.pm.2 (by rw [h3];exact a)];exact this
theorem JO.fr{R:Nat->Prop}{g:Nat}{la lb:List Int}(h:JO ρ w g la lb)(f:Kp R ρ w w')(a:¬ R 8):JO ρ w' g la lb:=by
 obtain ⟨t,u,h1,h2,h3,h4⟩:=h;exact ⟨t,u,ER h1 f (by rw [h2];exact a),h2,h3.fr f a,h4.fr f a⟩
theorem Kk.kp{R:Nat->Prop}{ad:Option Addr}{P:List ByteArray}(h:Kk w ad P)(f:Kp R ρ w w')(h0:∀ b o,ad=some ⟨b,o,none⟩->¬ R (ρ b)):Kk w' ad P:=fun k hk=>by
 obtain ⟨b,o,e,h1,h2⟩:=h k hk;refine ⟨b,o,e,zM h1 f.size,?_⟩;unfold World.cell? at h2 |-;rw [f.block b h1 (h0 b o e)];exact h2
theorem LY.fr{R:Nat->Prop}{v:Value}{sa:Nat}{rest:List Nat}(h:LY ρ w v sa rest)(f:Kp R ρ w w')(h0:¬ R 9):LY ρ w' v sa rest:=by
 obtain ⟨ad,P,cap,e,h1,h2,h3,h4,h5,h6,a⟩:=h.at_;exact ⟨ad,P,cap,e,h1.kp f (fun b o c=>by rw [a b o c];exact h0),h2,h3,h4,h5,h6,a⟩
theorem MT.fr{R:Nat->Prop}{x:MS}{L:Lo}(h:MT ρ w x L)(f:Kp R ρ w w')(a:∀ r,R r->r<=5):MT ρ w' x L where
 sup:=h.sup.fr f (fun e=>by have:=a 9 e;omega)
 hl:=⟨As h.hl.1 f (fun g b e=>by rw [h.hl.2 g b] at e;have:=a 6 e;omega),h.hl.2⟩
 rw:=⟨As h.rw.1 f (fun g b e=>by rw [h.rw.2 g b] at e;have:=a 7 e;omega),h.rw.2⟩
 hp:=h.hp.imp id fun ⟨t,e,k⟩=>⟨t,e,k.fr f (fun e=>by have:=a 8 e;omega)⟩
 Ev:=h.Ev.imp id fun ⟨t,e,k⟩=>⟨t,e,k.fr f (fun e=>by have:=a 8 e;omega)⟩
 fx:=h.fx.imp id fun ⟨t,e,k⟩=>⟨t,e,k.fr f (fun e=>by have:=a 8 e;omega)⟩
 lt:=fun k hk=>zM (h.lt k hk) f.size
theorem MU{a b:Nat}(c:ρ a=i)(d:ρ b=j)(h:i≠j):a≠b:=fun e=>h (by rw [<- c,<- d,e])
theorem GJ.kp{R:Nat->Prop}{N o:Nat}{f:Nat->Nat}{q:List Nat}(h:GJ w r c N o f q)(k:Kp R ρ w w')(h1:¬ R (ρ r))(h2:¬ R (ρ c)):GJ w' r c N o f q:=⟨ER h.row k h1,ER h.cells k h2,h.pos,h.small,h.ho,h.hq,h.at_,h.ne⟩
theorem MB.fr{x:MS}{L:Lo}(h:MB ρ w p x L)(f:Kp (fun _=>False) ρ w w'):MB ρ w' p x L where
 row:=ER h.row f (fun e=>e)
 ra:=by obtain ⟨o,g,k⟩:=h.ra;exact ⟨o,g,k.kp f (fun e=>e) (fun e=>e)⟩
 rc:=by obtain ⟨o,g,k⟩:=h.rc;exact ⟨o,g,k.kp f (fun e=>e) (fun e=>e)⟩
 rp:=h.rp
 rl:=h.rl
theorem MM.fr{x:MS}(h:MM ρ w p x)(f:Kp (fun _=>False) ρ w w'):MM ρ w' p x:=by
 obtain ⟨L,h1,h2⟩:=h;exact ⟨L,h1.fr f,h2.fr f (fun _ e=>e.elim)⟩
theorem MM.below{x:MS}(h:MM ρ w p x)(f:Below w.heap.size w w'):MM ρ w' p x:=h.fr (Kp.Bk f)
theorem MM.drewN{x:MS}(h:MM ρ w p x)(n:Nat):MM ρ (w.drewN n) p x:=h.fr ⟨zE _,fun _ _ _=>rfl⟩
theorem MB.drewN{x:MS}{L:Lo}(h:MB ρ w p x L)(n:Nat):MB ρ (w.drewN n) p x L:=h.fr ⟨zE _,fun _ _ _=>rfl⟩
theorem MT.drewN{x:MS}{L:Lo}(h:MT ρ w x L)(n:Nat):MT ρ (w.drewN n) x L:=h.fr (R:=fun _=>False) ⟨zE _,fun _ _ _=>rfl⟩ (fun _ e=>e.elim)
theorem MB.set{x y:MS}{L M:Lo}(h:MB ρ w p x L)(i:Nat)(v:Value)(e:(QN x L).set i v=QN y M)(l:M.a=L.a/\M.b=L.b/\M.c=L.c/\M.d=L.d)(hq:y.qa=x.qa/\y.qc=x.qc):MB ρ (w.setCell ⟨p,i,none⟩ v) p y M:=by
 obtain ⟨o,f,k⟩:=h.ra;obtain ⟨n,j,k2⟩:=h.rc;have hk:Kp (fun r=>r=1) ρ w (w.setCell ⟨p,i,none⟩ v):=Kp.Dm w _ _ h.rp;obtain ⟨r1,r2,r3,r4⟩:=h.rl;obtain ⟨g,a2,a3,a4⟩:=l;refine ⟨by rw [<- e];exact MF h.row i v rfl,⟨o,f,?_⟩,⟨n,j,?_⟩,h.rp,by rw [g,a2,a3,a4];exact h.rl⟩
 ·rw [g,a2,hq.1];exact k.kp hk (by rw [r1];decide) (by rw [r2];decide)
 ·rw [a3,a4,hq.2];exact k2.kp hk (by rw [r3];decide) (by rw [r4];decide)
theorem MT.set{x:MS}{L:Lo}(h:MT ρ w x L)(hp:ρ p=1)(i:Nat)(v:Value):MT ρ (w.setCell ⟨p,i,none⟩ v) x L:=h.fr (R:=fun r=>r=1) (Kp.Dm w _ _ hp) (fun r e=>zO)
namespace MS
def refuse(x:MS)(e:Nat):MS×Nat:=({ x with er:=e,qa:=[] },3)
def rd(x:MS)(k:Nat):MS:={ x with held:=x.held / 2^k,count:=x.count - k }
def num(x:MS)(k:Nat):Nat:=x.held%2^k
def andThen(r:MS×Nat)(f:MS->MS×Nat):MS×Nat:=if r.2=0 then f r.1 else r
def Fv(x:MS)(b:Nat)(l:List Nat):MS:={ x with held:=x.held+2^x.count*b,count:=x.count+8,tk:=x.tk+1,rest:=l }
def nJ(x:MS):List Nat->MS×Nat
 | []=>(x,1)
 | b :: l=>if x.sp<=x.tk+x.pu then x.refuse 16 else (x.Fv b l,0)
def take(x:MS):MS×Nat:=x.nJ x.rest
def needL(k:Nat):List Nat->MS->MS×Nat
 | [],x=>if k<=x.count then (x,0) else (x,1)
 | b :: l,x=>if k<=x.count then (x,0) else if x.sp<=x.tk+x.pu then x.refuse 16 else needL k l (x.Fv b l)
def Ab(k:Nat)(x:MS):MS×Nat:=needL k x.rest x
def MP(x:MS):Nat:=if x.sp<=x.tk+x.pu then 16 else if x.ou<=x.pu then 17 else if x.ra*x.tk+x.sl<=x.pu then 18 else 0
def Fi(q:List Nat)(b:Nat):List Nat:=if q.length=256 then q.tail++[b] else q++[b]
def FC(x:MS)(b:Nat):MS:={ x with pu:=x.pu+1,qa:=x.qa++[b],qc:=Fi x.qc b,sx:=(x.sx+b)%65521,sy:=(x.sy+(x.sx+b)%65521)%65521,size:=(x.size+1)%65536 }
def put(x:MS)(b:Nat):MS×Nat:=if x.qa.length=64 then (x,2) else if x.MP≠0 then x.refuse x.MP else (x.FC b,0)
def symL(l:List Int):Nat->Nat->Nat->MS->MS×Nat×Nat
 | 0,_,_,x=>((x.refuse 11).1,3,0)
 | r+1,n,code,x=>
  if (Ab n x).2≠0 then ((Ab n x).1,(Ab n x).2,0)
  else if 0<=find (Ax l) n ((2*code+(Ab n x).1.held / 2^(n - 1)%2:Nat):Int) then ((Ab n x).1.rd n,0,(find (Ax l) n ((2*code+(Ab n x).1.held / 2^(n - 1)%2:Nat):Int)).toNat)
  else symL l r (n+1) (2*code+(Ab n x).1.held / 2^(n - 1)%2) (Ab n x).1
def sym(l:List Int)(x:MS):MS×Nat×Nat:=symL l (EB l 12) 1 0 x
def DY(r:MS×Nat×Nat)(f:MS->Nat->MS×Nat):MS×Nat:=if r.2.1=0 then f r.1 r.2.2 else (r.1,r.2.1)
def Bg(x:MS)(least bits:Nat):MS×Nat×Nat:=if (Ab bits x).2=0 then ((Ab bits x).1.rd bits,0,least+(Ab bits x).1.num bits) else ((Ab bits x).1,(Ab bits x).2,0)
def Bx(x:MS):MS×Nat:=andThen (Ab 8 x) fun y=>if y.mb=y.me then y.refuse 6 else ({ y with mb:=y.mb+1,marks:=0,head:=0,Az:=0,sx:=1,sy:=0,size:=0,qc:=[] },0)
def Ez(y:MS):MS:={ y.rd 8 with head:=y.head+1,Az:=(y.Az+y.num 8)%256 }
def Ah(x:MS):MS×Nat×Nat:=if (Ab 8 x).2≠0 then ((Ab 8 x).1,(Ab 8 x).2,0) else if (Ab 8 x).1.head=(Ab 8 x).1.he then (((Ab 8 x).1.refuse 5).1,3,0) else ((Ab 8 x).1.Ez,0,(Ab 8 x).1.num 8)
def DH(want:Nat)(x:MS):MS×Nat:=DY x.Ah fun y b=>if b=want then (y,0) else y.refuse 4
def Bo(want:Nat)(x:MS):MS×Nat:=if x.fm=0 then (x,0) else DH want x
def Ca(x:MS):MS×Nat:=if x.fm=2 then DY x.Ah fun y b=>if 7<b then y.refuse 4 else ({ y with marks:=b },0) else (x,0)
def textL:Nat->MS->MS×Nat
 | 0,x=>(x,1)
 | f+1,x=>if x.Ah.2.1≠0\/x.Ah.2.2=0 then (x.Ah.1,x.Ah.2.1) else textL f x.Ah.1
def more(x:MS):Nat:=x.rest.length+x.count / 8
def CE(mark:Nat)(x:MS):MS×Nat:=if x.marks / mark%2=0 then (x,0) else textL (x.more+1) x
def Ce(x:MS):MS×Nat:=if x.marks / 4%2=0 then (x,0) else DH x.Az x
def first(fm:Nat):Nat:=if fm=1 then 115 else 76
def second(fm:Nat):Nat:=if fm=1 then 1 else 2
def h6(x:MS):MS×Nat:=andThen (Ce x) fun y=>({ y with st:=7 },0)
def h5(x:MS):MS×Nat:=andThen (CE 2 x) fun y=>h6 { y with st:=6 }
def h4(x:MS):MS×Nat:=andThen (CE 1 x) fun y=>h5 { y with st:=5 }
def h3(x:MS):MS×Nat:=andThen (Ca x) fun y=>h4 { y with st:=4 }
def h2(x:MS):MS×Nat:=andThen (Bo (second x.fm) x) fun y=>h3 { y with st:=3 }
def h1(x:MS):MS×Nat:=andThen (Bo (first x.fm) x) fun y=>h2 { y with st:=2 }
def h0(x:MS):MS×Nat:=andThen (Bx x) fun y=>h1 { y with st:=1 }
def EE(x:MS):MS×Nat:=if x.num x.count=0 then (x.rd x.count,0) else (x.rd x.count).refuse 8
def endBlock(x:MS):MS×Nat:=if x.last then EE { x with st:=22 } else ({ x with st:=7 },0)
def kind(y:MS):MS×Nat:=
 if y.held / 2%4=0 then EE { y.rd 3 with last:=y.num 1==1,st:=8 }
 else if y.held / 2%4=1 then ({ y.rd 3 with last:=y.num 1==1,la:=Tr.Bi,lb:=Tr.Bw,st:=17 },0)
 else if y.held / 2%4=2 then ({ y.rd 3 with last:=y.num 1==1,st:=10 },0)
 else ({ y.rd 3 with last:=y.num 1==1 }:MS).refuse 7
def b7(x:MS):MS×Nat:=andThen (Ab 3 x) kind
def IV:Nat->MS->MS×Nat
 | 0,x=>endBlock x
 | n+1,x=>andThen (Ab 8 x) fun y=>andThen (y.put (y.num 8)) fun z=>IV n { z.rd 8 with left:=n }
def b9(x:MS):MS×Nat:=IV x.left x
def b8(x:MS):MS×Nat:=andThen (Ab 32 x) fun y=>if y.held / 65536%65536=65535 - y.num 16 then b9 { y.rd 32 with left:=y.num 16,st:=9 } else ({ y.rd 32 with left:=y.num 16 }:MS).refuse 9
def IF(x:MS):MS×Nat:=if sumOf gw (EF x.hl)=2048 then ({ x with hs:=EF x.hl,st:=14 },0) else x.refuse 10
def iG:Nat->MS->MS×Nat
 | 0,x=>IF x
 | n+1,x=>andThen (Ab 3 x) fun y=>iG n { y.rd 3 with hl:=y.hl++[(y.num 3:Int)] }
def lB(x:MS):MS×Nat:=iG (x.told - x.hl.length) x
def iJ(x:MS):MS×Nat:=andThen (Ab 4 x) fun y=>if 11<y.num 4 then ({ y.rd 4 with told:=4+y.num 4 }:MS).refuse 10 else lB { y.rd 4 with told:=4+y.num 4,st:=13 }
def iI(x:MS):MS×Nat:=andThen (Ab 4 x) fun y=>iJ { y.rd 4 with nd:=1+y.num 4,st:=12 }
def mh(x:MS):MS×Nat:=andThen (Ab 4 x) fun y=>if 12<y.num 4 then ({ y.rd 4 with nl:=257+y.num 4 }:MS).refuse 10 else iI { y.rd 4 with nl:=257+y.num 4,st:=11 }
def EM(x:MS):MS×Nat:=
 if EA (x.row.take x.nl) (x.row.drop x.nl) then x.refuse 10
 else ({ x with la:=x.row.take x.nl,lb:=x.row.drop x.nl,nl:=0,nd:=0,told:=0,hl:=[],hs:=[],hlen:=0,En:=false,Aq:=0,Am:=0,row:=[],st:=17 },0)
def rowLen(x:MS):Int:=if x.En then x.row.getD (x.row.length - 1) 0 else x.hlen
def FF(x:MS):MS×Nat:=if x.row.length=x.nl+x.nd then EM x else (x,0)
def Vx(x:MS):MS×Nat:=DY (x.Bg x.Aq x.Am) fun y times=>
 if (y.En=true/\y.row.length=0)\/y.nl+y.nd<y.row.length+times then y.refuse 10
 else FF { y with row:=y.row++List.replicate times y.rowLen,st:=14 }
def Bu(x:MS)(k:Nat):MS:={ x with hlen:=if k=12\/k=13\/k=14 then 0 else k,En:=decide (k=12),Aq:=Go.Proofs.YtbcjmakpempkiaaGreatDoor.Aq k,Am:=Go.Proofs.YtbcjmakpempkiaaGreatDoor.Am k }
def Xq(x:MS):MS×Nat:=DY (x.sym x.hs) fun y k=>Vx { y.Bu k with st:=15 }
def Hj:Nat->MS->MS×Nat
 | 0,x=>({ x with st:=17 },0)
 | n+1,x=>andThen (x.put (x.qc.getD (x.qc.length - x.Cc) 0)) fun y=>Hj n { y with left:=n }
def iZ(x:MS):MS×Nat:=Hj x.left x
def fA(x:MS):MS×Nat:=DY (x.Bg x.least x.bits) fun y n=>if y.qc.length<n then y.refuse 11 else iZ { y with Cc:=n,st:=21 }
def ez(x:MS):MS×Nat:=DY (x.sym x.lb) fun y k=>fA { y with least:=Tr.Ar 1 k,bits:=Tr.Ag k,st:=20 }
def bN(x:MS):MS×Nat:=DY (x.Bg x.least x.bits) fun y n=>ez { y with left:=n,st:=19 }
def bp(x:MS):MS×Nat:=DY (x.sym x.la) fun y k=>
 if k<256 then ({ y with lit:=k,st:=16 },0) else if k=256 then endBlock y
 else bN { y with least:=Tr.Ar 3 (k - 257),bits:=Tr.Ag (k - 257),st:=18 }
def TN(x:MS):MS×Nat:=andThen (x.put x.lit) fun y=>bp { y with st:=17 }
def fF(x:MS):MS×Nat:=andThen (Ab 8 x) fun y=>if y.fm=2 then ({ y with st:=0 },0) else y.refuse 14
def Bv(x:MS):MS×Nat:=if x.fm=2 then andThen (Ab 16 x) fun y=>if y.num 16=y.size then (y.rd 16,0) else (y.rd 16).refuse 13 else (x,0)
def cE(x:MS):MS×Nat:=andThen (Bv x) fun y=>fF { y with st:=24 }
def Cu(x:MS):MS×Nat:=if x.fm=0 then (x,0) else andThen (Ab 32 x) fun y=>if Lb y.held=65536*y.sy+y.sx then (y.rd 32,0) else (y.rd 32).refuse 12
def fE(x:MS):MS×Nat:=andThen (Cu x) fun y=>cE { y with st:=23 }
def advance(x:MS):MS×Nat:=
 match x.st with
 | 0=>h0 x
 | 1=>h1 x
 | 2=>h2 x
 | 3=>h3 x
 | 4=>h4 x
 | 5=>h5 x
 | 6=>h6 x
 | 7=>b7 x
 | 8=>b8 x
 | 9=>b9 x
 | 10=>mh x
 | 11=>iI x
 | 12=>iJ x
 | 13=>lB x
 | 14=>Xq x
 | 15=>Vx x
 | 16=>TN x
 | 17=>bp x
 | 18=>bN x
 | 19=>ez x
 | 20=>fA x
 | 21=>iZ x
 | 22=>fE x
 | 23=>cE x
 | _=>fF x
end MS
end Go.Proofs.YtbcjmakpempkiaaGreatDoor
