import Derived.Test.YtbcjmakpempkiaaGreatDoorX11
import Derived.Test.YtbcjmakpempkiaaGreatDoorX12
import Derived.Test.YtbcjmakpempkiaaGreatDoorX14
import Derived.Test.YtbcjmakpempkiaaGreatDoorX17
set_option maxRecDepth 100000
set_option maxHeartbeats 8000000
set_option linter.all false
namespace Go.Proofs.YtbcjmakpempkiaaGreatDoor
variable {w w' w1 w2 wr:World} {ρ ρ':Nat->Nat} {x y z:MS} {B D b cap code g i k n p r t:Nat} {l la lb:List Int} {c c':Cf} {q:Cm} {s:ByteArray} {L:Lo} {σ σ':St} {a v:Int} {o:Obj}
open Go.Proofs.Tryz
open Go.RowKit
theorem Zf(x:Int)(l:List Int)(k:Nat):bsum (x :: l) k=bsum l k+(if 0<x/\x<k then 1 else 0):=by
 induction k with
 | zero=>simp [bsum];omega
 | succ k ih=>
  simp only [bsum];rw [ih,TQ];by_cases h1:0<x/\x<k
  ·rw [zC h1,zA zO,zC zO];omega
  ·rw [zA h1];by_cases h2:0<x/\x=k
   ·rw [zC h2,zC zO];omega
   ·rw [zA h2,zA zO];omega
theorem Ld(l:List Int)(k:Nat):bsum l k<=l.length:=by
 induction l with
 | nil=>
  have:∀ k,bsum [] k=0:=fun k=>by
   induction k with
   | zero=>rfl
   | succ k ih=>simp only [bsum];rw [ih,Iv];rfl
  rw [this];simp
 | cons x l ih=>
  rw [Zf];simp only [yG];split <;> omega
theorem fI(l:List Int)(k:Nat):0<=fc (cn l) k/\fc (cn l) k<=2^k*bsum l k:=by
 induction k with
 | zero=>simp [fc,bsum]
 | succ k ih=>
  have h1:=EK l k;have h2:(1:Int)<=2^k:=by have:=xJ (n:=(2:Int)) (m:=k) zD;omega
  have h3:cn l k<=2^k*cn l k:=by
   have:=jE h2 h1;omega
  simp only [fc,bsum];rw [jX,Int.mul_add,vI,vI];have a:(2:Int)^k*(2*bsum l k)=2*(2^k*bsum l k):=by rw [<- Int.mul_assoc,BD (2^k) 2,vI]
  have b:(2:Int)^k*(2*cn l k)=2*(2^k*cn l k):=by rw [<- Int.mul_assoc,BD (2^k) 2,vI]
  rw [a,b];omega
theorem IZ(hl:l.length<=269)(hk:k<12):0<=fc (cn l) k/\fc (cn l) k<=1000000:=by
 have h1:=fI l k;have h2:=Ld l k;refine ⟨h1.1,?_⟩;have h3:(2:Int)^k<=2^11:=by
  have:2^k<=2^11:=yP zD zO;exact_mod_cast this
 have h4:(0:Int)<=2^k:=BF (xJ zD);have h5:(2:Int)^k*bsum l k<=2^k*269:=Int.mul_le_mul_of_nonneg_left zO h4;have h6:(2:Int)^11=2048:=zD;omega
theorem Pr(j:Ae l=true)(hl:l.length<=269)(g:0<n)(b:n<12){c:Nat}(h:0<=find (Ax l) n (c:Int)) :
  (fc (cn l) n<=c/\(c:Int) - fc (cn l) n<cn l n)/\(find (Ax l) n (c:Int)).toNat<l.length/\0<l.getD (find (Ax l) n (c:Int)).toNat 0/\FT l 12 n+((c:Int) - fc (cn l) n)=(pos l (find (Ax l) n (c:Int)).toNat:Int)/\(pos l (find (Ax l) n (c:Int)).toNat:Int)<bsum l 12:=by
 have hc:fc (cn l) n<=c/\(c:Int)<fc (cn l) n+cn l n:=by
  apply yB;intro hc;have:=Rr (S:=Ax l) j g (c:=(c:Int)) (by show (c:Int)<fc (cn l) n\/fc (cn l) n+cn l n<=c;omega);omega
 obtain ⟨i,hi,h2,h3,h4⟩:=Jg (S:=Ax l) j g hc.1 hc.2;have a:i<l.length:=hi;have d:l[i]=(n:Int):=h2;have e:(find (Ax l) n (c:Int)).toNat=i:=by rw [h4];simp
 rw [e];refine ⟨⟨hc.1,zO⟩,a,by simp [a,d];omega,?_,Tq a d hl g b⟩;rw [pos_eq a d hl b];have f:cn (l.take i) n=(c:Int) - fc (cn l) n:=h3;rw [f];unfold FT;rw [zC b]
theorem Pq(b:Ae l=true)(a:0<n){c:Nat}(h:¬ 0<=find (Ax l) n (c:Int)):¬ (fc (cn l) n<=c/\(c:Int) - fc (cn l) n<cn l n):=fun hc=>by
 obtain ⟨i,hi,h2,h3,h4⟩:=Jg (S:=Ax l) b a hc.1 (by show (c:Int)<fc (cn l) n+cn l n;omega);rw [h4] at h;omega
theorem Il{T:Nat}{f:Nat->Value}(h:w.rowIs g T 4 f):w.heap[g]?=some (.cells #[f 0,f 1,f 2,f 3] T):=by
 obtain ⟨c,hc,a,hv⟩:=h;rw [hc];have h0:=hv 0 zO;have h1:=hv 1 zO;have h2:=hv 2 zO;have h3:=hv 3 zO;have:c=#[f 0,f 1,f 2,f 3]:=by
  apply Array.ext
  ·simpa using a
  ·intro i h4 h5;have:i=0\/i=1\/i=2\/i=3:=by simp at h5;omega
   rcases this with rfl | rfl | rfl | rfl
   ·rw [vY h4] at h0;simpa using h0
   ·rw [vY h4] at h1;simpa using h1
   ·rw [vY h4] at h2;simpa using h2
   ·rw [vY h4] at h3;simpa using h3
 rw [this]
theorem iC.four(k:Nat):∃ v1 v2:Int,Eu 1 k=#[.int .i64 v1, .int .i64 v2]:=⟨_,_,rfl⟩
theorem Xf(c b:Nat)(hc:c<1000000)(a:b<2):bits .or .i64 ((c:Int)*2) (b:Int)=((2*c+b:Nat):Int):=by
 have h1:(2:Int)^62=4611686018427387904:=zD;have h2:(2:Int)^1=2:=zD;rw [bits_join .i64 62 zD Sy 1 ((c:Int)*2) (b:Int) zO (by rw [h2];omega) zO zO (by rw [h2];omega) zO];omega
theorem nf(k:Nat)(h:MM ρ w p x)(ok:Ok x)(hk:k<x.count)(hc:x.count<=63) :
  Calls prog 171 #[.pointer (some ⟨p,14,none⟩), .int .i64 k] w fun v a=>v= .returned (.int .i64 (x.held / 2^k%2:Nat))/\MM ρ a p x/\Fr V5 ρ w a:=by
 refine (iY p 14 x.held x.count k w hk hc ok.held h.Wu).mono ?_;rintro v a ⟨rfl,n,e⟩;rw [e];exact ⟨rfl,h.drewN n,(Fr.refl _ _ _).drewN n⟩
theorem UN(h:Ge ρ w 271 2 (fun i=>(Eu 1 i).toList) t l)(c n:Nat)(hc:c<=1000000)(e:0<n)(a:n<12) :
  (0<=find (Ax l) n (c:Int)->Calls prog 177 #[.pointer (some ⟨t,0,none⟩), .int .i64 c, .int .i64 n] w fun x d=>x= .returned (.tuple #[.agg (Eu 1 (find (Ax l) n (c:Int)).toNat), .bool true])/\Below w.heap.size w d)/\
  (¬ 0<=find (Ax l) n (c:Int)->Calls prog 177 #[.pointer (some ⟨t,0,none⟩), .int .i64 c, .int .i64 n] w fun x d=>x= .returned (.tuple #[.agg #[.int .i64 0, .int .i64 0], .bool false])/\Below w.heap.size w d):=by
 obtain ⟨m,N,p,I,h1,h2,h3⟩:=h.Oy;refine ⟨fun b=>?_,fun b=>Ps c n I hc a (IZ h.len a) (Pq h.ON e b)⟩;obtain ⟨f,g2,g,j,k⟩:=Pr h.ON h.len e a b;obtain ⟨v1,v2,hv⟩:=iC.four (find (Ax l) n (c:Int)).toNat;have o:=Ld l 12;have hlen:=h.len;have:=RZ c n I hc a (IZ h.len a) f (pos l (find (Ax l) n (c:Int)).toNat) j zO zO v1 v2 (by rw [h2 _ g2 g,hv]);rw [hv];exact this
theorem OR(h:Ge ρ w 268 4 (fun i=>(FL i).toList) t l)(c n:Nat)(hc:c<=1000000)(e:0<n)(a:n<12) :
  (0<=find (Ax l) n (c:Int)->Calls prog 175 #[.pointer (some ⟨t,0,none⟩), .int .i64 c, .int .i64 n] w fun x d=>x= .returned (.tuple #[.agg (FL (find (Ax l) n (c:Int)).toNat), .bool true])/\Below w.heap.size w d)/\
  (¬ 0<=find (Ax l) n (c:Int)->Calls prog 175 #[.pointer (some ⟨t,0,none⟩), .int .i64 c, .int .i64 n] w fun x d=>x= .returned (.tuple #[.agg #[.int .i64 0, .int .u8 0, .int .i64 0, .int .i64 0], .bool false])/\Below w.heap.size w d):=by
 obtain ⟨m,N,p,I,h1,h2,h3⟩:=h.Oy;refine ⟨fun b=>?_,fun b=>Lk c n I hc a (IZ h.len a) (Pq h.ON e b)⟩;obtain ⟨f,g2,g,j,k⟩:=Pr h.ON h.len e a b;obtain ⟨v1,v2,v3,v4,hv⟩:=Fy.four (find (Ax l) n (c:Int)).toNat;have o:=Ld l 12;have hlen:=h.len;have:=My c n I hc a (IZ h.len a) f (pos l (find (Ax l) n (c:Int)).toNat) j zO zO v1 v2 v3 v4 (by rw [h2 _ g2 g,hv]);rw [hv];exact this
theorem Qu(h:Ge ρ w 265 4 (fun i=>(EU i).toList) t l)(c n:Nat)(hc:c<=1000000)(e:0<n)(a:n<12) :
  (0<=find (Ax l) n (c:Int)->Calls prog 172 #[.pointer (some ⟨t,0,none⟩), .int .i64 c, .int .i64 n] w fun x d=>x= .returned (.tuple #[.agg (EU (find (Ax l) n (c:Int)).toNat), .bool true])/\Below w.heap.size w d)/\
  (¬ 0<=find (Ax l) n (c:Int)->Calls prog 172 #[.pointer (some ⟨t,0,none⟩), .int .i64 c, .int .i64 n] w fun x d=>x= .returned (.tuple #[.agg #[.int .i64 0, .bool false, .int .i64 0, .int .i64 0], .bool false])/\Below w.heap.size w d):=by
 obtain ⟨m,N,p,I,h1,h2,h3⟩:=h.Oy;refine ⟨fun b=>?_,fun b=>Mx c n I hc a (IZ h.len a) (Pq h.ON e b)⟩;obtain ⟨f,g2,g,j,k⟩:=Pr h.ON h.len e a b;obtain ⟨v1,v2,v3,v4,hv⟩:=Gs.four (find (Ax l) n (c:Int)).toNat;have o:=Ld l 12;have hlen:=h.len;have:=OK c n I hc a (IZ h.len a) f (pos l (find (Ax l) n (c:Int)).toNat) j zO zO v1 v2 v3 v4 (by rw [h2 _ g2 g,hv]);rw [hv];exact this
theorem Vk(l:List Int)(k:Nat):EB l k=lng l k:=by
 induction k with
 | zero=>rfl
 | succ k ih=>rw [EB,lng,ih]
theorem Og(l:List Int):EB l 12<=11:=by rw [Vk];exact NH l 11
def OH(ρ:Nat->Nat)(w:World)(p:Nat)(Dg:Nat->Array Value)(zero:Array Value)(r:MS×Nat×Nat)(e:Ending)(w':World):Prop:=e= .returned (.tuple #[.agg (if r.2.1=0 then Dg r.2.2 else zero), .int .i64 r.2.1])/\MM ρ w' p r.1/\Fr V5 ρ w w'
structure Sw(ρ:Nat->Nat)(w:World)(p:Nat)(T TT:TypeId)(k:Nat)(z:Nat->Value)(Dg:Nat->List Value)(t:Nat)(l:List Int)(R:MS×Nat×Nat)(code n r:Nat)(y:MS)(wr:World):Prop where
 mm:MM ρ wr p y
 ok:Ok y
 Cq:y.count<=40
 eq:MS.symL l r n code y=R
 n1:1<=n
 nr:n+r=EB l 12+1
 code:code<2^(n - 1)
 b4:wr.rowIs w.heap.size T k z
 b6:wr.rowIs (w.heap.size+1) T k z
 Oy:Ge ρ wr TT k Dg t l
 r4:ρ w.heap.size=0
 r6:ρ (w.heap.size+1)=0
 fr:Fr V5 ρ w wr
structure Sk(ρ:Nat->Nat)(w:World)(p:Nat)(T TT:TypeId)(k:Nat)(z:Nat->Value)(Dg:Nat->List Value)(t:Nat)(l:List Int)(y:MS)(wr:World):Prop where
 mm:MM ρ wr p y
 ok:Ok y
 b4:wr.rowIs w.heap.size T k z
 b6:wr.rowIs (w.heap.size+1) T k z
 Oy:Ge ρ wr TT k Dg t l
 r4:ρ w.heap.size=0
 r6:ρ (w.heap.size+1)=0
 fr:Fr V5 ρ w wr
theorem Sw.sk{T TT:TypeId}{z:Nat->Value}{Dg:Nat->List Value}{R:MS×Nat×Nat}(h:Sw ρ w p T TT k z Dg t l R code n r y wr):Sk ρ w p T TT k z Dg t l y wr:=⟨h.mm,h.ok,h.b4,h.b6,h.Oy,h.r4,h.r6,h.fr⟩
theorem Sk.next{T TT:TypeId}{z:Nat->Value}{Dg:Nat->List Value}{y':MS}(h:Sk ρ w p T TT k z Dg t l y wr)(m:MM ρ w2 p y')(o:Ok y')(f:Fr V5 ρ wr w2):Sk ρ w p T TT k z Dg t l y' w2:=⟨m,o,ER h.b4 f.kp (by rw [h.r4];exact WZ),ER h.b6 f.kp (by rw [h.r6];exact WZ),h.Oy.fr f.kp zD,h.r4,h.r6,h.fr.trans f⟩
theorem Sk.below{T TT:TypeId}{z:Nat->Value}{Dg:Nat->List Value}(h:Sk ρ w p T TT k z Dg t l y wr)(b:Below wr.heap.size wr w2):Sk ρ w p T TT k z Dg t l y w2:=h.next (h.mm.below b) h.ok (Fr.below b)
theorem Sk.drewN{T TT:TypeId}{z:Nat->Value}{Dg:Nat->List Value}(h:Sk ρ w p T TT k z Dg t l y wr)(n:Nat):Sk ρ w p T TT k z Dg t l y (wr.drewN n):=h.next (h.mm.drewN n) h.ok ((Fr.refl _ _ _).drewN n)
theorem MM.ig(h:MM ρ w p x)(f:Kp (fun r=>r=0) ρ w w'):MM ρ w' p x:=by
 obtain ⟨L,B,T⟩:=h;obtain ⟨o,g,k⟩:=B.ra;obtain ⟨a,g2,k2⟩:=B.rc;obtain ⟨r1,r2,r3,r4⟩:=B.rl;exact ⟨L,⟨ER B.row f (by rw [B.rp];decide),⟨o,g,k.kp f (by rw [r1];decide) (by rw [r2];decide)⟩,⟨a,g2,k2.kp f (by rw [r3];decide) (by rw [r4];decide)⟩,B.rp,B.rl⟩,T.fr f (fun r e=>zO)⟩
theorem MM.Be(h:MM ρ w p x)(g i:Nat)(v:Value)(a:ρ g=0):MM ρ (w.setCell ⟨g,i,none⟩ v) p x:=h.ig (Kp.Dm w _ _ a)
theorem Fr.Be{R:Nat->Prop}(h:Fr R ρ w w')(g i:Nat)(v:Value)(b:w.heap.size<=g):Fr R ρ w (w'.setCell ⟨g,i,none⟩ v):=⟨⟨by simpa [World.setCell] using h.kp.size,fun k hk a=>by rw [zZ _ _ _ _ (by show k≠g;omega)];exact h.kp.block k hk a⟩,h.os,h.tape,h.output⟩
theorem Qb{c:Nat}(d:1<=n)(hc:c<2^(n - 1))(a:b<2):2*c+b<2^(n+1 - 1):=by
 rw [show n+1 - 1=(n - 1)+1 by omega,yN];omega
theorem aT(h:MM ρ w p x)(ok:Ok x)(hx:x.count<=40)(ht:Ge ρ w 271 2 (fun i=>(Eu 1 i).toList) t l) :
  Calls prog 149 #[.pointer (some ⟨p,0,none⟩), .pointer (some ⟨t,0,none⟩)] w fun v C=>OH ρ w p (Eu 1) #[.int .i64 0, .int .i64 0] (x.sym l) v C:=by
 obtain ⟨R,hR⟩:=qe (x.sym l);have a6:=Og l;have Z:Below w.heap.size w ((w.alloc (.cells #[.int .i64 0, .int .i64 0] 125)).alloc (.cells #[.int .i64 0, .int .i64 0] 125)):=(zB.alloc zL _).alloc zS _;have H0:Hid (∃ r,Sw ρ w p 125 271 2 (FY [.int .i64 0, .int .i64 0]) (fun i=>(Eu 1 i).toList) t l R 0 1 r x ((w.alloc (.cells #[.int .i64 0, .int .i64 0] 125)).alloc (.cells #[.int .i64 0, .int .i64 0] 125))):=by
  refine ⟨EB l 12,h.below Z,ok,hx,hR.symm,zE _,zO,zD,?_,?_,ht.fr (R:=fun _=>False) (Kp.Bk Z) (fun e=>e),h.new _ zL,h.new _ zO,Fr.below Z⟩
  ·exact (yL w #[.int .i64 0, .int .i64 0] 125 (FY [.int .i64 0, .int .i64 0]) (fun i hi=>by
    have:i=0\/i=1:=by have:i<2:=hi;omega
    rcases this with rfl | rfl <;> rfl)).alloc _
  ·have:=yL (w.alloc (.cells #[.int .i64 0, .int .i64 0] 125)) #[.int .i64 0, .int .i64 0] 125 (FY [.int .i64 0, .int .i64 0]) (fun i hi=>by
    have:i=0\/i=1:=by have:i<2:=hi;omega
    rcases this with rfl | rfl <;> rfl)
   simpa using this
 rw [<- hR];clear h ok hx ht hR Z;go_enter func149,ntmps149
 go_wp2_with fail
 go_loopw [7,8] (fun c n wr=>∃ (code len:Nat),c= .int .i64 code/\n= .int .i64 len/\Hid (∃ r y,Sw ρ w p 125 271 2 (FY [.int .i64 0, .int .i64 0]) (fun i=>(Eu 1 i).toList) t l R code len r y wr)) (fun _ n _=>13 - (intOf n).toNat)
 case atStart=>exact ⟨0,1,rfl,rfl,by obtain ⟨r,h⟩:=H0.out;exact ⟨r,x,h⟩⟩
 case round=>
  clear H0;obtain ⟨code,len,rfl,rfl,HH⟩:=hrel;obtain ⟨r,y,Y⟩:=HH.out;have a7:=Y.n1;have a8:=Y.nr;have a3:=Y.code;have a9:=Y.Cq;have A:=hid Y.sk;have E:=hid Y.eq;have O:Hid (Calls prog 176 #[.pointer (some ⟨t,0,none⟩)] wr fun x C=>x= .returned (.int .i64 (EB l 12))/\wr=C):=by
   obtain ⟨m,N,mg,I,_,_,_⟩:=Y.Oy.Oy;exact Th I
  clear Y HH;obtain ⟨lg,B⟩:=qe (EB l 12);rw [<- B] at O a8 a6;have P:=hid B;clear B;go_wp2_with fail
  refine O.out.mono ?_;rintro e C ⟨rfl,rfl⟩;by_cases b7:len<=lg
  ·obtain ⟨r,rfl⟩:∃ q,r=q+1:=⟨r - 1,zO⟩
   have T:(len:Int)<=lg:=zO;have a4:code<2048:=by
    have:2^(len - 1)<=2^11:=yP zD zO;have e:2^11=2048:=zD;omega
   have a:Hid (R=if (MS.Ab len y).2≠0 then ((MS.Ab len y).1,(MS.Ab len y).2,0) else if 0<=find (Ax l) len ((2*code+(MS.Ab len y).1.held / 2^(len - 1)%2:Nat):Int) then ((MS.Ab len y).1.rd len,0,(find (Ax l) len ((2*code+(MS.Ab len y).1.held / 2^(len - 1)%2:Nat):Int)).toNat) else MS.symL l r (len+1) (2*code+(MS.Ab len y).1.held / 2^(len - 1)%2) (MS.Ab len y).1):=E.out.symm;clear E;go_wp2_with fail
   refine (GC len A.out.mm A.out.ok zO zO).mono ?_;rintro v w1 ⟨rfl,s,g2⟩;by_cases h0:(MS.Ab len y).2=0
   ·have k1:=MS.Ci A.out.ok h0;have k3:=MS.Ck (k:=len) A.out.ok;rw [h0];rw [zA (by rw [h0];simp)] at a;obtain ⟨z,hz⟩:=qe ((MS.Ab len y).1);rw [<- hz] at s a k1 k3;have j:=hid (A.out.next s k3 g2);clear s g2 hz h0 k3;obtain ⟨d,hd⟩:=qe (len - 1);have b2:(len:Int) - 1=(d:Int):=zO;have a5:d<z.count:=zO;rw [<- hd] at a;have HD:=hid hd;clear hd;have J:z.held / 2^d%2<2:=yC _ zD;have G:Hid (Calls prog 171 #[.pointer (some ⟨p,14,none⟩), .int .i64 d] w1 fun v C=>v= .returned (.int .i64 (z.held / 2^d%2:Nat))/\MM ρ C p z/\Fr V5 ρ w1 C):=nf d j.out.mm j.out.ok a5 zO;obtain ⟨b,hb⟩:=qe (z.held / 2^d%2);rw [<- hb] at a J G;clear hb;obtain ⟨c2,F⟩:=qe (2*code+b);have b8:bits .or .i64 ((code:Int)*2) (b:Int)=(c2:Int):=by rw [F];exact Xf code b zO J
    have U:c2<2^(len+1 - 1):=by rw [F];exact Qb a7 a3 J
    have S:c2<=1000000:=zO;rw [<- F] at a;clear F;go_wp2_with fail
    refine G.out.mono ?_;rintro v w2 ⟨rfl,s,g2⟩;have g:=hid (j.out.next s j.out.ok g2);have X:=UN g.out.Oy c2 len S zO zO;have a2:=hid U;clear s g2 G j U;by_cases L:0<=find (Ax l) len (c2:Int)
    ·rw [zC L] at a;obtain ⟨i,hi⟩:=qe ((find (Ax l) len (c2:Int)).toNat);have W:=X.1 L;rw [<- hi] at a W;obtain ⟨v1,v2,hv⟩:=iC.four i;have HV:=hid hv;rw [hv] at W;have H:Hid (Calls prog 177 #[.pointer (some ⟨t,0,none⟩), .int .i64 c2, .int .i64 len] w2 fun x C=>x= .returned (.tuple #[.agg #[.int .i64 v1, .int .i64 v2], .bool true])/\Below w2.heap.size w2 C):=W;clear W X L hi hv;go_wp2_with fail
     refine H.out.mono ?_;rintro e o ⟨rfl,Q⟩;have M:=hid (g.out.below Q);have b4:Below o.heap.size o (o.alloc (.cells #[.int .i64 v1, .int .i64 v2] 125)):=zB.alloc zL _;have u:=hid (M.out.below b4);have q0:(o.alloc (.cells #[.int .i64 v1, .int .i64 v2] 125)).cell? ⟨o.heap.size,0,none⟩=some (.int .i64 v1):=zS;have q1:(o.alloc (.cells #[.int .i64 v1, .int .i64 v2] 125)).cell? ⟨o.heap.size,1,none⟩=some (.int .i64 v2):=zS;have hq:o.heap.size<(o.alloc (.cells #[.int .i64 v1, .int .i64 v2] 125)).heap.size:=zS;have rq:=M.out.mm.new _ zL;have b5:o.heap.size≠w.heap.size:=by have:=M.out.b4.lt;omega
     clear Q b4 g;go_wp2_with fail
     generalize o.alloc (.cells #[.int .i64 v1, .int .i64 v2] 125)=W3 at *;refine (Gg len u.out.mm u.out.ok k1.1 zO).mono ?_;rintro e V ⟨rfl,s,g2⟩;have s0:=g2.cell q0 hq (by rw [rq];exact WZ);have s1:=g2.cell q1 hq (by rw [rq];exact WZ);have D:=hid (u.out.next s (u.out.ok.rd k1.1) g2);have u0:V.cell? ⟨w.heap.size,0,none⟩=some (.int .i64 0):=D.out.b4.cell (i:=0) zO;have u1:V.cell? ⟨w.heap.size,1,none⟩=some (.int .i64 0):=D.out.b4.cell (i:=1) zO;have x0:=D.out.b4.frozen 0;have x1:=D.out.b4.frozen 1;have f:Hid ((((V.setCell ⟨w.heap.size,0,none⟩ (.int .i64 v1)).setCell ⟨w.heap.size,1,none⟩ (.int .i64 v2)).heap[w.heap.size]?=some (.cells #[.int .i64 v1, .int .i64 v2] 125))/\MM ρ ((V.setCell ⟨w.heap.size,0,none⟩ (.int .i64 v1)).setCell ⟨w.heap.size,1,none⟩ (.int .i64 v2)) p (z.rd len)/\Fr V5 ρ w ((V.setCell ⟨w.heap.size,0,none⟩ (.int .i64 v1)).setCell ⟨w.heap.size,1,none⟩ (.int .i64 v2))):=by
      refine ⟨Ox (((D.out.b4).set 0 (.int .i64 v1)).set 1 (.int .i64 v2)),((D.out.mm).Be w.heap.size 0 (.int .i64 v1) D.out.r4).Be w.heap.size 1 (.int .i64 v2) D.out.r4,((D.out.fr).Be w.heap.size 0 (.int .i64 v1) zL).Be w.heap.size 1 (.int .i64 v2) zL⟩
     clear s g2;go_wp2_with fail
     refine zX (Bf results149 _ _ _ _ _ _ _ rfl f.out.1 underlying125 rfl (FX _ rfl)) rfl ?_;unfold OH;rw [a.out];exact ⟨by rw [<- HV.out];rfl,f.out.2⟩
    ·rw [zA L] at a;have H:Hid (Calls prog 177 #[.pointer (some ⟨t,0,none⟩), .int .i64 c2, .int .i64 len] w2 fun x C=>x= .returned (.tuple #[.agg #[.int .i64 0, .int .i64 0], .bool false])/\Below w2.heap.size w2 C):=X.2 L;clear X L;go_wp2_with fail
     refine H.out.mono ?_;rintro e o ⟨rfl,Q⟩;have M:=hid (g.out.below Q);have b4:Below o.heap.size o (o.alloc (.cells #[.int .i64 0, .int .i64 0] 125)):=zB.alloc zL _;have u:=hid (M.out.below b4);clear Q b4 g;have HN:Hid (∃ r y,Sw ρ w p 125 271 2 (FY [.int .i64 0, .int .i64 0]) (fun i=>(Eu 1 i).toList) t l R c2 (len+1) r y (o.alloc (.cells #[.int .i64 0, .int .i64 0] 125))):=⟨r,z,u.out.mm,u.out.ok,zO,a.out.symm,zO,by have:=P.out;omega,a2.out,u.out.b4,u.out.b6,u.out.Oy,u.out.r4,u.out.r6,u.out.fr⟩
     go_wp2_with fail
     go_roundw
     case rel=>exact ⟨c2,len+1,rfl,by go_num,HN⟩
     case measure=>simp [intOf];omega
   ·rw [zC h0] at a;obtain ⟨e,he⟩:=qe ((MS.Ab len y).2);have j:=hid (A.out.next s (MS.Ck A.out.ok) g2);rw [<- he] at h0 a |-;have b1:=qn h0;clear s g2 he;have u0:w1.cell? ⟨w.heap.size,0,none⟩=some (.int .i64 0):=j.out.b4.cell (i:=0) zO;have u1:w1.cell? ⟨w.heap.size,1,none⟩=some (.int .i64 0):=j.out.b4.cell (i:=1) zO;have x0:=j.out.b4.frozen 0;have x1:=j.out.b4.frozen 1;have s0:w1.cell? ⟨w.heap.size+1,0,none⟩=some (.int .i64 0):=j.out.b6.cell (i:=0) zO;have s1:w1.cell? ⟨w.heap.size+1,1,none⟩=some (.int .i64 0):=j.out.b6.cell (i:=1) zO;have f:Hid ((((w1.setCell ⟨w.heap.size,0,none⟩ (.int .i64 0)).setCell ⟨w.heap.size,1,none⟩ (.int .i64 0)).heap[w.heap.size]?=some (.cells #[.int .i64 0, .int .i64 0] 125))/\MM ρ ((w1.setCell ⟨w.heap.size,0,none⟩ (.int .i64 0)).setCell ⟨w.heap.size,1,none⟩ (.int .i64 0)) p (MS.Ab len y).1/\Fr V5 ρ w ((w1.setCell ⟨w.heap.size,0,none⟩ (.int .i64 0)).setCell ⟨w.heap.size,1,none⟩ (.int .i64 0))):=by
     refine ⟨Ox (((j.out.b4).set 0 (.int .i64 0)).set 1 (.int .i64 0)),((j.out.mm).Be w.heap.size 0 (.int .i64 0) j.out.r4).Be w.heap.size 1 (.int .i64 0) j.out.r4,((j.out.fr).Be w.heap.size 0 (.int .i64 0) zL).Be w.heap.size 1 (.int .i64 0) zL⟩
    go_wp2_with fail
    refine zX (Bf results149 _ _ _ _ _ _ _ rfl f.out.1 underlying125 rfl (FX _ rfl)) rfl ?_;unfold OH;rw [a.out];exact ⟨by rw [zA h0];rfl,f.out.2⟩
  ·obtain rfl:r=0:=zO;have T:¬ (len:Int)<=lg:=zO;have a:Hid (R=((y.refuse 11).1,3,0)):=E.out.symm;clear E;have s0:wr.cell? ⟨w.heap.size+1,0,none⟩=some (.int .i64 0):=A.out.b6.cell (i:=0) zO;have s1:wr.cell? ⟨w.heap.size+1,1,none⟩=some (.int .i64 0):=A.out.b6.cell (i:=1) zO;go_wp2_with fail
   go_region_held3 (fun wv=>wv.cell? ⟨w.heap.size+1,0,none⟩=some (.int .i64 0)/\wv.cell? ⟨w.heap.size+1,1,none⟩=some (.int .i64 0)) (first | exact ⟨s0,s1⟩ | exact ⟨a0,a1⟩ | exact ⟨(Gz (q:=⟨w.heap.size+1,0,none⟩) zS).trans a0,(Gz (q:=⟨w.heap.size+1,1,none⟩) zS).trans a1⟩)
    (first | (go_at_call 79;refine (Cd 11 (A.out.mm.drewN 1)).mono ?_;rintro e w2 ⟨rfl,s,g2⟩;have g:=hid ((A.out.drewN 1).next s (A.out.ok.refuse 11) g2);have a0:w2.cell? ⟨w.heap.size+1,0,none⟩=some (.int .i64 0):=g.out.b6.cell (i:=0) zO;have u0:w2.cell? ⟨w.heap.size,0,none⟩=some (.int .i64 0):=g.out.b4.cell (i:=0) zO;have x0:=g.out.b4.frozen 0;have a1:w2.cell? ⟨w.heap.size+1,1,none⟩=some (.int .i64 0):=g.out.b6.cell (i:=1) zO;have u1:w2.cell? ⟨w.heap.size,1,none⟩=some (.int .i64 0):=g.out.b4.cell (i:=1) zO;have x1:=g.out.b4.frozen 1;clear s g2))
   all_goals
    have f:Hid ((((w2.setCell ⟨w.heap.size,0,none⟩ (.int .i64 0)).setCell ⟨w.heap.size,1,none⟩ (.int .i64 0)).heap[w.heap.size]?=some (.cells #[.int .i64 0, .int .i64 0] 125))/\MM ρ ((w2.setCell ⟨w.heap.size,0,none⟩ (.int .i64 0)).setCell ⟨w.heap.size,1,none⟩ (.int .i64 0)) p (y.refuse 11).1/\Fr V5 ρ w ((w2.setCell ⟨w.heap.size,0,none⟩ (.int .i64 0)).setCell ⟨w.heap.size,1,none⟩ (.int .i64 0))):=by
     refine ⟨Ox (((g.out.b4).set 0 (.int .i64 0)).set 1 (.int .i64 0)),((g.out.mm).Be w.heap.size 0 (.int .i64 0) g.out.r4).Be w.heap.size 1 (.int .i64 0) g.out.r4,((g.out.fr).Be w.heap.size 0 (.int .i64 0) zL).Be w.heap.size 1 (.int .i64 0) zL⟩
    go_wp2_with fail
    refine zX (Bf results149 _ _ _ _ _ _ _ rfl f.out.1 underlying125 rfl (FX _ rfl)) rfl ?_;unfold OH;rw [a.out];exact ⟨rfl,f.out.2⟩
theorem Tk(h:MM ρ w p x)(ok:Ok x)(hx:x.count<=40)(ht:Ge ρ w 268 4 (fun i=>(FL i).toList) t l) :
  Calls prog 147 #[.pointer (some ⟨p,0,none⟩), .pointer (some ⟨t,0,none⟩)] w fun v D=>OH ρ w p (FL) #[.int .i64 0, .int .u8 0, .int .i64 0, .int .i64 0] (x.sym l) v D:=by
 obtain ⟨R,hR⟩:=qe (x.sym l);have a8:=Og l;have Z:Below w.heap.size w ((w.alloc (.cells #[.int .i64 0, .int .u8 0, .int .i64 0, .int .i64 0] 218)).alloc (.cells #[.int .i64 0, .int .u8 0, .int .i64 0, .int .i64 0] 218)):=(zB.alloc zL _).alloc zS _;have H0:Hid (∃ r,Sw ρ w p 218 268 4 (FY [.int .i64 0, .int .u8 0, .int .i64 0, .int .i64 0]) (fun i=>(FL i).toList) t l R 0 1 r x ((w.alloc (.cells #[.int .i64 0, .int .u8 0, .int .i64 0, .int .i64 0] 218)).alloc (.cells #[.int .i64 0, .int .u8 0, .int .i64 0, .int .i64 0] 218))):=by
  refine ⟨EB l 12,h.below Z,ok,hx,hR.symm,zE _,zO,zD,?_,?_,ht.fr (R:=fun _=>False) (Kp.Bk Z) (fun e=>e),h.new _ zL,h.new _ zO,Fr.below Z⟩
  ·exact (yL w #[.int .i64 0, .int .u8 0, .int .i64 0, .int .i64 0] 218 (FY [.int .i64 0, .int .u8 0, .int .i64 0, .int .i64 0]) (fun i hi=>by
    have:i=0\/i=1\/i=2\/i=3:=by have:i<4:=hi;omega
    rcases this with rfl | rfl | rfl | rfl <;> rfl)).alloc _
  ·have:=yL (w.alloc (.cells #[.int .i64 0, .int .u8 0, .int .i64 0, .int .i64 0] 218)) #[.int .i64 0, .int .u8 0, .int .i64 0, .int .i64 0] 218 (FY [.int .i64 0, .int .u8 0, .int .i64 0, .int .i64 0]) (fun i hi=>by
    have:i=0\/i=1\/i=2\/i=3:=by have:i<4:=hi;omega
    rcases this with rfl | rfl | rfl | rfl <;> rfl)
   simpa using this
 rw [<- hR];clear h ok hx ht hR Z;go_enter func147,ntmps147
 go_wp2_with fail
 go_loopw [7,8] (fun c n wr=>∃ (code len:Nat),c= .int .i64 code/\n= .int .i64 len/\Hid (∃ r y,Sw ρ w p 218 268 4 (FY [.int .i64 0, .int .u8 0, .int .i64 0, .int .i64 0]) (fun i=>(FL i).toList) t l R code len r y wr)) (fun _ n _=>13 - (intOf n).toNat)
 case atStart=>exact ⟨0,1,rfl,rfl,by obtain ⟨r,h⟩:=H0.out;exact ⟨r,x,h⟩⟩
 case round=>
  clear H0;obtain ⟨code,len,rfl,rfl,HH⟩:=hrel;obtain ⟨r,y,Y⟩:=HH.out;have a9:=Y.n1;have b1:=Y.nr;have a5:=Y.code;have b2:=Y.Cq;have u:=hid Y.sk;have E:=hid Y.eq;have P:Hid (Calls prog 174 #[.pointer (some ⟨t,0,none⟩)] wr fun x D=>x= .returned (.int .i64 (EB l 12))/\wr=D):=by
   obtain ⟨m,N,mg,I,_,_,_⟩:=Y.Oy.Oy;exact OM I
  clear Y HH;obtain ⟨lg,C⟩:=qe (EB l 12);rw [<- C] at P b1 a8;have Q:=hid C;clear C;go_wp2_with fail
  refine P.out.mono ?_;rintro e D ⟨rfl,rfl⟩;by_cases b9:len<=lg
  ·obtain ⟨r,rfl⟩:∃ q,r=q+1:=⟨r - 1,zO⟩
   have U:(len:Int)<=lg:=zO;have a6:code<2048:=by
    have:2^(len - 1)<=2^11:=yP zD zO;have e:2^11=2048:=zD;omega
   have a:Hid (R=if (MS.Ab len y).2≠0 then ((MS.Ab len y).1,(MS.Ab len y).2,0) else if 0<=find (Ax l) len ((2*code+(MS.Ab len y).1.held / 2^(len - 1)%2:Nat):Int) then ((MS.Ab len y).1.rd len,0,(find (Ax l) len ((2*code+(MS.Ab len y).1.held / 2^(len - 1)%2:Nat):Int)).toNat) else MS.symL l r (len+1) (2*code+(MS.Ab len y).1.held / 2^(len - 1)%2) (MS.Ab len y).1):=E.out.symm;clear E;go_wp2_with fail
   refine (GC len u.out.mm u.out.ok zO zO).mono ?_;rintro v w1 ⟨rfl,A,g2⟩;by_cases h0:(MS.Ab len y).2=0
   ·have k1:=MS.Ci u.out.ok h0;have k3:=MS.Ck (k:=len) u.out.ok;rw [h0];rw [zA (by rw [h0];simp)] at a;obtain ⟨z,hz⟩:=qe ((MS.Ab len y).1);rw [<- hz] at A a k1 k3;have j:=hid (u.out.next A k3 g2);clear A g2 hz h0 k3;obtain ⟨d,hd⟩:=qe (len - 1);have b7:(len:Int) - 1=(d:Int):=zO;have a7:d<z.count:=zO;rw [<- hd] at a;have HD:=hid hd;clear hd;have J:z.held / 2^d%2<2:=yC _ zD;have G:Hid (Calls prog 171 #[.pointer (some ⟨p,14,none⟩), .int .i64 d] w1 fun v D=>v= .returned (.int .i64 (z.held / 2^d%2:Nat))/\MM ρ D p z/\Fr V5 ρ w1 D):=nf d j.out.mm j.out.ok a7 zO;obtain ⟨b,hb⟩:=qe (z.held / 2^d%2);rw [<- hb] at a J G;clear hb;obtain ⟨c2,F⟩:=qe (2*code+b);have c0:bits .or .i64 ((code:Int)*2) (b:Int)=(c2:Int):=by rw [F];exact Xf code b zO J
    have V:c2<2^(len+1 - 1):=by rw [F];exact Qb a9 a5 J
    have T:c2<=1000000:=zO;rw [<- F] at a;clear F;go_wp2_with fail
    refine G.out.mono ?_;rintro v w2 ⟨rfl,A,g2⟩;have g:=hid (j.out.next A j.out.ok g2);have X:=OR g.out.Oy c2 len T zO zO;have a4:=hid V;clear A g2 G j V;by_cases M:0<=find (Ax l) len (c2:Int)
    ·rw [zC M] at a;obtain ⟨i,hi⟩:=qe ((find (Ax l) len (c2:Int)).toNat);have W:=X.1 M;rw [<- hi] at a W;obtain ⟨v1,v2,v3,v4,hv⟩:=Fy.four i;have HV:=hid hv;rw [hv] at W;have H:Hid (Calls prog 175 #[.pointer (some ⟨t,0,none⟩), .int .i64 c2, .int .i64 len] w2 fun x D=>x= .returned (.tuple #[.agg #[.int .i64 v1, .int .u8 v2, .int .i64 v3, .int .i64 v4], .bool true])/\Below w2.heap.size w2 D):=W;clear W X M hi hv;go_wp2_with fail
     refine H.out.mono ?_;rintro e o ⟨rfl,S⟩;have O:=hid (g.out.below S);have b4:Below o.heap.size o (o.alloc (.cells #[.int .i64 v1, .int .u8 v2, .int .i64 v3, .int .i64 v4] 218)):=zB.alloc zL _;have B:=hid (O.out.below b4);have q0:(o.alloc (.cells #[.int .i64 v1, .int .u8 v2, .int .i64 v3, .int .i64 v4] 218)).cell? ⟨o.heap.size,0,none⟩=some (.int .i64 v1):=zS;have q1:(o.alloc (.cells #[.int .i64 v1, .int .u8 v2, .int .i64 v3, .int .i64 v4] 218)).cell? ⟨o.heap.size,1,none⟩=some (.int .u8 v2):=zS;have q2:(o.alloc (.cells #[.int .i64 v1, .int .u8 v2, .int .i64 v3, .int .i64 v4] 218)).cell? ⟨o.heap.size,2,none⟩=some (.int .i64 v3):=zS;have q3:(o.alloc (.cells #[.int .i64 v1, .int .u8 v2, .int .i64 v3, .int .i64 v4] 218)).cell? ⟨o.heap.size,3,none⟩=some (.int .i64 v4):=zS;have hq:o.heap.size<(o.alloc (.cells #[.int .i64 v1, .int .u8 v2, .int .i64 v3, .int .i64 v4] 218)).heap.size:=zS;have rq:=O.out.mm.new _ zL;have b8:o.heap.size≠w.heap.size:=by have:=O.out.b4.lt;omega
     clear S b4 g;go_wp2_with fail
     generalize o.alloc (.cells #[.int .i64 v1, .int .u8 v2, .int .i64 v3, .int .i64 v4] 218)=W3 at *;refine (Gg len B.out.mm B.out.ok k1.1 zO).mono ?_;rintro e L ⟨rfl,A,g2⟩;have s0:=g2.cell q0 hq (by rw [rq];exact WZ);have s1:=g2.cell q1 hq (by rw [rq];exact WZ);have s2:=g2.cell q2 hq (by rw [rq];exact WZ);have s3:=g2.cell q3 hq (by rw [rq];exact WZ);have s:=hid (B.out.next A (B.out.ok.rd k1.1) g2);have u0:L.cell? ⟨w.heap.size,0,none⟩=some (.int .i64 0):=s.out.b4.cell (i:=0) zO;have u1:L.cell? ⟨w.heap.size,1,none⟩=some (.int .u8 0):=s.out.b4.cell (i:=1) zO;have u2:L.cell? ⟨w.heap.size,2,none⟩=some (.int .i64 0):=s.out.b4.cell (i:=2) zO;have u3:L.cell? ⟨w.heap.size,3,none⟩=some (.int .i64 0):=s.out.b4.cell (i:=3) zO;have x0:=s.out.b4.frozen 0;have x1:=s.out.b4.frozen 1;have x2:=s.out.b4.frozen 2;have x3:=s.out.b4.frozen 3;have f:Hid ((((((L.setCell ⟨w.heap.size,0,none⟩ (.int .i64 v1)).setCell ⟨w.heap.size,1,none⟩ (.int .u8 v2)).setCell ⟨w.heap.size,2,none⟩ (.int .i64 v3)).setCell ⟨w.heap.size,3,none⟩ (.int .i64 v4)).heap[w.heap.size]?=some (.cells #[.int .i64 v1, .int .u8 v2, .int .i64 v3, .int .i64 v4] 218))/\MM ρ ((((L.setCell ⟨w.heap.size,0,none⟩ (.int .i64 v1)).setCell ⟨w.heap.size,1,none⟩ (.int .u8 v2)).setCell ⟨w.heap.size,2,none⟩ (.int .i64 v3)).setCell ⟨w.heap.size,3,none⟩ (.int .i64 v4)) p (z.rd len)/\Fr V5 ρ w ((((L.setCell ⟨w.heap.size,0,none⟩ (.int .i64 v1)).setCell ⟨w.heap.size,1,none⟩ (.int .u8 v2)).setCell ⟨w.heap.size,2,none⟩ (.int .i64 v3)).setCell ⟨w.heap.size,3,none⟩ (.int .i64 v4))):=by
      refine ⟨Il (((((s.out.b4).set 0 (.int .i64 v1)).set 1 (.int .u8 v2)).set 2 (.int .i64 v3)).set 3 (.int .i64 v4)),((((s.out.mm).Be w.heap.size 0 (.int .i64 v1) s.out.r4).Be w.heap.size 1 (.int .u8 v2) s.out.r4).Be w.heap.size 2 (.int .i64 v3) s.out.r4).Be w.heap.size 3 (.int .i64 v4) s.out.r4,((((s.out.fr).Be w.heap.size 0 (.int .i64 v1) zL).Be w.heap.size 1 (.int .u8 v2) zL).Be w.heap.size 2 (.int .i64 v3) zL).Be w.heap.size 3 (.int .i64 v4) zL⟩
     clear A g2;go_wp2_with fail
     refine zX (Bf results147 _ _ _ _ _ _ _ rfl f.out.1 underlying218 rfl (Ga _ rfl)) rfl ?_;unfold OH;rw [a.out];exact ⟨by rw [<- HV.out];rfl,f.out.2⟩
    ·rw [zA M] at a;have H:Hid (Calls prog 175 #[.pointer (some ⟨t,0,none⟩), .int .i64 c2, .int .i64 len] w2 fun x D=>x= .returned (.tuple #[.agg #[.int .i64 0, .int .u8 0, .int .i64 0, .int .i64 0], .bool false])/\Below w2.heap.size w2 D):=X.2 M;clear X M;go_wp2_with fail
     refine H.out.mono ?_;rintro e o ⟨rfl,S⟩;have O:=hid (g.out.below S);have b4:Below o.heap.size o (o.alloc (.cells #[.int .i64 0, .int .u8 0, .int .i64 0, .int .i64 0] 218)):=zB.alloc zL _;have B:=hid (O.out.below b4);clear S b4 g;have HN:Hid (∃ r y,Sw ρ w p 218 268 4 (FY [.int .i64 0, .int .u8 0, .int .i64 0, .int .i64 0]) (fun i=>(FL i).toList) t l R c2 (len+1) r y (o.alloc (.cells #[.int .i64 0, .int .u8 0, .int .i64 0, .int .i64 0] 218))):=⟨r,z,B.out.mm,B.out.ok,zO,a.out.symm,zO,by have:=Q.out;omega,a4.out,B.out.b4,B.out.b6,B.out.Oy,B.out.r4,B.out.r6,B.out.fr⟩
     go_wp2_with fail
     go_roundw
     case rel=>exact ⟨c2,len+1,rfl,by go_num,HN⟩
     case measure=>simp [intOf];omega
   ·rw [zC h0] at a;obtain ⟨e,he⟩:=qe ((MS.Ab len y).2);have j:=hid (u.out.next A (MS.Ck u.out.ok) g2);rw [<- he] at h0 a |-;have b5:=qn h0;clear A g2 he;have u0:w1.cell? ⟨w.heap.size,0,none⟩=some (.int .i64 0):=j.out.b4.cell (i:=0) zO;have u1:w1.cell? ⟨w.heap.size,1,none⟩=some (.int .u8 0):=j.out.b4.cell (i:=1) zO;have u2:w1.cell? ⟨w.heap.size,2,none⟩=some (.int .i64 0):=j.out.b4.cell (i:=2) zO;have u3:w1.cell? ⟨w.heap.size,3,none⟩=some (.int .i64 0):=j.out.b4.cell (i:=3) zO;have x0:=j.out.b4.frozen 0;have x1:=j.out.b4.frozen 1;have x2:=j.out.b4.frozen 2;have x3:=j.out.b4.frozen 3;have s0:w1.cell? ⟨w.heap.size+1,0,none⟩=some (.int .i64 0):=j.out.b6.cell (i:=0) zO;have s1:w1.cell? ⟨w.heap.size+1,1,none⟩=some (.int .u8 0):=j.out.b6.cell (i:=1) zO;have s2:w1.cell? ⟨w.heap.size+1,2,none⟩=some (.int .i64 0):=j.out.b6.cell (i:=2) zO;have s3:w1.cell? ⟨w.heap.size+1,3,none⟩=some (.int .i64 0):=j.out.b6.cell (i:=3) zO;have f:Hid ((((((w1.setCell ⟨w.heap.size,0,none⟩ (.int .i64 0)).setCell ⟨w.heap.size,1,none⟩ (.int .u8 0)).setCell ⟨w.heap.size,2,none⟩ (.int .i64 0)).setCell ⟨w.heap.size,3,none⟩ (.int .i64 0)).heap[w.heap.size]?=some (.cells #[.int .i64 0, .int .u8 0, .int .i64 0, .int .i64 0] 218))/\MM ρ ((((w1.setCell ⟨w.heap.size,0,none⟩ (.int .i64 0)).setCell ⟨w.heap.size,1,none⟩ (.int .u8 0)).setCell ⟨w.heap.size,2,none⟩ (.int .i64 0)).setCell ⟨w.heap.size,3,none⟩ (.int .i64 0)) p (MS.Ab len y).1/\Fr V5 ρ w ((((w1.setCell ⟨w.heap.size,0,none⟩ (.int .i64 0)).setCell ⟨w.heap.size,1,none⟩ (.int .u8 0)).setCell ⟨w.heap.size,2,none⟩ (.int .i64 0)).setCell ⟨w.heap.size,3,none⟩ (.int .i64 0))):=by
     refine ⟨Il (((((j.out.b4).set 0 (.int .i64 0)).set 1 (.int .u8 0)).set 2 (.int .i64 0)).set 3 (.int .i64 0)),((((j.out.mm).Be w.heap.size 0 (.int .i64 0) j.out.r4).Be w.heap.size 1 (.int .u8 0) j.out.r4).Be w.heap.size 2 (.int .i64 0) j.out.r4).Be w.heap.size 3 (.int .i64 0) j.out.r4,((((j.out.fr).Be w.heap.size 0 (.int .i64 0) zL).Be w.heap.size 1 (.int .u8 0) zL).Be w.heap.size 2 (.int .i64 0) zL).Be w.heap.size 3 (.int .i64 0) zL⟩
    go_wp2_with fail
    refine zX (Bf results147 _ _ _ _ _ _ _ rfl f.out.1 underlying218 rfl (Ga _ rfl)) rfl ?_;unfold OH;rw [a.out];exact ⟨by rw [zA h0];rfl,f.out.2⟩
  ·obtain rfl:r=0:=zO;have U:¬ (len:Int)<=lg:=zO;have a:Hid (R=((y.refuse 11).1,3,0)):=E.out.symm;clear E;have s0:wr.cell? ⟨w.heap.size+1,0,none⟩=some (.int .i64 0):=u.out.b6.cell (i:=0) zO;have s1:wr.cell? ⟨w.heap.size+1,1,none⟩=some (.int .u8 0):=u.out.b6.cell (i:=1) zO;have s2:wr.cell? ⟨w.heap.size+1,2,none⟩=some (.int .i64 0):=u.out.b6.cell (i:=2) zO;have s3:wr.cell? ⟨w.heap.size+1,3,none⟩=some (.int .i64 0):=u.out.b6.cell (i:=3) zO;go_wp2_with fail
   go_region_held3 (fun wv=>wv.cell? ⟨w.heap.size+1,0,none⟩=some (.int .i64 0)/\wv.cell? ⟨w.heap.size+1,1,none⟩=some (.int .u8 0)/\wv.cell? ⟨w.heap.size+1,2,none⟩=some (.int .i64 0)/\wv.cell? ⟨w.heap.size+1,3,none⟩=some (.int .i64 0)) (first | exact ⟨s0,s1,s2,s3⟩ | exact ⟨a0,a1,a2,a3⟩ | exact ⟨(Fy.CR (q:=⟨w.heap.size+1,0,none⟩) zS).trans a0,(Fy.CR (q:=⟨w.heap.size+1,1,none⟩) zS).trans a1,(Fy.CR (q:=⟨w.heap.size+1,2,none⟩) zS).trans a2,(Fy.CR (q:=⟨w.heap.size+1,3,none⟩) zS).trans a3⟩)
    (first | (go_at_call 79;refine (Cd 11 (u.out.mm.drewN 1)).mono ?_;rintro e w2 ⟨rfl,A,g2⟩;have g:=hid ((u.out.drewN 1).next A (u.out.ok.refuse 11) g2);have a0:w2.cell? ⟨w.heap.size+1,0,none⟩=some (.int .i64 0):=g.out.b6.cell (i:=0) zO;have u0:w2.cell? ⟨w.heap.size,0,none⟩=some (.int .i64 0):=g.out.b4.cell (i:=0) zO;have x0:=g.out.b4.frozen 0;have a1:w2.cell? ⟨w.heap.size+1,1,none⟩=some (.int .u8 0):=g.out.b6.cell (i:=1) zO;have u1:w2.cell? ⟨w.heap.size,1,none⟩=some (.int .u8 0):=g.out.b4.cell (i:=1) zO;have x1:=g.out.b4.frozen 1;have a2:w2.cell? ⟨w.heap.size+1,2,none⟩=some (.int .i64 0):=g.out.b6.cell (i:=2) zO;have u2:w2.cell? ⟨w.heap.size,2,none⟩=some (.int .i64 0):=g.out.b4.cell (i:=2) zO;have x2:=g.out.b4.frozen 2;have a3:w2.cell? ⟨w.heap.size+1,3,none⟩=some (.int .i64 0):=g.out.b6.cell (i:=3) zO;have u3:w2.cell? ⟨w.heap.size,3,none⟩=some (.int .i64 0):=g.out.b4.cell (i:=3) zO;have x3:=g.out.b4.frozen 3;clear A g2))
   all_goals
    have f:Hid ((((((w2.setCell ⟨w.heap.size,0,none⟩ (.int .i64 0)).setCell ⟨w.heap.size,1,none⟩ (.int .u8 0)).setCell ⟨w.heap.size,2,none⟩ (.int .i64 0)).setCell ⟨w.heap.size,3,none⟩ (.int .i64 0)).heap[w.heap.size]?=some (.cells #[.int .i64 0, .int .u8 0, .int .i64 0, .int .i64 0] 218))/\MM ρ ((((w2.setCell ⟨w.heap.size,0,none⟩ (.int .i64 0)).setCell ⟨w.heap.size,1,none⟩ (.int .u8 0)).setCell ⟨w.heap.size,2,none⟩ (.int .i64 0)).setCell ⟨w.heap.size,3,none⟩ (.int .i64 0)) p (y.refuse 11).1/\Fr V5 ρ w ((((w2.setCell ⟨w.heap.size,0,none⟩ (.int .i64 0)).setCell ⟨w.heap.size,1,none⟩ (.int .u8 0)).setCell ⟨w.heap.size,2,none⟩ (.int .i64 0)).setCell ⟨w.heap.size,3,none⟩ (.int .i64 0))):=by
     refine ⟨Il (((((g.out.b4).set 0 (.int .i64 0)).set 1 (.int .u8 0)).set 2 (.int .i64 0)).set 3 (.int .i64 0)),((((g.out.mm).Be w.heap.size 0 (.int .i64 0) g.out.r4).Be w.heap.size 1 (.int .u8 0) g.out.r4).Be w.heap.size 2 (.int .i64 0) g.out.r4).Be w.heap.size 3 (.int .i64 0) g.out.r4,((((g.out.fr).Be w.heap.size 0 (.int .i64 0) zL).Be w.heap.size 1 (.int .u8 0) zL).Be w.heap.size 2 (.int .i64 0) zL).Be w.heap.size 3 (.int .i64 0) zL⟩
    go_wp2_with fail
    refine zX (Bf results147 _ _ _ _ _ _ _ rfl f.out.1 underlying218 rfl (Ga _ rfl)) rfl ?_;unfold OH;rw [a.out];exact ⟨rfl,f.out.2⟩
theorem MS.Qr(l:List Int)(f:Ae l=true):∀ (r n code:Nat) {x:MS},Ok x->x.count<=40->n+r<=12->1<=n->Ok (MS.symL l r n code x).1/\((MS.symL l r n code x).2.1=0->(MS.symL l r n code x).2.2<l.length/\(MS.symL l r n code x).1.count<=40/\(MS.symL l r n code x).1={ x with held:=(MS.symL l r n code x).1.held,count:=(MS.symL l r n code x).1.count,tk:=(MS.symL l r n code x).1.tk,rest:=(MS.symL l r n code x).1.rest })
 | 0,n,code,x,ok,hc,hn,h1=>⟨ok.refuse 11,fun h=>by cases h⟩
 | r+1,n,code,x,ok,hc,hn,h1=>by
  have k3:=MS.Ck (k:=n) ok;have e:MS.symL l (r+1) n code x=if (MS.Ab n x).2≠0 then ((MS.Ab n x).1,(MS.Ab n x).2,0) else if 0<=find (Ax l) n ((2*code+(MS.Ab n x).1.held / 2^(n - 1)%2:Nat):Int) then ((MS.Ab n x).1.rd n,0,(find (Ax l) n ((2*code+(MS.Ab n x).1.held / 2^(n - 1)%2:Nat):Int)).toNat) else MS.symL l r (n+1) (2*code+(MS.Ab n x).1.held / 2^(n - 1)%2) (MS.Ab n x).1:=rfl;rw [e];by_cases h0:(MS.Ab n x).2=0
  ·have s:=MS.Ci ok h0;have k2:=MS.EO ok h0;rw [zA (by rw [h0];simp)];by_cases g:0<=find (Ax l) n ((2*code+(MS.Ab n x).1.held / 2^(n - 1)%2:Nat):Int)
   ·rw [zC g];refine ⟨k3.rd s.1,fun _=>⟨?_,?_,?_⟩⟩
    ·obtain ⟨i,hi,_,_,h4⟩:∃ i,∃ hi:i<l.length,True/\True/\find (Ax l) n ((2*code+(MS.Ab n x).1.held / 2^(n - 1)%2:Nat):Int)=i:=by
      apply yB;intro d;have hm:¬ (fc (cn l) n<=((2*code+(MS.Ab n x).1.held / 2^(n - 1)%2:Nat):Int)/\((2*code+(MS.Ab n x).1.held / 2^(n - 1)%2:Nat):Int)<fc (cn l) n+cn l n):=fun j=>by
       obtain ⟨i,hi,_,_,h4⟩:=Jg (S:=Ax l) f (by omega:0<n) j.1 j.2;exact d ⟨i,hi,trivial,trivial,h4⟩
      have:=Rr (S:=Ax l) f (by omega:0<n) (c:=((2*code+(MS.Ab n x).1.held / 2^(n - 1)%2:Nat):Int)) (by show _<fc (cn l) n\/fc (cn l) n+cn l n<=_;omega);omega
     show (find (Ax l) n ((2*code+(MS.Ab n x).1.held / 2^(n - 1)%2:Nat):Int)).toNat<l.length;rw [h4];simpa using hi
    ·show (MS.Ab n x).1.count - n<=40;omega
    ·show (MS.Ab n x).1.rd n={ x with held:=_,count:=_,tk:=_,rest:=_ };generalize MS.Ab n x=r at *;rw [k2];rfl
   ·rw [zA g];obtain ⟨a,b⟩:=MS.Qr l f r (n+1) (2*code+(MS.Ab n x).1.held / 2^(n - 1)%2) k3 zO zO zO;refine ⟨a,fun h=>?_⟩;obtain ⟨o,p,q⟩:=b h;refine ⟨o,p,?_⟩;rw [q];show _={ x with held:=_,count:=_,tk:=_,rest:=_ };generalize (MS.symL l r (n+1) (2*code+(MS.Ab n x).1.held / 2^(n - 1)%2) (MS.Ab n x).1)=R at *;generalize MS.Ab n x=r at *;rw [k2]
  ·rw [zC h0];exact ⟨k3,fun h=>absurd h h0⟩
theorem MS.Nf(a:Ae l=true)(ok:Ok x)(hc:x.count<=40):Ok (x.sym l).1/\((x.sym l).2.1=0->(x.sym l).2.2<l.length/\(x.sym l).1.count<=40/\(x.sym l).1={ x with held:=(x.sym l).1.held,count:=(x.sym l).1.count,tk:=(x.sym l).1.tk,rest:=(x.sym l).1.rest }):=
 MS.Qr l a _ _ _ ok hc (by have:=Og l;omega) zO
def MS.Rw(y:MS)(k:Nat):MS×Nat:=if k<256 then ({ y with lit:=k,st:=16 },0) else y.endBlock
theorem MM.GO(h:MM ρ w p x):w.cell? ⟨p,38,none⟩=some (.int .u8 x.lit)/\w.frozen? ⟨p,38,none⟩=false/\w.cell? ⟨p,39,none⟩=some (.int .i64 x.least)/\w.frozen? ⟨p,39,none⟩=false/\w.cell? ⟨p,40,none⟩=some (.int .i64 x.bits)/\w.frozen? ⟨p,40,none⟩=false/\w.cell? ⟨p,41,none⟩=some (.int .i64 x.Cc)/\w.frozen? ⟨p,41,none⟩=false:=by
 obtain ⟨L,B,T⟩:=h;exact ⟨B.row.cell (i:=38) zO,B.row.frozen 38,B.row.cell (i:=39) zO,B.row.frozen 39,B.row.cell (i:=40) zO,B.row.frozen 40,B.row.cell (i:=41) zO,B.row.frozen 41⟩
theorem MM.lit(h:MM ρ w p x)(n:Nat):MM ρ (w.setCell ⟨p,38,none⟩ (.int .u8 n)) p { x with lit:=n }/\Fr V5 ρ w (w.setCell ⟨p,38,none⟩ (.int .u8 n)):=by
 obtain ⟨L,B,T⟩:=h;exact (((show Bh ρ w p x x L w from ⟨B,T,Fr.refl _ _ _⟩).set (z:={ x with lit:=n }) 38 _ rfl ⟨rfl,rfl⟩).done rfl rfl rfl rfl ⟨rfl,rfl⟩)
theorem MM.Cc(h:MM ρ w p x)(n:Nat):MM ρ (w.setCell ⟨p,41,none⟩ (.int .i64 n)) p { x with Cc:=n }/\Fr V5 ρ w (w.setCell ⟨p,41,none⟩ (.int .i64 n)):=by
 obtain ⟨L,B,T⟩:=h;exact (((show Bh ρ w p x x L w from ⟨B,T,Fr.refl _ _ _⟩).set (z:={ x with Cc:=n }) 41 _ rfl ⟨rfl,rfl⟩).done rfl rfl rfl rfl ⟨rfl,rfl⟩)
theorem MM.span(h:MM ρ w p x)(a b:Nat):MM ρ ((w.setCell ⟨p,39,none⟩ (.int .i64 a)).setCell ⟨p,40,none⟩ (.int .i64 b)) p { x with least:=a,bits:=b }/\Fr V5 ρ w ((w.setCell ⟨p,39,none⟩ (.int .i64 a)).setCell ⟨p,40,none⟩ (.int .i64 b)):=by
 obtain ⟨L,B,T⟩:=h;exact ((((show Bh ρ w p x x L w from ⟨B,T,Fr.refl _ _ _⟩).set (z:={ x with least:=a }) 39 _ rfl ⟨rfl,rfl⟩).set (z:={ x with least:=a,bits:=b }) 40 _ rfl ⟨rfl,rfl⟩).done rfl rfl rfl rfl ⟨rfl,rfl⟩)
theorem jr(k:Nat)(h:MM ρ w p y)(ok:Ok y)(hc:y.count<=63)(hk:k<=256) :
  Calls prog 148 #[.pointer (some ⟨p,0,none⟩), .agg (FL k)] w fun v n=>Ak ρ w p (y.Rw k) v n:=by
 by_cases h1:k<256
 ·have d:Hid (FL k=#[.int .i64 0, .int .u8 k, .int .i64 0, .int .i64 0]):=by show FL k=_;unfold FL;rw [zC h1]
  have e:Hid (y.Rw k=({ y with lit:=k,st:=16 },0)):=zC h1;rw [d.out];have b:Below w.heap.size w (w.alloc (.cells #[.int .i64 0, .int .u8 k, .int .i64 0, .int .i64 0] 218)):=zB.alloc zL _;have a:=hid (h.below b);have c:=a.out.lit k;have g:Hid (MM ρ (((w.alloc (.cells #[.int .i64 0, .int .u8 k, .int .i64 0, .int .i64 0] 218)).setCell ⟨p,38,none⟩ (.int .u8 k)).setCell ⟨p,7,none⟩ (.int .i64 16)) p { y with lit:=k,st:=16 }/\Fr V5 ρ w (((w.alloc (.cells #[.int .i64 0, .int .u8 k, .int .i64 0, .int .i64 0] 218)).setCell ⟨p,38,none⟩ (.int .u8 k)).setCell ⟨p,7,none⟩ (.int .i64 16))):=⟨(c.1.st 16).1,((Fr.below b).trans c.2).trans (c.1.st 16).2⟩
  have j:=a.out.GO.1;have o:=a.out.GO.2.1;have q:=a.out.Bt.1;have s:=a.out.Bt.2;have l:(w.alloc (.cells #[.int .i64 0, .int .u8 k, .int .i64 0, .int .i64 0] 218)).cell? ⟨w.heap.size,0,none⟩=some (.int .i64 0):=zS;have r:(w.alloc (.cells #[.int .i64 0, .int .u8 k, .int .i64 0, .int .i64 0] 218)).cell? ⟨w.heap.size,1,none⟩=some (.int .u8 k):=zS;clear h ok c b;go_enter func148,ntmps148
  go_wp2
  go_ret
  unfold Ak;rw [e.out];exact ⟨rfl,g.out⟩
 ·obtain rfl:k=256:=zO;have d:Hid (FL 256=#[.int .i64 1, .int .u8 0, .int .i64 0, .int .i64 0]):=rfl;have e:Hid (y.Rw 256=y.endBlock):=zA zO;rw [d.out];have b:Below w.heap.size w (w.alloc (.cells #[.int .i64 1, .int .u8 0, .int .i64 0, .int .i64 0] 218)):=zB.alloc zL _;have a:Hid (MM ρ (w.alloc (.cells #[.int .i64 1, .int .u8 0, .int .i64 0, .int .i64 0] 218)) p y/\Ok y/\Fr V5 ρ w (w.alloc (.cells #[.int .i64 1, .int .u8 0, .int .i64 0, .int .i64 0] 218))):=⟨h.below b,ok,Fr.below b⟩
  have l:(w.alloc (.cells #[.int .i64 1, .int .u8 0, .int .i64 0, .int .i64 0] 218)).cell? ⟨w.heap.size,0,none⟩=some (.int .i64 1):=zS;clear h ok b;go_enter func148,ntmps148
  go_wp2_with fail
  refine (NK a.out.1 a.out.2.1 hc).mono ?_;rintro v w1 ⟨rfl,f,g2⟩;have i:Hid (MM ρ w1 p y.endBlock.1/\Fr V5 ρ w w1):=⟨f,a.out.2.2.trans g2⟩
  clear f g2;go_wp2
  go_ret
  unfold Ak;rw [e.out];exact ⟨rfl,i.out⟩
structure Cw(ρ:Nat->Nat)(w:World)(p:Nat)(y:MS)(w':World):Prop where
 mm:MM ρ w' p y
 ok:Ok y
 Cq:y.count<=40
 ne:y.la≠[]
 lb:y.lb.length<=16
 fr:Fr V5 ρ w w'
theorem MM.Ev(h:MM ρ w p x)(a:x.la≠[]):∃ g t u,w.cell? ⟨p,37,none⟩=some (.pointer (some ⟨g,0,none⟩))/\w.cell? ⟨g,0,none⟩=some (.pointer (some ⟨t,0,none⟩))/\w.cell? ⟨g,1,none⟩=some (.pointer (some ⟨u,0,none⟩))/\
  Ge ρ w 268 4 (fun i=>(FL i).toList) t x.la/\Ge ρ w 271 2 (fun i=>(Eu 1 i).toList) u x.lb/\g≠p:=by
 obtain ⟨L,B,T⟩:=h;rcases T.Ev with h | ⟨g,e,t,u,h1,h2,h3,h4⟩
 ·exact absurd h a
 ·refine ⟨g,t,u,?_,h1.cell (i:=0) zO,h1.cell (i:=1) zO,h3,h4,MU h2 B.rp zD⟩;rw [<- e];exact B.row.cell (i:=37) zO
theorem MM.oB(h:MM ρ w p x):∃ c,w.cell? ⟨p,17,none⟩=some (.pointer (some ⟨c,0,none⟩))/\(Calls prog 57 #[.pointer (some ⟨c,0,none⟩)] w fun v a=>v= .returned (.int .i64 x.qc.length)/\w=a)/\
  (∀ n k,1<=k->k<=x.qc.length->Calls prog 150 #[.pointer (some ⟨c,0,none⟩), .int .i64 k] (w.drewN n) fun v a=>v= .returned (.int .u8 (x.qc.getD (x.qc.length - k) 0:Nat))/\∃ m,a=(w.drewN n).drewN m)/\∀ a,MM ρ a p x->True:=by
 obtain ⟨L,B,T⟩:=h;obtain ⟨o,f,k⟩:=B.rc;exact ⟨L.c,B.row.cell (i:=17) zO,mo k,fun n i h1 h2=>lH i (k.drewN n) h1 h2,fun _ _=>trivial⟩
structure Kw(ρ:Nat->Nat)(w:World)(p:Nat)(y:MS)(R:MS×Nat)(w':World):Prop where
 mm:MM ρ w' p y
 ok:Ok y
 eq:MS.Hj y.left y=R
 left:y.left<=65535
 d1:1<=y.Cc
 d2:y.Cc<=y.qc.length
 qb:∀ b∈y.qc,b<256
 fr:Fr V5 ρ w w'
theorem MS.Zs(h:y.left=0):MS.Hj y.left y=({ y with st:=17 },0):=by
 have e:∀ n,n=0->MS.Hj n y=({ y with st:=17 },0):=fun n a=>by subst a;rfl
 exact e _ h
theorem MS.Zr(h:y.left=n+1):MS.Hj y.left y=if (y.put (y.qc.getD (y.qc.length - y.Cc) 0)).2=0 then MS.Hj n { (y.put (y.qc.getD (y.qc.length - y.Cc) 0)).1 with left:=n } else y.put (y.qc.getD (y.qc.length - y.Cc) 0):=by rw [h];rfl
theorem Xo(q:List Nat)(b:Nat)(h:q.length<=256):q.length<=(MS.Fi q b).length:=by
 unfold MS.Fi;split
 ·simp;omega
 ·simp
theorem Sa{q:List Nat}(h:∀ x∈q,x<256)(a:b<256):∀ x∈MS.Fi q b,x<256:=by
 intro x hx;unfold MS.Fi at hx;split at hx
 ·rcases yW.1 hx with h1 | h1
  ·exact h x (List.mem_of_mem_tail h1)
  ·simp at h1;omega
 ·rcases yW.1 hx with h1 | h1
  ·exact h x h1
  ·simp at h1;omega
theorem Of{q:List Nat}(h:∀ x∈q,x<256)(i:Nat):q.getD i 0<256:=by
 rw [yF];by_cases hi:i<q.length
 ·rw [xR hi];exact h _ (yD hi)
 ·rw [AU zO];simp
theorem nH(h:k<16):Tr.Ag k<=16/\Tr.Ar 1 k<=1000000/\1<=Tr.Ar 1 k:=by
 have:=Sj h;have:=vP (Tr.Ag k);omega
theorem MS.IL(ok:Ok x)(hx:x.count<=40){least bits:Nat}(b:bits<=16):Ok (x.Bg least bits).1/\((x.Bg least bits).2.1=0->(x.Bg least bits).1.count<=40/\least<=(x.Bg least bits).2.2/\(x.Bg least bits).2.2<least+2^bits/\(x.Bg least bits).1={ x with held:=(x.Bg least bits).1.held,count:=(x.Bg least bits).1.count,tk:=(x.Bg least bits).1.tk,rest:=(x.Bg least bits).1.rest }):=by
 have k3:=MS.Ck (k:=bits) ok;unfold MS.Bg;by_cases h0:(MS.Ab bits x).2=0
 ·have a:=MS.Ci ok h0;have k2:=MS.EO ok h0;rw [zC h0];refine ⟨k3.rd a.1,fun _=>⟨?_,Nat.le_add_right _ _,Nat.add_lt_add_left (yC _ (vP _)) _,?_⟩⟩
  ·show (MS.Ab bits x).1.count - bits<=40;omega
  ·show (MS.Ab bits x).1.rd bits={ x with held:=_,count:=_,tk:=_,rest:=_ };generalize MS.Ab bits x=r at *;rw [k2];rfl
 ·rw [zA h0];exact ⟨k3,fun h=>absurd h h0⟩
theorem Vo(h:MM ρ w p x)(ok:Ok x)(hx:x.count<=40)(ht:Ge ρ w 265 4 (fun i=>(EU i).toList) t l) :
  Calls prog 140 #[.pointer (some ⟨p,0,none⟩), .pointer (some ⟨t,0,none⟩)] w fun v D=>OH ρ w p (EU) #[.int .i64 0, .bool false, .int .i64 0, .int .i64 0] (x.sym l) v D:=by
 obtain ⟨R,hR⟩:=qe (x.sym l);have a8:=Og l;have Z:Below w.heap.size w ((w.alloc (.cells #[.int .i64 0, .bool false, .int .i64 0, .int .i64 0] 127)).alloc (.cells #[.int .i64 0, .bool false, .int .i64 0, .int .i64 0] 127)):=(zB.alloc zL _).alloc zS _;have H0:Hid (∃ r,Sw ρ w p 127 265 4 (FY [.int .i64 0, .bool false, .int .i64 0, .int .i64 0]) (fun i=>(EU i).toList) t l R 0 1 r x ((w.alloc (.cells #[.int .i64 0, .bool false, .int .i64 0, .int .i64 0] 127)).alloc (.cells #[.int .i64 0, .bool false, .int .i64 0, .int .i64 0] 127))):=by
  refine ⟨EB l 12,h.below Z,ok,hx,hR.symm,zE _,zO,zD,?_,?_,ht.fr (R:=fun _=>False) (Kp.Bk Z) (fun e=>e),h.new _ zL,h.new _ zO,Fr.below Z⟩
  ·exact (yL w #[.int .i64 0, .bool false, .int .i64 0, .int .i64 0] 127 (FY [.int .i64 0, .bool false, .int .i64 0, .int .i64 0]) (fun i hi=>by
    have:i=0\/i=1\/i=2\/i=3:=by have:i<4:=hi;omega
    rcases this with rfl | rfl | rfl | rfl <;> rfl)).alloc _
  ·have:=yL (w.alloc (.cells #[.int .i64 0, .bool false, .int .i64 0, .int .i64 0] 127)) #[.int .i64 0, .bool false, .int .i64 0, .int .i64 0] 127 (FY [.int .i64 0, .bool false, .int .i64 0, .int .i64 0]) (fun i hi=>by
    have:i=0\/i=1\/i=2\/i=3:=by have:i<4:=hi;omega
    rcases this with rfl | rfl | rfl | rfl <;> rfl)
   simpa using this
 rw [<- hR];clear h ok hx ht hR Z;go_enter func140,ntmps140
 go_wp2_with fail
 go_loopw [7,8] (fun c n wr=>∃ (code len:Nat),c= .int .i64 code/\n= .int .i64 len/\Hid (∃ r y,Sw ρ w p 127 265 4 (FY [.int .i64 0, .bool false, .int .i64 0, .int .i64 0]) (fun i=>(EU i).toList) t l R code len r y wr)) (fun _ n _=>13 - (intOf n).toNat)
 case atStart=>exact ⟨0,1,rfl,rfl,by obtain ⟨r,h⟩:=H0.out;exact ⟨r,x,h⟩⟩
 case round=>
  clear H0;obtain ⟨code,len,rfl,rfl,HH⟩:=hrel;obtain ⟨r,y,Y⟩:=HH.out;have a9:=Y.n1;have b1:=Y.nr;have a5:=Y.code;have b2:=Y.Cq;have u:=hid Y.sk;have E:=hid Y.eq;have P:Hid (Calls prog 170 #[.pointer (some ⟨t,0,none⟩)] wr fun x D=>x= .returned (.int .i64 (EB l 12))/\wr=D):=by
   obtain ⟨m,N,mg,I,_,_,_⟩:=Y.Oy.Oy;exact QH I
  clear Y HH;obtain ⟨lg,C⟩:=qe (EB l 12);rw [<- C] at P b1 a8;have Q:=hid C;clear C;go_wp2_with fail
  refine P.out.mono ?_;rintro e D ⟨rfl,rfl⟩;by_cases b9:len<=lg
  ·obtain ⟨r,rfl⟩:∃ q,r=q+1:=⟨r - 1,zO⟩
   have U:(len:Int)<=lg:=zO;have a6:code<2048:=by
    have:2^(len - 1)<=2^11:=yP zD zO;have e:2^11=2048:=zD;omega
   have a:Hid (R=if (MS.Ab len y).2≠0 then ((MS.Ab len y).1,(MS.Ab len y).2,0) else if 0<=find (Ax l) len ((2*code+(MS.Ab len y).1.held / 2^(len - 1)%2:Nat):Int) then ((MS.Ab len y).1.rd len,0,(find (Ax l) len ((2*code+(MS.Ab len y).1.held / 2^(len - 1)%2:Nat):Int)).toNat) else MS.symL l r (len+1) (2*code+(MS.Ab len y).1.held / 2^(len - 1)%2) (MS.Ab len y).1):=E.out.symm;clear E;go_wp2_with fail
   refine (GC len u.out.mm u.out.ok zO zO).mono ?_;rintro v w1 ⟨rfl,A,g2⟩;by_cases h0:(MS.Ab len y).2=0
   ·have k1:=MS.Ci u.out.ok h0;have k3:=MS.Ck (k:=len) u.out.ok;rw [h0];rw [zA (by rw [h0];simp)] at a;obtain ⟨z,hz⟩:=qe ((MS.Ab len y).1);rw [<- hz] at A a k1 k3;have j:=hid (u.out.next A k3 g2);clear A g2 hz h0 k3;obtain ⟨d,hd⟩:=qe (len - 1);have b7:(len:Int) - 1=(d:Int):=zO;have a7:d<z.count:=zO;rw [<- hd] at a;have HD:=hid hd;clear hd;have J:z.held / 2^d%2<2:=yC _ zD;have G:Hid (Calls prog 171 #[.pointer (some ⟨p,14,none⟩), .int .i64 d] w1 fun v D=>v= .returned (.int .i64 (z.held / 2^d%2:Nat))/\MM ρ D p z/\Fr V5 ρ w1 D):=nf d j.out.mm j.out.ok a7 zO;obtain ⟨b,hb⟩:=qe (z.held / 2^d%2);rw [<- hb] at a J G;clear hb;obtain ⟨c2,F⟩:=qe (2*code+b);have c0:bits .or .i64 ((code:Int)*2) (b:Int)=(c2:Int):=by rw [F];exact Xf code b zO J
    have V:c2<2^(len+1 - 1):=by rw [F];exact Qb a9 a5 J
    have T:c2<=1000000:=zO;rw [<- F] at a;clear F;go_wp2_with fail
    refine G.out.mono ?_;rintro v w2 ⟨rfl,A,g2⟩;have g:=hid (j.out.next A j.out.ok g2);have X:=Qu g.out.Oy c2 len T zO zO;have a4:=hid V;clear A g2 G j V;by_cases M:0<=find (Ax l) len (c2:Int)
    ·rw [zC M] at a;obtain ⟨i,hi⟩:=qe ((find (Ax l) len (c2:Int)).toNat);have W:=X.1 M;rw [<- hi] at a W;obtain ⟨v1,v2,v3,v4,hv⟩:=Gs.four i;have HV:=hid hv;rw [hv] at W;have H:Hid (Calls prog 172 #[.pointer (some ⟨t,0,none⟩), .int .i64 c2, .int .i64 len] w2 fun x D=>x= .returned (.tuple #[.agg #[.int .i64 v1, .bool v2, .int .i64 v3, .int .i64 v4], .bool true])/\Below w2.heap.size w2 D):=W;clear W X M hi hv;go_wp2_with fail
     refine H.out.mono ?_;rintro e o ⟨rfl,S⟩;have O:=hid (g.out.below S);have b4:Below o.heap.size o (o.alloc (.cells #[.int .i64 v1, .bool v2, .int .i64 v3, .int .i64 v4] 127)):=zB.alloc zL _;have B:=hid (O.out.below b4);have q0:(o.alloc (.cells #[.int .i64 v1, .bool v2, .int .i64 v3, .int .i64 v4] 127)).cell? ⟨o.heap.size,0,none⟩=some (.int .i64 v1):=zS;have q1:(o.alloc (.cells #[.int .i64 v1, .bool v2, .int .i64 v3, .int .i64 v4] 127)).cell? ⟨o.heap.size,1,none⟩=some (.bool v2):=zS;have q2:(o.alloc (.cells #[.int .i64 v1, .bool v2, .int .i64 v3, .int .i64 v4] 127)).cell? ⟨o.heap.size,2,none⟩=some (.int .i64 v3):=zS;have q3:(o.alloc (.cells #[.int .i64 v1, .bool v2, .int .i64 v3, .int .i64 v4] 127)).cell? ⟨o.heap.size,3,none⟩=some (.int .i64 v4):=zS;have hq:o.heap.size<(o.alloc (.cells #[.int .i64 v1, .bool v2, .int .i64 v3, .int .i64 v4] 127)).heap.size:=zS;have rq:=O.out.mm.new _ zL;have b8:o.heap.size≠w.heap.size:=by have:=O.out.b4.lt;omega
     clear S b4 g;go_wp2_with fail
     generalize o.alloc (.cells #[.int .i64 v1, .bool v2, .int .i64 v3, .int .i64 v4] 127)=W3 at *;refine (Gg len B.out.mm B.out.ok k1.1 zO).mono ?_;rintro e L ⟨rfl,A,g2⟩;have s0:=g2.cell q0 hq (by rw [rq];exact WZ);have s1:=g2.cell q1 hq (by rw [rq];exact WZ);have s2:=g2.cell q2 hq (by rw [rq];exact WZ);have s3:=g2.cell q3 hq (by rw [rq];exact WZ);have s:=hid (B.out.next A (B.out.ok.rd k1.1) g2);have u0:L.cell? ⟨w.heap.size,0,none⟩=some (.int .i64 0):=s.out.b4.cell (i:=0) zO;have u1:L.cell? ⟨w.heap.size,1,none⟩=some (.bool false):=s.out.b4.cell (i:=1) zO;have u2:L.cell? ⟨w.heap.size,2,none⟩=some (.int .i64 0):=s.out.b4.cell (i:=2) zO;have u3:L.cell? ⟨w.heap.size,3,none⟩=some (.int .i64 0):=s.out.b4.cell (i:=3) zO;have x0:=s.out.b4.frozen 0;have x1:=s.out.b4.frozen 1;have x2:=s.out.b4.frozen 2;have x3:=s.out.b4.frozen 3;have f:Hid ((((((L.setCell ⟨w.heap.size,0,none⟩ (.int .i64 v1)).setCell ⟨w.heap.size,1,none⟩ (.bool v2)).setCell ⟨w.heap.size,2,none⟩ (.int .i64 v3)).setCell ⟨w.heap.size,3,none⟩ (.int .i64 v4)).heap[w.heap.size]?=some (.cells #[.int .i64 v1, .bool v2, .int .i64 v3, .int .i64 v4] 127))/\MM ρ ((((L.setCell ⟨w.heap.size,0,none⟩ (.int .i64 v1)).setCell ⟨w.heap.size,1,none⟩ (.bool v2)).setCell ⟨w.heap.size,2,none⟩ (.int .i64 v3)).setCell ⟨w.heap.size,3,none⟩ (.int .i64 v4)) p (z.rd len)/\Fr V5 ρ w ((((L.setCell ⟨w.heap.size,0,none⟩ (.int .i64 v1)).setCell ⟨w.heap.size,1,none⟩ (.bool v2)).setCell ⟨w.heap.size,2,none⟩ (.int .i64 v3)).setCell ⟨w.heap.size,3,none⟩ (.int .i64 v4))):=by
      refine ⟨Il (((((s.out.b4).set 0 (.int .i64 v1)).set 1 (.bool v2)).set 2 (.int .i64 v3)).set 3 (.int .i64 v4)),((((s.out.mm).Be w.heap.size 0 (.int .i64 v1) s.out.r4).Be w.heap.size 1 (.bool v2) s.out.r4).Be w.heap.size 2 (.int .i64 v3) s.out.r4).Be w.heap.size 3 (.int .i64 v4) s.out.r4,((((s.out.fr).Be w.heap.size 0 (.int .i64 v1) zL).Be w.heap.size 1 (.bool v2) zL).Be w.heap.size 2 (.int .i64 v3) zL).Be w.heap.size 3 (.int .i64 v4) zL⟩
     clear A g2;go_wp2_with fail
     refine zX (Bf results140 _ _ _ _ _ _ _ rfl f.out.1 underlying127 rfl (FW _ rfl)) rfl ?_;unfold OH;rw [a.out];exact ⟨by rw [<- HV.out];rfl,f.out.2⟩
    ·rw [zA M] at a;have H:Hid (Calls prog 172 #[.pointer (some ⟨t,0,none⟩), .int .i64 c2, .int .i64 len] w2 fun x D=>x= .returned (.tuple #[.agg #[.int .i64 0, .bool false, .int .i64 0, .int .i64 0], .bool false])/\Below w2.heap.size w2 D):=X.2 M;clear X M;go_wp2_with fail
     refine H.out.mono ?_;rintro e o ⟨rfl,S⟩;have O:=hid (g.out.below S);have b4:Below o.heap.size o (o.alloc (.cells #[.int .i64 0, .bool false, .int .i64 0, .int .i64 0] 127)):=zB.alloc zL _;have B:=hid (O.out.below b4);clear S b4 g;have HN:Hid (∃ r y,Sw ρ w p 127 265 4 (FY [.int .i64 0, .bool false, .int .i64 0, .int .i64 0]) (fun i=>(EU i).toList) t l R c2 (len+1) r y (o.alloc (.cells #[.int .i64 0, .bool false, .int .i64 0, .int .i64 0] 127))):=⟨r,z,B.out.mm,B.out.ok,zO,a.out.symm,zO,by have:=Q.out;omega,a4.out,B.out.b4,B.out.b6,B.out.Oy,B.out.r4,B.out.r6,B.out.fr⟩
     go_wp2_with fail
     go_roundw
     case rel=>exact ⟨c2,len+1,rfl,by go_num,HN⟩
     case measure=>simp [intOf];omega
   ·rw [zC h0] at a;obtain ⟨e,he⟩:=qe ((MS.Ab len y).2);have j:=hid (u.out.next A (MS.Ck u.out.ok) g2);rw [<- he] at h0 a |-;have b5:=qn h0;clear A g2 he;have u0:w1.cell? ⟨w.heap.size,0,none⟩=some (.int .i64 0):=j.out.b4.cell (i:=0) zO;have u1:w1.cell? ⟨w.heap.size,1,none⟩=some (.bool false):=j.out.b4.cell (i:=1) zO;have u2:w1.cell? ⟨w.heap.size,2,none⟩=some (.int .i64 0):=j.out.b4.cell (i:=2) zO;have u3:w1.cell? ⟨w.heap.size,3,none⟩=some (.int .i64 0):=j.out.b4.cell (i:=3) zO;have x0:=j.out.b4.frozen 0;have x1:=j.out.b4.frozen 1;have x2:=j.out.b4.frozen 2;have x3:=j.out.b4.frozen 3;have s0:w1.cell? ⟨w.heap.size+1,0,none⟩=some (.int .i64 0):=j.out.b6.cell (i:=0) zO;have s1:w1.cell? ⟨w.heap.size+1,1,none⟩=some (.bool false):=j.out.b6.cell (i:=1) zO;have s2:w1.cell? ⟨w.heap.size+1,2,none⟩=some (.int .i64 0):=j.out.b6.cell (i:=2) zO;have s3:w1.cell? ⟨w.heap.size+1,3,none⟩=some (.int .i64 0):=j.out.b6.cell (i:=3) zO;have f:Hid ((((((w1.setCell ⟨w.heap.size,0,none⟩ (.int .i64 0)).setCell ⟨w.heap.size,1,none⟩ (.bool false)).setCell ⟨w.heap.size,2,none⟩ (.int .i64 0)).setCell ⟨w.heap.size,3,none⟩ (.int .i64 0)).heap[w.heap.size]?=some (.cells #[.int .i64 0, .bool false, .int .i64 0, .int .i64 0] 127))/\MM ρ ((((w1.setCell ⟨w.heap.size,0,none⟩ (.int .i64 0)).setCell ⟨w.heap.size,1,none⟩ (.bool false)).setCell ⟨w.heap.size,2,none⟩ (.int .i64 0)).setCell ⟨w.heap.size,3,none⟩ (.int .i64 0)) p (MS.Ab len y).1/\Fr V5 ρ w ((((w1.setCell ⟨w.heap.size,0,none⟩ (.int .i64 0)).setCell ⟨w.heap.size,1,none⟩ (.bool false)).setCell ⟨w.heap.size,2,none⟩ (.int .i64 0)).setCell ⟨w.heap.size,3,none⟩ (.int .i64 0))):=by
     refine ⟨Il (((((j.out.b4).set 0 (.int .i64 0)).set 1 (.bool false)).set 2 (.int .i64 0)).set 3 (.int .i64 0)),((((j.out.mm).Be w.heap.size 0 (.int .i64 0) j.out.r4).Be w.heap.size 1 (.bool false) j.out.r4).Be w.heap.size 2 (.int .i64 0) j.out.r4).Be w.heap.size 3 (.int .i64 0) j.out.r4,((((j.out.fr).Be w.heap.size 0 (.int .i64 0) zL).Be w.heap.size 1 (.bool false) zL).Be w.heap.size 2 (.int .i64 0) zL).Be w.heap.size 3 (.int .i64 0) zL⟩
    go_wp2_with fail
    refine zX (Bf results140 _ _ _ _ _ _ _ rfl f.out.1 underlying127 rfl (FW _ rfl)) rfl ?_;unfold OH;rw [a.out];exact ⟨by rw [zA h0];rfl,f.out.2⟩
  ·obtain rfl:r=0:=zO;have U:¬ (len:Int)<=lg:=zO;have a:Hid (R=((y.refuse 11).1,3,0)):=E.out.symm;clear E;have s0:wr.cell? ⟨w.heap.size+1,0,none⟩=some (.int .i64 0):=u.out.b6.cell (i:=0) zO;have s1:wr.cell? ⟨w.heap.size+1,1,none⟩=some (.bool false):=u.out.b6.cell (i:=1) zO;have s2:wr.cell? ⟨w.heap.size+1,2,none⟩=some (.int .i64 0):=u.out.b6.cell (i:=2) zO;have s3:wr.cell? ⟨w.heap.size+1,3,none⟩=some (.int .i64 0):=u.out.b6.cell (i:=3) zO;go_wp2_with fail
   go_region_held3 (fun wv=>wv.cell? ⟨w.heap.size+1,0,none⟩=some (.int .i64 0)/\wv.cell? ⟨w.heap.size+1,1,none⟩=some (.bool false)/\wv.cell? ⟨w.heap.size+1,2,none⟩=some (.int .i64 0)/\wv.cell? ⟨w.heap.size+1,3,none⟩=some (.int .i64 0)) (first | exact ⟨s0,s1,s2,s3⟩ | exact ⟨a0,a1,a2,a3⟩ | exact ⟨(Gs.CR (q:=⟨w.heap.size+1,0,none⟩) zS).trans a0,(Gs.CR (q:=⟨w.heap.size+1,1,none⟩) zS).trans a1,(Gs.CR (q:=⟨w.heap.size+1,2,none⟩) zS).trans a2,(Gs.CR (q:=⟨w.heap.size+1,3,none⟩) zS).trans a3⟩)
    (first | (go_at_call 79;refine (Cd 11 (u.out.mm.drewN 1)).mono ?_;rintro e w2 ⟨rfl,A,g2⟩;have g:=hid ((u.out.drewN 1).next A (u.out.ok.refuse 11) g2);have a0:w2.cell? ⟨w.heap.size+1,0,none⟩=some (.int .i64 0):=g.out.b6.cell (i:=0) zO;have u0:w2.cell? ⟨w.heap.size,0,none⟩=some (.int .i64 0):=g.out.b4.cell (i:=0) zO;have x0:=g.out.b4.frozen 0;have a1:w2.cell? ⟨w.heap.size+1,1,none⟩=some (.bool false):=g.out.b6.cell (i:=1) zO;have u1:w2.cell? ⟨w.heap.size,1,none⟩=some (.bool false):=g.out.b4.cell (i:=1) zO;have x1:=g.out.b4.frozen 1;have a2:w2.cell? ⟨w.heap.size+1,2,none⟩=some (.int .i64 0):=g.out.b6.cell (i:=2) zO;have u2:w2.cell? ⟨w.heap.size,2,none⟩=some (.int .i64 0):=g.out.b4.cell (i:=2) zO;have x2:=g.out.b4.frozen 2;have a3:w2.cell? ⟨w.heap.size+1,3,none⟩=some (.int .i64 0):=g.out.b6.cell (i:=3) zO;have u3:w2.cell? ⟨w.heap.size,3,none⟩=some (.int .i64 0):=g.out.b4.cell (i:=3) zO;have x3:=g.out.b4.frozen 3;clear A g2))
   all_goals
    have f:Hid ((((((w2.setCell ⟨w.heap.size,0,none⟩ (.int .i64 0)).setCell ⟨w.heap.size,1,none⟩ (.bool false)).setCell ⟨w.heap.size,2,none⟩ (.int .i64 0)).setCell ⟨w.heap.size,3,none⟩ (.int .i64 0)).heap[w.heap.size]?=some (.cells #[.int .i64 0, .bool false, .int .i64 0, .int .i64 0] 127))/\MM ρ ((((w2.setCell ⟨w.heap.size,0,none⟩ (.int .i64 0)).setCell ⟨w.heap.size,1,none⟩ (.bool false)).setCell ⟨w.heap.size,2,none⟩ (.int .i64 0)).setCell ⟨w.heap.size,3,none⟩ (.int .i64 0)) p (y.refuse 11).1/\Fr V5 ρ w ((((w2.setCell ⟨w.heap.size,0,none⟩ (.int .i64 0)).setCell ⟨w.heap.size,1,none⟩ (.bool false)).setCell ⟨w.heap.size,2,none⟩ (.int .i64 0)).setCell ⟨w.heap.size,3,none⟩ (.int .i64 0))):=by
     refine ⟨Il (((((g.out.b4).set 0 (.int .i64 0)).set 1 (.bool false)).set 2 (.int .i64 0)).set 3 (.int .i64 0)),((((g.out.mm).Be w.heap.size 0 (.int .i64 0) g.out.r4).Be w.heap.size 1 (.bool false) g.out.r4).Be w.heap.size 2 (.int .i64 0) g.out.r4).Be w.heap.size 3 (.int .i64 0) g.out.r4,((((g.out.fr).Be w.heap.size 0 (.int .i64 0) zL).Be w.heap.size 1 (.bool false) zL).Be w.heap.size 2 (.int .i64 0) zL).Be w.heap.size 3 (.int .i64 0) zL⟩
    go_wp2_with fail
    refine zX (Bf results140 _ _ _ _ _ _ _ rfl f.out.1 underlying127 rfl (FW _ rfl)) rfl ?_;unfold OH;rw [a.out];exact ⟨rfl,f.out.2⟩
def EC(k:Nat):Prop:=k≠0/\k≠9
def Ext(B:Nat)(ρ ρ':Nat->Nat):Prop:=∀ k,k<B->ρ' k=ρ k
theorem Ext.refl(B:Nat)(ρ:Nat->Nat):Ext B ρ ρ:=fun _ _=>rfl
theorem Ext.trans{B':Nat}{a b c:Nat->Nat}(h:Ext B a b)(k:Ext B' b c)(hB:B<=B'):Ext B a c:=fun i hi=>(k i zO).trans (h i hi)
theorem Fr.Ba(h:Fr V5 ρ w w'):Fr EC ρ w w':=h.mono (fun k hk=>⟨zO,zO⟩)
theorem Fr.ext{a b c:World}(h:Fr EC ρ a b)(k:Fr EC ρ' b c)(e:Ext a.heap.size ρ ρ'):Fr EC ρ a c:=⟨⟨zG h.kp.size k.kp.size,fun i hi d=>by
  rw [k.kp.block i (zM hi h.kp.size) (by rw [e i hi];exact d)];exact h.kp.block i hi d⟩,k.os.trans h.os,k.tape.trans h.tape,k.output.trans h.output⟩
structure By(ρ:Nat->Nat)(w:World)(p:Nat)(y:MS)(w':World):Prop where
 ex:∃ ρ',Ext w.heap.size ρ ρ'/\MM ρ' w' p y
 fr:Fr EC ρ w w'
def CJ(ρ:Nat->Nat)(w:World)(p:Nat)(r:MS×Nat)(e:Ending)(w':World):Prop:=e= .returned (.int .i64 r.2)/\By ρ w p r.1 w'
theorem Ak.fg{r:MS×Nat}{e:Ending}(h:Ak ρ w p r e w'):CJ ρ w p r e w':=⟨h.1,⟨ρ,Ext.refl _ _,h.2.1⟩,h.2.2.Ba⟩
theorem By.refl(h:MM ρ w p y):By ρ w p y w:=⟨⟨ρ,Ext.refl _ _,h⟩,Fr.refl _ _ _⟩
theorem By.next(e:Ext w.heap.size ρ ρ')(f:Fr EC ρ w w1)(h:By ρ' w1 p z w2):By ρ w p z w2:=by
 obtain ⟨ρ'',a,m⟩:=h.ex;exact ⟨⟨ρ'',e.trans a f.kp.size,m⟩,f.ext h.fr e⟩
theorem Ge.Sb{T:TypeId}{Dg:Nat->List Value}(h:Ge ρ w T k Dg t l)(e:∀ k,ρ k≠0->ρ' k=ρ k):Ge ρ' w T k Dg t l:=by
 obtain ⟨m,n,a,I,h1,h2,h3⟩:=h.Oy;exact ⟨⟨m,n,a,I,h1,h2,by rw [e m (by rw [h3];decide)];exact h3⟩,by rw [e t (by rw [h.role];decide)];exact h.role,h.ON,h.len⟩
theorem JO.Sb(h:JO ρ w g la lb)(e:∀ k,ρ k≠0->ρ' k=ρ k):JO ρ' w g la lb:=by
 obtain ⟨t,u,h1,h2,h3,h4⟩:=h;exact ⟨t,u,h1,by rw [e g (by rw [h2];decide)];exact h2,h3.Sb e,h4.Sb e⟩
theorem MT.Sb(T:MT ρ w x L)(e:∀ k,ρ k≠0->ρ' k=ρ k)(l:∀ k,ρ' k≠0->k<w.heap.size):MT ρ' w x L where
 sup:=by
  obtain ⟨ad,P,cap,h1,h2,h3,h4,h5,h6,h,d⟩:=T.sup.at_;exact ⟨ad,P,cap,h1,h2,h3,h4,h5,h6,h,fun b o f=>by rw [e b (by rw [d b o f];decide)];exact d b o f⟩
 hl:=⟨T.hl.1,fun g c=>by rw [e g (by rw [T.hl.2 g c];decide)];exact T.hl.2 g c⟩
 rw:=⟨T.rw.1,fun g c=>by rw [e g (by rw [T.rw.2 g c];decide)];exact T.rw.2 g c⟩
 hp:=T.hp.imp id fun ⟨t,a,b⟩=>⟨t,a,b.Sb e⟩
 Ev:=T.Ev.imp id fun ⟨t,a,b⟩=>⟨t,a,b.Sb e⟩
 fx:=T.fx.imp id fun ⟨t,a,b⟩=>⟨t,a,b.Sb e⟩
 lt:=l
theorem MB.Sb(B:MB ρ w p x L)(e:∀ k,ρ k≠0->ρ' k=ρ k):MB ρ' w p x L:=by
 obtain ⟨r1,r2,r3,r4⟩:=B.rl;exact ⟨B.row,B.ra,B.rc,by rw [e p (by rw [B.rp];decide)];exact B.rp,by rw [e _ (by rw [r1];decide)];exact r1,by rw [e _ (by rw [r2];decide)];exact r2,by rw [e _ (by rw [r3];decide)];exact r3,by rw [e _ (by rw [r4];decide)];exact r4⟩
def Hk(ρ:Nat->Nat)(g r:Nat):Nat->Nat:=fun k=>if k=g then r else ρ k
theorem KL(ρ:Nat->Nat)(g r:Nat):Hk ρ g r g=r:=zC rfl
theorem NB(h:ρ g=0\/ρ g=r)(k:Nat)(hk:ρ k≠0):Hk ρ g r k=ρ k:=by
 unfold Hk;by_cases e:k=g
 ·subst e;rw [zC rfl];rcases h with h | h
  ·exact absurd h hk
  ·exact h.symm
 ·rw [zA e]
theorem Ry(B:MB ρ w p x L)(T:MT ρ w x L)
  (n:w1.ownsRow 0 3 1 (.slice (some ⟨g,0,none⟩) (x.row.length+1) cap) (x.row.length+1) (Al x.row++[.int .i64 a])) (j:(w.alloc o).grownBy w1 L.rv.ownBlock) (f:L.rv.ownBlock=some g\/g=w.heap.size+1) (s:g<w1.heap.size) :
  MM (Hk ρ g 7) (w1.setCell ⟨p,35,none⟩ (.slice (some ⟨g,0,none⟩) (x.row.length+1) cap)) p { x with row:=x.row++[a] }/\Ext w.heap.size ρ (Hk ρ g 7)/\Fr EC ρ w (w1.setCell ⟨p,35,none⟩ (.slice (some ⟨g,0,none⟩) (x.row.length+1) cap)):=by
 have l:ρ g=0\/ρ g=7:=by
  rcases f with h | h
  ·exact Or.inr (T.rw.2 g h)
  ·left
   apply yB;intro D;have:=T.lt g D;omega
 have kp:Kp (fun r=>r=7) ρ w w1:=⟨by have:=j.size;simp at this;omega,fun k hk E=>by
  rw [j.block k (by simp;omega) (fun e=>E (T.rw.2 k e.symm))];exact xQ _ _ hk⟩
 have Fu:=NB (ρ:=ρ) (g:=g) (r:=7) l;obtain ⟨G,q,F⟩:=B.ra;obtain ⟨H,C,k2⟩:=B.rc;obtain ⟨r1,r2,r3,r4⟩:=B.rl;have y:MB ρ w1 p x L:=⟨ER B.row kp (by rw [B.rp];decide),⟨G,q,F.kp kp (by rw [r1];decide) (by rw [r2];decide)⟩,⟨H,C,k2.kp kp (by rw [r3];decide) (by rw [r4];decide)⟩,B.rp,B.rl⟩
 have u:p≠g:=by
  rcases l with h | h
  ·exact MU B.rp h zD
  ·exact MU B.rp h zD
 have ext:Ext w.heap.size ρ (Hk ρ g 7):=fun k hk=>by
  unfold Hk;by_cases e:k=g
  ·subst e;rw [zC rfl];rcases f with h | h
   ·exact (T.rw.2 k h).symm
   ·omega
  ·rw [zA e]
 refine ⟨⟨{ L with rv:= .slice (some ⟨g,0,none⟩) (x.row.length+1) cap },(y.Sb Fu).set 35 _ rfl ⟨rfl,rfl,rfl,rfl⟩ ⟨rfl,rfl⟩,?_⟩,ext,?_⟩
 ·have c:MT (Hk ρ g 7) w1 { x with row:=x.row++[a] } { L with rv:= .slice (some ⟨g,0,none⟩) (x.row.length+1) cap }:=by
   have v:MT ρ w1 { x with row:=[] } { L with rv:= .slice none 0 0 }:=⟨T.sup.fr kp zD,⟨As T.hl.1 kp (fun b i e=>by rw [T.hl.2 b i] at e;cases e),T.hl.2⟩,⟨OI.nil _ _,fun b i=>by cases i⟩,T.hp.imp id fun ⟨t,a,b⟩=>⟨t,a,b.fr kp zD⟩,T.Ev.imp id fun ⟨t,a,b⟩=>⟨t,a,b.fr kp zD⟩,T.fx.imp id fun ⟨t,a,b⟩=>⟨t,a,b.fr kp zD⟩,fun k hk=>zM (T.lt k hk) kp.size⟩
   have d:=v.Sb Fu (fun k hk=>by
    unfold Hk at hk;by_cases e:k=g
    ·subst e;exact s
    ·rw [zA e] at hk;exact v.lt k hk)
   refine ⟨d.sup,d.hl,⟨?_,fun b i=>?_⟩,d.hp,d.Ev,d.fx,d.lt⟩
   ·show w1.ownsRow 0 3 1 (.slice (some ⟨g,0,none⟩) (x.row.length+1) cap) (x.row++[a]).length (Al (x.row++[a]));have z:(x.row++[a]).length=x.row.length+1:=zS;have A:Al (x.row++[a])=Al x.row++[.int .i64 a]:=by unfold Al;simp
    rw [z,A];exact n
   ·have:b=g:=by have h:some g=some b:=i;injection h with h;exact h.symm
    rw [this];exact KL _ _ _
  exact c.fr (R:=fun r=>r=1) (Kp.Dm w1 _ _ (by show Hk ρ g 7 p=1;unfold Hk;rw [zA u];exact B.rp)) (fun r e=>zO)
 ·have q:Fr EC ρ w w1:=⟨kp.mono (fun r e=>⟨zO,zO⟩),by rw [j.os];rfl,by rw [j.tape];rfl,by rw [j.output];rfl⟩
  exact q.trans (Fr.set _ p 35 _ (by rw [B.rp];exact ⟨zD,zD⟩))
theorem MM.own(h:MM ρ w p x):w.cell? ⟨p,26,none⟩=some (.int .i64 x.nl)/\w.cell? ⟨p,27,none⟩=some (.int .i64 x.nd)/\w.cell? ⟨p,28,none⟩=some (.int .i64 x.told)/\w.cell? ⟨p,31,none⟩=some (.int .i64 x.hlen)/\w.cell? ⟨p,32,none⟩=some (.bool x.En)/\w.cell? ⟨p,33,none⟩=some (.int .i64 x.Aq)/\w.cell? ⟨p,34,none⟩=some (.int .i64 x.Am)/\(∃ ad cap,w.cell? ⟨p,35,none⟩=some (.slice ad x.row.length cap)/\Ap w ad x.row)/\w.frozen? ⟨p,35,none⟩=false:=by
 obtain ⟨L,B,T⟩:=h;obtain ⟨ad,cap,e,hc⟩:=T.rw.1.cells;exact ⟨B.row.cell (i:=26) zO,B.row.cell (i:=27) zO,B.row.cell (i:=28) zO,B.row.cell (i:=31) zO,B.row.cell (i:=32) zO,B.row.cell (i:=33) zO,B.row.cell (i:=34) zO,⟨ad,cap,by rw [<- e];exact B.row.cell (i:=35) zO,hc⟩,B.row.frozen 35⟩
theorem Nt(h:MM ρ w p x)(h1:x.nl<=1000000)(h2:x.nd<=1000000)(h3:x.row.length<=1000000) :
  Calls prog 143 #[.pointer (some ⟨p,26,none⟩)] w fun v d=>v= .returned (.bool (decide (x.row.length=x.nl+x.nd)))/\∃ n,d=w.drewN n:=by
 obtain ⟨a,b,_,_,_,_,_,⟨ad,cap,c,_⟩,_⟩:=h.own;clear h;go_enter func143,ntmps143
 go_wp2_with fail
 go_quiet (fail)
 go_wp2
 go_ret
 refine ⟨?_,_,rfl⟩;by_cases e:x.row.length=x.nl+x.nd
 ·simp [e]
 ·simp [e];omega
theorem Vz(l:List Int)(a:Int)(k:Nat):l++List.replicate (k+1) a=(l++List.replicate k a)++[a]:=by
 rw [BP,yI]
def Ud(ρ:Nat->Nat)(w:World)(p:Nat)(x:MS)(times:Nat)(e:Ending)(w':World):Prop:=
 if (x.En=true/\x.row.length=0)\/x.nl+x.nd<x.row.length+times then e= .returned (.bool false)/\By ρ w p x w'
 else e= .returned (.bool true)/\By ρ w p { x with row:=x.row++List.replicate times x.rowLen } w'
theorem QI(c:Nat)(h:MM ρ w p x)(h1:x.nl<=1000)(h2:x.nd<=1000)(h3:x.row.length<=2000)(ht:c<=1000)(hh:x.hlen<=1000) :
  Calls prog 142 #[.pointer (some ⟨p,26,none⟩), .int .i64 c] w fun v y=>Ud ρ w p x c v y:=by
 have X:=hid h;obtain ⟨Z,a0,_,a3,N,_,_,⟨ad,cap,a4,W⟩,b1⟩:=h.own;have HC:=hid W;obtain ⟨i3,a6,a8,a9,b0⟩:=yM Gf;clear h W;go_enter func142,ntmps142
 cases U:x.En with
 | false=>
  rw [U] at N;have A:=hid U;clear U;by_cases hs:x.nl+x.nd<x.row.length+c
  ·have Q:(x.nl:Int)+x.nd<x.row.length+c:=zO;have M:Hid ((x.En=true/\x.row.length=0)\/x.nl+x.nd<x.row.length+c):=Or.inr hs;clear hs;go_wp2_with fail
   go_quiet (fail)
   go_wp2
   go_ret
   unfold Ud;rw [zC M.out];exact ⟨rfl,⟨ρ,Ext.refl _ _,X.out.fr ⟨zE _,fun _ _ _=>rfl⟩⟩,⟨⟨zE _,fun _ _ _=>rfl⟩,rfl,rfl,rfl⟩⟩
  ·have Q:¬ (x.nl:Int)+x.nd<x.row.length+c:=zO;have M:Hid (¬ ((x.En=true/\x.row.length=0)\/x.nl+x.nd<x.row.length+c)):=by
    intro hq;rcases hq with hq | hq
    ·exact by have:=hq.1;rw [A.out] at this;cases this
    ·exact hs hq
   clear hs;go_wp2_with fail
   go_quiet (fail)
   go_wp2_with fail
   have V:Hid (∀ y,y.heap=w.heap->y.os=w.os->y.tape=w.tape->y.output=w.output->By ρ w p { x with row:=x.row++List.replicate 0 ((x.hlen:Int)) } y):=by
    have e:({ x with row:=x.row++List.replicate 0 ((x.hlen:Int)) }:MS)=x:=zS;rw [e];exact fun y h1 h2 h3 h4=>⟨⟨ρ,Ext.refl _ _,X.out.fr ⟨by rw [h1];exact zE _,fun _ _ _=>by rw [h1]⟩⟩,⟨⟨by rw [h1];exact zE _,fun _ _ _=>by rw [h1]⟩,h2,h3,h4⟩⟩
   clear Z a0 a3 N a4 HC b1;generalize decide (x.nl+x.nd<x.row.length+c)=dd;go_loopw [52] (fun i wr=>∃ k:Nat,k<=c/\i= .int .i64 k/\Hid (By ρ w p { x with row:=x.row++List.replicate k ((x.hlen:Int)) } wr)) (fun i _=>c - (intOf i).toNat)
   case atStart=>exact ⟨0,zH _,rfl,V.out _ rfl rfl rfl rfl⟩
   case round=>
    clear V;obtain ⟨k,hk,rfl,O⟩:=hrel;by_cases b4:k<c
    ·obtain ⟨ρ',ex,L,B,T⟩:=O.out.ex;have r:=T.rw.1;have I:(x.row++List.replicate k ((x.hlen:Int))).length=x.row.length+k:=zS;obtain ⟨b2,a5,R,_⟩:=T.rw.1.cells;have D:wr.cell? ⟨p,35,none⟩=some L.rv:=B.row.cell (i:=35) zO;have S:=B.row.frozen 35;have H:=B.row.lt;have z:=IQ B T ex O.out.fr;have f:wr.ownsRow 0 3 1 L.rv (x.row.length+k) (Al (x.row++List.replicate k ((x.hlen:Int)))):=by
      have:=r;unfold OI at this;rw [show ({ x with row:=x.row++List.replicate k ((x.hlen:Int)) }:MS).row.length=x.row.length+k from I] at this;exact this
     have u:L.rv.ownBlock≠some p:=fun e=>by
      have a1:=T.rw.2 p e;have a2:=B.rp;omega
     obtain ⟨lv,t⟩:=qe L.rv;rw [<- t] at D f u;have C:=hid t;clear r t R B T ex;go_wp2_with (at_builtin;refine xC _ rfl _ _ 69 rfl 0 3 i3 (.int .i64 0) 1 8 underlying69 a6 a8 a9 b0 rfl zD _ (x.row.length+k) (Al (x.row++List.replicate k ((x.hlen:Int)))) rfl (f.alloc _) ⟨wr.heap.size,0,none⟩ 1 1 [.int .i64 ((x.hlen:Int))] rfl rfl (yX _ _ _) (by simp [Value.oneCell']) zO (by unfold maxLen;omega) zO (zH _) (wr.heap.size+1) zS ?_;intro g2 p2 w5 j d l n;have E:=Fh (a:=⟨p,35,none⟩) d H u D;have J:=Fk (a:=⟨p,35,none⟩) d H u S)
     have HG:Hid (By ρ w p { x with row:=x.row++List.replicate (k+1) ((x.hlen:Int)) } (w5.setCell ⟨p,35,none⟩ (.slice (some ⟨g2,0,none⟩) (x.row.length+k+1) p2))):=by
      have F:({ x with row:=x.row++List.replicate k ((x.hlen:Int)) }:MS).row.length=x.row.length+k:=I;have G:=Ry (g:=g2) (cap:=p2) (a:=(x.hlen:Int)) z.out.1 z.out.2.1 (by rw [F];exact j) (by rw [<- C.out];exact d) (by rw [<- C.out];exact l) n;rw [F] at G;have e:({ ({ x with row:=x.row++List.replicate k ((x.hlen:Int)) }:MS) with row:=({ x with row:=x.row++List.replicate k ((x.hlen:Int)) }:MS).row++[(x.hlen:Int)] }:MS)={ x with row:=x.row++List.replicate (k+1) ((x.hlen:Int)) }:=by rw [Vz]
      rw [e] at G;exact ⟨⟨_,z.out.2.2.1.trans G.2.1 z.out.2.2.2.kp.size,G.1⟩,z.out.2.2.2.ext G.2.2 z.out.2.2.1⟩
     clear j d l n E J;go_roundw
     case rel=>exact ⟨k+1,zO,by go_num,HG⟩
     case measure=>simp [intOf];omega
    ·obtain rfl:k=c:=zO;go_wp2
     go_ret
     unfold Ud;rw [zA M.out];have e:x.rowLen=(x.hlen:Int):=by unfold MS.rowLen;rw [A.out];rfl
     rw [e];exact ⟨rfl,O.out⟩
 | true=>
  rw [U] at N;have A:=hid U;clear U;by_cases hz:x.row.length=0
  ·have b5:((x.row.length:Int)==0)=true:=by simp [hz]
   have M:Hid ((x.En=true/\x.row.length=0)\/x.nl+x.nd<x.row.length+c):=Or.inl ⟨A.out,hz⟩;clear hz;go_wp2
   go_ret
   unfold Ud;rw [zC M.out];exact ⟨rfl,By.refl X.out⟩
  ·have b5:((x.row.length:Int)==0)=false:=BJ.2 zO;obtain ⟨q,hq⟩:=qe (x.row.length - 1);have b3:q<x.row.length:=zO;obtain ⟨b,o,rfl,b7,P⟩:=HC.out q b3;have b8:IntKind.i64.wrap ((x.row.length:Int) - 1)=(q:Int):=by rw [kG,xW _ ⟨zO,zO⟩];omega
   have b6:(x.row.length:Int) - 1=(q:Int):=zO;have b9:(q:Int)<x.row.length:=zO;have HQ:=hid hq;have Y:Hid (x.row.getD (x.row.length - 1) 0=x.row.getD q 0):=by show _=_;rw [<- hq]
   clear hq;obtain ⟨s,a7⟩:=qe (x.row.getD q 0);rw [<- a7] at P Y;clear a7;go_wp2_with fail
   go_quiet (fail)
   go_wp2_with fail
   by_cases hs:x.nl+x.nd<x.row.length+c
   ·have Q:(x.nl:Int)+x.nd<x.row.length+c:=zO;have M:Hid ((x.En=true/\x.row.length=0)\/x.nl+x.nd<x.row.length+c):=Or.inr hs;clear hs;go_wp2_with fail
    go_quiet (fail)
    go_wp2
    go_ret
    unfold Ud;rw [zC M.out];exact ⟨rfl,⟨ρ,Ext.refl _ _,X.out.fr ⟨zE _,fun _ _ _=>rfl⟩⟩,⟨⟨zE _,fun _ _ _=>rfl⟩,rfl,rfl,rfl⟩⟩
   ·have Q:¬ (x.nl:Int)+x.nd<x.row.length+c:=zO;have M:Hid (¬ ((x.En=true/\x.row.length=0)\/x.nl+x.nd<x.row.length+c)):=by
     intro hq;rcases hq with hq | hq
     ·exact hz hq.2
     ·exact hs hq
    clear hs;go_wp2_with fail
    go_quiet (fail)
    go_wp2_with fail
    have V:Hid (∀ y,y.heap=w.heap->y.os=w.os->y.tape=w.tape->y.output=w.output->By ρ w p { x with row:=x.row++List.replicate 0 (s) } y):=by
     have e:({ x with row:=x.row++List.replicate 0 (s) }:MS)=x:=zS;rw [e];exact fun y h1 h2 h3 h4=>⟨⟨ρ,Ext.refl _ _,X.out.fr ⟨by rw [h1];exact zE _,fun _ _ _=>by rw [h1]⟩⟩,⟨⟨by rw [h1];exact zE _,fun _ _ _=>by rw [h1]⟩,h2,h3,h4⟩⟩
    clear Z a0 a3 N a4 HC b1;generalize decide (x.nl+x.nd<x.row.length+c)=dd;go_loopw [52] (fun i wr=>∃ k:Nat,k<=c/\i= .int .i64 k/\Hid (By ρ w p { x with row:=x.row++List.replicate k (s) } wr)) (fun i _=>c - (intOf i).toNat)
    case atStart=>exact ⟨0,zH _,rfl,V.out _ rfl rfl rfl rfl⟩
    case round=>
     clear V;obtain ⟨k,hk,rfl,O⟩:=hrel;by_cases b4:k<c
     ·obtain ⟨ρ',ex,L,B,T⟩:=O.out.ex;have r:=T.rw.1;have I:(x.row++List.replicate k (s)).length=x.row.length+k:=zS;obtain ⟨b2,a5,R,_⟩:=T.rw.1.cells;have D:wr.cell? ⟨p,35,none⟩=some L.rv:=B.row.cell (i:=35) zO;have S:=B.row.frozen 35;have H:=B.row.lt;have z:=IQ B T ex O.out.fr;have f:wr.ownsRow 0 3 1 L.rv (x.row.length+k) (Al (x.row++List.replicate k (s))):=by
       have:=r;unfold OI at this;rw [show ({ x with row:=x.row++List.replicate k (s) }:MS).row.length=x.row.length+k from I] at this;exact this
      have u:L.rv.ownBlock≠some p:=fun e=>by
       have a1:=T.rw.2 p e;have a2:=B.rp;omega
      obtain ⟨lv,t⟩:=qe L.rv;rw [<- t] at D f u;have C:=hid t;clear r t R B T ex;go_wp2_with (at_builtin;refine xC _ rfl _ _ 69 rfl 0 3 i3 (.int .i64 0) 1 8 underlying69 a6 a8 a9 b0 rfl zD _ (x.row.length+k) (Al (x.row++List.replicate k (s))) rfl (f.alloc _) ⟨wr.heap.size,0,none⟩ 1 1 [.int .i64 (s)] rfl rfl (yX _ _ _) (by simp [Value.oneCell']) zO (by unfold maxLen;omega) zO (zH _) (wr.heap.size+1) zS ?_;intro g2 p2 w5 j d l n;have E:=Fh (a:=⟨p,35,none⟩) d H u D;have J:=Fk (a:=⟨p,35,none⟩) d H u S)
      have HG:Hid (By ρ w p { x with row:=x.row++List.replicate (k+1) (s) } (w5.setCell ⟨p,35,none⟩ (.slice (some ⟨g2,0,none⟩) (x.row.length+k+1) p2))):=by
       have F:({ x with row:=x.row++List.replicate k (s) }:MS).row.length=x.row.length+k:=I;have G:=Ry (g:=g2) (cap:=p2) (a:=s) z.out.1 z.out.2.1 (by rw [F];exact j) (by rw [<- C.out];exact d) (by rw [<- C.out];exact l) n;rw [F] at G;have e:({ ({ x with row:=x.row++List.replicate k (s) }:MS) with row:=({ x with row:=x.row++List.replicate k (s) }:MS).row++[s] }:MS)={ x with row:=x.row++List.replicate (k+1) (s) }:=by rw [Vz]
       rw [e] at G;exact ⟨⟨_,z.out.2.2.1.trans G.2.1 z.out.2.2.2.kp.size,G.1⟩,z.out.2.2.2.ext G.2.2 z.out.2.2.1⟩
      clear j d l n E J;go_roundw
      case rel=>exact ⟨k+1,zO,by go_num,HG⟩
      case measure=>simp [intOf];omega
     ·obtain rfl:k=c:=zO;go_wp2
      go_ret
      unfold Ud;rw [zA M.out];have e:x.rowLen=s:=by unfold MS.rowLen;rw [A.out];exact Y.out
      rw [e];exact ⟨rfl,O.out⟩
def nQ(_:Nat):Int:=0
def isNone(f:Nat->Int):Bool:=(List.range 12).all fun i=>f i==nQ i
theorem XR(f:Nat->Int):isNone f=true↔∀ j,j<12->f j=0:=by simp [isNone,nQ]
theorem ib(f:Nat->Int)(w:World):(Op.equalIn 10000 197 (.agg (arr f)) (.agg #[.int .i64 0, .int .i64 0, .int .i64 0, .int .i64 0, .int .i64 0, .int .i64 0, .int .i64 0, .int .i64 0, .int .i64 0, .int .i64 0, .int .i64 0, .int .i64 0])).run prog w= .ok (isNone f) w:=by
 obtain ⟨i,hi⟩:∃ i,prog.info? 3=some i:=by
  cases h:prog.info? 3 with
  | none=>
    have:(prog.info? 3).isSome=true:=zK;simp [h] at this
  | some i=>exact ⟨i,rfl⟩
 have e:(#[.int .i64 0, .int .i64 0, .int .i64 0, .int .i64 0, .int .i64 0, .int .i64 0, .int .i64 0, .int .i64 0, .int .i64 0, .int .i64 0, .int .i64 0, .int .i64 0]:Array Value)=arr nQ:=rfl;rw [e,show (10000:Nat)=9999+1 from rfl,run_equalIn_array w 9999 _ _ underlying197 hi];exact Jf 9998 f nQ w (List.range 12) (fun i hi=>by simpa using hi)
theorem Ve(f:Nat->Int)(w:World) :
  Calls prog 196 #[.agg (arr f)] w fun e a=>e= .returned (.bool (isNone f))/\Below w.heap.size w a:=by
 have he:=ib f;go_enter func196,ntmps196
 go_wp2_with (refine yT rfl 197 _ rfl _ rfl 199 (arr f) (0,0) _ (zJ _ _) underlying197 rfl (FU _) ?_)
 go_ret
 exact ⟨rfl,zB.alloc zL _⟩
theorem aW(f:Nat->Int)(w:World)(C:∀ j,j<12->0<=f j/\f j<=1000000) :
  Calls prog 173 #[.agg (arr f)] w fun e D=>e= .returned (.bool ((shr f 12==2048) || Gr f || isNone f))/\Below w.heap.size w D:=by
 have B:(w.alloc (.cells (arr f) 199)).heap[w.heap.size]?=some (.cells (arr f) 199):=zJ _ _;have r:Hid (Below w.heap.size w (w.alloc (.cells (arr f) 199))):=zB.alloc zL _;have l:w.heap.size<(w.alloc (.cells (arr f) 199)).heap.size:=zS;go_enter func173,ntmps173
 go_wp2_with (refine yT rfl 199 _ rfl _ rfl 199 _ _ _ (zJ _ _) underlying199 rfl (GU _) ?_)
 generalize w.alloc (.cells (arr f) 199)=W at *;refine (EN f _ C).mono ?_;rintro e w2 ⟨rfl,a⟩;have b:=hid (r.out.trans (a.mono r.out.size));have k:=(a.block _ l).trans B;have n:=zM l a.size;obtain ⟨s,c1,c2,c3,t,u,c6,v,y,z,g,h⟩:=Lf k;clear a;cases p:(shr f 12==2048) with
 | true=>
  go_wp2
  go_ret
  exact ⟨by rw [p];rfl,b.out⟩
 | false=>
  go_wp2_with fail
  refine (Iz f _).mono ?_;rintro e E ⟨rfl,d⟩;have c:=hid (b.out.trans (d.mono b.out.size));have q:=(d.block _ n).trans k;clear d s c1 c2 c3 t u c6 v y z g h;obtain ⟨s,c1,c2,c3,t,u,c6,v,y,z,g,h⟩:=Lf q;cases A:Gr f with
  | true=>
   go_wp2
   go_ret
   exact ⟨by rw [p,A];rfl,c.out⟩
  | false=>
   go_wp2_with fail
   refine (Ve f _).mono ?_;rintro e F ⟨rfl,i⟩;have o:=hid (c.out.trans (i.mono c.out.size));clear i;go_wp2
   go_ret
   exact ⟨by rw [p,A];rfl,o.out⟩
structure Ni(w w':World)(g:Nat)(la lb:List Int):Prop where
 ex:∃ (t u m n N M:Nat) (f h:Nat->Value),w'.rowIs g 224 2 (FY [.pointer (some ⟨t,0,none⟩), .pointer (some ⟨u,0,none⟩)])/\bsum la 12=N/\bsum lb 12=M/\
  It w' 268 4 t m N (cn la) (fc (cn la)) (FT la 12) (EB la 12) (fun j=>[f (j*4),f (j*4+1),f (j*4+2),f (j*4+3)])/\Fy.Cx la f la.length/\
  It w' 271 2 u n M (cn lb) (fc (cn lb)) (FT lb 12) (EB lb 12) (fun j=>[h (j*2),h (j*2+1)])/\(∀ i,i<lb.length->0<lb.getD i 0->h (pos lb i*2)= .int .i64 (Tr.Ar 1 i)/\h (pos lb i*2+1)= .int .i64 (Tr.Ag i))/\
  w.heap.size<=t/\w.heap.size<=m/\w.heap.size<=u/\w.heap.size<=n/\w.heap.size<=g
 bel:Below w.heap.size w w'
theorem It.below{T:TypeId}{m:Nat}{a b c:Nat->Int}{lg:Nat}{mg:Nat->List Value}(I:It w T k p m n a b c lg mg)(f:Below w.heap.size w w'):It w' T k p m n a b c lg mg:=by
 refine ⟨Dc I.row f I.pm.1,fun j d=>⟨(I.at_ j d).1,fun i v hv=>?_⟩,zM I.pm.1 f.size,zM I.pm.2 f.size⟩;have:=(I.at_ j d).2 i v hv;rw [<- this];exact f.cell I.pm.2
theorem Qj(ad d:Option Addr)(v y:Nat)(la lb:List Int)(w:World)(j:la.length<=269)(k:lb.length<=16)(D:Ap w ad la)(E:Ap w d lb)(ra:Ae la=true)(rb:Ae lb=true) :
  Calls prog 163 #[.slice ad la.length v, .slice d lb.length y] w fun e H=>∃ g,e= .returned (.pointer (some ⟨g,0,none⟩))/\Ni w H g la lb:=by
 have C:=hid E;go_enter func163,ntmps163
 go_wp2_with fail
 refine (Fy.QQ ad v la w j D ra).mono ?_;rintro e w1 ⟨t,m,N,f,rfl,h1,p,l,z,A,r⟩;have a:=mS h1 p l z A r;clear h1 p l z A r;go_wp2_with fail
 refine (Ri d y lb w1 k (C.out.below a.out.2.2.2.2.2 zL) rb).mono ?_;rintro e w2 ⟨u,n,M,h,rfl,h2,q,o,F,G,b⟩;have hs:=a.out.2.2.2.2.2.size;have B:Hid (Ni w (w2.alloc (.cells #[.pointer (some ⟨t,0,none⟩), .pointer (some ⟨u,0,none⟩)] 224)) w2.heap.size la lb):=by
  have s:=a.out.2.2.2.2.2.trans (b.mono hs);have c:Below w2.heap.size w2 (w2.alloc (.cells #[.pointer (some ⟨t,0,none⟩), .pointer (some ⟨u,0,none⟩)] 224)):=zB.alloc zL _;refine ⟨⟨t,u,m,n,N,M,f,h,?_,a.out.1,h2,(a.out.2.1.below b).below c,a.out.2.2.1,q.below c,o,a.out.2.2.2.1,a.out.2.2.2.2.1,zO,zO,by have:=b.size;omega⟩,s.trans (c.mono s.size)⟩;exact yL w2 _ _ _ (fun i hi=>by
   have:i=0\/i=1:=by have:i<2:=hi;omega
   rcases this with rfl | rfl <;> rfl)
 clear h2 q o F G b hs;go_wp2
 go_ret
 exact ⟨_,rfl,B.out⟩
def Gd(w:World)(p:Nat):World:=((((((((((w).setCell ⟨p,26,none⟩ (.int .i64 0)).setCell ⟨p,27,none⟩ (.int .i64 0)).setCell ⟨p,28,none⟩ (.int .i64 0)).setCell ⟨p,29,none⟩ (.slice none 0 0)).setCell ⟨p,30,none⟩ (.pointer none)).setCell ⟨p,31,none⟩ (.int .i64 0)).setCell ⟨p,32,none⟩ (.bool false)).setCell ⟨p,33,none⟩ (.int .i64 0)).setCell ⟨p,34,none⟩ (.int .i64 0)).setCell ⟨p,35,none⟩ (.slice none 0 0)
theorem MB.Gd(h:MB ρ w p x L):MB ρ (Gd w p) p { x with nl:=0,nd:=0,told:=0,hlen:=0,En:=false,Aq:=0,Am:=0 } { L with hv:= .slice none 0 0,hp:= .pointer none,rv:= .slice none 0 0 }:=((((((((((h).set (y:={ x with nl:=0 }) (M:=L) 26 (.int .i64 0) rfl ⟨rfl,rfl,rfl,rfl⟩ ⟨rfl,rfl⟩).set (y:={ x with nl:=0,nd:=0 }) (M:=L) 27 (.int .i64 0) rfl ⟨rfl,rfl,rfl,rfl⟩ ⟨rfl,rfl⟩).set (y:={ x with nl:=0,nd:=0,told:=0 }) (M:=L) 28 (.int .i64 0) rfl ⟨rfl,rfl,rfl,rfl⟩ ⟨rfl,rfl⟩).set (y:={ x with nl:=0,nd:=0,told:=0 }) (M:={ L with hv:= .slice none 0 0 }) 29 (.slice none 0 0) rfl ⟨rfl,rfl,rfl,rfl⟩ ⟨rfl,rfl⟩).set (y:={ x with nl:=0,nd:=0,told:=0 }) (M:={ L with hv:= .slice none 0 0,hp:= .pointer none }) 30 (.pointer none) rfl ⟨rfl,rfl,rfl,rfl⟩ ⟨rfl,rfl⟩).set (y:={ x with nl:=0,nd:=0,told:=0,hlen:=0 }) (M:={ L with hv:= .slice none 0 0,hp:= .pointer none }) 31 (.int .i64 0) rfl ⟨rfl,rfl,rfl,rfl⟩ ⟨rfl,rfl⟩).set (y:={ x with nl:=0,nd:=0,told:=0,hlen:=0,En:=false }) (M:={ L with hv:= .slice none 0 0,hp:= .pointer none }) 32 (.bool false) rfl ⟨rfl,rfl,rfl,rfl⟩ ⟨rfl,rfl⟩).set (y:={ x with nl:=0,nd:=0,told:=0,hlen:=0,En:=false,Aq:=0 }) (M:={ L with hv:= .slice none 0 0,hp:= .pointer none }) 33 (.int .i64 0) rfl ⟨rfl,rfl,rfl,rfl⟩ ⟨rfl,rfl⟩).set (y:={ x with nl:=0,nd:=0,told:=0,hlen:=0,En:=false,Aq:=0,Am:=0 }) (M:={ L with hv:= .slice none 0 0,hp:= .pointer none }) 34 (.int .i64 0) rfl ⟨rfl,rfl,rfl,rfl⟩ ⟨rfl,rfl⟩).set (y:={ x with nl:=0,nd:=0,told:=0,hlen:=0,En:=false,Aq:=0,Am:=0 }) (M:={ L with hv:= .slice none 0 0,hp:= .pointer none,rv:= .slice none 0 0 }) 35 (.slice none 0 0) rfl ⟨rfl,rfl,rfl,rfl⟩ ⟨rfl,rfl⟩
theorem Fr.Gd(w:World)(p:Nat)(h:ρ p=1):Fr V5 ρ w (Gd w p):=(((((((((Fr.own _ p 26 _ h).trans (Fr.own _ p 27 _ h)).trans (Fr.own _ p 28 _ h)).trans (Fr.own _ p 29 _ h)).trans (Fr.own _ p 30 _ h)).trans (Fr.own _ p 31 _ h)).trans (Fr.own _ p 32 _ h)).trans (Fr.own _ p 33 _ h)).trans (Fr.own _ p 34 _ h)).trans (Fr.own _ p 35 _ h)
theorem UJ{b:List Int}(a:Ae b=true):isNone (cn b)=true↔sumOf (fun _=>1) b=0:=by
 rw [XR];have e:=Mc (l:=b) (g:=fun _=>1) a;constructor
 ·intro h;rw [<- e];have:∀ k,k<=12->sumTo (cn b) (fun _=>1) k=0:=fun k=>by
   induction k with
   | zero=>intro _;rfl
   | succ k ih=>intro hk;show sumTo (cn b) (fun _=>1) k+cn b k*1=0;rw [ih zO,h k zO];rfl
  exact this 12 zO
 ·intro h j c;by_cases h0:j=0
  ·subst h0;exact OY b
  ·rw [Pf b j zO,LK b h]
theorem Ni.Ev(h:Ni w w' g la lb)(ra:Ae la=true)(rb:Ae lb=true)(c:la.length<=269)(j:lb.length<=16)(l:∀ k,w.heap.size<=k->ρ k=0) :
  ∃ ρ',Ext w.heap.size ρ ρ'/\(∀ k,ρ k≠0->ρ' k=ρ k)/\(∀ k,ρ' k≠0->ρ k≠0\/k<w'.heap.size)/\JO ρ' w' g la lb:=by
 obtain ⟨t,u,m,n,N,M,f,d,h1,h2,h3,h4,h5,h6,e,p,q,r,s,v⟩:=h.ex;obtain ⟨ρ',hρ⟩:∃ ρ':Nat->Nat,ρ'=fun k=>if k=t\/k=u\/k=m\/k=n\/k=g then 8 else ρ k:=⟨_,rfl⟩
 have a:∀ k,k=t\/k=u\/k=m\/k=n\/k=g->ρ' k=8:=fun k hk=>by rw [hρ];exact zC hk
 have b:∀ k,¬ (k=t\/k=u\/k=m\/k=n\/k=g)->ρ' k=ρ k:=fun k hk=>by rw [hρ];exact zA hk
 refine ⟨ρ',fun k hk=>b k zO,fun k hk=>b k (fun hq=>hk (l k zO)),fun k hk=>?_,t,u,h1,a g zS,⟨⟨m,N,_,h4,h2,fun i hi h0=>?_,a m zS⟩,a t zS,ra,c⟩,⟨⟨n,M,_,h6,h3,fun i hi h0=>?_,a n zS⟩,a u zS,rb,zO⟩⟩
 ·by_cases hq:k=t\/k=u\/k=m\/k=n\/k=g
  ·right
   have o:=h4.pm;have a2:=h6.pm;have a3:=h1.lt;omega
  ·left;rw [<- b k hq];exact hk
 ·have:=h5 i hi h0;show [_,_,_,_]=(FL i).toList;rw [<- this]
 ·have:=e i hi h0;show [d (pos lb i*2),d (pos lb i*2+1)]=(Eu 1 i).toList;rw [this.1,this.2];rfl
theorem Zv(h:MM ρ w p x)(m:Ni w w' g la lb)(ra:Ae la=true)(rb:Ae lb=true)(e:la.length<=269)(f:lb.length<=16) :
  By ρ w p { x with la:=la,lb:=lb,nl:=0,nd:=0,told:=0,hl:=[],hs:=[],hlen:=0,En:=false,Aq:=0,Am:=0,row:=[],st:=17 } ((Gd (w'.setCell ⟨p,37,none⟩ (.pointer (some ⟨g,0,none⟩))) p).setCell ⟨p,7,none⟩ (.int .i64 17)):=by
 obtain ⟨ρ',j,l,r,S⟩:=m.Ev (ρ:=ρ) ra rb e f (fun k hk=>h.new k hk);obtain ⟨L,B,T⟩:=h.below m.bel;have i:=B.Sb l;have c:=T.Sb l (fun k hk=>by rcases r k hk with h | h;exact T.lt k h;exact h);have n:=i.set (y:=x) (M:={ L with Ev:= .pointer (some ⟨g,0,none⟩) }) 37 (.pointer (some ⟨g,0,none⟩)) rfl ⟨rfl,rfl,rfl,rfl⟩ ⟨rfl,rfl⟩;have o:=n.Gd;have a:=o.set (y:={ x with nl:=0,nd:=0,told:=0,hlen:=0,En:=false,Aq:=0,Am:=0,st:=17 }) (M:={ L with Ev:= .pointer (some ⟨g,0,none⟩),hv:= .slice none 0 0,hp:= .pointer none,rv:= .slice none 0 0 }) 7 (.int .i64 17) rfl ⟨rfl,rfl,rfl,rfl⟩ ⟨rfl,rfl⟩;have rp:=i.rp;have F:Fr V5 ρ' w' ((Gd (w'.setCell ⟨p,37,none⟩ (.pointer (some ⟨g,0,none⟩))) p).setCell ⟨p,7,none⟩ (.int .i64 17)):=((Fr.own w' p 37 _ rp).trans (Fr.Gd _ p rp)).trans (Fr.own _ p 7 _ rp);have q:MT ρ' w' { x with la:=la,lb:=lb,hl:=[],hs:=[],row:=[] } { L with Ev:= .pointer (some ⟨g,0,none⟩),hv:= .slice none 0 0,hp:= .pointer none,rv:= .slice none 0 0 }:=⟨c.sup,⟨OI.nil _ _,fun b d=>by cases d⟩,⟨OI.nil _ _,fun b d=>by cases d⟩,Or.inl rfl,Or.inr ⟨g,rfl,S⟩,c.fx,c.lt⟩
 refine ⟨⟨ρ',j,{ L with Ev:= .pointer (some ⟨g,0,none⟩),hv:= .slice none 0 0,hp:= .pointer none,rv:= .slice none 0 0 },⟨a.row,a.ra,a.rc,a.rp,a.rl⟩,(q.bO F).same rfl rfl rfl rfl ⟨rfl,rfl⟩⟩,?_⟩;exact (Fr.below (ρ:=ρ) m.bel).ext F.Ba j
theorem MM.nj(h:MM ρ w p x)(hp:0<x.row.length):∃ g cap,w.cell? ⟨p,35,none⟩=some (.slice (some ⟨g,0,none⟩) x.row.length cap)/\Ap w (some ⟨g,0,none⟩) x.row/\x.row.length<=cap/\cap<=maxLen/\g<w.heap.size:=by
 obtain ⟨L,B,T⟩:=h;obtain ⟨ad,cap,e,hc⟩:=T.rw.1.cells;rcases T.rw.1.2 with ⟨_,h0⟩ | ⟨g,a,cur,hv,_,b,h1,h2,_⟩
 ·omega
 ·rw [hv] at e;injection e with e1 e2 e3
  refine ⟨g,a,by rw [<- hv];exact B.row.cell (i:=35) zO,by rw [e1];exact hc,h1,h2,(yQ.1 b).1⟩
theorem Ap.take(h:Ap w (some ⟨g,0,none⟩) l)(n:Nat):Ap w (some ⟨g,0,none⟩) (l.take n):=fun k hk=>by
 obtain ⟨b,o,e,h1,h2⟩:=h k (by simp at hk;omega);refine ⟨b,o,e,h1,?_⟩;rw [h2];have:k<n:=by simp at hk;omega
 simp [jU,this]
theorem Ap.drop(h:Ap w (some ⟨g,0,none⟩) l)(n:Nat):Ap w (some ⟨g,n,none⟩) (l.drop n):=fun k hk=>by
 obtain ⟨b,o,e,h1,h2⟩:=h (n+k) (by simp at hk;omega);injection e with e
 injection e with e1 e2
 subst e1 e2;refine ⟨g,n,rfl,h1,?_⟩;rw [show n+k=0+(n+k) by omega,h2];simp [jV]
theorem By.of(h:MM ρ w' p y)(f:Fr EC ρ w w'):By ρ w p y w':=⟨⟨ρ,Ext.refl _ _,h⟩,f⟩
theorem Uo{a b:List Int}(ra:Ae a=true)(rb:Ae b=true):EA a b↔a.getD 256 0=0\/(shr (cn a) 12==2048)=false\/((shr (cn b) 12==2048) || Gr (cn b) || isNone (cn b))=false:=by
 have d:shr (cn a) 12=sumOf gw a:=by rw [Nb a ra,QB]
 have f:shr (cn b) 12=sumOf gw b:=by rw [Nb b rb,QB]
 have c:=UJ rb;have h0:0<=sumOf (fun _=>1) b:=by
  rw [<- Mc _ _ rb];have:∀ k,0<=sumTo (cn b) (fun _=>1) k:=fun k=>by
   induction k with
   | zero=>simp [sumTo]
   | succ k ih=>have:=EK b k;show 0<=sumTo (cn b) (fun _=>1) k+cn b k*1;omega
  exact this 12
 unfold EA;rw [d,f,JI rb];constructor
 ·rintro (h | h | ⟨h1,h2,h3⟩)
  ·exact Or.inl h
  ·exact Or.inr (Or.inl (by simp [h]))
  ·refine Or.inr (Or.inr ?_);have:isNone (cn b)=false:=by
    cases hq:isNone (cn b)
    ·rfl
    ·have:=c.1 hq;omega
   rw [h2,this];simp [h1]
 ·rintro (h | h | h)
  ·exact Or.inl h
  ·exact Or.inr (Or.inl (by simpa using h))
  ·refine Or.inr (Or.inr ?_);simp only [Bool.or_eq_false_iff] at h;refine ⟨by simpa using h.1.1,h.1.2,?_⟩;have:¬ sumOf (fun _=>1) b=0:=fun e=>by rw [c.2 e] at h;cases h.2
   omega
theorem ZA(h:MM ρ w p x)(hr:Ae x.row=true)(hl:x.row.length=x.nl+x.nd)(h1:257<=x.nl/\x.nl<=269)(h2:1<=x.nd/\x.nd<=16) :
  Calls prog 144 #[.pointer (some ⟨p,0,none⟩)] w fun v a=>CJ ρ w p x.EM v a:=by
 have V:=hid h;obtain ⟨g,cap,b9,E,d6,c0,hg⟩:=h.nj zO;obtain ⟨b8,_⟩:=h.own;have ra:Ae (x.row.take x.nl)=true:=II hr (fun y hy=>BQ hy);have rb:Ae (x.row.drop x.nl)=true:=II hr (fun y hy=>jO hy);have la:(x.row.take x.nl).length=x.nl:=by simp;omega
 have lb:(x.row.drop x.nl).length=x.nd:=by simp;omega
 have I:=Uo ra rb;have T:Hid (x.EM=if EA (x.row.take x.nl) (x.row.drop x.nl) then x.refuse 10 else ({ x with la:=x.row.take x.nl,lb:=x.row.drop x.nl,nl:=0,nd:=0,told:=0,hl:=[],hs:=[],hlen:=0,En:=false,Aq:=0,Am:=0,row:=[],st:=17 },0)):=rfl;have f:w.cell? ⟨g,256,none⟩=some (.int .i64 ((x.row.take x.nl).getD 256 0)):=by
  obtain ⟨b,o,e,_,hh⟩:=(E.take x.nl) 256 zO;injection e with e
  injection e with e1 e2
  subst e1 e2;rw [show (256:Nat)=0+256 from rfl];exact hh
 have r:Hid (∀ a,Below w.heap.size w a->Ap a (some ⟨g,0,none⟩) (x.row.take x.nl)/\Ap a (some ⟨g,x.nl,none⟩) (x.row.drop x.nl)):=fun a b=>⟨(E.take x.nl).below b zL,(E.drop x.nl).below b zL⟩
 have U:Hid (∀ w0 a F,Below w.heap.size w w0->Ni w0 a F (x.row.take x.nl) (x.row.drop x.nl)->By ρ w0 p { x with la:=x.row.take x.nl,lb:=x.row.drop x.nl,nl:=0,nd:=0,told:=0,hl:=[],hs:=[],hlen:=0,En:=false,Aq:=0,Am:=0,row:=[],st:=17 } ((Gd (a.setCell ⟨p,37,none⟩ (.pointer (some ⟨F,0,none⟩))) p).setCell ⟨p,7,none⟩ (.int .i64 17))):=fun w0 a F b m=>Zv (V.out.below b) m ra rb zO zO
 have c2:¬ cap=x.nl:=zO;have d8:x.nl<=cap:=zO;have c3:(x.nl:Int)<=cap:=zO;have d7:x.nl<=x.row.length:=zO;have c4:x.row.length - x.nl=x.nd:=zO;unfold maxLen at c0;obtain ⟨A,hA⟩:=qe (x.row.take x.nl);obtain ⟨C,hB⟩:=qe (x.row.drop x.nl);rw [<- hA,<- hB] at I T r U;rw [<- hA] at f ra la;rw [<- hB] at rb lb;clear hA hB E h;have b0:Hid (∀ a N,Below w.heap.size w a->Calls prog 114 #[.slice (some ⟨g,0,none⟩) x.nl N] a fun e B=>e= .returned (.agg (arr (cn A)))/\Below a.heap.size a B):=fun a N b=>by
  have:=El (some ⟨g,0,none⟩) N A a zO (r.out a b).1 ra;rw [la] at this;exact this
 have b5:Hid (∀ a N,Below w.heap.size w a->Calls prog 114 #[.slice (some ⟨g,x.nl,none⟩) x.nd N] a fun e B=>e= .returned (.agg (arr (cn C)))/\Below a.heap.size a B):=fun a N b=>by
  have:=El (some ⟨g,x.nl,none⟩) N C a zO (r.out a b).2 rb;rw [lb] at this;exact this
 have b6:Hid (∀ a ca cb,Below w.heap.size w a->Calls prog 163 #[.slice (some ⟨g,0,none⟩) x.nl ca, .slice (some ⟨g,x.nl,none⟩) x.nd cb] a fun e B=>∃ F,e= .returned (.pointer (some ⟨F,0,none⟩))/\Ni a B F A C):=fun a ca cb b=>by
  have:=Qj (some ⟨g,0,none⟩) (some ⟨g,x.nl,none⟩) ca cb A C a zO zO (r.out a b).1 (r.out a b).2 ra rb;rw [la,lb] at this;exact this
 have P:=FV (l:=A) zO;have Q:=FV (l:=C) zO;have a7:=hid P;have a8:=hid Q;have q:=hid I;clear P Q I ra rb la lb;obtain ⟨z,hv⟩:=qe (A.getD 256 0);rw [<- hv] at f q;clear hv;go_enter func144,ntmps144
 go_wp2_with fail
 go_quiet (fail)
 have s:Hid (Below w.heap.size w (w.drewN nq)):=⟨rfl,rfl,rfl,zE _,fun _ _=>rfl⟩
 by_cases k:z=0
 ·have c1:(z==0)=true:=by simp [k]
  have d:=hid (q.out.2 (Or.inl k));clear k;go_wp2_with fail
  refine (Cd 10 (V.out.below s.out)).mono ?_;rintro v w9 ⟨rfl,G,H⟩;have u:=hid (By.of G ((Fr.below s.out).trans H.Ba));clear G H;go_wp2
  go_ret
  unfold CJ;rw [T.out,zC d.out];exact ⟨rfl,u.out⟩
 ·have c1:(z==0)=false:=by simp;exact k
  have b7:=hid k;clear k;go_wp2_with fail
  refine (b0.out _ _ s.out).mono ?_;rintro e w1 ⟨rfl,b1⟩;have R:=hid (s.out.trans (b1.mono s.out.size));clear b1;go_wp2_with fail
  refine (EN (cn A) _ a7.out).mono ?_;rintro e w2 ⟨rfl,b2⟩;have t:=hid (R.out.trans (b2.mono R.out.size));clear b2;cases hS:(shr (cn A) 12==2048) with
  | false=>
   have d:=hid (q.out.2 (Or.inr (Or.inl hS)));clear hS;go_wp2_with fail
   refine (Cd 10 (V.out.below t.out)).mono ?_;rintro v w9 ⟨rfl,G,H⟩;have u:=hid (By.of G ((Fr.below t.out).trans H.Ba));clear G H;go_wp2
   go_ret
   unfold CJ;rw [T.out,zC d.out];exact ⟨rfl,u.out⟩
  | true=>
   have HS:=hid hS;clear hS;go_wp2_with fail
   refine (b5.out _ _ t.out).mono ?_;rintro e w3 ⟨rfl,b3⟩;have S:=hid (t.out.trans (b3.mono t.out.size));clear b3;go_wp2_with fail
   refine (aW (cn C) _ a8.out).mono ?_;rintro e w4 ⟨rfl,b4⟩;have j:=hid (S.out.trans (b4.mono S.out.size));clear b4;cases hD:((shr (cn C) 12==2048) || Gr (cn C) || isNone (cn C)) with
   | false=>
    have d:=hid (q.out.2 (Or.inr (Or.inr hD)));clear hD;go_wp2_with fail
    refine (Cd 10 (V.out.below j.out)).mono ?_;rintro v w9 ⟨rfl,G,H⟩;have u:=hid (By.of G ((Fr.below j.out).trans H.Ba));clear G H;go_wp2
    go_ret
    unfold CJ;rw [T.out,zC d.out];exact ⟨rfl,u.out⟩
   | true=>
    have J:Hid (¬ EA A C):=fun D=>by
     rcases q.out.1 D with D | D | D
     ·exact b7.out D
     ·rw [HS.out] at D;cases D
     ·rw [hD] at D;cases D
    clear hD;go_wp2_with fail
    refine (b6.out _ _ _ j.out).mono ?_;rintro e n ⟨F,rfl,M⟩;have O:=hid (U.out w4 n F j.out M);have a9:=hid ((V.out.below j.out).below M.bel);clear M;obtain ⟨L,c,T5⟩:=a9.out;have a6:=c.row.cell (i:=37) zO;have z37:=c.row.frozen 37;have W:=c.row.cell (i:=26) zO;have d9:=c.row.frozen 26;have X:=c.row.cell (i:=27) zO;have e0:=c.row.frozen 27;have Y:=c.row.cell (i:=28) zO;have e3:=c.row.frozen 28;have Z:=c.row.cell (i:=29) zO;have e4:=c.row.frozen 29;have a0:=c.row.cell (i:=30) zO;have e5:=c.row.frozen 30;have a1:=c.row.cell (i:=31) zO;have e6:=c.row.frozen 31;have a2:=c.row.cell (i:=32) zO;have e8:=c.row.frozen 32;have a3:=c.row.cell (i:=33) zO;have e9:=c.row.frozen 33;have a4:=c.row.cell (i:=34) zO;have f0:=c.row.frozen 34;have a5:=c.row.cell (i:=35) zO;have f1:=c.row.frozen 35;have k7:=c.row.cell (i:=7) zO;have z7:=c.row.frozen 7;have d5:n.cell? ⟨p,37,none⟩=some L.Ev:=a6;have c5:n.cell? ⟨p,26,none⟩=some (.int .i64 x.nl):=W;have c6:n.cell? ⟨p,27,none⟩=some (.int .i64 x.nd):=X;have c7:n.cell? ⟨p,28,none⟩=some (.int .i64 x.told):=Y;have c8:n.cell? ⟨p,29,none⟩=some L.hv:=Z;have c9:n.cell? ⟨p,30,none⟩=some L.hp:=a0;have d0:n.cell? ⟨p,31,none⟩=some (.int .i64 x.hlen):=a1;have d1:n.cell? ⟨p,32,none⟩=some (.bool x.En):=a2;have d2:n.cell? ⟨p,33,none⟩=some (.int .i64 x.Aq):=a3;have d3:n.cell? ⟨p,34,none⟩=some (.int .i64 x.Am):=a4;have d4:n.cell? ⟨p,35,none⟩=some L.rv:=a5;have e7:n.cell? ⟨p,7,none⟩=some (.int .i64 x.st):=k7;clear c T5 a6 W X Y Z a0 a1 a2 a3 a4 a5 k7 b9 b8 f;unfold Gd at O;go_wp2
    go_ret
    unfold CJ;rw [T.out,zA J.out];exact ⟨rfl,By.next (Ext.refl _ _) (Fr.below j.out) O.out⟩
def GP(k:Nat):Nat:=if k=12\/k=13\/k=14 then 0 else k
theorem cm(k:Nat):EU k=#[.int .i64 (GP k), .bool (decide (k=12)), .int .i64 (Aq k), .int .i64 (Am k)]:=by
 unfold EU GP Aq Am;by_cases h1:k=12
 ·subst h1;rfl
 ·by_cases h2:k=13
  ·subst h2;rfl
  ·by_cases h3:k=14
   ·subst h3;rfl
   ·simp [h1,h2,h3]
theorem cf(k:Nat):Am k<=6:=by
  unfold Am;repeat' split
  all_goals omega
theorem aL(k:Nat):Aq k<=11:=by
  unfold Aq;repeat' split
  all_goals omega
theorem MM.nX(h:MM ρ w p x)(a:x.hs≠[]):∃ t,w.cell? ⟨p,30,none⟩=some (.pointer (some ⟨t,0,none⟩))/\Ge ρ w 265 4 (fun i=>(EU i).toList) t x.hs:=by
 obtain ⟨L,B,T⟩:=h;rcases T.hp with h | ⟨t,e,k⟩
 ·exact absurd h a
 ·exact ⟨t,by rw [<- e];exact B.row.cell (i:=30) zO,k⟩
theorem MM.bP(h:MM ρ w p x)(i:Nat):w.frozen? ⟨p,i,none⟩=false:=by
 obtain ⟨L,B,T⟩:=h;exact B.row.frozen i
theorem MM.Bu(h:MM ρ w p x)(k:Nat):MM ρ ((((w.setCell ⟨p,31,none⟩ (.int .i64 (GP k))).setCell ⟨p,32,none⟩ (.bool (decide (k=12)))).setCell ⟨p,33,none⟩ (.int .i64 (Aq k))).setCell ⟨p,34,none⟩ (.int .i64 (Am k))) p (x.Bu k)/\Fr V5 ρ w ((((w.setCell ⟨p,31,none⟩ (.int .i64 (GP k))).setCell ⟨p,32,none⟩ (.bool (decide (k=12)))).setCell ⟨p,33,none⟩ (.int .i64 (Aq k))).setCell ⟨p,34,none⟩ (.int .i64 (Am k))):=by
 obtain ⟨L,B,T⟩:=h;exact ((((((show Bh ρ w p x x L w from ⟨B,T,Fr.refl _ _ _⟩).set (z:={ x with hlen:=GP k }) 31 _ rfl ⟨rfl,rfl⟩).set (z:={ x with hlen:=GP k,En:=decide (k=12) }) 32 _ rfl ⟨rfl,rfl⟩).set (z:={ x with hlen:=GP k,En:=decide (k=12),Aq:=Aq k }) 33 _ rfl ⟨rfl,rfl⟩).set (z:=x.Bu k) 34 _ rfl ⟨rfl,rfl⟩).done rfl rfl rfl rfl ⟨rfl,rfl⟩)
structure eg(x:MS):Prop where
 nl:257<=x.nl/\x.nl<=269
 nd:1<=x.nd/\x.nd<=16
 rr:Ae x.row=true
 len:x.row.length<x.nl+x.nd
theorem Dk{a b:List Int}(c:Ae a=true)(d:Ae b=true):Ae (a++b)=true:=by
 rw [EV] at *;intro x hx;rcases yW.1 hx with h | h
 ·exact c x h
 ·exact d x h
theorem MA(h:De a=true):Ae (List.replicate n a)=true:=by
 rw [EV];intro x hx;have:x=a:=List.eq_of_mem_replicate hx;subst this;simpa [De] using h
theorem Se(a:Ae x.row=true)(b:x.hlen<=11):De x.rowLen=true:=by
 unfold MS.rowLen;split
 ·exact QU a _
 ·simp [De];omega
structure Tw(ρ:Nat->Nat)(w:World)(p:Nat)(y:MS)(w':World):Prop where
 mm:MM ρ w' p y
 ok:Ok y
 Cq:y.count<=40
 fr:Fr EC ρ w w'
theorem kj(h:MM ρ w p x)(ok:Ok x)(hc:x.count<=40)(H:eg x)(hb:x.Am<=6)(hl:x.Aq<=11)(I:x.hlen<=11)(C:x.st=15) :
  Calls prog 104 #[.pointer (some ⟨p,0,none⟩)] w fun v O=>CJ ρ w p x.Vx v O:=by
 have b:Hid (Tw ρ w p x w):=⟨h,ok,hc,Fr.refl _ _ _⟩
 have i:x.Am<=16/\x.Aq<=1000000/\x.Aq+2^x.Am<=1000:=⟨zO,zO,by
  have:2^x.Am<=2^6:=yP zD hb;have e:2^6=64:=zD;omega⟩
 have s:Hid (x.Vx=MS.DY (x.Bg x.Aq x.Am) fun y f=>if (y.En=true/\y.row.length=0)\/y.nl+y.nd<y.row.length+f then y.refuse 10 else MS.FF { y with row:=y.row++List.replicate f y.rowLen,st:=14 }):=rfl;obtain ⟨_,_,_,_,_,Z,a0,_⟩:=h.own;have c7:=h.Bt.1;rw [C] at c7;clear h ok C hc;go_enter func104,ntmps104
 go_wp2_with fail
 refine (ZC x.Aq x.Am b.out.mm b.out.ok b.out.Cq i.1 i.2.1).mono ?_;rintro v wa ⟨rfl,A,g2⟩;have J:=MS.IL (least:=x.Aq) b.out.ok b.out.Cq i.1;have R':Hid (x.Vx=if (x.Bg x.Aq x.Am).2.1=0 then (if (((x.Bg x.Aq x.Am).1.En=true/\(x.Bg x.Aq x.Am).1.row.length=0)\/(x.Bg x.Aq x.Am).1.nl+(x.Bg x.Aq x.Am).1.nd<(x.Bg x.Aq x.Am).1.row.length+(x.Bg x.Aq x.Am).2.2) then (x.Bg x.Aq x.Am).1.refuse 10 else MS.FF { (x.Bg x.Aq x.Am).1 with row:=(x.Bg x.Aq x.Am).1.row++List.replicate (x.Bg x.Aq x.Am).2.2 (x.Bg x.Aq x.Am).1.rowLen,st:=14 }) else ((x.Bg x.Aq x.Am).1,(x.Bg x.Aq x.Am).2.1)):=s.out;clear s;by_cases h0:(x.Bg x.Aq x.Am).2.1=0
 ·rw [zC h0] at R';obtain ⟨s1,s2,s3,M⟩:=J.2 h0;have Y:=J.1;have W:(x.Bg x.Aq x.Am).2.2<=1000:=by have:=i.2.2;omega
  obtain ⟨z,t,N,X⟩:∃ z t N,x.Bg x.Aq x.Am=(z,t,N):=⟨_,_,_,rfl⟩
  rw [X] at A R' M Y W h0 |-;have B:t=0:=h0;subst B;have c:eg z/\z.hlen<=11:=by
   have e:z=_:=M;have R:z.nl=x.nl:=by rw [e]
   have a2:z.nd=x.nd:=by rw [e]
   have a3:z.row=x.row:=by rw [e]
   have a4:z.hlen=x.hlen:=by rw [e]
   exact ⟨⟨by rw [R];exact H.nl,by rw [a2];exact H.nd,by rw [a3];exact H.rr,by rw [R,a2,a3];exact H.len⟩,by rw [a4];exact I⟩
  have l:Hid (MM ρ wa p z/\Fr EC ρ w wa/\eg z/\z.hlen<=11):=⟨A,b.out.fr.trans g2.Ba,c.1,c.2⟩
  have n1:=c.1.nl;have n2:=c.1.nd;have n3:=c.1.len;have n4:=c.2;clear A g2 X s1 s2 s3 M Y J h0 c;go_wp2_with fail
  refine (QI N l.out.1 zO zO zO W zO).mono ?_;rintro v wb r;unfold Ud at r;by_cases a:(z.En=true/\z.row.length=0)\/z.nl+z.nd<z.row.length+N
  ·rw [zC a] at r R';obtain ⟨rfl,g⟩:=r;obtain ⟨ρ',ex,mm⟩:=g.ex;have d:Hid (MM ρ' wb p z/\Ext w.heap.size ρ ρ'/\Fr EC ρ w wb):=⟨mm,fun k hk=>ex k (zM hk l.out.2.1.kp.size),l.out.2.1.trans g.fr⟩
   clear g ex mm a;go_wp2_with fail
   refine (Cd 10 d.out.1).mono ?_;rintro v wc ⟨rfl,T,U⟩;have j:Hid (By ρ w p (z.refuse 10).1 wc):=⟨⟨ρ',d.out.2.1,T⟩,d.out.2.2.ext U.Ba d.out.2.1⟩
   clear T U;go_wp2
   go_ret
   unfold CJ;rw [R'.out];exact ⟨rfl,j.out⟩
  ·rw [zA a] at r R';obtain ⟨rfl,g⟩:=r;obtain ⟨ρ',ex,mm⟩:=g.ex;have k7:=mm.Bt.1;have z7:=mm.bP 7;have a5:z.row.length+N<=z.nl+z.nd:=by
    apply yB;intro hq;exact a (Or.inr zO)
   obtain ⟨u,q⟩:=qe ({ z with row:=z.row++List.replicate N z.rowLen,st:=14 }:MS);have a6:u.row.length=z.row.length+N:=by rw [q];simp
   have D:u.nl=z.nl/\u.nd=z.nd:=by rw [q];exact ⟨rfl,rfl⟩
   have L:Ae u.row=true:=by rw [q];exact Dk l.out.2.2.1.rr (MA (Se l.out.2.2.1.rr l.out.2.2.2))
   have d:Hid (MM ρ' (wb.setCell ⟨p,7,none⟩ (.int .i64 14)) p u/\Ext w.heap.size ρ ρ'/\Fr EC ρ w (wb.setCell ⟨p,7,none⟩ (.int .i64 14))):=by
    have S:Ext w.heap.size ρ ρ':=fun k hk=>ex k (zM hk l.out.2.1.kp.size)
    refine ⟨by rw [q];exact (mm.st 14).1,S,?_⟩;exact (l.out.2.1.trans g.fr).ext (mm.st 14).2.Ba S
   have Q:Hid (x.Vx=MS.FF u):=by show x.Vx=_;rw [q];exact R'.out
   clear g ex mm a q R';have o:Hid (Calls prog 143 #[.pointer (some ⟨p,26,none⟩)] (wb.setCell ⟨p,7,none⟩ (.int .i64 14)) fun v O=>v= .returned (.bool (decide (u.row.length=u.nl+u.nd)))/\∃ n,O=(wb.setCell ⟨p,7,none⟩ (.int .i64 14)).drewN n):=Nt d.out.1 zO zO zO;by_cases hw:u.row.length=u.nl+u.nd
   ·have G:Hid (x.Vx=u.EM):=by show x.Vx=_;rw [Q.out];exact zC hw
    rw [vZ hw] at o;go_wp2_with fail
    refine o.out.mono ?_;rintro v wc ⟨rfl,m,hm⟩;have F:Hid (MM ρ' wc p u/\Fr EC ρ w wc):=by
     show _/\_;rw [hm];exact ⟨d.out.1.drewN m,d.out.2.2.drewN m⟩
    clear hm o;go_wp2_with fail
    refine (ZA F.out.1 L hw (by rw [D.1];exact n1) (by rw [D.2];exact n2)).mono ?_;rintro v wd ⟨rfl,g⟩;have j:=hid (By.next d.out.2.1 F.out.2 g);clear g;obtain ⟨E,V⟩:=qe u.EM;rw [<- V] at j G |-;clear V;go_wp2
    go_ret
    unfold CJ;rw [G.out];exact ⟨rfl,j.out⟩
   ·have G:Hid (x.Vx=(u,0)):=by show x.Vx=_;rw [Q.out];exact zA hw
    rw [kI hw] at o;go_wp2_with fail
    refine o.out.mono ?_;rintro v wc ⟨rfl,m,hm⟩;have F:Hid (By ρ w p u wc):=by
     show By _ _ _ _ _;rw [hm];exact ⟨⟨ρ',d.out.2.1,d.out.1.drewN m⟩,d.out.2.2.drewN m⟩
    clear hm o;go_wp2
    go_ret
    unfold CJ;rw [G.out];exact ⟨rfl,F.out⟩
 ·rw [zA h0] at R';obtain ⟨e,he⟩:=qe ((x.Bg x.Aq x.Am).2.1);have P:=CL (By.of A (b.out.fr.trans g2.Ba)) he.symm;rw [<- he] at h0 |-;have B:=qn h0;clear A g2 he;go_wp2
  go_ret
  unfold CJ;rw [R'.out,P.out.2];exact ⟨rfl,P.out.1⟩
theorem ki(h:MM ρ w p x)(ok:Ok x)(hc:x.count<=40)(y:eg x)(hs:x.hs≠[])(b5:x.hs.length<=15)(S:x.st=14) :
  Calls prog 104 #[.pointer (some ⟨p,0,none⟩)] w fun v w'=>CJ ρ w p x.Xq v w':=by
 have HM:=CL h ok;obtain ⟨th,b3,TH⟩:=h.nX hs;have b0:=TH.ON;have a8:=hid TH;have c7:=h.Bt.1;rw [S] at c7;clear h ok S TH;go_enter func104,ntmps104
 go_wp2_with fail
 refine (Vo HM.out.1 HM.out.2 hc a8.out).mono ?_;rintro v a ⟨rfl,l,g2⟩;have A:=MS.Nf b0 HM.out.2 hc;have R':Hid (x.Xq=if (x.sym x.hs).2.1=0 then MS.Vx { (x.sym x.hs).1.Bu (x.sym x.hs).2.2 with st:=15 } else ((x.sym x.hs).1,(x.sym x.hs).2.1)):=rfl;by_cases h0:(x.sym x.hs).2.1=0
 ·rw [zC h0] at R';rw [zC h0];obtain ⟨Z,s2,s3⟩:=A.2 h0;have F:=A.1;obtain ⟨z,t,k,R⟩:∃ z t k,x.sym x.hs=(z,t,k):=⟨_,_,_,rfl⟩
  rw [R] at l R' Z s2 s3 F h0 |-;have o:t=0:=h0;subst o;have Q:k<15:=by have:k<x.hs.length:=Z;omega
  have Y:eg z:=by
   have e:z=_:=s3;have J:z.nl=x.nl:=by rw [e]
   have a2:z.nd=x.nd:=by rw [e]
   have a3:z.row=x.row:=by rw [e]
   exact ⟨by rw [J];exact y.nl,by rw [a2];exact y.nd,by rw [a3];exact y.rr,by rw [J,a2,a3];exact y.len⟩
  have B:Below a.heap.size a (a.alloc (.cells #[.int .i64 (GP k), .bool (decide (k=12)), .int .i64 (Aq k), .int .i64 (Am k)] 127)):=zB.alloc zL _;have c:Hid (MM ρ (a.alloc (.cells #[.int .i64 (GP k), .bool (decide (k=12)), .int .i64 (Aq k), .int .i64 (Am k)] 127)) p z/\Fr EC ρ w (a.alloc (.cells #[.int .i64 (GP k), .bool (decide (k=12)), .int .i64 (Aq k), .int .i64 (Am k)] 127))):=⟨l.below B,(g2.trans (Fr.below B)).Ba⟩
  obtain ⟨_,_,_,L,M,O,P,_⟩:=c.out.1.own;have a0:=c.out.1.bP 31;have a5:=c.out.1.bP 32;have a6:=c.out.1.bP 33;have a7:=c.out.1.bP 34;have k7:=c.out.1.Bt.1;have z7:=c.out.1.Bt.2;have q0:(a.alloc (.cells #[.int .i64 (GP k), .bool (decide (k=12)), .int .i64 (Aq k), .int .i64 (Am k)] 127)).cell? ⟨a.heap.size,0,none⟩=some (.int .i64 (GP k)):=zS;have q1:(a.alloc (.cells #[.int .i64 (GP k), .bool (decide (k=12)), .int .i64 (Aq k), .int .i64 (Am k)] 127)).cell? ⟨a.heap.size,1,none⟩=some (.bool (decide (k=12))):=zS;have q2:(a.alloc (.cells #[.int .i64 (GP k), .bool (decide (k=12)), .int .i64 (Aq k), .int .i64 (Am k)] 127)).cell? ⟨a.heap.size,2,none⟩=some (.int .i64 (Aq k)):=zS;have q3:(a.alloc (.cells #[.int .i64 (GP k), .bool (decide (k=12)), .int .i64 (Aq k), .int .i64 (Am k)] 127)).cell? ⟨a.heap.size,3,none⟩=some (.int .i64 (Am k)):=zS;have HA:=c.out.1.Bu k;have HB:=HA.1.st 15;obtain ⟨y15,b⟩:=qe ({ z.Bu k with st:=15 }:MS);obtain ⟨WW,hW⟩:=qe ((((((a.alloc (.cells #[.int .i64 (GP k), .bool (decide (k=12)), .int .i64 (Aq k), .int .i64 (Am k)] 127)).setCell ⟨p,31,none⟩ (.int .i64 (GP k))).setCell ⟨p,32,none⟩ (.bool (decide (k=12)))).setCell ⟨p,33,none⟩ (.int .i64 (Aq k))).setCell ⟨p,34,none⟩ (.int .i64 (Am k))).setCell ⟨p,7,none⟩ (.int .i64 15));have f:Hid (Tw ρ w p y15 WW):=by
   show Tw ρ w p y15 WW;rw [hW,b];exact ⟨HB.1,{ F with },s2,(c.out.2.trans HA.2.Ba).trans HB.2.Ba⟩
  have RK:eg y15:=by rw [b];exact ⟨Y.nl,Y.nd,Y.rr,Y.len⟩
  have a9:y15.hlen<=11:=by rw [b];show (if k=12\/k=13\/k=14 then 0 else k)<=11;split <;> omega
  have r:y15.Am<=16/\y15.Aq<=1000000/\y15.Aq+2^y15.Am<=1000:=by
   rw [b];show Am k<=16/\Aq k<=1000000/\Aq k+2^Am k<=1000;have h1:=cf k;have h2:=aL k;have:2^Am k<=2^6:=yP zD h1;have e:2^6=64:=zD;omega
  have I:Hid (x.Xq=MS.Vx y15):=by show x.Xq=_;rw [b];exact R'.out
  have j:=hid hW;have U:GP k=y15.hlen:=by rw [b];rfl
  have V:decide (k=12)=y15.En:=by rw [b];rfl
  have W:Aq k=y15.Aq:=by rw [b];rfl
  have X:Am k=y15.Am:=by rw [b];rfl
  rw [cm];rw [U,V,W,X] at j L M O P a0 a5 a6 a7 k7 z7 q0 q1 q2 q3 |-;clear l g2 R s3 F A h0 Y HA HB b hW B R' c Z Q U V W X;go_wp2_with fail
  rw [<- j.out];clear L M O P a0 a5 a6 a7 k7 z7 q0 q1 q2 q3 j;refine (ZC y15.Aq y15.Am f.out.mm f.out.ok f.out.Cq r.1 r.2.1).mono ?_;rintro v wa ⟨rfl,l,g2⟩;have A:=MS.IL (least:=y15.Aq) f.out.ok f.out.Cq r.1;have R':Hid (x.Xq=if (y15.Bg y15.Aq y15.Am).2.1=0 then (if (((y15.Bg y15.Aq y15.Am).1.En=true/\(y15.Bg y15.Aq y15.Am).1.row.length=0)\/(y15.Bg y15.Aq y15.Am).1.nl+(y15.Bg y15.Aq y15.Am).1.nd<(y15.Bg y15.Aq y15.Am).1.row.length+(y15.Bg y15.Aq y15.Am).2.2) then (y15.Bg y15.Aq y15.Am).1.refuse 10 else MS.FF { (y15.Bg y15.Aq y15.Am).1 with row:=(y15.Bg y15.Aq y15.Am).1.row++List.replicate (y15.Bg y15.Aq y15.Am).2.2 (y15.Bg y15.Aq y15.Am).1.rowLen,st:=14 }) else ((y15.Bg y15.Aq y15.Am).1,(y15.Bg y15.Aq y15.Am).2.1)):=I.out;clear I;by_cases h0:(y15.Bg y15.Aq y15.Am).2.1=0
  ·rw [zC h0] at R';obtain ⟨Z,s2,s3,s4⟩:=A.2 h0;have F:=A.1;have hT:(y15.Bg y15.Aq y15.Am).2.2<=1000:=by have:=r.2.2;omega
   obtain ⟨z,t,N,R⟩:∃ z t N,y15.Bg y15.Aq y15.Am=(z,t,N):=⟨_,_,_,rfl⟩
   rw [R] at l R' s4 F hT h0 |-;have o:t=0:=h0;subst o;have g:eg z/\z.hlen<=11:=by
    have e:z=_:=s4;have J:z.nl=y15.nl:=by rw [e]
    have a2:z.nd=y15.nd:=by rw [e]
    have a3:z.row=y15.row:=by rw [e]
    have a4:z.hlen=y15.hlen:=by rw [e]
    exact ⟨⟨by rw [J];exact RK.nl,by rw [a2];exact RK.nd,by rw [a3];exact RK.rr,by rw [J,a2,a3];exact RK.len⟩,by rw [a4];exact a9⟩
   have c:Hid (MM ρ wa p z/\Fr EC ρ w wa/\eg z/\z.hlen<=11):=⟨l,f.out.fr.trans g2.Ba,g.1,g.2⟩
   have n1:=g.1.nl;have n2:=g.1.nd;have n3:=g.1.len;have n4:=g.2;clear l g2 R Z s2 s3 s4 F A h0 g;go_wp2_with fail
   refine (QI N c.out.1 zO zO zO hT zO).mono ?_;rintro v wb G;unfold Ud at G;by_cases d:(z.En=true/\z.row.length=0)\/z.nl+z.nd<z.row.length+N
   ·rw [zC d] at G R';obtain ⟨rfl,q⟩:=G;obtain ⟨ρ',ex,mm⟩:=q.ex;have i:Hid (MM ρ' wb p z/\Ext w.heap.size ρ ρ'/\Fr EC ρ w wb):=⟨mm,fun k hk=>ex k (zM hk c.out.2.1.kp.size),c.out.2.1.trans q.fr⟩
    clear q ex mm d;go_wp2_with fail
    refine (Cd 10 i.out.1).mono ?_;rintro v wc ⟨rfl,g3,g4⟩;have s:Hid (By ρ w p (z.refuse 10).1 wc):=⟨⟨ρ',i.out.2.1,g3⟩,i.out.2.2.ext g4.Ba i.out.2.1⟩
    clear g3 g4;go_wp2
    go_ret
    unfold CJ;rw [R'.out];exact ⟨rfl,s.out⟩
   ·rw [zA d] at G R';obtain ⟨rfl,q⟩:=G;obtain ⟨ρ',ex,mm⟩:=q.ex;have k7:=mm.Bt.1;have z7:=mm.bP 7;have b4:z.row.length+N<=z.nl+z.nd:=by
     apply yB;intro hq;exact d (Or.inr zO)
    obtain ⟨u,D⟩:=qe ({ z with row:=z.row++List.replicate N z.rowLen,st:=14 }:MS);have b6:u.row.length=z.row.length+N:=by rw [D];simp
    have T:u.nl=z.nl/\u.nd=z.nd:=by rw [D];exact ⟨rfl,rfl⟩
    have b2:Ae u.row=true:=by rw [D];exact Dk c.out.2.2.1.rr (MA (Se c.out.2.2.1.rr c.out.2.2.2))
    have i:Hid (MM ρ' (wb.setCell ⟨p,7,none⟩ (.int .i64 14)) p u/\Ext w.heap.size ρ ρ'/\Fr EC ρ w (wb.setCell ⟨p,7,none⟩ (.int .i64 14))):=by
     have e1:Ext w.heap.size ρ ρ':=fun k hk=>ex k (zM hk c.out.2.1.kp.size)
     refine ⟨by rw [D];exact (mm.st 14).1,e1,?_⟩;exact (c.out.2.1.trans q.fr).ext (mm.st 14).2.Ba e1
    have R3:Hid (x.Xq=MS.FF u):=by show x.Xq=_;rw [D];exact R'.out
    clear q ex mm d D R';have C:Hid (Calls prog 143 #[.pointer (some ⟨p,26,none⟩)] (wb.setCell ⟨p,7,none⟩ (.int .i64 14)) fun v w'=>v= .returned (.bool (decide (u.row.length=u.nl+u.nd)))/\∃ n,w'=(wb.setCell ⟨p,7,none⟩ (.int .i64 14)).drewN n):=Nt i.out.1 zO zO zO;by_cases hw:u.row.length=u.nl+u.nd
    ·have R4:Hid (x.Xq=u.EM):=by show x.Xq=_;rw [R3.out];exact zC hw
     rw [vZ hw] at C;go_wp2_with fail
     refine C.out.mono ?_;rintro v wc ⟨rfl,m,hm⟩;have HC:Hid (MM ρ' wc p u/\Fr EC ρ w wc):=by
      show _/\_;rw [hm];exact ⟨i.out.1.drewN m,i.out.2.2.drewN m⟩
     clear hm C;go_wp2_with fail
     refine (ZA HC.out.1 b2 hw (by rw [T.1];exact n1) (by rw [T.2];exact n2)).mono ?_;rintro v wd ⟨rfl,q⟩;have s:=hid (By.next i.out.2.1 HC.out.2 q);clear q;obtain ⟨E,hE⟩:=qe u.EM;rw [<- hE] at s R4 |-;clear hE;go_wp2
     go_ret
     unfold CJ;rw [R4.out];exact ⟨rfl,s.out⟩
    ·have R4:Hid (x.Xq=(u,0)):=by show x.Xq=_;rw [R3.out];exact zA hw
     rw [kI hw] at C;go_wp2_with fail
     refine C.out.mono ?_;rintro v wc ⟨rfl,m,hm⟩;have HC:Hid (By ρ w p u wc):=by
      show By _ _ _ _ _;rw [hm];exact ⟨⟨ρ',i.out.2.1,i.out.1.drewN m⟩,i.out.2.2.drewN m⟩
     clear hm C;go_wp2
     go_ret
     unfold CJ;rw [R4.out];exact ⟨rfl,HC.out⟩
  ·rw [zA h0] at R';obtain ⟨e,he⟩:=qe ((y15.Bg y15.Aq y15.Am).2.1);have H:=CL (By.of l (f.out.fr.trans g2.Ba)) he.symm;rw [<- he] at h0 |-;have o:=qn h0;clear l g2 he;go_wp2
   go_ret
   unfold CJ;rw [R'.out,H.out.2];exact ⟨rfl,H.out.1⟩
 ·rw [zA h0] at R';rw [zA h0];obtain ⟨e,he⟩:=qe ((x.sym x.hs).2.1);have B:Below a.heap.size a (a.alloc (.cells #[.int .i64 0, .bool false, .int .i64 0, .int .i64 0] 127)):=zB.alloc zL _;have H:=CL (By.of (l.below B) (g2.trans (Fr.below B)).Ba) he.symm;rw [<- he] at h0 |-;have o:=qn h0;clear l g2 he B;go_wp2
  go_ret
  unfold CJ;rw [R'.out,H.out.2];exact ⟨rfl,H.out.1⟩
def EG(w:World):Prop:=∃ fr,w.heap[0]?=some (.cells QV 245 fr)
theorem EG.below(h:EG w)(a:Below w.heap.size w w'):EG w':=by
 obtain ⟨fr,h1⟩:=h;exact ⟨fr,(a.block _ (yQ.1 h1).1).trans h1⟩
theorem EG.fr(h:EG w)(f:Fr EC ρ w w')(a:ρ 0=0):EG w':=by
 obtain ⟨fr,h1⟩:=h;exact ⟨fr,(f.kp.block _ (yQ.1 h1).1 (by rw [a];exact fun h=>h.1 rfl)).trans h1⟩
theorem EG.cell(h:EG w)(hk:k<15):w.cell? ⟨0,k,none⟩=some (.int .i64 ((Tr.order.getD k 0:Nat):Int)):=by
 obtain ⟨fr,h1⟩:=h;rw [yA _ _ k _ _ _ h1];exact (JD hk).1
theorem EG.lt(h:EG w):0<w.heap.size:=by
 obtain ⟨fr,h1⟩:=h;exact (yQ.1 h1).1
theorem Rf(h:i<l.length):(l.set i v).getD i 0=v:=by simp [yF,h]
theorem getD_set_ne{j:Nat}(h:j≠i):(l.set i v).getD j 0=l.getD j 0:=by simp [yF,List.getElem?_set_ne (zY h)]
theorem Va(hl:List Int):(EF hl).length=15:=by
 unfold EF;have:∀ (hl:List Int) (i:Nat) (l:List Int),(Hl hl i l).length=l.length:=fun hl=>by
  induction hl with
  | nil=>intro i l;rfl
  | cons x xs ih=>intro i l;show (Hl xs (i+1) (l.set _ x)).length=_;rw [ih];simp
 rw [this];rfl
structure Yd(w w':World)(t:Nat)(l:List Int):Prop where
 ex:∃ (m n:Nat) (f:Nat->Value),bsum l 12=n/\It w' 265 4 t m n (cn l) (fc (cn l)) (FT l 12) (EB l 12) (fun j=>[f (j*4),f (j*4+1),f (j*4+2),f (j*4+3)])/\Gs.Cx l f l.length/\w.heap.size<=t/\w.heap.size<=m
 bel:Below w.heap.size w w'
theorem Yd.mm(h:MM ρ w p x)(m:Yd w w' t l)(q:Ae l=true)(hl:l.length<=15):By ρ w p { x with hs:=l } (w'.setCell ⟨p,30,none⟩ (.pointer (some ⟨t,0,none⟩))):=by
 obtain ⟨b,n,f,h1,h2,h3,h4,h5⟩:=m.ex;obtain ⟨ρ',hρ⟩:∃ ρ':Nat->Nat,ρ'=fun k=>if k=t\/k=b then 8 else ρ k:=⟨_,rfl⟩
 have j:∀ k,k=t\/k=b->ρ' k=8:=fun k hk=>by rw [hρ];exact zC hk
 have c:∀ k,¬ (k=t\/k=b)->ρ' k=ρ k:=fun k hk=>by rw [hρ];exact zA hk
 have r:∀ k,w.heap.size<=k->ρ k=0:=fun k hk=>h.new k hk
 have e:Ext w.heap.size ρ ρ':=fun k hk=>c k zO
 have g:∀ k,ρ k≠0->ρ' k=ρ k:=fun k hk=>c k (fun hq=>hk (r k zO))
 obtain ⟨L,B,T⟩:=h.below m.bel;have d:=B.Sb g;have a:=T.Sb g (fun k hk=>by
  by_cases hq:k=t\/k=b
  ·have:=h2.pm;omega
  ·rw [c k hq] at hk;exact T.lt k hk)
 have rp:=d.rp;have F:Fr V5 ρ' w' (w'.setCell ⟨p,30,none⟩ (.pointer (some ⟨t,0,none⟩))):=Fr.own w' p 30 _ rp;have S:Ge ρ' w' 265 4 (fun i=>(EU i).toList) t l:=⟨⟨b,n,_,h2,h1,fun i hi h0=>by
  have:=h3 i hi h0;show [_,_,_,_]=(EU i).toList;rw [<- this],j b zS⟩,j t zS,q,zO⟩
 have o:MT ρ' w' { x with hs:=l } { L with hp:= .pointer (some ⟨t,0,none⟩) }:=⟨a.sup,a.hl,a.rw,Or.inr ⟨t,rfl,S⟩,a.Ev,a.fx,a.lt⟩
 exact ⟨⟨ρ',e,{ L with hp:= .pointer (some ⟨t,0,none⟩) },d.set 30 _ rfl ⟨rfl,rfl,rfl,rfl⟩ ⟨rfl,rfl⟩,o.bO F⟩,(Fr.below (ρ:=ρ) m.bel).ext F.Ba e⟩
theorem MM.nY(h:MM ρ w p x):∃ ad cap,w.cell? ⟨p,29,none⟩=some (.slice ad x.hl.length cap)/\Ap w ad x.hl:=by
 obtain ⟨L,B,T⟩:=h;obtain ⟨ad,cap,e,hc⟩:=T.hl.1.cells;exact ⟨ad,cap,by rw [<- e];exact B.row.cell (i:=29) zO,hc⟩
theorem Ap.Tm{T:TypeId}(h:w.rowIs g T n (fun j=> .int .i64 (l.getD j 0)))(a:l.length<=n):Ap w (some ⟨g,0,none⟩) l:=fun k hk=>⟨g,0,rfl,h.lt,by rw [yJ];exact h.cell (i:=k) zO⟩
def Yc(ρ:Nat->Nat)(w:World)(p:Nat)(x:MS)(e:Ending)(w':World):Prop:=
 if sumOf gw (EF x.hl)=2048 then e= .returned (.bool true)/\By ρ w p { x with hs:=EF x.hl } w' else e= .returned (.bool false)/\By ρ w p x w'
theorem Tj(h:MM ρ w p x)(hO:EG w)(hx:∀ y∈x.hl,0<=y/\y<8)(hl:x.hl.length<=15) :
  Calls prog 139 #[.pointer (some ⟨p,26,none⟩)] w fun v g=>Yc ρ w p x v g:=by
 have O:=CL h hO;obtain ⟨ad,cap,a2,I⟩:=h.nY;have HC:=hid I;have a:=Va x.hl;have c:=(Yu hx).1;have hp:p<w.heap.size:=by obtain ⟨L,B,T⟩:=h;exact B.row.lt
 have Z:Hid ((w.alloc (.cells #[.int .i64 0, .int .i64 0, .int .i64 0, .int .i64 0, .int .i64 0, .int .i64 0, .int .i64 0, .int .i64 0, .int .i64 0, .int .i64 0, .int .i64 0, .int .i64 0, .int .i64 0, .int .i64 0, .int .i64 0] 245)).rowIs w.heap.size 245 15 (fun j=> .int .i64 ((EF (x.hl.take 0)).getD j 0))/\Below w.heap.size w (w.alloc (.cells #[.int .i64 0, .int .i64 0, .int .i64 0, .int .i64 0, .int .i64 0, .int .i64 0, .int .i64 0, .int .i64 0, .int .i64 0, .int .i64 0, .int .i64 0, .int .i64 0, .int .i64 0, .int .i64 0, .int .i64 0] 245))):=by
  refine ⟨yL w _ _ _ (fun i hi=>?_),zB.alloc zL _⟩;have:i=0\/i=1\/i=2\/i=3\/i=4\/i=5\/i=6\/i=7\/i=8\/i=9\/i=10\/i=11\/i=12\/i=13\/i=14:=by have:i<15:=hi;omega
  rcases this with rfl | rfl | rfl | rfl | rfl | rfl | rfl | rfl | rfl | rfl | rfl | rfl | rfl | rfl | rfl <;> rfl
 clear h hO I;go_enter func139,ntmps139
 go_wp2_with fail
 go_loopw [11] (fun i wr=>∃ k:Nat,k<=x.hl.length/\i= .int .i64 k/\Hid (wr.rowIs w.heap.size 245 15 (fun j=> .int .i64 ((EF (x.hl.take k)).getD j 0))/\Below w.heap.size w wr)) (fun i _=>x.hl.length - (intOf i).toNat)
 case atStart=>exact ⟨0,zH _,rfl,Z⟩
 case round=>
  clear Z;obtain ⟨k,hk,rfl,l⟩:=hrel;by_cases D:k<x.hl.length
  ·obtain ⟨b,o,rfl,hb,A⟩:=(HC.out.below l.out.2 zL) k D;have r:Tr.order.getD k 0<15:=(JD zO).2;have co:wr.cell? ⟨0,k,none⟩=some (.int .i64 ((Tr.order.getD k 0:Nat):Int)):=(O.out.2.below l.out.2).cell zO;have a0:(k:Int)<15:=zO;have a4:(k:Int)<x.hl.length:=zO;have cr:=l.out.1.cell r;have zr:=l.out.1.frozen (Tr.order.getD k 0);have U:Hid ((wr.setCell ⟨w.heap.size,Tr.order.getD k 0,none⟩ (.int .i64 (x.hl.getD k 0))).rowIs w.heap.size 245 15 (fun j=> .int .i64 ((EF (x.hl.take (k+1))).getD j 0))/\Below w.heap.size w (wr.setCell ⟨w.heap.size,Tr.order.getD k 0,none⟩ (.int .i64 (x.hl.getD k 0)))):=by
    refine ⟨(l.out.1.set _ _).congr fun j hj=>?_,l.out.2.setCell (p:=⟨w.heap.size,Tr.order.getD k 0,none⟩) zL _⟩;have e:x.hl.take (k+1)=x.hl.take k++[x.hl.getD k 0]:=by rw [vA D];simp [D]
    have e2:(x.hl.take k).length=k:=by simp;omega
    rw [e,SC,e2];have e3:=Va (x.hl.take k);by_cases P:j=Tr.order.getD k 0
    ·rw [zC P,P];rw [Rf zO]
    ·rw [zA P];rw [getD_set_ne P]
   obtain ⟨od,J⟩:=qe (Tr.order.getD k 0);rw [<- J] at r co cr zr U;clear J;have a1:(od:Int)<15:=zO;obtain ⟨vv,M⟩:=qe (x.hl.getD k 0);rw [<- M] at A U;clear M;go_wp2_with fail
   go_roundw
   case rel=>exact ⟨k+1,zO,by go_num,U⟩
   case measure=>simp [intOf];omega
  ·obtain rfl:k=x.hl.length:=zO;have d:Hid (wr.rowIs w.heap.size 245 15 (fun j=> .int .i64 ((EF x.hl).getD j 0))/\Below w.heap.size w wr):=by
    have:=l.out;rw [vG] at this;exact this
   have u:Hid (∀ e g,Yc ρ w p x e g↔if sumOf gw (EF x.hl)=2048 then e= .returned (.bool true)/\By ρ w p { x with hs:=EF x.hl } g else e= .returned (.bool false)/\By ρ w p x g):=fun _ _=>yE
   obtain ⟨S,q⟩:=qe (EF x.hl);rw [<- q] at d a c u;clear q l;have C:=Ap.Tm d.out.1 zO;have W:Hid (Calls prog 114 #[.slice (some ⟨w.heap.size,0,none⟩) 15 15] wr fun e g=>e= .returned (.agg (arr (cn S)))/\Below wr.heap.size wr g):=by
    have:=El (some ⟨w.heap.size,0,none⟩) 15 S wr zO C c;rw [a] at this;exact this
   have V:Hid (∀ g,Below wr.heap.size wr g->Calls prog 168 #[.slice (some ⟨w.heap.size,0,none⟩) 15 15, .func (.func 169) #[] #[]] g fun e N=>∃ t,e= .returned (.pointer (some ⟨t,0,none⟩))/\Yd g N t S):=fun g b=>by
    have:=Gs.QQ (some ⟨w.heap.size,0,none⟩) 15 S g zO (C.below b zL) c;rw [a] at this;refine this.mono ?_;rintro e N ⟨t,m,n,f,rfl,h1,h2,h3,h4,h5,h6⟩;exact ⟨t,rfl,⟨m,n,f,h1,h2,by rw [a];exact h3,h4,h5⟩,h6⟩
   have R:Hid (∀ j,j<12->0<=cn S j/\cn S j<=1000000):=FV zO;have G:Hid (shr (cn S) 12=sumOf gw S):=by show _=_;rw [Nb S c,QB]
   have H:Hid (Ae S=true/\S.length<=15):=⟨c,zO⟩
   clear C c a;go_wp2_with fail
   refine W.out.mono ?_;rintro e w1 ⟨rfl,b1⟩;have F:=hid b1;clear b1;go_wp2_with fail
   refine (EN (cn S) _ R.out).mono ?_;rintro e w2 ⟨rfl,b2⟩;have s:=hid (F.out.trans (b2.mono F.out.size));clear b2;cases q:(shr (cn S) 12==2048) with
   | false=>
    have E:Hid (¬ sumOf gw S=2048):=fun e=>by rw [G.out,e] at q;cases q
    clear q;go_wp2
    go_ret
    rw [u.out,zA E.out];have b:=d.out.2.trans (s.out.mono d.out.2.size);exact ⟨rfl,By.of (O.out.1.below b) (Fr.below b)⟩
   | true=>
    have z:Hid (sumOf gw S=2048):=by show _=_;rw [<- G.out];simpa using q
    clear q;go_wp2_with fail
    refine (V.out _ s.out).mono ?_;rintro e w3 ⟨t,rfl,X⟩;have b:=d.out.2.trans (s.out.mono d.out.2.size);have HA:=hid (By.next (Ext.refl _ _) (Fr.below b) (Yd.mm (O.out.1.below b) X H.out.1 H.out.2));have Y:=(O.out.1.below b).below X.bel;obtain ⟨L,Q,T3⟩:=Y;have a3:w3.cell? ⟨p,30,none⟩=some L.hp:=Q.row.cell (i:=30) zO;have a5:=Q.row.frozen 30;clear X b Q T3;go_wp2
    go_ret
    rw [u.out,zC z.out];exact ⟨rfl,HA.out⟩
theorem cY(B:MB ρ w p x L)(T:MT ρ w x L)
  (n:w1.ownsRow 0 3 1 (.slice (some ⟨g,0,none⟩) (x.hl.length+1) cap) (x.hl.length+1) (Al x.hl++[.int .i64 a])) (j:(w.alloc o).grownBy w1 L.hv.ownBlock) (f:L.hv.ownBlock=some g\/g=w.heap.size+1) (s:g<w1.heap.size) :
  MM (Hk ρ g 6) (w1.setCell ⟨p,29,none⟩ (.slice (some ⟨g,0,none⟩) (x.hl.length+1) cap)) p { x with hl:=x.hl++[a] }/\Ext w.heap.size ρ (Hk ρ g 6)/\Fr EC ρ w (w1.setCell ⟨p,29,none⟩ (.slice (some ⟨g,0,none⟩) (x.hl.length+1) cap)):=by
 have l:ρ g=0\/ρ g=6:=by
  rcases f with h | h
  ·exact Or.inr (T.hl.2 g h)
  ·left
   apply yB;intro D;have:=T.lt g D;omega
 have kp:Kp (fun r=>r=6) ρ w w1:=⟨by have:=j.size;simp at this;omega,fun k hk E=>by
  rw [j.block k (by simp;omega) (fun e=>E (T.hl.2 k e.symm))];exact xQ _ _ hk⟩
 have Fu:=NB (ρ:=ρ) (g:=g) (r:=6) l;obtain ⟨G,q,F⟩:=B.ra;obtain ⟨H,C,k2⟩:=B.rc;obtain ⟨r1,r2,r3,r4⟩:=B.rl;have y:MB ρ w1 p x L:=⟨ER B.row kp (by rw [B.rp];decide),⟨G,q,F.kp kp (by rw [r1];decide) (by rw [r2];decide)⟩,⟨H,C,k2.kp kp (by rw [r3];decide) (by rw [r4];decide)⟩,B.rp,B.rl⟩
 have u:p≠g:=by
  rcases l with h | h
  ·exact MU B.rp h zD
  ·exact MU B.rp h zD
 have ext:Ext w.heap.size ρ (Hk ρ g 6):=fun k hk=>by
  unfold Hk;by_cases e:k=g
  ·subst e;rw [zC rfl];rcases f with h | h
   ·exact (T.hl.2 k h).symm
   ·omega
  ·rw [zA e]
 refine ⟨⟨{ L with hv:= .slice (some ⟨g,0,none⟩) (x.hl.length+1) cap },(y.Sb Fu).set 29 _ rfl ⟨rfl,rfl,rfl,rfl⟩ ⟨rfl,rfl⟩,?_⟩,ext,?_⟩
 ·have c:MT (Hk ρ g 6) w1 { x with hl:=x.hl++[a] } { L with hv:= .slice (some ⟨g,0,none⟩) (x.hl.length+1) cap }:=by
   have v:MT ρ w1 { x with hl:=[] } { L with hv:= .slice none 0 0 }:=⟨T.sup.fr kp zD,⟨OI.nil _ _,fun b i=>by cases i⟩,⟨As T.rw.1 kp (fun b i e=>by rw [T.rw.2 b i] at e;cases e),T.rw.2⟩,T.hp.imp id fun ⟨t,a,b⟩=>⟨t,a,b.fr kp zD⟩,T.Ev.imp id fun ⟨t,a,b⟩=>⟨t,a,b.fr kp zD⟩,T.fx.imp id fun ⟨t,a,b⟩=>⟨t,a,b.fr kp zD⟩,fun k hk=>zM (T.lt k hk) kp.size⟩
   have d:=v.Sb Fu (fun k hk=>by
    unfold Hk at hk;by_cases e:k=g
    ·subst e;exact s
    ·rw [zA e] at hk;exact v.lt k hk)
   refine ⟨d.sup,⟨?_,fun b i=>?_⟩,d.rw,d.hp,d.Ev,d.fx,d.lt⟩
   ·show w1.ownsRow 0 3 1 (.slice (some ⟨g,0,none⟩) (x.hl.length+1) cap) (x.hl++[a]).length (Al (x.hl++[a]));have z:(x.hl++[a]).length=x.hl.length+1:=zS;have A:Al (x.hl++[a])=Al x.hl++[.int .i64 a]:=by unfold Al;simp
    rw [z,A];exact n
   ·have:b=g:=by have h:some g=some b:=i;injection h with h;exact h.symm
    rw [this];exact KL _ _ _
  exact c.fr (R:=fun r=>r=1) (Kp.Dm w1 _ _ (by show Hk ρ g 6 p=1;unfold Hk;rw [zA u];exact B.rp)) (fun r e=>zO)
 ·have q:Fr EC ρ w w1:=⟨kp.mono (fun r e=>⟨zO,zO⟩),by rw [j.os];rfl,by rw [j.tape];rfl,by rw [j.output];rfl⟩
  exact q.trans (Fr.set _ p 29 _ (by rw [B.rp];exact ⟨zD,zD⟩))
theorem YM{P:Program}{ops:Array Oper}{o:Oper}{a:Go.Act}{K:Go.Act->World->Prop}{Q:Exit->Go.Act->World->Prop}{E:Prop}(g:o.guard=none)
  (f:FuncId) (args:Array Value) (b:(execOp a.eval o).run P w= .ok (.enter f args) w) {R:Ending->World->Prop}
  (hc:Calls P f args w R) (h:∀ e d,R e d->∃ v,e= .returned v/\K (a.put o.dst v) d) :
  if Region.wanted o (yielded ops a.tmps)=true then Oper.wp P o a w K Q else E:=by
 have hw:Region.wanted o (yielded ops a.tmps)=true:=by simp [Region.wanted,g]
 rw [zC hw];unfold Oper.wp;rw [b,Oper.upon_enter];refine hc.mono fun e c i=>?_
 obtain ⟨v,rfl,hk⟩:=h e c i;exact hk
theorem kh(k:Nat)(B:MB ρ w p x L)(T:MT ρ w x L)(ok:Ok x)(hk:k<=x.count)(hc:x.count<=63) :
  Calls prog 134 #[.pointer (some ⟨p,14,none⟩), .int .i64 k] w fun v a=>v= .returned (.int .i64 (x.num k))/\MB ρ a p (x.rd k) L/\MT ρ a (x.rd k) L/\Fr V5 ρ w a:=by
 have c1:w.cell? ⟨p,14,none⟩=some (.int .u64 x.held):=B.row.cell (i:=14) zO;have c2:w.cell? ⟨p,14+1,none⟩=some (.int .i64 x.count):=B.row.cell (i:=15) zO;refine (Uq p 14 x.held x.count k w hk hc ok.held c1 c2 (B.row.frozen 14) (B.row.frozen 15)).mono ?_;rintro v a ⟨rfl,n,e⟩;refine ⟨rfl,?_⟩;have R:Bh ρ w p x x L w:=⟨B,T,Fr.refl _ _ _⟩
 rw [e];have D:=(((R.drewN n).set (z:={ x with held:=x.held / 2^k }) 14 (.int .u64 (x.held / 2^k:Nat)) rfl ⟨rfl,rfl⟩).set (z:=x.rd k) 15 (.int .i64 (x.count - k:Nat)) rfl ⟨rfl,rfl⟩)
 exact ⟨D.mb,D.mt.same rfl rfl rfl rfl ⟨rfl,rfl⟩,D.fr⟩
structure Lw(ρ:Nat->Nat)(w:World)(p:Nat)(y:MS)(R:MS×Nat)(w':World):Prop where
 ex:∃ ρ',Ext w.heap.size ρ ρ'/\MM ρ' w' p y
 fr:Fr EC ρ w w'
 ok:Ok y
 eq:MS.iG (y.told - y.hl.length) y=R
 Cq:y.count<=40
 told:y.told<=15
 le:y.hl.length<=y.told
 hx:∀ b∈y.hl,0<=b/\b<8
theorem MS.fV(h:¬ y.hl.length<y.told):MS.iG (y.told - y.hl.length) y=y.IF:=by rw [show y.told - y.hl.length=0 by omega];rfl
theorem MS.fU(h:y.told - y.hl.length=n+1):MS.iG (y.told - y.hl.length) y=if (MS.Ab 3 y).2=0 then MS.iG n { (MS.Ab 3 y).1.rd 3 with hl:=(MS.Ab 3 y).1.hl++[((MS.Ab 3 y).1.num 3:Int)] } else MS.Ab 3 y:=by rw [h];rfl
def Yx(w:World)(p:Nat):Nat:=match w.cell? ⟨p,29,none⟩ with | some (.slice _ n _)=>n | _=>0
theorem Vj{ad:Option Addr}(h:w.cell? ⟨p,29,none⟩=some (.slice ad n cap)):Yx w p=n:=by unfold Yx;rw [h]
theorem Sn.Fv(N:Sn q D s x c)(O:bU q D s k x c y c'):Sn q D s y c':=⟨O.sm,by rw [O.st,N.st,O.Fv.σ],by rw [O.mb,N.mb,O.Fv.Aa],zM N.pre O.Fv.pre⟩
theorem Sn.mC(N:Sn q D s x c):x.mb=if c.pre.length=0 then 0 else c.Aa.length:=by
 rw [zA (by have:=N.pre;omega)];exact N.mb
theorem Ei(N:Sn q D s x c)(A:KU k c.σ)(f:MS->MS×Nat)
  (b:∀ y a,Sn q D s y a->KV c a->k<=a.σ.count->Out q D s a (f y)):Out q D s c (MS.andThen (MS.Ab k x) f):=by
 obtain ⟨y,a,O⟩:=N.sm.Ab A;have Y:=N.Fv O;rcases O.res with ⟨e,hk,_⟩ | ⟨e,h1,h2⟩ | ⟨e,h1⟩
 ·rw [e];exact (b y a Y O.Fv hk).after O.steps N.sm.wf
 ·rw [e];exact .Cr a O.steps rfl Y h1 h2
 ·rw [e];exact .dead a 16 O.steps rfl (O.sm.dead zD Y.mC) h1
theorem Nc(least:Nat)(N:Sn q D s x c)(A:KU k c.σ)(f:MS->Nat->MS×Nat)
  (b:∀ y a,Sn q D s y a->KV c a->k<=a.σ.count->Out q D s a (f (y.rd k) (least+y.num k))):Out q D s c (MS.DY (x.Bg least k) f):=by
 obtain ⟨y,a,O⟩:=N.sm.Ab A;have Y:=N.Fv O;unfold MS.Bg;rcases O.res with ⟨e,hk,_⟩ | ⟨e,h1,h2⟩ | ⟨e,h1⟩
 ·rw [e];exact (b y a Y O.Fv hk).after O.steps N.sm.wf
 ·rw [e];exact .Cr a O.steps rfl Y h1 h2
 ·rw [e];exact .dead a 16 O.steps rfl (O.sm.dead zD Y.mC) h1
theorem ND(N:Sn q D s x c)(A:KU 8 c.σ)(f:MS->Nat->MS×Nat)
  (b:∀ y a,Sn q D s y a->KV c a->8<=a.σ.count->(c.σ.count<8->c.pre.length<a.pre.length)->Out q D s a (if y.head=y.he then y.refuse 5 else f y.Ez (y.num 8))):Out q D s c (MS.DY x.Ah f):=by
 obtain ⟨y,a,O⟩:=N.sm.Ab A;have Y:=N.Fv O;unfold MS.Ah;rcases O.res with ⟨e,hk,hp,_⟩ | ⟨e,h1,h2⟩ | ⟨e,h1⟩
 ·rw [e];have H:=(b y a Y O.Fv hk hp).after O.steps N.sm.wf;rw [zA zS];by_cases h5:y.head=y.he
  ·rw [zC h5] at H;rw [zC h5];exact H
  ·rw [zA h5] at H;rw [zA h5];exact H
 ·rw [e,zC zS];exact .Cr a O.steps rfl Y h1 h2
 ·rw [e,zC (by simp [MS.refuse])];exact .dead a 16 O.steps rfl (O.sm.dead zD Y.mC) h1
theorem Qx(a:c.σ.act= .DF σ')(h:c.σ.st≠23):DL q D s c { c with σ:=σ' }:=by
 have:=DL.DF (q:=q) (D:=D) (s:=s) c σ' a;rw [zA h] at this;exact this
theorem CV{r:MS×Nat}(W:St.Wf c.σ)(a:c.σ.act= .DF σ')(h:c.σ.st≠23)(O:Out q D s { c with σ:=σ' } r):Out q D s c r:=O.after (Steps.one (Qx a h)) W
theorem go_now(W:St.Wf c.σ)(a:c.σ.act= .DF σ')(h:c.σ.st≠23)(N:Sn q D s z { c with σ:=σ' }):Out q D s c (z,0):=
 .go _ (Steps.one (Qx a h)) rfl N ((Qx (q:=q) (D:=D) (s:=s) a h).mu W).2
theorem Cn{e:Nat}(N:Sn q D s x c)(a:c.σ.act= .fail e)(he:e≠0)(h1:z.tk=x.tk)(h2:z.pu=x.pu)(h3:z.mb=x.mb):Out q D s c (z.refuse e):=
 .dead c e (.refl c) rfl ⟨rfl,he,h1.trans N.sm.tk,h2.trans N.sm.pu,rfl,h3.trans N.mC⟩ (fun _=>Halt.fail e a)
theorem Sq(l:List Nat)(b:Nat):LL (l++[b])=(((LL l).1+b)%65521,((LL l).2+((LL l).1+b)%65521)%65521):=by
 unfold LL;rw [BU];rfl
theorem Vw{l:List Nat}:MS.Fi (l.drop (l.length - 256)) b=(l++[b]).drop ((l++[b]).length - 256):=by
 unfold MS.Fi;rw [xI,zI,yO];by_cases h:256<=l.length
 ·rw [zC zO,List.tail_drop,kR zO];rw [show l.length - 256+1=l.length+1 - 256 by omega]
 ·rw [zA zO,show l.length - 256=0 by omega,show l.length+1 - 256=0 by omega];simp
structure nT(x:MS)(b:Nat)(q:Cm)(D:Nat)(c:Cf):Prop where
 qa:(x.FC b).qa=(c.outs++[b]).drop D
 Zu:D<=(c.outs++[b]).length/\(c.outs++[b]).length<=D+64
 qc:(x.FC b).qc=(c.σ.om++[b]).drop ((c.σ.om++[b]).length - 256)
 sum:((x.FC b).sx,(x.FC b).sy)=LL (c.σ.om++[b])
 Jx:(x.FC b).sx<=65520/\(x.FC b).sy<=65520
 size:(x.FC b).size=(c.σ.om++[b]).length%65536
 pu:(x.FC b).pu=(c.outs++[b]).length
 ej:c.pre.length+(c.outs++[b]).length<=q.steps
theorem Qc(N:Sn q D s x c)(g:c.σ.act= .put b σ')(f:MS->MS×Nat)
  (j:nT x b q D c->Out q D s { c with σ:=σ',outs:=c.outs++[b],Br:=c.Br++[c.pre.length] } (f (x.FC b))):Out q D s c (MS.andThen (x.put b) f):=by
 have S:=N.sm;have k:x.qa.length=c.outs.length - D:=by rw [S.qa,xI]
 have a:x.MP=Cl q c.pre.length c.outs.length:=by unfold MS.MP Cl;rw [S.tk,S.pu,S.sp,S.ou,S.ra,S.sl]
 have hd:=S.Zu;unfold MS.put;by_cases h1:x.qa.length=64
 ·rw [zC h1];exact .full c b σ' (.refl c) rfl N g zO
 ·rw [zA h1];by_cases h2:x.MP=0
  ·rw [zA zO];have h3:Cl q c.pre.length c.outs.length=0:=by rw [<- a];exact h2
   have st:DL q D s c { c with σ:=σ',outs:=c.outs++[b],Br:=c.Br++[c.pre.length] }:=DL.put c b σ' g zO h3;refine (j ?_).after (Steps.one st) S.wf;have e:x.st≠0:=by rw [N.st];omega
   have d:=S.sum e;have h:x.sx=(LL c.σ.om).1:=by rw [<- d]
   have i:x.sy=(LL c.σ.om).2:=by rw [<- d]
   refine ⟨?_,?_,?_,?_,?_,?_,?_,?_⟩
   ·show x.qa++[b]=_;rw [S.qa,kR hd.1]
   ·rw [zI,yO];omega
   ·show MS.Fi x.qc b=_;rw [S.qc,Vw]
   ·rw [Sq,<- h,<- i];rfl
   ·refine ⟨?_,?_⟩
    ·show (x.sx+b)%65521<=65520;omega
    ·show (x.sy+(x.sx+b)%65521)%65521<=65520;omega
   ·show (x.size+1)%65536=_;rw [S.size,zI,yO];omega
   ·show x.pu+1=_;rw [S.pu,zI,yO]
   ·rw [zI,yO];unfold Cl at h3;by_cases h4:q.steps<=c.pre.length+c.outs.length
    ·rw [zC h4] at h3;omega
    ·omega
  ·rw [zC h2];have h3:Cl q c.pre.length c.outs.length≠0:=by rw [<- a];exact h2
   refine .dead c _ (.refl c) rfl (S.dead h2 N.mC) (fun cl=>?_);rw [a];exact Halt.quota b σ' g zO h3
def iV(l:List Int)(σ:St)(r n code:Nat):Prop:=n<=σ.count+1/\1<=n/\∀ h C,σ.count<=C->h%2^σ.count=σ.held->h<2^C->EW l h C=scan l r n code (h / 2^(n - 1)) (C - (n - 1))
theorem iV.start(l:List Int)(σ:St):iV l σ (lng l 12) 1 0:=⟨zO,zE _,fun h C _ _ _=>by show scan l (lng l 12) 1 0 h C=_;simp⟩
theorem bm{h H c:Nat}(hm:h%2^c=H)(b:1<=n/\n<=c):h / 2^(n - 1)%2=H / 2^(n - 1)%2:=by
 subst hm;have e:2^c=2^(n - 1)*2^(c - (n - 1)):=by rw [<- Nat.pow_add];congr 1;omega
 rw [e,Nat.mod_mul_right_div_self];have a:2 ∣ 2^(c - (n - 1)):=by
  rw [show c - (n - 1)=(c - n)+1 by omega,yN];exact Nat.dvd_mul_left _ _
 rw [AM _ a]
theorem iV.next{τ:St}(I:iV l σ (r+1) n code)(hc:σ.count<=τ.count)(hm:τ.held%2^σ.count=σ.held)(c:n<=τ.count)(b:¬ 0<=find (Ax l) n ((2*code+τ.held / 2^(n - 1)%2:Nat):Int)) :
  iV l τ r (n+1) (2*code+τ.held / 2^(n - 1)%2):=by
 obtain ⟨d,i2,i3⟩:=I;refine ⟨zO,zO,fun h C h1 h2 h3=>?_⟩;have a:h%2^σ.count=σ.held:=by
  rw [<- hm,<- h2,AM _ (Nat.pow_dvd_pow 2 hc)]
 rw [i3 h C zO a h3,scan,zA zO,bm h2 ⟨i2,c⟩,zA b];congr 1
 ·rw [kD];congr 1
  rw [<- Nat.pow_succ];congr 1;omega
 ·omega
theorem lq{g:St->Nat->Act}(f:MS->Nat->MS×Nat){c0:Cf}(r:Nat):∀ (n code:Nat) (x:MS) (c:Cf),Sn q D s x c->KV c0 c->iV l c.σ r n code->(∀ h C,({ c.σ with held:=h,count:=C }:St).act=({ c.σ with held:=h,count:=C }:St).symbol l g)->
  (∀ y d k m,Sn q D s y d->KV c0 d->EW l d.σ.held d.σ.count= .hit k m->Out q D s d (f (y.rd m) k))->Out q D s c (MS.DY (MS.symL l r n code x) f):=by
 induction r with
 | zero=>
  intro n code x c N F I o t;have v:c.σ.act= .fail 11:=by
   have h1:=o c.σ.held c.σ.count;have h2:({ c.σ with held:=c.σ.held,count:=c.σ.count }:St)=c.σ:=rfl;rw [h2] at h1;rw [h1];unfold St.symbol;rw [I.2.2 c.σ.held c.σ.count zL (yR N.sm.wf.held) N.sm.wf.held];rfl
  show Out q D s c ((x.refuse 11).1,3);exact Cn (z:=x) N v zD rfl rfl rfl
 | succ r ih=>
  intro n code x c N F I o t;have A:KU n c.σ:=fun h C h1 h2 h3 h4=>by
   rw [o h C];show (match EW l h C with | .hit k m=>_ | .more=>Act.take | .none=>_)=Act.take;rw [I.2.2 h C h1 h2 h3,scan,zC zO]
  obtain ⟨y,d,O⟩:=N.sm.Ab A;have Y:=N.Fv O;have eσ:=O.Fv.σ;rw [MS.symL];rcases O.res with ⟨e,hk,_⟩ | ⟨e,h1,h2⟩ | ⟨e,h1⟩
  ·rw [e];have u:KV c0 d:=⟨by rw [O.Fv.σ,F.σ],O.Fv.outs.trans F.outs,O.Fv.Br.trans F.Br,O.Fv.Aa.trans F.Aa,zG F.Cq O.Fv.Cq,by rw [<- F.mod,<- O.Fv.mod,AM _ (Nat.pow_dvd_pow 2 F.Cq)],zG F.pre O.Fv.pre,by have a:=F.nm;have b:=O.Fv.nm;omega⟩
   rw [zA zS];have w:=O.sm.held;have j:=I.2.2 d.σ.held d.σ.count O.Fv.Cq O.Fv.mod O.sm.wf.held;have B:=I.2.1;rw [scan,zA zO] at j;show Out q D s c (MS.DY (if 0<=find (Ax l) n ((2*code+y.held / 2^(n - 1)%2:Nat):Int) then _ else _) f);rw [w];by_cases i:0<=find (Ax l) n ((2*code+d.σ.held / 2^(n - 1)%2:Nat):Int)
   ·rw [zC i] at j |-;exact (t y d _ _ Y u j).after O.steps N.sm.wf
   ·rw [zA i];have p:∀ h C,({ d.σ with held:=h,count:=C }:St).act=({ d.σ with held:=h,count:=C }:St).symbol l g:=fun h C=>by rw [eσ];exact o h C
    exact (ih (n+1) _ y d Y u (I.next O.Fv.Cq O.Fv.mod hk i) p t).after O.steps N.sm.wf
  ·rw [e,zC zS];exact .Cr d O.steps rfl Y h1 h2
  ·rw [e,zC (by simp [MS.refuse])];exact .dead d 16 O.steps rfl (O.sm.dead zD Y.mC) h1
theorem Qs{g:St->Nat->Act}(N:Sn q D s x c)(b:∀ h C,({ c.σ with held:=h,count:=C }:St).act=({ c.σ with held:=h,count:=C }:St).symbol l g)(f:MS->Nat->MS×Nat)
  (d:∀ y a k m,Sn q D s y a->KV c a->EW l a.σ.held a.σ.count= .hit k m->Out q D s a (f (y.rd m) k)):Out q D s c (MS.DY (x.sym l) f):=by
 unfold MS.sym;rw [Vk];exact lq f _ 1 0 x c N (KV.refl N.sm.wf) (iV.start l c.σ) b d
theorem aZ(w:World):Calls prog 209 #[.int .u64 1, .int .u64 243] w fun e a=>e= .returned (.tuple #[.int .u64 0, .int .u64 243])/\w=a:=by
 go_enter func209,ntmps209
 go_wp2_with fail
 go_ret2
 exact ⟨zK,rfl⟩
theorem ft(w:World):Calls prog 190 #[.int .u64 1, .int .u64 243] w fun e a=>e= .returned (.tuple #[.int .u64 0, .int .u64 243])/\w=a:=by
 go_enter func190,ntmps190
 go_wp2_with fail
 refine (aZ w).mono ?_;rintro e a ⟨rfl,rfl⟩;go_wp2_with fail
 go_ret2
 exact ⟨rfl,rfl⟩
theorem dV(w:World):Calls prog 209 #[.int .u64 1, .int .u64 26] w fun e a=>e= .returned (.tuple #[.int .u64 0, .int .u64 26])/\w=a:=by
 go_enter func209,ntmps209
 go_wp2_with fail
 go_ret2
 exact ⟨zK,rfl⟩
theorem km(w:World):Calls prog 190 #[.int .u64 1, .int .u64 26] w fun e a=>e= .returned (.tuple #[.int .u64 0, .int .u64 26])/\w=a:=by
 go_enter func190,ntmps190
 go_wp2_with fail
 refine (dV w).mono ?_;rintro e a ⟨rfl,rfl⟩;go_wp2_with fail
 go_ret2
 exact ⟨rfl,rfl⟩
theorem dU(w:World):Calls prog 209 #[.int .u64 1, .int .u64 16] w fun e a=>e= .returned (.tuple #[.int .u64 0, .int .u64 16])/\w=a:=by
 go_enter func209,ntmps209
 go_wp2_with fail
 go_ret2
 exact ⟨zK,rfl⟩
theorem kl(w:World):Calls prog 190 #[.int .u64 1, .int .u64 16] w fun e a=>e= .returned (.tuple #[.int .u64 0, .int .u64 16])/\w=a:=by
 go_enter func190,ntmps190
 go_wp2_with fail
 refine (dU w).mono ?_;rintro e a ⟨rfl,rfl⟩;go_wp2_with fail
 go_ret2
 exact ⟨rfl,rfl⟩
def JE(v:Int)(N m:Nat):List Value:=List.replicate m (.int .i64 v)++List.replicate (N - m) (.int .i64 0)
theorem Vy(v:Int)(N m:Nat)(h:m<=N):(JE v N m).length=N:=by unfold JE;simp;omega
theorem Nz(v:Int)(N m k:Nat)(h:m+k<=N):splice (JE v N m) m (List.replicate k (.int .i64 v))=JE v N (m+k):=by
 unfold splice JE;rw [BN zS,xU zS];rw [List.drop_append,BX zS,AQ];simp only [yZ,BW];rw [<- List.append_assoc,CD];congr 2
 omega
theorem dn(v:Int)(N m i:Nat)(h:i<m):(JE v N m)[i]?=some (.int .i64 v):=by
 unfold JE;rw [kE (by simpa using h)];simp [h]
theorem dN(N:Nat):madeCells #[.int .i64 0] N=(List.replicate N (Value.int .i64 0)).toArray:=by
 apply Array.ext
 ·simp [vL]
 ·intro i h1 h2;simp [madeCells];rw [Nat.mod_one];rfl
theorem iP:(prog.info? 3).map (·.size)=some 1:=zK
theorem Xv(b:Nat)(v:Int)(N:Nat)(w:World)(hN:1<=N/\N<=1000)(hc:w.cell? ⟨b,0,none⟩=some (.int .i64 v))(S:b<w.heap.size)
  (hm:Calls prog 190 #[.int .u64 1, .int .u64 N] w fun e h=>e= .returned (.tuple #[.int .u64 0, .int .u64 N])/\w=h) :
  Calls prog 162 #[.slice (some ⟨b,0,none⟩) 1 1, .int .i64 N] w fun e h=>∃ g,e= .returned (.slice (some ⟨g,0,none⟩) N N)/\w.heap.size<=g/\g<h.heap.size/\h.heap[g]?=some (.cells (JE v N N).toArray 3 (0,0))/\Below w.heap.size w h:=by
 have Q:Hid (Calls prog 190 #[.int .u64 1, .int .u64 N] w fun e h=>e= .returned (.tuple #[.int .u64 0, .int .u64 N])/\w=h):=hm;clear hm;have J:=xZ (P:=prog) 69 3 (.int .i64 0) 8 underlying69 Gf rfl .i64 .i64 N zO zO;have z:(w.alloc (.cells (madeCells #[.int .i64 0] N) 3)).heap[w.heap.size]?=some (.cells (JE v N 0).toArray 3 (0,0)):=by
  rw [zJ,dN];unfold JE;simp
 have y:(w.alloc (.cells (madeCells #[.int .i64 0] N) 3)).cell? ⟨b,0,none⟩=some (.int .i64 v):=by
  unfold World.cell? at hc |-;rw [xQ _ _ S];exact hc
 have q:Below w.heap.size w (w.alloc (.cells (madeCells #[.int .i64 0] N) 3)):=zB.alloc zL _;have I:w.heap.size<(w.alloc (.cells (madeCells #[.int .i64 0] N) 3)).heap.size:=zS;go_enter func162,ntmps162
 go_wp2_with fail
 refine Q.out.mono ?_;rintro e h ⟨rfl,rfl⟩;go_wp2_with (refine wpList_copy_splice rfl _ _ 69 69 rfl 3 underlying69 iP (some ⟨w.heap.size,0,none⟩) (some ⟨b,0,none⟩) N N 1 1 rfl rfl w.heap.size 0 (JE v N 0) 3 z [.int .i64 v] (by show 1=Nat.min 1 N;have:=hN.1;simp [Nat.min_def];omega) (fun _=>⟨rfl,⟨b,0,none⟩,rfl,fun j u f=>(by have:j=0:=by { have:=(vH.1 f).1;simp at this;omega };subst this;simp at f;subst f;exact y)⟩) (by rw [Vy v N 0 zO];show 0+1<=N;omega) (by simp [Value.oneCell']) w.heap.size w q zL ?_;intro V A r)
 have O:Hid (V.heap[w.heap.size]?=some (.cells (JE v N 1).toArray 3 (0,0))/\Below w.heap.size w V):=by
  have:=A.out;rw [show ([.int .i64 v]:List Value)=List.replicate 1 (.int .i64 v) from rfl,Nz v N 0 1 zO] at this;exact ⟨this,r⟩
 clear A r z y q I J hc S Q;generalize hG:w.heap.size=G at *;have o:=hid hG;clear hG;go_loopw [8] (fun i wr=>∃ m:Nat,1<=m/\m<=N/\i= .int .i64 m/\Hid (wr.heap[G]?=some (.cells (JE v N m).toArray 3 (0,0))/\Below G w wr)) (fun i _=>N - (intOf i).toNat)
 case atStart=>exact ⟨1,zO,zO,rfl,O⟩
 case round=>
  clear O;obtain ⟨m,a2,hm,rfl,p⟩:=hrel;by_cases a1:m<N
  ·have a4:¬ N=m:=zO;have a3:(m:Int)<N:=zO;have l:wr.drew.heap[G]?=some (.cells (JE v N m).toArray 3 (0,0)):=p.out.1;have t:=p.out.2.drew;obtain ⟨k,hk⟩:=qe (Nat.min m (N - m));have n:1<=k/\k<=m/\m+k<=N:=by have:k=min m (N - m):=hk;omega
   have c:∀ j,j<m->wr.drew.cell? ⟨G,j,none⟩=some (.int .i64 v):=fun j F=>by
    rw [yA _ _ j _ _ _ l];simpa using dn v N m j F
   obtain ⟨cs,a⟩:=qe (List.replicate k (.int .i64 v):List Value);obtain ⟨cur,d⟩:=qe (JE v N m:List Value);have Z:Hid (wr.drew.heap[G]?=some (.cells cur.toArray 3 (0,0))):=by rw [d];exact l
   have C:Hid (cs.length=Nat.min m (N - m)):=by rw [a,yZ];exact hk
   have HP:Hid (∀ j u,cs[j]?=some u->wr.drew.cell? (Addr.add ⟨G,0,none⟩ j)=some u):=by
    intro j u f;rw [a] at f;have F:j<k:=by { have:=(vH.1 f).1;simpa using this }
    have L:u= .int .i64 v:=by { rw [vW,zC F] at f;exact (xE f).symm }
    subst L;have:=c j zO;have e1:Addr.add ⟨G,0,none⟩ j=⟨G,j,none⟩:=by unfold Addr.add;by_cases H:j=0 <;> simp [H]
    rw [e1];exact this
   have HF:Hid (m+cs.length<=cur.length):=by rw [d,a,Vy v N m hm,yZ];exact n.2.2
   have X:Hid (∀ u∈cs,u.oneCell'=true):=by
    intro u f;rw [a] at f;rw [List.eq_of_mem_replicate f];rfl
   have R:Hid (splice cur m cs=JE v N (m+k)):=by rw [d,a];exact Nz v N m k n.2.2
   have D:Hid (cs.length=k):=by rw [a];exact yZ
   have Y:=hid t;clear hk a d c l t;obtain ⟨a0,T,U⟩:(m:Int)+cs.length<=1000/\0<cs.length/\m+cs.length<=N:=by rw [D.out];omega
   have E:Hid (splice cur m cs=JE v N (m+cs.length)):=by rw [D.out];exact R.out
   clear R D n;go_wp2_with fail
   go_region_law
    ((refine step_copy_splice rfl (.tmp 41) (.tmp 44) 69 69 zK 3 underlying69 iP (some ⟨G,m,none⟩) (some ⟨G,0,none⟩) (N - m) (N - m) m N zK zK G m cur 3 Z.out cs C.out (fun _=>⟨rfl,⟨G,0,none⟩,rfl,HP.out⟩) HF.out X.out G w Y.out zL ?_;intro W B s))
   all_goals
    have HN:Hid (W.heap[G]?=some (.cells (JE v N (m+cs.length)).toArray 3 (0,0))/\Below G w W):=by
     have:=B.out;rw [E.out] at this;exact ⟨this,s⟩
    clear B s;have M:IntKind.i64.wrap ((m:Int)+cs.length)=((m+cs.length:Nat):Int):=by rw [kG,xW _ ⟨zO,zO⟩];omega
    simp only [zU,zP,zR,M];go_wp2_with fail
    go_roundw
    case rel=>exact ⟨_,_,_,_,_,_,_,_,_,_,_,_,_,_,⟨m+cs.length,zO,zO,rfl,HN⟩,rfl⟩
    case measure=>show N - ((m+cs.length:Nat):Int).toNat<N - ((m:Nat):Int).toNat;omega
  ·obtain rfl:m=N:=zO;go_wp2
   go_ret
   exact ⟨G,rfl,by rw [o.out];exact zE _,(yQ.1 p.out.1).1,p.out.1,by rw [o.out];exact p.out.2⟩
theorem GX(r:MS×Nat)(f g:MS->MS×Nat):MS.andThen (MS.andThen r f) g=MS.andThen r (fun y=>MS.andThen (f y) g):=by
 unfold MS.andThen;by_cases h:r.2=0
 ·rw [zC h,zC h]
 ·rw [zA h,zA h,zA h]
theorem Nj(r:MS×Nat×Nat)(f:MS->Nat->MS×Nat)(g:MS->MS×Nat):MS.andThen (MS.DY r f) g=MS.DY r (fun y k=>MS.andThen (f y k) g):=by
 unfold MS.andThen MS.DY;by_cases h:r.2.1=0
 ·rw [zC h,zC h]
 ·rw [zA h,zA h,zA h]
theorem CM(x:MS)(g:MS->MS×Nat):MS.andThen (x,0) g=g x:=rfl
theorem Hg(x:MS)(e:Nat)(g:MS->MS×Nat):MS.andThen (x.refuse e) g=x.refuse e:=rfl
theorem KV.st(F:KV c c'):c'.σ.st=c.σ.st:=by rw [F.σ]
theorem KV.fmt(F:KV c c'):c'.σ.fmt=c.σ.fmt:=by rw [F.σ]
theorem Dz(a:σ.st=n)(h:∀ h c,c<k->St.actAt n { σ with held:=h,count:=c }= .take):KU k σ:=fun H C _ _ _ hk=>by
 rw [St.Af (show ({ σ with held:=H,count:=C }:St).st=n from a)];exact h H C hk
theorem CW(W:St.Wf σ)(a:σ.act= .DF σ'):St.Wf σ':=by
 have N:=St.next W;rw [a] at N;exact N.1
theorem UF(N:Sn q D s x c)(d:c.σ.st=23):Out q D s c x.fF:=by
 refine Ei N (Dz d fun h C hk=>zC hk) _ fun y b Y F hk=>?_
 have a:=F.st.trans d;have hc:b.σ.count=8:=by
  have CN:=Y.sm.wf.CN;rw [a] at CN;have e:b.σ.count%8=0/\b.σ.count<=8:=CN;omega
 by_cases h2:y.fm=2
 ·rw [zC h2];exact .between b (.refl b) rfl { Y.sm with sum:=fun h=>absurd rfl h } rfl Y.mb a (by rw [<- Y.sm.fm];exact h2) hc Y.pre
 ·rw [zA h2];refine Cn Y ?_ zD rfl rfl rfl;rw [St.Af a];show St.Ab b.σ 8 _=_;unfold St.Ab;rw [zA zO,zC (by rw [<- Y.sm.fm];exact h2)]
theorem UE(N:Sn q D s x c)(d:c.σ.st=22):Out q D s c x.cE:=by
 unfold MS.cE MS.Bv;by_cases h2:x.fm=2
 ·have e:c.σ.fmt=2:=by rw [<- N.sm.fm];exact h2
  rw [zC h2,GX];refine Ei N (Dz d fun h C hk=>by simp only [St.actAt];rw [zC e];exact zC hk) _ fun y b Y F hk=>?_
  have f:=F.st.trans d;have a:b.σ.act=if b.σ.num 16=b.σ.om.length%65536 then .DF { b.σ.rd 16 with st:=23 } else .fail 13:=by
   rw [St.Af f];simp only [St.actAt,St.Ab];rw [zC (F.fmt.trans e),zA zO]
  have g:y.num 16=b.σ.num 16:=by unfold MS.num St.num;rw [Y.sm.held]
  by_cases h3:y.num 16=y.size
  ·rw [zC h3,CM];rw [zC (by rw [<- g,h3,Y.sm.size])] at a;refine CV Y.sm.wf a zO (UF ?_ rfl);exact ⟨{ Y.sm with
    wf:=CW Y.sm.wf a
    sum:=fun _=>Y.sm.sum (by rw [Y.st];omega)
    held:=by show y.held / 2^16=b.σ.held / 2^16;rw [Y.sm.held]
    count:=by show y.count - 16=b.σ.count - 16;rw [Y.sm.count]
    nl:=fun h=>absurd h (show ¬ (10<=23/\23<=14) by decide)
    nd:=fun h=>absurd h (show ¬ (11<=23/\23<=14) by decide)
    told:=fun h=>absurd h (show ¬ (12<=23/\23<=14) by decide)
    hs:=fun h=>absurd h (show ¬ (13<=23/\23<=14) by decide)
    hk:=fun h=>absurd h (show ¬ (23=14) by decide)
    la:=fun h=>absurd h (show ¬ (15<=23/\23<=20) by decide) },rfl,Y.mb,Y.pre⟩
  ·rw [zA h3,Hg];rw [zA (by rw [<- g,<- Y.sm.size];exact h3)] at a;exact Cn Y a zD rfl rfl rfl
 ·rw [zA h2,CM];have a:c.σ.act= .DF { c.σ with st:=23 }:=by
   rw [St.Af d];simp only [St.actAt];rw [zA (by rw [<- N.sm.fm];exact h2)]
  refine CV N.sm.wf a zO (UF ?_ rfl);exact ⟨{ N.sm with
   wf:=CW N.sm.wf a
   sum:=fun _=>N.sm.sum (by rw [N.st];omega)
   nl:=fun h=>absurd h (show ¬ (10<=23/\23<=14) by decide)
   nd:=fun h=>absurd h (show ¬ (11<=23/\23<=14) by decide)
   told:=fun h=>absurd h (show ¬ (12<=23/\23<=14) by decide)
   hs:=fun h=>absurd h (show ¬ (13<=23/\23<=14) by decide)
   hk:=fun h=>absurd h (show ¬ (23=14) by decide)
   la:=fun h=>absurd h (show ¬ (15<=23/\23<=20) by decide) },rfl,N.mb,N.pre⟩
theorem eQ(l:List Nat):∀ k,k<=l.length->sxy (fun k=>((l.getD k 0:Nat):Int)) k=(((LL (l.take k)).1:Int),((LL (l.take k)).2:Int)):=by
 intro k;induction k with
 | zero=>intro _;rfl
 | succ k ih=>
  intro hk;have e:l.take (k+1)=l.take k++[l.getD k 0]:=by
   rw [List.take_succ,yF,xR zO];rfl
  rw [e,Sq,sxy,ih zO];simp
theorem bF(om:List Nat):Tr.Qp om=65536*((LL om).2:Int)+(LL om).1:=by
 unfold Tr.Qp;rw [eQ om om.length zL,vG]
theorem gn(N:Sn q D s x c)(d:c.σ.st=21):Out q D s c x.fE:=by
 unfold MS.fE MS.Cu;by_cases h2:x.fm=0
 ·rw [zC h2,CM];have a:c.σ.act= .DF { c.σ with st:=22 }:=by
   rw [St.Af d];simp only [St.actAt];rw [zC (by rw [<- N.sm.fm];exact h2)]
  refine CV N.sm.wf a zO (UE ?_ rfl);exact ⟨{ N.sm with
   wf:=CW N.sm.wf a
   sum:=fun _=>N.sm.sum (by rw [N.st];omega)
   nl:=fun h=>absurd h (show ¬ (10<=22/\22<=14) by decide)
   nd:=fun h=>absurd h (show ¬ (11<=22/\22<=14) by decide)
   told:=fun h=>absurd h (show ¬ (12<=22/\22<=14) by decide)
   hs:=fun h=>absurd h (show ¬ (13<=22/\22<=14) by decide)
   hk:=fun h=>absurd h (show ¬ (22=14) by decide)
   la:=fun h=>absurd h (show ¬ (15<=22/\22<=20) by decide) },rfl,N.mb,N.pre⟩
 ·have e:¬ c.σ.fmt=0:=by rw [<- N.sm.fm];exact h2
  rw [zA h2,GX];refine Ei N (Dz d fun h C hk=>by simp only [St.actAt];rw [zA e];exact zC hk) _ fun y b Y F hk=>?_
  have g:=F.st.trans d;have a:b.σ.act=if (Lb b.σ.held:Int)=Tr.Qp b.σ.om then .DF { b.σ.rd 32 with st:=22 } else .fail 12:=by
   rw [St.Af g];simp only [St.actAt,St.Ab];rw [zA (by rw [F.fmt];exact e),zA zO]
  have f:=Y.sm.sum (by rw [Y.st];omega);have i:y.sx=(LL b.σ.om).1:=by rw [<- f]
  have j:y.sy=(LL b.σ.om).2:=by rw [<- f]
  have k:Lb y.held=65536*y.sy+y.sx↔(Lb b.σ.held:Int)=Tr.Qp b.σ.om:=by
   rw [bF,Y.sm.held,i,j];omega
  by_cases h3:Lb y.held=65536*y.sy+y.sx
  ·rw [zC h3,CM];rw [zC (k.1 h3)] at a;refine CV Y.sm.wf a zO (UE ?_ rfl);exact ⟨{ Y.sm with
    wf:=CW Y.sm.wf a
    sum:=fun _=>Y.sm.sum (by rw [Y.st];omega)
    held:=by show y.held / 2^32=b.σ.held / 2^32;rw [Y.sm.held]
    count:=by show y.count - 32=b.σ.count - 32;rw [Y.sm.count]
    nl:=fun h=>absurd h (show ¬ (10<=22/\22<=14) by decide)
    nd:=fun h=>absurd h (show ¬ (11<=22/\22<=14) by decide)
    told:=fun h=>absurd h (show ¬ (12<=22/\22<=14) by decide)
    hs:=fun h=>absurd h (show ¬ (13<=22/\22<=14) by decide)
    hk:=fun h=>absurd h (show ¬ (22=14) by decide)
    la:=fun h=>absurd h (show ¬ (15<=22/\22<=20) by decide) },rfl,Y.mb,Y.pre⟩
  ·rw [zA h3,Hg];rw [zA (fun h=>h3 (k.2 h))] at a;exact Cn Y a zD rfl rfl rfl
theorem MZ(N:Sn q D s x c)(σ0:St)(y:MS)(h0:σ0={ c.σ with held:=σ0.held,count:=σ0.count })(b:y={ x with held:=σ0.held,count:=σ0.count })(a:c.σ.act=σ0.endBlock)(d:c.σ.st≠23)(g:σ0.held<2^σ0.count):Out q D s c y.endBlock:=by
 have hl:y.last=σ0.last:=by rw [b,h0];exact N.sm.last
 unfold MS.endBlock;unfold St.endBlock at a;by_cases h1:y.last=true
 ·rw [zC h1];rw [zC (by rw [<- hl];exact h1)] at a;unfold MS.EE;have f:({ y with st:=22 }:MS).num ({ y with st:=22 }:MS).count=σ0.held:=by
   show y.held%2^y.count=σ0.held;rw [b];exact yR g
  rw [f];by_cases h2:σ0.held=0
  ·rw [zA (by simp [h2])] at a;rw [zC h2];refine go_now N.sm.wf a d ?_
   have e:({ y with st:=22 }:MS).rd ({ y with st:=22 }:MS).count={ x with held:=0,count:=0,st:=22 }:=by
    unfold MS.rd;rw [b];simp [h2]
   rw [e];rw [h0] at a |-;exact ⟨{ N.sm with
    wf:=CW N.sm.wf a
    sum:=fun _=>N.sm.sum (by rw [N.st];omega)
    held:=rfl
    count:=rfl
    nl:=fun h=>absurd h (show ¬ (10<=21/\21<=14) by decide)
    nd:=fun h=>absurd h (show ¬ (11<=21/\21<=14) by decide)
    told:=fun h=>absurd h (show ¬ (12<=21/\21<=14) by decide)
    hs:=fun h=>absurd h (show ¬ (13<=21/\21<=14) by decide)
    hk:=fun h=>absurd h (show ¬ (21=14) by decide)
    la:=fun h=>absurd h (show ¬ (15<=21/\21<=20) by decide) },rfl,N.mb,N.pre⟩
  ·rw [zC h2] at a;rw [zA h2];exact Cn N a zD (by rw [b];rfl) (by rw [b];rfl) (by rw [b];rfl)
 ·rw [zA h1];rw [zA (by rw [<- hl];exact h1)] at a;refine go_now N.sm.wf a d ?_
  rw [b];rw [h0] at a |-;exact ⟨{ N.sm with
   wf:=CW N.sm.wf a
   sum:=fun _=>N.sm.sum (by rw [N.st];omega)
   held:=rfl
   count:=rfl
   nl:=fun h=>absurd h (show ¬ (10<=6/\6<=14) by decide)
   nd:=fun h=>absurd h (show ¬ (11<=6/\6<=14) by decide)
   told:=fun h=>absurd h (show ¬ (12<=6/\6<=14) by decide)
   hs:=fun h=>absurd h (show ¬ (13<=6/\6<=14) by decide)
   hk:=fun h=>absurd h (show ¬ (6=14) by decide)
   la:=fun h=>absurd h (show ¬ (15<=6/\6<=20) by decide) },rfl,N.mb,N.pre⟩
theorem KB(n:Nat):(Builtin.zeroCells #[.int .i64 0] n).size=n:=by simp [Builtin.zeroCells]
theorem cX(w:World):Calls prog 195 #[.slice none 0 0, .int .i64 269] w fun e a=>∃ g cap,e= .returned (.slice (some ⟨g,0,none⟩) 0 cap)/\a.ownsRow w.heap.size 3 1 (.slice (some ⟨g,0,none⟩) 0 cap) 0 []/\g<a.heap.size/\269<=cap/\Below w.heap.size w a:=by
 go_enter func195,ntmps195
 go_wp2
 go_ret
 have h1:=grownCap_ge w 269 0 3;have h2:=grownCap_le_maxLen w 269 0 3 (by unfold maxLen;omega);refine ⟨_,_,rfl,⟨rfl,Or.inr ⟨_,_,_,rfl,zE _,zJ _ _,zH _,h2,?_,?_⟩⟩,?_,h1,?_⟩
 ·rw [Array.size_append,KB,KB];show 269+(grownCap w 269 0 3 - 269)=grownCap w 269 0 3*1;omega
 ·simp
 ·simp
 ·exact ((zF w.heap.size w).alloc zL _).drew
def JU(w:World)(g:Nat)(l:List Int):Prop:=w.heap[g]?=some (.cells (Al l).toArray 3 (0,0))
theorem JU.lt(h:JU w g l):g<w.heap.size:=(yQ.1 h).1
theorem JU.kept(h:JU w g l)(a:Below B w w')(b:g<B):JU w' g l:=by
 unfold JU at h |-;rw [a.block g b];exact h
theorem JU.news(h:JU w g l)(hl:l.length=n):(Al l).length=n*1/\(∀ j u,(Al l)[j]?=some u->w.cell? (Addr.add ⟨g,0,none⟩ j)=some u)/\∀ u∈Al l,u.oneCell'=true:=by
 refine ⟨by simp [Al,hl],xS h,fun u a=>?_⟩;unfold Al at a;obtain ⟨x,_,rfl⟩:=vT.1 a;rfl
theorem dc{base:Nat}{e:TypeId}{xs:List Value}(h:w.ownsRow base e 1 (.slice (some ⟨g,0,none⟩) n cap) n xs):∀ k,(Value.slice (some ⟨g,0,none⟩) n cap).ownBlock=some k->base<=k:=by
 intro k hk;obtain rfl:g=k:=by simpa [Value.ownBlock] using hk
 rcases h.2 with ⟨e,_⟩ | ⟨b,a,cur,e,h1,_⟩
 ·cases e
 ·injection e with e1
  injection e1 with e1
  injection e1 with e1
  subst e1;exact h1
theorem Wy{q a:Nat}{A Bl:List Int}(hq:w.heap[q]?=some (.cells #[.slice (some ⟨a,0,none⟩) 243 243, .slice (some ⟨b,0,none⟩) 26 26] 69 (0,0)))
  (I:JU w a A) (C:JU w b Bl) (la:A.length=243) (lb:Bl.length=26) :
  Calls prog 164 #[.slice (some ⟨q,0,none⟩) 2 2] w fun e k=>∃ g cap,e= .returned (.slice (some ⟨g,0,none⟩) 269 cap)/\k.ownsRow w.heap.size 3 1 (.slice (some ⟨g,0,none⟩) 269 cap) 269 (Al (A++Bl))/\g<k.heap.size/\Below w.heap.size w k:=by
 have D:Hid (∀ k,Below w.heap.size w k->k.cell? ⟨q,0,none⟩=some (.slice (some ⟨a,0,none⟩) 243 243)/\k.cell? ⟨q,1,none⟩=some (.slice (some ⟨b,0,none⟩) 26 26)):=fun k C=>by
  have r:k.heap[q]?=some (.cells #[.slice (some ⟨a,0,none⟩) 243 243, .slice (some ⟨b,0,none⟩) 26 26] 69 (0,0)):=by rw [C.block q (yQ.1 hq).1];exact hq
  exact ⟨by rw [yA _ _ _ _ _ _ r];rfl,by rw [yA _ _ _ _ _ _ r];rfl⟩
 obtain ⟨F,c1⟩:=D.out w zB;have B:=CL I C;clear hq I C;go_enter func164,ntmps164
 go_wp2_with fail
 go_loop [3,11] (fun t i=>(i= .int .i64 0/\t= .int .i64 0)\/(i= .int .i64 1/\t= .int .i64 243)\/(i= .int .i64 2/\t= .int .i64 269)) (fun _ i=>2 - (intOf i).toNat)
 case atStart=>exact Or.inl ⟨rfl,rfl⟩
 case round=>
  rcases hrel with ⟨rfl,rfl⟩ | ⟨rfl,rfl⟩ | ⟨rfl,rfl⟩
  ·go_wp2_with fail
   go_round
   case rel=>exact Or.inr (Or.inl ⟨rfl,rfl⟩)
   case measure=>simp [intOf]
  ·go_wp2_with fail
   go_round
   case rel=>exact Or.inr (Or.inr ⟨rfl,rfl⟩)
   case measure=>simp [intOf]
  ·go_wp2_with fail
   refine (cX w).mono ?_;rintro e w1 ⟨g,cap,rfl,L,J,hc,H⟩;have G:=Ji L J H;clear L J H F c1;go_wp2_with fail
   obtain ⟨i3,p,l⟩:=kW.1 Gf;simp only [vF] at l;obtain ⟨s,u,y⟩:=l;go_loopw [6,27] (fun v i wr=>∃ g cap,((i= .int .i64 0/\v= .slice (some ⟨g,0,none⟩) 0 cap/\Hid (wr.ownsRow w.heap.size 3 1 (.slice (some ⟨g,0,none⟩) 0 cap) 0 (Al [])/\g<wr.heap.size/\Below w.heap.size w wr))\/(i= .int .i64 1/\v= .slice (some ⟨g,0,none⟩) 243 cap/\Hid (wr.ownsRow w.heap.size 3 1 (.slice (some ⟨g,0,none⟩) 243 cap) 243 (Al A)/\g<wr.heap.size/\Below w.heap.size w wr))\/(i= .int .i64 2/\v= .slice (some ⟨g,0,none⟩) 269 cap/\Hid (wr.ownsRow w.heap.size 3 1 (.slice (some ⟨g,0,none⟩) 269 cap) 269 (Al (A++Bl))/\g<wr.heap.size/\Below w.heap.size w wr)))) (fun _ i _=>2 - (intOf i).toNat)
   case atStart=>exact ⟨g,cap,Or.inl ⟨rfl,rfl,G⟩⟩
   case round=>
    clear G hc;obtain ⟨g,cap,⟨rfl,rfl,f⟩ | ⟨rfl,rfl,f⟩ | ⟨rfl,rfl,f⟩⟩:=hrel
    ·obtain ⟨F,c1⟩:=D.out wr f.out.2.2;have n:=hid (JU.news (B.out.1.kept f.out.2.2 B.out.1.lt) la);go_wp2_with (at_builtin;refine xC _ rfl _ _ 69 rfl w.heap.size 3 i3 (.int .i64 0) 1 8 underlying69 p s u y rfl zD _ 0 (Al []) rfl f.out.1 ⟨a,0,none⟩ 243 243 (Al A) rfl n.out.1 n.out.2.1 n.out.2.2 zO (by unfold maxLen;omega) zO f.out.2.2.size wr.heap.size rfl ?_;intro g2 z o d c j h)
     have E:Hid (o.ownsRow w.heap.size 3 1 (.slice (some ⟨g2,0,none⟩) 243 z) 243 (Al A)/\g2<o.heap.size/\Below w.heap.size w o):=⟨d,h,f.out.2.2.grown c f.out.2.2.size (dc f.out.1)⟩
     clear d h c j;go_wp2_with fail
     go_roundw
     case rel=>exact ⟨g2,z,Or.inr (Or.inl ⟨rfl,rfl,E⟩)⟩
     case measure=>simp [intOf]
    ·obtain ⟨F,c1⟩:=D.out wr f.out.2.2;have n:=hid (JU.news (B.out.2.kept f.out.2.2 B.out.2.lt) lb);go_wp2_with (at_builtin;refine xC _ rfl _ _ 69 rfl w.heap.size 3 i3 (.int .i64 0) 1 8 underlying69 p s u y rfl zD _ 243 (Al A) rfl f.out.1 ⟨b,0,none⟩ 26 26 (Al Bl) rfl n.out.1 n.out.2.1 n.out.2.2 zO (by unfold maxLen;omega) zO f.out.2.2.size wr.heap.size rfl ?_;intro g2 z o d c j h)
     have E:Hid (o.ownsRow w.heap.size 3 1 (.slice (some ⟨g2,0,none⟩) 269 z) 269 (Al (A++Bl))/\g2<o.heap.size/\Below w.heap.size w o):=⟨by unfold Al at d |-;rw [jQ];exact d,h,f.out.2.2.grown c f.out.2.2.size (dc f.out.1)⟩
     clear d h c j;go_wp2_with fail
     go_roundw
     case rel=>exact ⟨g2,z,Or.inr (Or.inr ⟨rfl,rfl,E⟩)⟩
     case measure=>simp [intOf]
    ·go_wp2
     go_ret
     exact ⟨g,cap,rfl,f.out.1,f.out.2.1,f.out.2.2⟩
end Go.Proofs.YtbcjmakpempkiaaGreatDoor
