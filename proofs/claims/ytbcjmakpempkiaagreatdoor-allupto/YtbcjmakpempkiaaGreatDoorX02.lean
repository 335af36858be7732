import Derived.Test.YtbcjmakpempkiaaGreatDoorX00
set_option maxRecDepth 100000
set_option maxHeartbeats 8000000
set_option linter.all false
namespace Go.Proofs.YtbcjmakpempkiaaGreatDoor
variable {B p:Nat} {va vo vs:Value} {t:Tr}
open Go.Proofs.Tryz
open Go.RowKit
theorem ea(w:World)(h:Ft B p vo va vs t w) :
  Calls prog 203 #[.pointer (some ⟨p,0,none⟩)] w fun x l=>x= .returned (.tuple #[])/\Kept B p vo va vs t.skip w l:=by
 have b:=hid h;have d:w.cell? ⟨p,7,none⟩=some (.int .i64 t.cur):=h.row.cell (i:=7) zO;have f:w.cell? ⟨p,8,none⟩=some (.int .i64 t.left):=h.row.cell (i:=8) zO;have n:=h.row.frozen 8;clear h;by_cases hl:0<t.left
 ·by_cases hc:t.cur=0
  ·have e:t.skip={ t with left:=0 }:=by unfold Tr.skip;rw [zA zO]
   have K:Hid (Kept B p vo va vs t.skip w (w.setCell ⟨p,8,none⟩ (.int .i64 0))):=by
    show Kept _ _ _ _ _ _ _ _;rw [e];exact JK (Kept.refl b.out) 0
   rw [hc] at d;clear e;go_enter func203,ntmps203
   go_wp2
   go_end0
   exact ⟨rfl,K.out⟩
  ·have e:t.skip={ t.fail 8 with left:=0 }:=by unfold Tr.skip;rw [zC zO]
   have K:Hid (∀ w1,Kept B p vo va vs (t.fail 8) w w1->Kept B p vo va vs t.skip w (w1.setCell ⟨p,8,none⟩ (.int .i64 0))):=by
    intro w1 k;rw [e];exact JK k 0
   have j:((t.cur:Int)==0)=false:=by simp;omega
   clear e;go_enter func203,ntmps203
   go_wp2_with fail
   refine (Dn 8 _ b.out).mono ?_;rintro e w1 ⟨rfl,a⟩;have o:=a.inv.row.frozen 8;have g:=a.inv.row.cell (i:=8) zO;have c:=hid a;clear a;go_wp2
   go_end0
   exact ⟨rfl,K.out _ c.out⟩
 ·have h0:t.left=0:=zO;have e:t.skip={ t with left:=0 }:=by unfold Tr.skip;rw [zA zO]
  have K:Hid (Kept B p vo va vs t.skip w (w.setCell ⟨p,8,none⟩ (.int .i64 0))):=by
   show Kept _ _ _ _ _ _ _ _;rw [e];exact JK (Kept.refl b.out) 0
  rw [h0] at f;clear e;go_enter func203,ntmps203
  go_wp2
  go_end0
  exact ⟨rfl,K.out⟩
def Jy(n:Nat):Nat:=2^n
theorem RB(m:Nat)(h:m<=16):0<Jy m/\Jy m<=65536:=⟨kB zD,yP (n:=2) zD h⟩
theorem RC(m:Nat):Jy (m+1)=2*Jy m:=by unfold Jy;rw [yN];omega
theorem NU(n:Nat)(w:World)(f:n<=16) :
  Calls prog 211 #[.int .i64 n] w fun e d=>e= .returned (.int .i64 (Jy n))/\w=d:=by
 go_enter func211,ntmps211
 go_wp2
 go_loop [3,4] (fun s i=>∃ m x:Nat,m<=n/\x<=65536/\i= .int .i64 m/\s= .int .i64 x/\x=Jy m) (fun _ i=>n - (intOf i).toNat)
 case atStart=>exact ⟨0,1,zO,zO,rfl,rfl,rfl⟩
 case round=>
  obtain ⟨m,x,hm,hx,rfl,rfl,a⟩:=hrel;have b:=hid a;clear a;by_cases c:m<n
  ·go_wp2
   go_round
   case rel=>
    refine ⟨m+1,2*x,zO,?_,by go_num,by go_num,?_⟩
    ·rw [b.out];have:=(RB (m+1) zO).2;rw [RC] at this;omega
    ·rw [b.out,RC]
   case measure=>simp [intOf];omega
  ·obtain rfl:m=n:=zO;go_wp2
   go_ret
   exact ⟨by rw [<- b.out];rfl,rfl⟩
theorem FG(n:Nat)(w:World)(h:Ft B p vo va vs t w)(r:t.Ao)(hs:t.s.size<=maxLen)(I:n<=16) :
  Calls prog 198 #[.pointer (some ⟨p,0,none⟩), .int .i64 n] w fun x H=>x= .returned (.int .i64 (t.number n).1)/\Kept B p vo va vs (t.number n).2 w H:=by
 have A:Hid t.Ao:=r;have D:=hid hs;have C:=hid h;clear h r hs;go_enter func198,ntmps198
 go_wp2_with fail
 go_loopw [5,6] (fun v i wr=>∃ k x:Nat,k<=n/\i= .int .i64 k/\v= .int .i64 x/\x=(t.number k).1/\Kept B p vo va vs (t.number k).2 w wr) (fun _ i _=>n - (intOf i).toNat)
 case atStart=>exact ⟨0,0,zH _,rfl,rfl,rfl,Kept.refl C.out⟩
 case round=>
  obtain ⟨k,x,hk,rfl,rfl,hx,a⟩:=hrel;have d:=hid hx;have c:=hid a;have G:x<65536:=by rw [hx];have:=Tr.Dy t k;have:2^k<=2^16:=yP zD zO;omega
  clear hx a;by_cases F:k<n
  ·go_wp2_with fail
   refine (eV _ c.out.inv (A.out.number k) (by rw [(Tr.Bb t k).s];exact D.out)).mono ?_;rintro e w1 ⟨rfl,u⟩;have o:Hid (Kept B p vo va vs (t.number (k+1)).2 w w1):=c.out.trans u;clear u;have q:(t.number k).2.bit.1<=1:=by show _%2<=1;omega
   obtain ⟨y,f⟩:=qe ((t.number k).2.bit.1);rw [<- f] at q |-;have l:=hid f;clear f;go_wp2_with fail
   refine (NU k _ zO).mono ?_;rintro e w2 ⟨rfl,rfl⟩;have j:=(RB k zO).2;obtain ⟨z,g⟩:=qe (Jy k);rw [<- g] at j |-;have E:Hid (z=2^k):=g;clear g;have b:y=0\/y=1:=zO;clear q;rcases b with rfl | rfl
   ·go_wp2_with fail
    go_roundw
    case rel=>
     refine ⟨k+1,x,zO,by go_num,rfl,?_,o.out⟩;show x=(t.number k).1+(t.number k).2.bit.1*2^k;rw [<- l.out,d.out];omega
    case measure=>simp [intOf];omega
   ·go_wp2_with fail
    go_roundw
    case rel=>
     refine ⟨k+1,x+z,zO,by go_num,by go_num,?_,o.out⟩;show x+z=(t.number k).1+(t.number k).2.bit.1*2^k;rw [<- l.out,d.out,E.out];omega
    case measure=>simp [intOf];omega
  ·obtain rfl:k=n:=zO;go_wp2
   go_ret
   exact ⟨by rw [<- d.out];rfl,c.out⟩
def Kk(w:World)(ad:Option Addr)(P:List ByteArray):Prop:=∀ k (hk:k<P.length),∃ b o,ad=some ⟨b,o,none⟩/\b<w.heap.size/\w.cell? ⟨b,o+k,none⟩=some (.string P[k])
theorem He(n:Int)(h₀:0<=n)(h₁:n<2^64):IntKind.u64.wrap n=n:=by
 rw [IntKind.wrap_u64];have:(2:Int)^64=18446744073709551616:=zD;omega
theorem dh{k:Nat}(hk:k<=63):2^k<2^64:=Nat.pow_lt_pow_right zD zO
theorem Lz{a j:Nat}(h:a<2^j):(a:Int)<2^j:=by exact_mod_cast h
theorem lE(h c b:Nat)(g:b<256)(hc:c<=56)(f:h<2^c):bits .or .u64 (h:Int) (IntKind.u64.wrap ((b:Int)*2^c))=((h+2^c*b:Nat):Int):=by
 have d:2^c*b<2^64:=by
  have h1:2^c*b<2^c*2^8:=Nat.mul_lt_mul_of_pos_left g (vP c);rw [<- Nat.pow_add] at h1;exact zM h1 (yP zD zO)
 have e:(b:Int)*2^c=((2^c*b:Nat):Int):=by rw [vQ];simp
 have a:h<2^64:=zM f (yP zD zO);rw [e,He _ zO (Lz d),(bits_nat .u64 64 zD He h _ a d).2,Nat.or_comm,<- Nat.two_pow_add_eq_or_of_lt f,Nat.add_comm]
theorem ev(h k:Nat)(hk:k<=63)(b:h<2^64):bits .and .u64 (h:Int) (IntKind.u64.wrap (IntKind.u64.wrap (2^k) - 1))=((h%2^k:Nat):Int):=by
 have e:((2:Int)^k)=((2^k:Nat):Int):=zS;have hp:=vP k;have hl:=dh hk;have a:((2^k:Nat):Int) - 1=((2^k - 1:Nat):Int):=zO;rw [e,He _ zO (Lz hl),a,He _ zO (Lz zO),(bits_nat .u64 64 zD He h _ b zO).1,Nat.and_two_pow_sub_one_eq_mod]
theorem bf(h:Nat)(a:h<2^64):bits .and .u64 (h:Int) 1=((h%2:Nat):Int):=by
 have:=bits_mask .u64 64 zD He 1 zD (h:Int) zO (Lz a);have e:((2:Int)^1 - 1)=1:=zD;rw [e] at this;rw [this];simp
theorem RI(n:Nat)(h:n<2^63):wrap64 (n:Int)=(n:Int):=by
 have h2:(2:Nat)^63=9223372036854775808:=zD;exact xW _ ⟨zO,zO⟩
theorem ew(g o h c b:Nat)(w:World)(a:b<256)(hc:c<=56)(d:h<2^c)
  (c1:w.cell? ⟨g,o,none⟩=some (.int .u64 h)) (c2:w.cell? ⟨g,o+1,none⟩=some (.int .i64 c)) (f:w.frozen? ⟨g,o,none⟩=false) (i:w.frozen? ⟨g,o+1,none⟩=false) :
  Calls prog 188 #[.pointer (some ⟨g,o,none⟩), .int .u8 b] w fun x e=>x= .returned (.tuple #[])/\∃ n,e=((w.drewN n).setCell ⟨g,o,none⟩ (.int .u64 (h+2^c*b:Nat))).setCell ⟨g,o+1,none⟩ (.int .i64 (c+8:Nat)):=by
 go_enter func188,ntmps188
 go_wp2_with fail
 go_region
 all_goals
  go_wp2
  go_end0
  refine ⟨rfl,1,?_⟩;rw [lE h c b a hc d];rfl
theorem Uq(g o h c k:Nat)(w:World)(hk:k<=c)(hc:c<=63)(f:h<2^c)
  (c1:w.cell? ⟨g,o,none⟩=some (.int .u64 h)) (c2:w.cell? ⟨g,o+1,none⟩=some (.int .i64 c)) (j:w.frozen? ⟨g,o,none⟩=false) (l:w.frozen? ⟨g,o+1,none⟩=false) :
  Calls prog 134 #[.pointer (some ⟨g,o,none⟩), .int .i64 k] w fun x i=>x= .returned (.int .i64 (h%2^k:Nat))/\∃ n,i=((w.drewN n).setCell ⟨g,o,none⟩ (.int .u64 (h / 2^k:Nat))).setCell ⟨g,o+1,none⟩ (.int .i64 (c - k:Nat)):=by
 go_enter func134,ntmps134
 go_wp2_with fail
 go_quiet (fail)
 go_wp2
 go_ret
 have b:h<2^64:=zM f (yP zD zO);have a:h%2^k<2^63:=zM (yC _ (vP k)) (yP zD zO);refine ⟨?_,nq,?_⟩
 ·show Ending.returned (Value.int .i64 (wrap64 (bits BinOp.and IntKind.u64 (h:Int) (IntKind.u64.wrap (IntKind.u64.wrap (2^k) - 1)))))=_;rw [ev h k zO b,RI _ a]
 ·have d:(h:Int) / 2^k=((h / 2^k:Nat):Int):=zS;have e:(c:Int) - k=((c - k:Nat):Int):=zO;rw [d,e]
theorem iY(g o h c k:Nat)(w:World)(hk:k<c)(hc:c<=63)(d:h<2^c)
  (c1:w.cell? ⟨g,o,none⟩=some (.int .u64 h)) :
  Calls prog 171 #[.pointer (some ⟨g,o,none⟩), .int .i64 k] w fun x e=>x= .returned (.int .i64 (h / 2^k%2:Nat))/\∃ n,e=w.drewN n:=by
 go_enter func171,ntmps171
 go_wp2
 go_ret
 have a:h / 2^k<2^64:=vR (Nat.div_le_self _ _) (zM d (yP zD zO));refine ⟨?_,0,rfl⟩;show Ending.returned (Value.int .i64 (wrap64 (bits BinOp.and IntKind.u64 ((h:Int) / 2^k) 1)))=_;have b:(h:Int) / 2^k=((h / 2^k:Nat):Int):=zS;rw [b,bf _ a,RI _ zO]
def Pe(fm ou ra sl me he sp:Nat):Array Value:=#[.int .i64 fm, .int .i64 ou, .int .i64 ra, .int .i64 sl, .int .i64 me, .int .i64 he, .int .i64 sp]
def LP(tk pu mb:Nat):Array Value:=#[.int .i64 tk, .int .i64 pu, .int .i64 mb]
theorem Qw(tk pu mb:Nat)(w:World)(h:tk+pu<=9223372036854775807) :
  Calls prog 58 #[.agg (LP tk pu mb)] w fun x a=>x= .returned (.int .i64 (tk+pu:Nat))/\Below w.heap.size w a:=by
 unfold LP;go_enter func58,ntmps58
 go_wp2
 go_ret
 refine ⟨?_,zB.alloc zL _⟩;show Ending.returned (Value.int .i64 _)=_;simp
structure Kl(w W:World)(g:Nat)(fm ou ra sl me he sp tk pu mb:Nat):Prop where
 t0:W.cell? ⟨g,0,none⟩=some (.int .i64 tk)
 t1:W.cell? ⟨g,1,none⟩=some (.int .i64 pu)
 t2:W.cell? ⟨g,2,none⟩=some (.int .i64 mb)
 c1:W.cell? ⟨g+1,1,none⟩=some (.int .i64 ou)
 c2:W.cell? ⟨g+1,2,none⟩=some (.int .i64 ra)
 c3:W.cell? ⟨g+1,3,none⟩=some (.int .i64 sl)
 c6:W.cell? ⟨g+1,6,none⟩=some (.int .i64 sp)
 bel:Below w.heap.size w W
 g2:g+1<W.heap.size
theorem Kl.nz(w:World)(fm ou ra sl me he sp tk pu mb T U:Nat):Kl w ((w.alloc (.cells (LP tk pu mb) T)).alloc (.cells (Pe fm ou ra sl me he sp) U)) w.heap.size fm ou ra sl me he sp tk pu mb:=by
 unfold LP Pe;have a:∀ i,((w.alloc (.cells #[.int .i64 tk, .int .i64 pu, .int .i64 mb] T)).alloc (.cells #[.int .i64 fm, .int .i64 ou, .int .i64 ra, .int .i64 sl, .int .i64 me, .int .i64 he, .int .i64 sp] U)).cell? ⟨w.heap.size,i,none⟩=(w.alloc (.cells #[.int .i64 tk, .int .i64 pu, .int .i64 mb] T)).cell? ⟨w.heap.size,i,none⟩:=fun i=>by
  unfold World.cell?;rw [xQ _ _ zS]
 refine ⟨by rw [a];simp,by rw [a];simp,by rw [a];simp,?_,?_,?_,?_,(zB.alloc zL _).alloc zS _,zS⟩;all_goals
  have:=zJ (w.alloc (.cells #[.int .i64 tk, .int .i64 pu, .int .i64 mb] T)) (.cells #[.int .i64 fm, .int .i64 ou, .int .i64 ra, .int .i64 sl, .int .i64 me, .int .i64 he, .int .i64 sp] U);simp only [World.size_alloc] at this;unfold World.cell?;rw [this];rfl
theorem Kl.step{w W W':World}{g:Nat}{fm ou ra sl me he sp tk pu mb:Nat}(h:Kl w W g fm ou ra sl me he sp tk pu mb)(b:Below W.heap.size W W'):Kl w W' g fm ou ra sl me he sp tk pu mb:=by
 have l:g<W.heap.size:=by have:=h.g2;omega
 exact ⟨(b.cell l).trans h.t0,(b.cell l).trans h.t1,(b.cell l).trans h.t2,(b.cell h.g2).trans h.c1,(b.cell h.g2).trans h.c2,(b.cell h.g2).trans h.c3,(b.cell h.g2).trans h.c6,h.bel.trans (b.mono h.bel.size),zM h.g2 b.size⟩
theorem JP(fm ou ra sl me he sp tk pu mb:Nat)(w:World)(h:tk+pu<=9223372036854775807)(s:sp<=9223372036854775807) :
  Calls prog 187 #[.agg (LP tk pu mb), .agg (Pe fm ou ra sl me he sp)] w fun x p=>x= .returned (.int .i64 (if sp<=tk+pu then 16 else 0:Nat))/\Below w.heap.size w p:=by
 have i:Hid (∀ w,Calls prog 58 #[.agg (LP tk pu mb)] w fun x p=>x= .returned (.int .i64 (tk+pu:Nat))/\Below w.heap.size w p):=fun w=>Qw tk pu mb w h
 have f:Kl w ((w.alloc (.cells (LP tk pu mb) 110)).alloc (.cells (Pe fm ou ra sl me he sp) 42)) w.heap.size fm ou ra sl me he sp tk pu mb:=Kl.nz w fm ou ra sl me he sp tk pu mb _ _;unfold LP Pe at *;obtain ⟨n,r⟩:=qe (tk+pu);rw [<- r] at i h |-;clear r;by_cases hc:sp<=n
 ·rw [zC hc];have j:(sp:Int)<=n:=zO;go_enter func187,ntmps187
  go_wp2_with fail
  have c:=hid f;clear f;generalize ((w.alloc (.cells #[.int .i64 tk, .int .i64 pu, .int .i64 mb] 110)).alloc (.cells #[.int .i64 fm, .int .i64 ou, .int .i64 ra, .int .i64 sl, .int .i64 me, .int .i64 he, .int .i64 sp] 42))=W at *;have t0:=c.out.t0;have t1:=c.out.t1;have t2:=c.out.t2;have c6:=c.out.c6;have g:=hid c.out;have k:=c.out.g2;go_region_held3 (fun d=>d.cell? ⟨w.heap.size,0,none⟩=some (.int .i64 tk)/\d.cell? ⟨w.heap.size,1,none⟩=some (.int .i64 pu)/\d.cell? ⟨w.heap.size,2,none⟩=some (.int .i64 mb)/\d.cell? ⟨w.heap.size+1,6,none⟩=some (.int .i64 sp)) (first | exact ⟨t0,t1,t2,c6⟩ | exact ⟨l,o,k2,k6⟩)
   (first | (go_at_call 58;refine (i.out _).mono ?_;rintro e q ⟨rfl,a⟩;have b:=hid (Kl.step g.out (W':=q) ⟨a.os,a.tape,a.output,a.size,a.block⟩);have l:=b.out.t0;have o:=b.out.t1;have k2:=b.out.t2;have k6:=b.out.c6;clear a))
  all_goals
   go_wp2
   go_ret
   exact ⟨rfl,b.out.bel⟩
 ·rw [zA hc];have j:¬ (sp:Int)<=n:=zO;go_enter func187,ntmps187
  go_wp2_with fail
  have c:=hid f;clear f;generalize ((w.alloc (.cells #[.int .i64 tk, .int .i64 pu, .int .i64 mb] 110)).alloc (.cells #[.int .i64 fm, .int .i64 ou, .int .i64 ra, .int .i64 sl, .int .i64 me, .int .i64 he, .int .i64 sp] 42))=W at *;have t0:=c.out.t0;have t1:=c.out.t1;have t2:=c.out.t2;have c6:=c.out.c6;have g:=hid c.out;have k:=c.out.g2;go_region_held3 (fun d=>d.cell? ⟨w.heap.size,0,none⟩=some (.int .i64 tk)/\d.cell? ⟨w.heap.size,1,none⟩=some (.int .i64 pu)/\d.cell? ⟨w.heap.size,2,none⟩=some (.int .i64 mb)/\d.cell? ⟨w.heap.size+1,6,none⟩=some (.int .i64 sp)) (first | exact ⟨t0,t1,t2,c6⟩ | exact ⟨l,o,k2,k6⟩)
   (first | (go_at_call 58;refine (i.out _).mono ?_;rintro e q ⟨rfl,a⟩;have b:=hid (Kl.step g.out (W':=q) ⟨a.os,a.tape,a.output,a.size,a.block⟩);have l:=b.out.t0;have o:=b.out.t1;have k2:=b.out.t2;have k6:=b.out.c6;clear a))
  all_goals
   go_wp2
   go_ret
   exact ⟨rfl,b.out.bel⟩
theorem PS(fm ou ra sl me he sp tk pu mb:Nat)(w:World)(h:tk+pu<=9223372036854775807)(C:sp<=9223372036854775807)(t:ra*tk+sl<=9223372036854775807)(A:ou<=9223372036854775807) :
  Calls prog 166 #[.agg (LP tk pu mb), .agg (Pe fm ou ra sl me he sp)] w fun x u=>x= .returned (.int .i64 (if sp<=tk+pu then 16 else if ou<=pu then 17 else if ra*tk+sl<=pu then 18 else 0:Nat))/\Below w.heap.size w u:=by
 have o:Hid (∀ w,Calls prog 58 #[.agg (LP tk pu mb)] w fun x u=>x= .returned (.int .i64 (tk+pu:Nat))/\Below w.heap.size w u):=fun w=>Qw tk pu mb w h
 have f:Kl w ((w.alloc (.cells (LP tk pu mb) 110)).alloc (.cells (Pe fm ou ra sl me he sp) 42)) w.heap.size fm ou ra sl me he sp tk pu mb:=Kl.nz w fm ou ra sl me he sp tk pu mb _ _;unfold LP Pe at *;obtain ⟨n,y⟩:=qe (tk+pu);rw [<- y] at o h |-;have B:pu<=n/\tk<=n:=zO;clear y;obtain ⟨R,p⟩:=qe (ra*tk);rw [<- p] at t |-;have z:(ra:Int)*tk=(R:Int):=by rw [p];simp
 clear p;by_cases hc:sp<=n
 ·rw [zC hc];have q:(sp:Int)<=n:=zO;go_enter func166,ntmps166
  go_wp2_with fail
  have c:=hid f;clear f;generalize ((w.alloc (.cells #[.int .i64 tk, .int .i64 pu, .int .i64 mb] 110)).alloc (.cells #[.int .i64 fm, .int .i64 ou, .int .i64 ra, .int .i64 sl, .int .i64 me, .int .i64 he, .int .i64 sp] 42))=W at *;have t0:=c.out.t0;have t1:=c.out.t1;have t2:=c.out.t2;have c6:=c.out.c6;have g:=hid c.out;have i:=c.out.g2;go_region_held3 (fun d=>d.cell? ⟨w.heap.size,0,none⟩=some (.int .i64 tk)/\d.cell? ⟨w.heap.size,1,none⟩=some (.int .i64 pu)/\d.cell? ⟨w.heap.size,2,none⟩=some (.int .i64 mb)/\d.cell? ⟨w.heap.size+1,6,none⟩=some (.int .i64 sp)) (first | exact ⟨t0,t1,t2,c6⟩ | exact ⟨j,k,k2,k6⟩)
   (first | (go_at_call 58;refine (o.out _).mono ?_;rintro e l ⟨rfl,b⟩;have a:=hid (Kl.step g.out (W':=l) ⟨b.os,b.tape,b.output,b.size,b.block⟩);have j:=a.out.t0;have k:=a.out.t1;have k2:=a.out.t2;have k6:=a.out.c6;clear b))
  all_goals
   have k3:=a.out.c1;have k4:=a.out.c2;have k5:=a.out.c3;go_wp2
   go_ret
   exact ⟨rfl,a.out.bel⟩
 ·rw [zA hc];have q:¬ (sp:Int)<=n:=zO;by_cases hd:ou<=pu
  ·rw [zC hd];have r:(ou:Int)<=pu:=zO;go_enter func166,ntmps166
   go_wp2_with fail
   have c:=hid f;clear f;generalize ((w.alloc (.cells #[.int .i64 tk, .int .i64 pu, .int .i64 mb] 110)).alloc (.cells #[.int .i64 fm, .int .i64 ou, .int .i64 ra, .int .i64 sl, .int .i64 me, .int .i64 he, .int .i64 sp] 42))=W at *;have t0:=c.out.t0;have t1:=c.out.t1;have t2:=c.out.t2;have c6:=c.out.c6;have g:=hid c.out;have i:=c.out.g2;go_region_held3 (fun d=>d.cell? ⟨w.heap.size,0,none⟩=some (.int .i64 tk)/\d.cell? ⟨w.heap.size,1,none⟩=some (.int .i64 pu)/\d.cell? ⟨w.heap.size,2,none⟩=some (.int .i64 mb)/\d.cell? ⟨w.heap.size+1,6,none⟩=some (.int .i64 sp)) (first | exact ⟨t0,t1,t2,c6⟩ | exact ⟨j,k,k2,k6⟩)
    (first | (go_at_call 58;refine (o.out _).mono ?_;rintro e l ⟨rfl,b⟩;have a:=hid (Kl.step g.out (W':=l) ⟨b.os,b.tape,b.output,b.size,b.block⟩);have j:=a.out.t0;have k:=a.out.t1;have k2:=a.out.t2;have k6:=a.out.c6;clear b))
   all_goals
    have k3:=a.out.c1;have k4:=a.out.c2;have k5:=a.out.c3;go_wp2
    go_ret
    exact ⟨rfl,a.out.bel⟩
  ·rw [zA hd];have r:¬ (ou:Int)<=pu:=zO;by_cases v:R+sl<=pu
   ·rw [zC v];have s:(R:Int)+sl<=pu:=zO;go_enter func166,ntmps166
    go_wp2_with fail
    have c:=hid f;clear f;generalize ((w.alloc (.cells #[.int .i64 tk, .int .i64 pu, .int .i64 mb] 110)).alloc (.cells #[.int .i64 fm, .int .i64 ou, .int .i64 ra, .int .i64 sl, .int .i64 me, .int .i64 he, .int .i64 sp] 42))=W at *;have t0:=c.out.t0;have t1:=c.out.t1;have t2:=c.out.t2;have c6:=c.out.c6;have g:=hid c.out;have i:=c.out.g2;go_region_held3 (fun d=>d.cell? ⟨w.heap.size,0,none⟩=some (.int .i64 tk)/\d.cell? ⟨w.heap.size,1,none⟩=some (.int .i64 pu)/\d.cell? ⟨w.heap.size,2,none⟩=some (.int .i64 mb)/\d.cell? ⟨w.heap.size+1,6,none⟩=some (.int .i64 sp)) (first | exact ⟨t0,t1,t2,c6⟩ | exact ⟨j,k,k2,k6⟩)
     (first | (go_at_call 58;refine (o.out _).mono ?_;rintro e l ⟨rfl,b⟩;have a:=hid (Kl.step g.out (W':=l) ⟨b.os,b.tape,b.output,b.size,b.block⟩);have j:=a.out.t0;have k:=a.out.t1;have k2:=a.out.t2;have k6:=a.out.c6;clear b))
    all_goals
     have k3:=a.out.c1;have k4:=a.out.c2;have k5:=a.out.c3;go_wp2
     go_ret
     exact ⟨rfl,a.out.bel⟩
   ·rw [zA v];have s:¬ (R:Int)+sl<=pu:=zO;go_enter func166,ntmps166
    go_wp2_with fail
    have c:=hid f;clear f;generalize ((w.alloc (.cells #[.int .i64 tk, .int .i64 pu, .int .i64 mb] 110)).alloc (.cells #[.int .i64 fm, .int .i64 ou, .int .i64 ra, .int .i64 sl, .int .i64 me, .int .i64 he, .int .i64 sp] 42))=W at *;have t0:=c.out.t0;have t1:=c.out.t1;have t2:=c.out.t2;have c6:=c.out.c6;have g:=hid c.out;have i:=c.out.g2;go_region_held3 (fun d=>d.cell? ⟨w.heap.size,0,none⟩=some (.int .i64 tk)/\d.cell? ⟨w.heap.size,1,none⟩=some (.int .i64 pu)/\d.cell? ⟨w.heap.size,2,none⟩=some (.int .i64 mb)/\d.cell? ⟨w.heap.size+1,6,none⟩=some (.int .i64 sp)) (first | exact ⟨t0,t1,t2,c6⟩ | exact ⟨j,k,k2,k6⟩)
     (first | (go_at_call 58;refine (o.out _).mono ?_;rintro e l ⟨rfl,b⟩;have a:=hid (Kl.step g.out (W':=l) ⟨b.os,b.tape,b.output,b.size,b.block⟩);have j:=a.out.t0;have k:=a.out.t1;have k2:=a.out.t2;have k6:=a.out.c6;clear b))
    all_goals
     have k3:=a.out.c1;have k4:=a.out.c2;have k5:=a.out.c3;go_wp2
     go_ret
     exact ⟨rfl,a.out.bel⟩
end Go.Proofs.YtbcjmakpempkiaaGreatDoor
