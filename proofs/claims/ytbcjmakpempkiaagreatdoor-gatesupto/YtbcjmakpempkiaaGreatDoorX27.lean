import Derived.Test.YtbcjmakpempkiaaGreatDoorX26
set_option maxRecDepth 100000
set_option maxHeartbeats 8000000
set_option linter.all false
namespace Go.Proofs.YtbcjmakpempkiaaGreatDoor
variable {W w:World} {H k:Nat} {C:List (List Int)} {S:List ByteArray} {ρ:Nat->Nat}
open Go.Proofs.Tryz
open Go.RowKit
theorem bE(i:Nat)(a b c:Int)(t:ByteArray)(f:Option Addr)(h g:Nat)(w:World)(Q:World->Prop)
  (H:∀ W,Below w.heap.size w W->Calls prog 60 #[.pointer (some ⟨i,0,none⟩), .agg (Gx 8 a b c t (.slice f h g))] W fun e d=>e= .returned (.bool true)/\Q d) :
  Calls prog 34 #[.pointer (some ⟨i,0,none⟩), .agg (Gx 8 a b c t (.slice f h g))] w fun e d=>e= .returned (.bool true)/\Q d:=by
 have j:Hid (Below w.heap.size w (w.alloc (.cells #[.int .i64 8, .int .i64 a, .int .i64 b, .int .i64 c, .string t, .slice f h g] 79))):=zB.alloc zL _;have k:Hid (∀ W,Below w.heap.size w W->Calls prog 60 #[.pointer (some ⟨i,0,none⟩), .agg (Gx 8 a b c t (.slice f h g))] W fun e d=>e= .returned (.bool true)/\Q d):=H;clear H;unfold Gx;go_enter func34,ntmps34
 go_wp2_with fail
 refine (k.out _ j.out).mono ?_;rintro e w1 ⟨rfl,hq⟩;have l:=hid hq;clear hq;go_wp2
 go_ret
 exact ⟨rfl,l.out⟩
theorem bD(i:Nat)(kd a b c:Int)(t:ByteArray)(f:Option Addr)(h g:Nat)(w:World)(Q:World->Prop)(n:9<=kd/\kd<=13)
  (H:∀ W,Below w.heap.size w W->Calls prog 61 #[.pointer (some ⟨i,0,none⟩), .agg (Gx kd a b c t (.slice f h g))] W fun e d=>e= .returned (.bool true)/\Q d) :
  Calls prog 34 #[.pointer (some ⟨i,0,none⟩), .agg (Gx kd a b c t (.slice f h g))] w fun e d=>e= .returned (.bool true)/\Q d:=by
 have j:Hid (Below w.heap.size w (w.alloc (.cells #[.int .i64 kd, .int .i64 a, .int .i64 b, .int .i64 c, .string t, .slice f h g] 79))):=zB.alloc zL _;have k:Hid (∀ W,Below w.heap.size w W->Calls prog 61 #[.pointer (some ⟨i,0,none⟩), .agg (Gx kd a b c t (.slice f h g))] W fun e d=>e= .returned (.bool true)/\Q d):=H;clear H;have t1:(kd==1)=false:=by simp;omega
 have t2:(kd==2)=false:=by simp;omega
 have t4:decide (3<=kd)=true:=by simp;omega
 have t5:decide (kd<=7)=false:=by simp;omega
 have o:(kd==8)=false:=by simp;omega
 have p:decide (8<kd)=true:=by simp;omega
 have q:decide (kd<=13)=true:=by simp;omega
 unfold Gx;go_enter func34,ntmps34
 go_wp2_with fail
 refine (k.out _ j.out).mono ?_;rintro e w1 ⟨rfl,hq⟩;have l:=hid hq;clear hq;go_wp2
 go_ret
 exact ⟨rfl,l.out⟩
theorem Ew.li{B gW:Nat}{w':World}(h:Ew B gW H C S k ρ w w'):Below B w w'/\∃ (ρ':Nat->Nat) (a:Aj),LI B gW (YG B H) C S (k+1) ρ' a w'/\KH H ρ ρ' w w':=by
 obtain ⟨R',b,ρ',a,L,K⟩:=h.ex;exact ⟨h.bel,ρ',a,L.li,K⟩
theorem Sp(z:Tabs w.heap.size w){s:Aj}{wr:World}(kd a b c:Int)(t:ByteArray)(i:Option Addr)(l j:Nat)(v:PL C S)(A:8<=kd)(h2:kd<=13)(hk:k<=2000000)(q:LI w.heap.size w.heap.size (YG w.heap.size H) C S k ρ s wr)(r:Below w.heap.size w wr)(d:lz w 1048576 kd a b c t i l j) :
  Calls prog 34 #[.pointer (some ⟨w.heap.size,0,none⟩), .agg (Gx kd a b c t (.slice i l j))] wr fun e f=>e= .returned (.bool true)/\Below w.heap.size wr f/\∃ (ρ':Nat->Nat) (s':Aj),LI w.heap.size w.heap.size (YG w.heap.size H) C S (k+1) ρ' s' f/\KH H ρ ρ' wr f:=by
 have o:=z.below r;have g:=q.inv.hB;obtain ⟨R,T,L⟩:=q.lj;obtain ⟨P,hP⟩:=d.p;by_cases u:kd=8
 ·subst u;refine (bE w.heap.size a b c t i l j wr (fun f=>Ew w.heap.size w.heap.size H C S k ρ wr f) (fun W h=>?_)).mono ?_
  ·refine (Xe a b c t i l j W (L.below h) hk v d.a d.b).mono ?_;rintro e f ⟨rfl,E⟩;exact ⟨rfl,E.from_ g h⟩
  ·rintro e f ⟨rfl,E⟩;exact ⟨rfl,E.li⟩
 ·refine (bD w.heap.size kd a b c t i l j wr (fun f=>Ew w.heap.size w.heap.size H C S k ρ wr f) ⟨zO,h2⟩ (fun W h=>?_)).mono ?_
  ·have n:=L.below h;by_cases h0:0<R.length
   ·refine (aG kd a b c t i l j P W n h0 hk ⟨zO,h2⟩ d.a d.b d.c (hP.pc n (r.trans (h.mono g)) zL) (o.below (h.mono g))).mono ?_;rintro e f ⟨rfl,E⟩;exact ⟨rfl,E.from_ g h⟩
   ·have y:R=[]:=AZ zO;subst y;refine (aF kd a b c t i l j W n).mono ?_;rintro e f ⟨rfl,E⟩;exact ⟨rfl,E.from_ g h⟩
  ·rintro e f ⟨rfl,E⟩;exact ⟨rfl,E.li⟩
theorem dD(w:World)(d:Tabs w.heap.size w):Uf 8 13 w (YG w.heap.size) where
 ok:=Sz w.heap.size
 nc:=zO
 step:=fun {H C S k ρ s wr} kd a b c t ap np cp hL h1 h2 hk hI hb hOp=>Sp d kd a b c t ap np cp hL h1 h2 hk hI hb hOp
 looks:=fun {H C S k ρ s wr} hk hI=>by
  obtain ⟨R,T,L⟩:=hI.lj;exact SI L hk
theorem Vh(lo:Int)(w:World)(o:3<=lo)(p:Tabs w.heap.size w):Uf lo 13 w (YG w.heap.size) where
 ok:=Sz w.heap.size
 nc:=o
 step:=fun {H C S k ρ s wr} kd a b c t ap np cp hL h1 h2 hk hI hb hOp=>by
  have h:=p.below hb;have l:=hI.inv.hB;by_cases A:kd<5
  ·have B:=hI.fw.ln;have D:=hI.fw.wt;have E:=hI.fw.mm;have F:=hI.fw.bk;refine (Ma w.heap.size w.heap.size ρ { s with still:=JW ρ wr } kd a b c t ap np cp wr hI.inv.JW zO (by have:=hOp.t;unfold maxLen;omega) (by show s.lens.length<=_;omega) (by show s.waits.length<=_;omega) (by show s.Ay.length<=_;omega) (by show s.CX<=_;omega)).mono ?_;rintro e y ⟨rfl,d,ρ',v,g,r⟩;have K:=g.k9 r.st.1;exact ⟨rfl,d,ρ',v,hI.ZU (Sz _ H) g r d.size,fun i _ hi j=>K i hi j⟩
  ·by_cases z:kd<8
   ·have n:TE wr:=⟨h.ref.up l,h.prog⟩
    refine (YP w.heap.size kd a b c t ap np cp wr ⟨zO,zO⟩ (fun W q=>?_)).mono ?_
    ·have f:=n.below q;have u:t.size<=1000000000:=by have:=hOp.t;omega
     have h3:kd=5\/kd=6\/kd=7:=zO;rcases h3 with rfl | rfl | rfl
     ·exact UR w.heap.size a b c t ap np cp W u f
     ·exact US (hI.below (Sz _ H) q) a b c t ap np cp hL hL.ne.2 hOp.b f
     ·exact YZ w.heap.size a b c t ap np cp W u f
    ·rintro e y ⟨rfl,d⟩;exact ⟨rfl,d.mono hb.size,ρ,s,(hI.below (Sz _ H) d).mono (Sz _ H) zO,fun i _ hi j=>⟨d.block i hi,j⟩⟩
   ·exact Sp p kd a b c t ap np cp hL zO h2 hk hI hb hOp
 looks:=fun {H C S k ρ s wr} hk hI=>by
  obtain ⟨R,T,L⟩:=hI.lj;exact SI L hk
theorem gates_walk(b:Option Addr)(f d:Nat)(C:List (List Int))(c:Option Addr)(h cs:Nat)(S:List ByteArray)(ad:Option Addr)(n cap:Nat)(w:World)(p:n<=1048576)(g:Scr 1048576 w ad n)(i:Cfgs w 1048576 b f d C)(j:Txts w 1048576 c h cs S)(k:Tabs w.heap.size w) :
  Calls prog 8 #[.slice b f d, .slice c h cs, .slice ad n cap] w fun e l=>e= .returned (.bool true)/\Below w.heap.size w l:=by
 have a:=IQ g k j i;clear g k j i;go_enter func8,ntmps8
 go_wp2_with fail
 refine (SZ 8 13 (YG w.heap.size) b f d C c h cs S ad n cap w p a.out.1 a.out.2.2.2 a.out.2.2.1 (dD w a.out.2.1)).mono ?_;rintro e l ⟨rfl,o⟩;go_wp2
 go_ret
 exact ⟨rfl,o⟩
theorem all_walk(b:Option Addr)(f d:Nat)(C:List (List Int))(c:Option Addr)(h cs:Nat)(S:List ByteArray)(ad:Option Addr)(n cap:Nat)(w:World)(p:n<=1048576)(g:Scr 1048576 w ad n)(i:Cfgs w 1048576 b f d C)(j:Txts w 1048576 c h cs S)(k:Tabs w.heap.size w) :
  Calls prog 11 #[.slice b f d, .slice c h cs, .slice ad n cap] w fun e l=>e= .returned (.bool true)/\Below w.heap.size w l:=by
 have a:=IQ g k j i;clear g k j i;go_enter func11,ntmps11
 go_wp2_with fail
 refine (SZ 3 13 (YG w.heap.size) b f d C c h cs S ad n cap w p a.out.1 a.out.2.2.2 a.out.2.2.1 (Vh 3 w zO a.out.2.1)).mono ?_;rintro e l ⟨rfl,o⟩;go_wp2
 go_ret
 exact ⟨rfl,o⟩
open Go.RowKit Go.Deep
def Gm.list(c:Gm):List Int:=[c.fm,c.out,c.ratio,c.CH,c.mem,c.lim,c.steps]
theorem cfgs_of{H:Type}{enc:TypeId×Value->H}{base:Nat}{spare:Nat->Bool}{held:Bool}{fuel:Nat}{ad:Option Addr}{n cap:Nat}{x:DataW H×List MemPlace}(h:DataW.trod enc prog W base spare held fuel 39 [.slice ad n cap]=some x):∃ C,Cfgs W (Rows.uptoBulk x.1) ad n cap C:=by
 rcases open_slice underlying39 h with ⟨g,rfl⟩ | ⟨a,len,Z,m,f,D,Y,g,hb,hl,hm,A,rfl,hx⟩
 ·simp at g;obtain ⟨rfl,rfl,rfl⟩:=g;exact ⟨[],rfl,fun c hc=>(by cases hc),fun _ e=>(by cases e),⟨zE _,by unfold maxLen;omega⟩,fun _=>⟨rfl,rfl⟩,zH _⟩
 ·simp at g;obtain ⟨rfl,rfl,rfl⟩:=g;have X:n<=m:=by rw [A];split <;> omega
  have o:0<n->a.spot=none:=fun h0=>by
   obtain ⟨T,p,t⟩:=hx 0 zO;rw [Mr] at p;obtain ⟨_,_,i⟩:=kA p;obtain ⟨_,rfl,_⟩:=Yj t;have:=i 0 zO;simp [add_add] at this;simpa [Addr.add] using jL this
  have q:∀ k,∃ c:Gm,k<n->(∀ r,r<7->a.block<W.heap.size/\W.cell? (a.add (k*7+r))=some (.int .i64 (c.list.getD r 0)))/\∀ z∈c.list,Kv z:=by
   intro k;by_cases hk:k<n
   ·obtain ⟨S,h1,h2⟩:=hx k zO;obtain ⟨c,rfl,i0,i1,i2,i3,i4,i5,i6⟩:=Yj h2;refine ⟨c,fun _=>⟨?_,?_⟩⟩
    ·rw [Mr] at h1;obtain ⟨_,_,b⟩:=kA h1;simp only [add_add] at b;have l:=o zO;obtain ⟨R,o0,sp⟩:=a;have l:sp=none:=l;subst l;have s:=b 0 zO;have G:=b 1 zO;have I:=b 2 zO;have J:=b 3 zO;have L:=b 4 zO;have M:=b 5 zO;have N:=b 6 zO;rw [vJ] at s G I J L M N;have v:R<W.heap.size:=xT W _ s;intro r hr;refine ⟨v,?_⟩;rw [vJ];have:r=0\/r=1\/r=2\/r=3\/r=4\/r=5\/r=6:=zO;rcases this with rfl | rfl | rfl | rfl | rfl | rfl | rfl
     ·simpa [Gm.list] using s
     ·simpa [Gm.list] using G
     ·simpa [Gm.list] using I
     ·simpa [Gm.list] using J
     ·simpa [Gm.list] using L
     ·simpa [Gm.list] using M
     ·simpa [Gm.list] using N
    ·intro z Q;simp [Gm.list] at Q;rcases Q with rfl | rfl | rfl | rfl | rfl | rfl | rfl <;> assumption
   ·exact ⟨⟨0,0,0,0,0,0,0⟩,fun h=>absurd h hk⟩
  obtain ⟨F,hF⟩:=Classical.axiomOfChoice q;have d:∀ c∈(List.range n).map (fun k=>(F k).list),c.length=7/\∀ z∈c,Kv z:=fun c hc=>by
   obtain ⟨k,hk,rfl⟩:=vT.1 hc;exact ⟨rfl,(hF k (List.mem_range.1 hk)).2⟩
  refine ⟨(List.range n).map (fun k=>(F k).list),zS,d,fun y e j u B=>?_,⟨hl,hm⟩,fun e=>(by cases e),?_⟩
  ·injection e with e
   subst e;have hlen:=iF (fun c hc=>(d c hc).1);have P:=(vH.1 B).1;rw [hlen] at P;have V:j<n*7:=by simpa using P
   have hk:j / 7<n:=zO;have w:j / 7<((List.range n).map (fun k=>(F k).list)).length:=by simpa using hk
   have O:j=j / 7*7+j%7:=zO;rw [O,VE (fun c hc=>(d c hc).1) w zO] at B;have E:=xE B;obtain ⟨U,g2⟩:=(hF (j / 7) hk).1 (j%7) zO;refine ⟨U,?_⟩;rw [O,g2,<- E];simp
  ·have:=Nk ((List.range n).map D);simp only [Rows.uptoBulk];simp at this;omega
theorem ZV(a:TE W)(hP:Kj W):Tabs W.heap.size W:=⟨a.ref,a.prog,hP,by obtain ⟨fr,h⟩:=a.prog;exact (yQ.1 h).1,by obtain ⟨fr,h⟩:=hP;exact (yQ.1 h).1⟩
theorem laid_gates(hl:laidMetH prog Rows.gatesUptoRow.laid W)(hs:W.ShapedOpen prog):Tabs W.heap.size W:=
 ZV (SU hl rfl (kO ..) (by unfold Rows.gatesUptoRow;simp only [xB,vF];right;right;right;right;left;exact ⟨trivial,rfl⟩) hs) (Vv hl rfl (by unfold Rows.gatesUptoRow;simp only [xB,vF];right;right;right;left;exact ⟨trivial,zK⟩) hs)
theorem laid_all(hl:laidMetH prog Rows.allUptoRow.laid W)(hs:W.ShapedOpen prog):Tabs W.heap.size W:=
 ZV (SU hl rfl (kO ..) (by unfold Rows.allUptoRow;simp only [xB,vF];right;right;right;right;left;exact ⟨trivial,rfl⟩) hs) (Vv hl rfl (by unfold Rows.allUptoRow;simp only [xB,vF];right;right;right;left;exact ⟨trivial,zK⟩) hs)
end Go.Proofs.YtbcjmakpempkiaaGreatDoor
