import Derived.Test.YtbcjmakpempkiaaGreatDoorX24
set_option maxRecDepth 100000
set_option maxHeartbeats 8000000
set_option linter.all false
namespace Go.Proofs.YtbcjmakpempkiaaGreatDoor
open Go.RowKit
theorem MS.symL_facts(l:List Int)(hr:inRange l=true):∀ (r n code:Nat) {x:MS},Ok x->x.count<=40->n+r<=12->1<=n->Ok (MS.symL l r n code x).1∧((MS.symL l r n code x).2.1=0->(MS.symL l r n code x).2.2<l.length∧(MS.symL l r n code x).1.count<=40∧(MS.symL l r n code x).1={ x with held:=(MS.symL l r n code x).1.held,count:=(MS.symL l r n code x).1.count,tk:=(MS.symL l r n code x).1.tk,rest:=(MS.symL l r n code x).1.rest })
 | 0,n,code,x,ok,hc,hn,h1=>⟨ok.refuse 11,fun h=>by cases h⟩
 | r+1,n,code,x,ok,hc,hn,h1=>by
  have k3:=MS.need_ok (k:=n) ok;have e:MS.symL l (r+1) n code x=if (MS.need n x).2≠0 then ((MS.need n x).1,(MS.need n x).2,0) else if 0<=find (rset l) n ((2*code+(MS.need n x).1.held / 2^(n - 1)%2:Nat):Int) then ((MS.need n x).1.rd n,0,(find (rset l) n ((2*code+(MS.need n x).1.held / 2^(n - 1)%2:Nat):Int)).toNat) else MS.symL l r (n+1) (2*code+(MS.need n x).1.held / 2^(n - 1)%2) (MS.need n x).1:=rfl;rw [e];by_cases h0:(MS.need n x).2=0
  ·have k1:=MS.need_cnt ok h0;have k2:=MS.need_same ok h0;rw [if_neg (by rw [h0];simp)];by_cases hf:0<=find (rset l) n ((2*code+(MS.need n x).1.held / 2^(n - 1)%2:Nat):Int)
   ·rw [if_pos hf];refine ⟨k3.rd k1.1,fun _=>⟨?_,?_,?_⟩⟩
    ·obtain ⟨i,hi,_,_,h4⟩:∃ i,∃ hi:i<l.length,True∧True∧find (rset l) n ((2*code+(MS.need n x).1.held / 2^(n - 1)%2:Nat):Int)=i:=by
      apply Classical.byContradiction;intro hcon;have hm:¬ (fc (cn l) n<=((2*code+(MS.need n x).1.held / 2^(n - 1)%2:Nat):Int)∧((2*code+(MS.need n x).1.held / 2^(n - 1)%2:Nat):Int)<fc (cn l) n+cn l n):=fun hh=>by
       obtain ⟨i,hi,_,_,h4⟩:=k5a (S:=rset l) hr (by omega:0<n) hh.1 hh.2;exact hcon ⟨i,hi,trivial,trivial,h4⟩
      have:=zr0 (S:=rset l) hr (by omega:0<n) (c:=((2*code+(MS.need n x).1.held / 2^(n - 1)%2:Nat):Int)) (by show _<fc (cn l) n∨fc (cn l) n+cn l n<=_;omega);omega
     show (find (rset l) n ((2*code+(MS.need n x).1.held / 2^(n - 1)%2:Nat):Int)).toNat<l.length;rw [h4];simpa using hi
    ·show (MS.need n x).1.count - n<=40;omega
    ·show (MS.need n x).1.rd n={ x with held:=_,count:=_,tk:=_,rest:=_ };generalize MS.need n x=r at *;rw [k2];rfl
   ·rw [if_neg hf];obtain ⟨a,b⟩:=MS.symL_facts l hr r (n+1) (2*code+(MS.need n x).1.held / 2^(n - 1)%2) k3 (by omega) (by omega) (by omega);refine ⟨a,fun h=>?_⟩;obtain ⟨b1,b2,b3⟩:=b h;refine ⟨b1,b2,?_⟩;rw [b3];show _={ x with held:=_,count:=_,tk:=_,rest:=_ };generalize (MS.symL l r (n+1) (2*code+(MS.need n x).1.held / 2^(n - 1)%2) (MS.need n x).1)=R at *;generalize MS.need n x=r at *;rw [k2]
  ·rw [if_pos h0];exact ⟨k3,fun h=>absurd h h0⟩
theorem MS.sym_facts{l:List Int}(hr:inRange l=true){x:MS}(ok:Ok x)(hc:x.count<=40):Ok (x.sym l).1∧((x.sym l).2.1=0->(x.sym l).2.2<l.length∧(x.sym l).1.count<=40∧(x.sym l).1={ x with held:=(x.sym l).1.held,count:=(x.sym l).1.count,tk:=(x.sym l).1.tk,rest:=(x.sym l).1.rest }):=
 MS.symL_facts l hr _ _ _ ok hc (by have:=j6p l;omega) (by omega)
def MS.goLit(y:MS)(k:Nat):MS×Nat:=if k<256 then ({ y with lit:=k,st:=16 },0) else y.endBlock
theorem MM.cellI{ρ:Nat->Nat}{w:World}{p:Nat}{x:MS}(h:MM ρ w p x):w.cell? ⟨p,38,none⟩=some (.int .u8 x.lit)∧w.frozen? ⟨p,38,none⟩=false∧w.cell? ⟨p,39,none⟩=some (.int .i64 x.least)∧w.frozen? ⟨p,39,none⟩=false∧w.cell? ⟨p,40,none⟩=some (.int .i64 x.bits)∧w.frozen? ⟨p,40,none⟩=false∧w.cell? ⟨p,41,none⟩=some (.int .i64 x.dist)∧w.frozen? ⟨p,41,none⟩=false:=by
 obtain ⟨L,B,T⟩:=h;exact ⟨B.row.cell (i:=38) (by omega),B.row.frozen 38,B.row.cell (i:=39) (by omega),B.row.frozen 39,B.row.cell (i:=40) (by omega),B.row.frozen 40,B.row.cell (i:=41) (by omega),B.row.frozen 41⟩
theorem MM.lit{ρ:Nat->Nat}{w:World}{p:Nat}{x:MS}(h:MM ρ w p x)(n:Nat):MM ρ (w.setCell ⟨p,38,none⟩ (.int .u8 n)) p { x with lit:=n }∧Fr (fun k=>1<=k∧k<=5) ρ w (w.setCell ⟨p,38,none⟩ (.int .u8 n)):=by
 obtain ⟨L,B,T⟩:=h;exact (((show Bh ρ w p x x L w from ⟨B,T,Fr.refl _ _ _⟩).set (z:={ x with lit:=n }) 38 _ rfl ⟨rfl,rfl⟩).done rfl rfl rfl rfl ⟨rfl,rfl⟩)
theorem MM.dist{ρ:Nat->Nat}{w:World}{p:Nat}{x:MS}(h:MM ρ w p x)(n:Nat):MM ρ (w.setCell ⟨p,41,none⟩ (.int .i64 n)) p { x with dist:=n }∧Fr (fun k=>1<=k∧k<=5) ρ w (w.setCell ⟨p,41,none⟩ (.int .i64 n)):=by
 obtain ⟨L,B,T⟩:=h;exact (((show Bh ρ w p x x L w from ⟨B,T,Fr.refl _ _ _⟩).set (z:={ x with dist:=n }) 41 _ rfl ⟨rfl,rfl⟩).done rfl rfl rfl rfl ⟨rfl,rfl⟩)
theorem MM.span{ρ:Nat->Nat}{w:World}{p:Nat}{x:MS}(h:MM ρ w p x)(a b:Nat):MM ρ ((w.setCell ⟨p,39,none⟩ (.int .i64 a)).setCell ⟨p,40,none⟩ (.int .i64 b)) p { x with least:=a,bits:=b }∧Fr (fun k=>1<=k∧k<=5) ρ w ((w.setCell ⟨p,39,none⟩ (.int .i64 a)).setCell ⟨p,40,none⟩ (.int .i64 b)):=by
 obtain ⟨L,B,T⟩:=h;exact ((((show Bh ρ w p x x L w from ⟨B,T,Fr.refl _ _ _⟩).set (z:={ x with least:=a }) 39 _ rfl ⟨rfl,rfl⟩).set (z:={ x with least:=a,bits:=b }) 40 _ rfl ⟨rfl,rfl⟩).done rfl rfl rfl rfl ⟨rfl,rfl⟩)
theorem xo6{ρ:Nat->Nat}{w:World}{p:Nat}{y:MS}(k:Nat)(h:MM ρ w p y)(ok:Ok y)(hc:y.count<=63)(hk:k<=256) :
  Calls Tryz.prog 148 #[.pointer (some ⟨p,0,none⟩), .agg (litC k)] w fun v w'=>y0y ρ w p (y.goLit k) v w':=by
 by_cases h1:k<256
 ·have HC:Hid (litC k=#[.int .i64 0, .int .u8 k, .int .i64 0, .int .i64 0]):=by show litC k=_;unfold litC;rw [if_pos h1]
  have HE:Hid (y.goLit k=({ y with lit:=k,st:=16 },0)):=if_pos h1;rw [HC.out];have b0:Below w.heap.size w (w.alloc (.cells #[.int .i64 0, .int .u8 k, .int .i64 0, .int .i64 0] 218)):=(Below.refl _ _).alloc (Nat.le_refl _) _;have HM:Hid (MM ρ (w.alloc (.cells #[.int .i64 0, .int .u8 k, .int .i64 0, .int .i64 0] 218)) p y):=h.below b0;have H1:=HM.out.lit k;have H2:Hid (MM ρ (((w.alloc (.cells #[.int .i64 0, .int .u8 k, .int .i64 0, .int .i64 0] 218)).setCell ⟨p,38,none⟩ (.int .u8 k)).setCell ⟨p,7,none⟩ (.int .i64 16)) p { y with lit:=k,st:=16 }∧Fr (fun k=>1<=k∧k<=5) ρ w (((w.alloc (.cells #[.int .i64 0, .int .u8 k, .int .i64 0, .int .i64 0] 218)).setCell ⟨p,38,none⟩ (.int .u8 k)).setCell ⟨p,7,none⟩ (.int .i64 16))):=⟨(H1.1.st 16).1,((Fr.below b0).trans H1.2).trans (H1.1.st 16).2⟩
  have c38:=HM.out.cellI.1;have z38:=HM.out.cellI.2.1;have c7:=HM.out.cell7.1;have z7:=HM.out.cell7.2;have q0:(w.alloc (.cells #[.int .i64 0, .int .u8 k, .int .i64 0, .int .i64 0] 218)).cell? ⟨w.heap.size,0,none⟩=some (.int .i64 0):=by simp
  have q1:(w.alloc (.cells #[.int .i64 0, .int .u8 k, .int .i64 0, .int .i64 0] 218)).cell? ⟨w.heap.size,1,none⟩=some (.int .u8 k):=by simp
  clear h ok H1 b0;go_enter Tryz.func148,Tryz.ntmps148
  go_wp2_with fail
  go_ret
  unfold y0y;rw [HE.out];exact ⟨rfl,H2.out⟩
 ·obtain rfl:k=256:=by omega
  have HC:Hid (litC 256=#[.int .i64 1, .int .u8 0, .int .i64 0, .int .i64 0]):=rfl;have HE:Hid (y.goLit 256=y.endBlock):=if_neg (by omega);rw [HC.out];have b0:Below w.heap.size w (w.alloc (.cells #[.int .i64 1, .int .u8 0, .int .i64 0, .int .i64 0] 218)):=(Below.refl _ _).alloc (Nat.le_refl _) _;have HM:Hid (MM ρ (w.alloc (.cells #[.int .i64 1, .int .u8 0, .int .i64 0, .int .i64 0] 218)) p y∧Ok y∧Fr (fun k=>1<=k∧k<=5) ρ w (w.alloc (.cells #[.int .i64 1, .int .u8 0, .int .i64 0, .int .i64 0] 218))):=⟨h.below b0,ok,Fr.below b0⟩
  have q0:(w.alloc (.cells #[.int .i64 1, .int .u8 0, .int .i64 0, .int .i64 0] 218)).cell? ⟨w.heap.size,0,none⟩=some (.int .i64 1):=by simp
  clear h ok b0;go_enter Tryz.func148,Tryz.ntmps148
  go_wp2_with fail
  refine (kbz HM.out.1 HM.out.2.1 hc).mono ?_;rintro v w1 ⟨rfl,g1,g2⟩;have HR:Hid (MM ρ w1 p y.endBlock.1∧Fr (fun k=>1<=k∧k<=5) ρ w w1):=⟨g1,HM.out.2.2.trans g2⟩
  clear g1 g2;go_wp2_with fail
  go_ret
  unfold y0y;rw [HE.out];exact ⟨rfl,HR.out⟩
structure Cw(ρ:Nat->Nat)(w:World)(p:Nat)(y:MS)(w':World):Prop where
 mm:MM ρ w' p y
 ok:Ok y
 cnt:y.count<=40
 ne:y.la≠[]
 lb:y.lb.length<=16
 fr:Fr (fun k=>1<=k∧k<=5) ρ w w'
theorem MM.sets{ρ:Nat->Nat}{w:World}{p:Nat}{x:MS}(h:MM ρ w p x)(hn:x.la≠[]):∃ g t u,w.cell? ⟨p,37,none⟩=some (.pointer (some ⟨g,0,none⟩))∧w.cell? ⟨g,0,none⟩=some (.pointer (some ⟨t,0,none⟩))∧w.cell? ⟨g,1,none⟩=some (.pointer (some ⟨u,0,none⟩))∧
  TabS ρ w 268 4 (fun i=>(litC i).toList) t x.la∧TabS ρ w 271 2 (fun i=>(y5c 1 i).toList) u x.lb∧g≠p:=by
 obtain ⟨L,B,T⟩:=h;rcases T.sets with h | ⟨g,e,t,u,h1,h2,h3,h4⟩
 ·exact absurd h hn
 ·refine ⟨g,t,u,?_,h1.cell (i:=0) (by omega),h1.cell (i:=1) (by omega),h3,h4,x1n h2 B.rp (by decide)⟩;rw [← e];exact B.row.cell (i:=37) (by omega)
theorem MM.win{ρ:Nat->Nat}{w:World}{p:Nat}{x:MS}(h:MM ρ w p x):∃ c,w.cell? ⟨p,17,none⟩=some (.pointer (some ⟨c,0,none⟩))∧(Calls Tryz.prog 57 #[.pointer (some ⟨c,0,none⟩)] w fun v w'=>v= .returned (.int .i64 x.qc.length)∧w=w')∧
  (∀ n k,1<=k->k<=x.qc.length->Calls Tryz.prog 150 #[.pointer (some ⟨c,0,none⟩), .int .i64 k] (w.drewN n) fun v w'=>v= .returned (.int .u8 (x.qc.getD (x.qc.length - k) 0:Nat))∧∃ m,w'=(w.drewN n).drewN m)∧∀ w',MM ρ w' p x->True:=by
 obtain ⟨L,B,T⟩:=h;obtain ⟨o,f,k⟩:=B.rc;exact ⟨L.c,B.row.cell (i:=17) (by omega),jpl k,fun n i h1 h2=>yis i (k.drewN n) h1 h2,fun _ _=>trivial⟩
structure Kw(ρ:Nat->Nat)(w:World)(p:Nat)(y:MS)(R:MS×Nat)(w':World):Prop where
 mm:MM ρ w' p y
 ok:Ok y
 eq:MS.copyL y.left y=R
 left:y.left<=65535
 d1:1<=y.dist
 d2:y.dist<=y.qc.length
 qb:∀ b∈y.qc,b<256
 fr:Fr (fun k=>1<=k∧k<=5) ρ w w'
theorem MS.copy_zero{y:MS}(h:y.left=0):MS.copyL y.left y=({ y with st:=17 },0):=by
 have e:∀ n,n=0->MS.copyL n y=({ y with st:=17 },0):=fun n hn=>by subst hn;rfl
 exact e _ h
theorem MS.copy_succ{y:MS}{n:Nat}(h:y.left=n+1):MS.copyL y.left y=if (y.put (y.qc.getD (y.qc.length - y.dist) 0)).2=0 then MS.copyL n { (y.put (y.qc.getD (y.qc.length - y.dist) 0)).1 with left:=n } else y.put (y.qc.getD (y.qc.length - y.dist) 0):=by rw [h];rfl
theorem xsr(q:List Nat)(b:Nat)(h:q.length<=256):q.length<=(MS.pushed q b).length:=by
 unfold MS.pushed;split
 ·simp;omega
 ·simp
theorem vso{q:List Nat}{b:Nat}(h:∀ x∈q,x<256)(hb:b<256):∀ x∈MS.pushed q b,x<256:=by
 intro x hx;unfold MS.pushed at hx;split at hx
 ·rcases List.mem_append.1 hx with h1 | h1
  ·exact h x (List.mem_of_mem_tail h1)
  ·simp at h1;omega
 ·rcases List.mem_append.1 hx with h1 | h1
  ·exact h x h1
  ·simp at h1;omega
theorem getD_lt{q:List Nat}(h:∀ x∈q,x<256)(i:Nat):q.getD i 0<256:=by
 rw [List.getD_eq_getElem?_getD];by_cases hi:i<q.length
 ·rw [List.getElem?_eq_getElem hi];exact h _ (List.getElem_mem hi)
 ·rw [List.getElem?_eq_none (by omega)];simp
theorem k8m{k:Nat}(h:k<16):Tr.spanBits k<=16∧Tr.spanLeast 1 k<=1000000∧1<=Tr.spanLeast 1 k:=by
 have:=kfi h;have:=Nat.two_pow_pos (Tr.spanBits k);omega
theorem MS.spanR_facts{x:MS}(ok:Ok x)(hx:x.count<=40){least bits:Nat}(hb:bits<=16):Ok (x.spanR least bits).1∧((x.spanR least bits).2.1=0->(x.spanR least bits).1.count<=40∧least<=(x.spanR least bits).2.2∧(x.spanR least bits).2.2<least+2^bits∧(x.spanR least bits).1={ x with held:=(x.spanR least bits).1.held,count:=(x.spanR least bits).1.count,tk:=(x.spanR least bits).1.tk,rest:=(x.spanR least bits).1.rest }):=by
 have k3:=MS.need_ok (k:=bits) ok;unfold MS.spanR;by_cases h0:(MS.need bits x).2=0
 ·have k1:=MS.need_cnt ok h0;have k2:=MS.need_same ok h0;rw [if_pos h0];refine ⟨k3.rd k1.1,fun _=>⟨?_,Nat.le_add_right _ _,Nat.add_lt_add_left (Nat.mod_lt _ (Nat.two_pow_pos _)) _,?_⟩⟩
  ·show (MS.need bits x).1.count - bits<=40;omega
  ·show (MS.need bits x).1.rd bits={ x with held:=_,count:=_,tk:=_,rest:=_ };generalize MS.need bits x=r at *;rw [k2];rfl
 ·rw [if_neg h0];exact ⟨k3,fun h=>absurd h h0⟩
theorem x1x{ρ:Nat->Nat}{w:World}{p:Nat}{x:MS}(h:MM ρ w p x)(ok:Ok x)(hl:x.left<=65535)(h1:1<=x.dist)(h2:x.dist<=x.qc.length)(h3:∀ b∈x.qc,b<256)(hst:x.st=21) :
  Calls Tryz.prog 106 #[.pointer (some ⟨p,0,none⟩)] w fun v w'=>y0y ρ w p x.c21 v w':=by
 obtain ⟨R,hR⟩:∃ R,R=MS.copyL x.left x:=⟨_,rfl⟩
 have H0:Hid (∃ y,Kw ρ w p y R w):=⟨x,h,ok,hR.symm,hl,h1,h2,h3,Fr.refl _ _ _⟩
 have HF:Hid (x.c21=R):=by show x.c21=R;rw [hR];rfl
 have c7:=h.cell7.1;rw [hst] at c7;clear h ok hst hR hl h1 h2 h3;go_enter Tryz.func106,Tryz.ntmps106
 go_wp2_with fail
 go_loopw [] (fun wr=>Hid (∃ y,Kw ρ w p y R wr)) (fun wr=>xq0 wr p 25)
 case atStart=>exact H0
 case round=>
  clear H0;obtain ⟨y,Y⟩:=hrel.out;have c25:=Y.mm.cell25.1;have e25:=xv1 c25;have hl:=Y.left;have HY:Hid (Kw ρ w p y R wr):=Y;by_cases hz:y.left=0
  ·have HZ:Hid (R=({ y with st:=17 },0)):=by show R=_;rw [← HY.out.eq,MS.copy_zero hz]
   rw [hz] at c25;have k7:=Y.mm.cell7.1;have z7:=Y.mm.cell7.2;have H17:Hid (MM ρ (wr.setCell ⟨p,7,none⟩ (.int .i64 17)) p { y with st:=17 }∧Fr (fun k=>1<=k∧k<=5) ρ wr (wr.setCell ⟨p,7,none⟩ (.int .i64 17))):=Y.mm.st 17;clear hz Y hrel;go_wp2_with fail
   go_ret
   unfold y0y;rw [HF.out,HZ.out];exact ⟨rfl,H17.out.1,HY.out.fr.trans H17.out.2⟩
  ·obtain ⟨n,hn⟩:∃ n,y.left=n+1:=⟨y.left - 1,by omega⟩
   have HS:Hid (R=if (y.put (y.qc.getD (y.qc.length - y.dist) 0)).2=0 then MS.copyL n { (y.put (y.qc.getD (y.qc.length - y.dist) 0)).1 with left:=n } else y.put (y.qc.getD (y.qc.length - y.dist) 0)):=by show R=_;rw [← HY.out.eq,MS.copy_succ hn]
   have hpos:(0:Int)<y.left:=by omega
   have hb:y.qc.getD (y.qc.length - y.dist) 0<256:=getD_lt Y.qb _;obtain ⟨cw,c17,_,HBK0,_⟩:=Y.mm.win;have HBK:Hid (∀ n,Calls Tryz.prog 150 #[.pointer (some ⟨cw,0,none⟩), .int .i64 y.dist] (wr.drewN n) fun v w'=>v= .returned (.int .u8 (y.qc.getD (y.qc.length - y.dist) 0:Nat))∧∃ m,w'=(wr.drewN n).drewN m):=fun n=>HBK0 n y.dist Y.d1 Y.d2
   have c41:=Y.mm.cellI.2.2.2.2.2.2.1;obtain ⟨b,hbE⟩:∃ b,b=y.qc.getD (y.qc.length - y.dist) 0:=⟨_,rfl⟩
   rw [← hbE] at HS hb HBK;clear hbE HBK0;have HPF:=MS.put_facts Y.ok b;have hq256:y.qc.length<=256:=by obtain ⟨L,B,T⟩:=Y.mm;exact B.rc'
   obtain ⟨P,hP⟩:∃ P,P=y.put b:=⟨_,rfl⟩
   have HPT:Hid (∀ wq,MM ρ wq p y->Calls Tryz.prog 137 #[.pointer (some ⟨p,0,none⟩), .int .u8 b] wq fun v w'=>y0y ρ wq p P v w'):=fun wq m=>by rw [hP];exact mPut b m HY.out.ok hb
   rw [← hP] at HS HPF;have HPF':Hid (Ok P.1∧(P.2=0->P.1=y.putted b)):=HPF;clear hP HPF hz Y hrel;by_cases h1:P.2=0
   ·have hPe:=HPF'.out.2 h1;rw [if_pos h1] at HS;have hPl:P.1.left=n+1:=by rw [hPe];exact hn
    have HPD:Hid (1<=P.1.dist∧P.1.dist<=P.1.qc.length∧∀ b∈P.1.qc,b<256):=by
     show _∧_∧_;rw [hPe];refine ⟨HY.out.d1,?_,vso HY.out.qb hb⟩;have:=xsr y.qc b hq256;have h3:=HY.out.d2;show y.dist<=(MS.pushed y.qc b).length;omega
    obtain ⟨Q,t,hQ⟩:∃ Q t,P=(Q,t):=⟨_,_,rfl⟩
    rw [hQ] at HS HPF' HPT hPl HPD h1;clear hQ hPe;have h1':t=0:=h1;subst h1';clear h1;go_wp2_with fail
    go_region_with (first
     | (go_at_call 150;refine (HBK.out 1).mono ?_;rintro e w2 ⟨rfl,m2,hw2⟩;have H2:Hid (MM ρ w2 p y∧Fr (fun k=>1<=k∧k<=5) ρ w w2):=by { show _∧_;rw [hw2];exact ⟨(HY.out.mm.drewN 1).drewN m2,(HY.out.fr.drewN 1).drewN m2⟩ };clear hw2)
     | (go_at_call 137;refine (HPT.out _ H2.out.1).mono ?_;rintro e w3 ⟨rfl,g1,g2⟩;have H3:Hid (MM ρ w3 p Q∧Fr (fun k=>1<=k∧k<=5) ρ w w3):=⟨g1,H2.out.2.trans g2⟩;clear g1 g2))
    all_goals
     have d25:w3.cell? ⟨p,25,none⟩=some (.int .i64 (n+1:Nat)):=by rw [← hPl];exact H3.out.1.cell25.1
     have z25:=H3.out.1.cell25.2;have HL:=H3.out.1.left n;have HN:Hid (∃ y,Kw ρ w p y R (w3.setCell ⟨p,25,none⟩ (.int .i64 n))):=⟨{ Q with left:=n },HL.1,{ HPF'.out.1 with },HS.out.symm,by show n<=65535;omega,HPD.out.1,HPD.out.2.1,HPD.out.2.2,H3.out.2.trans HL.2⟩
     have eN:xq0 (w3.setCell ⟨p,25,none⟩ (.int .i64 n)) p 25=n:=xv1 HL.1.cell25.1;have hn1:((n+1:Nat):Int) - 1=(n:Int):=by omega
     clear HL;go_wp2_with fail
     go_roundw
     case rel=>exact HN
     case measure=>rw [e25,eN];omega
   ·rw [if_neg h1] at HS;obtain ⟨Q,t,hQ⟩:∃ Q t,P=(Q,t):=⟨_,_,rfl⟩
    rw [hQ] at HS HPF' HPT h1;clear hQ;have h1':¬ t=0:=h1;have h0':((t:Int)==0)=false:=by simp;exact h1'
    clear h1;go_wp2_with fail
    go_region_with (first
     | (go_at_call 150;refine (HBK.out 1).mono ?_;rintro e w2 ⟨rfl,m2,hw2⟩;have H2:Hid (MM ρ w2 p y∧Fr (fun k=>1<=k∧k<=5) ρ w w2):=by { show _∧_;rw [hw2];exact ⟨(HY.out.mm.drewN 1).drewN m2,(HY.out.fr.drewN 1).drewN m2⟩ };clear hw2)
     | (go_at_call 137;refine (HPT.out _ H2.out.1).mono ?_;rintro e w3 ⟨rfl,g1,g2⟩;have H3:Hid (MM ρ w3 p Q∧Fr (fun k=>1<=k∧k<=5) ρ w w3):=⟨g1,H2.out.2.trans g2⟩;clear g1 g2))
    all_goals
     go_wp2_with fail
     go_ret
     unfold y0y;rw [HF.out,HS.out];exact ⟨rfl,H3.out⟩
def zer(_:Nat):Int:=0
def x4p(f:Nat->Int):Bool:=(List.range 12).all fun i=>f i==zer i
theorem ynj(f:Nat->Int):x4p f=true↔∀ j,j<12->f j=0:=by simp [x4p,zer]
theorem zok(f:Nat->Int)(w:World):(Op.equalIn 10000 197 (.agg (arr f)) (.agg #[.int .i64 0, .int .i64 0, .int .i64 0, .int .i64 0, .int .i64 0, .int .i64 0, .int .i64 0, .int .i64 0, .int .i64 0, .int .i64 0, .int .i64 0, .int .i64 0])).run Tryz.prog w= .ok (x4p f) w:=by
 obtain ⟨i,hi⟩:∃ i,Tryz.prog.info? 3=some i:=by
  cases h:Tryz.prog.info? 3 with
  | none=>
    have:(Tryz.prog.info? 3).isSome=true:=by kernel_rfl
    simp [h] at this
  | some i=>exact ⟨i,rfl⟩
 have e:(#[.int .i64 0, .int .i64 0, .int .i64 0, .int .i64 0, .int .i64 0, .int .i64 0, .int .i64 0, .int .i64 0, .int .i64 0, .int .i64 0, .int .i64 0, .int .i64 0]:Array Value)=arr zer:=rfl;rw [e,show (10000:Nat)=9999+1 from rfl,run_equalIn_array w 9999 _ _ Tryz.underlying197 hi];exact xj3 9998 f zer w (List.range 12) (fun i hi=>by simpa using hi)
theorem xap(f:Nat->Int)(w:World) :
  Calls Tryz.prog 196 #[.agg (arr f)] w fun e w'=>e= .returned (.bool (x4p f))∧Below w.heap.size w w':=by
 have he:=zok f;go_enter Tryz.func196,Tryz.ntmps196
 go_wp2_with (refine wpList_load_row rfl 197 _ rfl _ rfl 199 (arr f) (0,0) _ (heap_alloc_new _ _) Tryz.underlying197 rfl (xz2 _) ?_)
 go_ret
 exact ⟨rfl,(Below.refl _ _).alloc (Nat.le_refl _) _⟩
theorem kex(f:Nat->Int)(w:World)(hf:∀ j,j<12->0<=f j∧f j<=1000000) :
  Calls Tryz.prog 173 #[.agg (arr f)] w fun e w'=>e= .returned (.bool ((shr f 12==2048) || y1y f || x4p f))∧Below w.heap.size w w':=by
 have hW:(w.alloc (.cells (arr f) 199)).heap[w.heap.size]?=some (.cells (arr f) 199):=heap_alloc_new _ _;have HB:Hid (Below w.heap.size w (w.alloc (.cells (arr f) 199))):=(Below.refl _ _).alloc (Nat.le_refl _) _;have hlt:w.heap.size<(w.alloc (.cells (arr f) 199)).heap.size:=by simp
 go_enter Tryz.func173,Tryz.ntmps173
 go_wp2_with (refine wpList_load_row rfl 199 _ rfl _ rfl 199 _ _ _ (heap_alloc_new _ _) Tryz.underlying199 rfl (zvc _) ?_)
 generalize w.alloc (.cells (arr f) 199)=W at *;refine (xni f _ hf).mono ?_;rintro e w2 ⟨rfl,hb2⟩;have HB2:Hid (Below w.heap.size w w2):=HB.out.trans (hb2.mono HB.out.size);have hg2:w2.heap[w.heap.size]?=some (.cells (arr f) 199 (0,0)):=(hb2.block _ hlt).trans hW;have hlt2:w.heap.size<w2.heap.size:=Nat.lt_of_lt_of_le hlt hb2.size;obtain ⟨c0,c1,c2,c3,c4,c5,c6,c7,c8,c9,c10,c11⟩:=jax hg2;clear hb2;cases hS:(shr f 12==2048) with
 | true=>
  go_wp2_with fail
  go_ret
  exact ⟨by rw [hS];rfl,HB2.out⟩
 | false=>
  go_wp2_with fail
  refine (jvc f _).mono ?_;rintro e w3 ⟨rfl,hb3⟩;have HB3:Hid (Below w.heap.size w w3):=HB2.out.trans (hb3.mono HB2.out.size);have hg3:w3.heap[w.heap.size]?=some (.cells (arr f) 199 (0,0)):=(hb3.block _ hlt2).trans hg2;clear hb3 c0 c1 c2 c3 c4 c5 c6 c7 c8 c9 c10 c11;obtain ⟨c0,c1,c2,c3,c4,c5,c6,c7,c8,c9,c10,c11⟩:=jax hg3;cases hO:y1y f with
  | true=>
   go_wp2_with fail
   go_ret
   exact ⟨by rw [hS,hO];rfl,HB3.out⟩
  | false=>
   go_wp2_with fail
   refine (xap f _).mono ?_;rintro e w4 ⟨rfl,hb4⟩;have HB4:Hid (Below w.heap.size w w4):=HB3.out.trans (hb4.mono HB3.out.size);clear hb4;go_wp2_with fail
   go_ret
   exact ⟨by rw [hS,hO];rfl,HB4.out⟩
structure xck(w w':World)(g:Nat)(la lb:List Int):Prop where
 ex:∃ (t u m n N M:Nat) (f h:Nat->Value),w'.rowIs g 224 2 (lrow [.pointer (some ⟨t,0,none⟩), .pointer (some ⟨u,0,none⟩)])∧bsum la 12=N∧bsum lb 12=M∧
  TabI w' 268 4 t m N (cn la) (fc (cn la)) (bgTo la 12) (lgTo la 12) (fun j=>[f (j*4),f (j*4+1),f (j*4+2),f (j*4+3)])∧LiteralT.Filled la f la.length∧
  TabI w' 271 2 u n M (cn lb) (fc (cn lb)) (bgTo lb 12) (lgTo lb 12) (fun j=>[h (j*2),h (j*2+1)])∧(∀ i,i<lb.length->0<lb.getD i 0->h (pos lb i*2)= .int .i64 (Tr.spanLeast 1 i)∧h (pos lb i*2+1)= .int .i64 (Tr.spanBits i))∧
  w.heap.size<=t∧w.heap.size<=m∧w.heap.size<=u∧w.heap.size<=n∧w.heap.size<=g
 bel:Below w.heap.size w w'
theorem TabI.below{w w':World}{T:TypeId}{k p m n:Nat}{a b c:Nat->Int}{lg:Nat}{mg:Nat->List Value}(I:TabI w T k p m n a b c lg mg)(f:Below w.heap.size w w'):TabI w' T k p m n a b c lg mg:=by
 refine ⟨j96 I.row f I.pm.1,fun j hj=>⟨(I.at_ j hj).1,fun i v hv=>?_⟩,Nat.lt_of_lt_of_le I.pm.1 f.size,Nat.lt_of_lt_of_le I.pm.2 f.size⟩;have:=(I.at_ j hj).2 i v hv;rw [← this];exact f.cell I.pm.2
theorem kvi(ad bd:Option Addr)(ca cb:Nat)(la lb:List Int)(w:World)(hla:la.length<=269)(hlb:lb.length<=16)(ha:xin w ad la)(hb:xin w bd lb)(ra:inRange la=true)(rb:inRange lb=true) :
  Calls Tryz.prog 163 #[.slice ad la.length ca, .slice bd lb.length cb] w fun e w'=>∃ g,e= .returned (.pointer (some ⟨g,0,none⟩))∧xck w w' g la lb:=by
 have HB:Hid (xin w bd lb):=hb;go_enter Tryz.func163,Tryz.ntmps163
 go_wp2_with fail
 refine (LiteralT.newTable ad ca la w hla ha ra).mono ?_;rintro e w1 ⟨t,m,N,f,rfl,h1,I1,F1,p1,p2,b1⟩;have H1:Hid (bsum la 12=N∧TabI w1 268 4 t m N (cn la) (fc (cn la)) (bgTo la 12) (lgTo la 12) (fun j=>[f (j*4),f (j*4+1),f (j*4+2),f (j*4+3)])∧LiteralT.Filled la f la.length∧w.heap.size<=t∧w.heap.size<=m∧Below w.heap.size w w1):=⟨h1,I1,F1,p1,p2,b1⟩
 clear h1 I1 F1 p1 p2 b1;go_wp2_with fail
 refine (x7m bd cb lb w1 hlb (HB.out.below H1.out.2.2.2.2.2 (Nat.le_refl _)) rb).mono ?_;rintro e w2 ⟨u,n,M,h,rfl,h2,I2,F2,q1,q2,b2⟩;have hs:=H1.out.2.2.2.2.2.size;have H2:Hid (xck w (w2.alloc (.cells #[.pointer (some ⟨t,0,none⟩), .pointer (some ⟨u,0,none⟩)] 224)) w2.heap.size la lb):=by
  have bW:Below w.heap.size w w2:=H1.out.2.2.2.2.2.trans (b2.mono hs);have bA:Below w2.heap.size w2 (w2.alloc (.cells #[.pointer (some ⟨t,0,none⟩), .pointer (some ⟨u,0,none⟩)] 224)):=(Below.refl _ _).alloc (Nat.le_refl _) _;refine ⟨⟨t,u,m,n,N,M,f,h,?_,H1.out.1,h2,(H1.out.2.1.below b2).below bA,H1.out.2.2.1,I2.below bA,F2,H1.out.2.2.2.1,H1.out.2.2.2.2.1,by omega,by omega,by have:=b2.size;omega⟩,bW.trans (bA.mono bW.size)⟩;exact World.rowIs_alloc w2 _ _ _ (fun i hi=>by
   have:i=0∨i=1:=by have:i<2:=hi;omega
   rcases this with rfl | rfl <;> rfl)
 clear h2 I2 F2 q1 q2 b2 hs;go_wp2_with fail
 go_ret
 exact ⟨_,rfl,H2.out⟩
def zeroOwn(w:World)(p:Nat):World:=((((((((((w).setCell ⟨p,26,none⟩ (.int .i64 0)).setCell ⟨p,27,none⟩ (.int .i64 0)).setCell ⟨p,28,none⟩ (.int .i64 0)).setCell ⟨p,29,none⟩ (.slice none 0 0)).setCell ⟨p,30,none⟩ (.pointer none)).setCell ⟨p,31,none⟩ (.int .i64 0)).setCell ⟨p,32,none⟩ (.bool false)).setCell ⟨p,33,none⟩ (.int .i64 0)).setCell ⟨p,34,none⟩ (.int .i64 0)).setCell ⟨p,35,none⟩ (.slice none 0 0)
theorem MB.zeroOwn{ρ:Nat->Nat}{w:World}{p:Nat}{x:MS}{L:Lo}(h:MB ρ w p x L):MB ρ (zeroOwn w p) p { x with nl:=0,nd:=0,told:=0,hlen:=0,hbef:=false,hleast:=0,hbits:=0 } { L with hv:= .slice none 0 0,hp:= .pointer none,rv:= .slice none 0 0 }:=((((((((((h).set (y:={ x with nl:=0 }) (M:=L) 26 (.int .i64 0) rfl ⟨rfl,rfl,rfl,rfl⟩ ⟨rfl,rfl⟩).set (y:={ x with nl:=0,nd:=0 }) (M:=L) 27 (.int .i64 0) rfl ⟨rfl,rfl,rfl,rfl⟩ ⟨rfl,rfl⟩).set (y:={ x with nl:=0,nd:=0,told:=0 }) (M:=L) 28 (.int .i64 0) rfl ⟨rfl,rfl,rfl,rfl⟩ ⟨rfl,rfl⟩).set (y:={ x with nl:=0,nd:=0,told:=0 }) (M:={ L with hv:= .slice none 0 0 }) 29 (.slice none 0 0) rfl ⟨rfl,rfl,rfl,rfl⟩ ⟨rfl,rfl⟩).set (y:={ x with nl:=0,nd:=0,told:=0 }) (M:={ L with hv:= .slice none 0 0,hp:= .pointer none }) 30 (.pointer none) rfl ⟨rfl,rfl,rfl,rfl⟩ ⟨rfl,rfl⟩).set (y:={ x with nl:=0,nd:=0,told:=0,hlen:=0 }) (M:={ L with hv:= .slice none 0 0,hp:= .pointer none }) 31 (.int .i64 0) rfl ⟨rfl,rfl,rfl,rfl⟩ ⟨rfl,rfl⟩).set (y:={ x with nl:=0,nd:=0,told:=0,hlen:=0,hbef:=false }) (M:={ L with hv:= .slice none 0 0,hp:= .pointer none }) 32 (.bool false) rfl ⟨rfl,rfl,rfl,rfl⟩ ⟨rfl,rfl⟩).set (y:={ x with nl:=0,nd:=0,told:=0,hlen:=0,hbef:=false,hleast:=0 }) (M:={ L with hv:= .slice none 0 0,hp:= .pointer none }) 33 (.int .i64 0) rfl ⟨rfl,rfl,rfl,rfl⟩ ⟨rfl,rfl⟩).set (y:={ x with nl:=0,nd:=0,told:=0,hlen:=0,hbef:=false,hleast:=0,hbits:=0 }) (M:={ L with hv:= .slice none 0 0,hp:= .pointer none }) 34 (.int .i64 0) rfl ⟨rfl,rfl,rfl,rfl⟩ ⟨rfl,rfl⟩).set (y:={ x with nl:=0,nd:=0,told:=0,hlen:=0,hbef:=false,hleast:=0,hbits:=0 }) (M:={ L with hv:= .slice none 0 0,hp:= .pointer none,rv:= .slice none 0 0 }) 35 (.slice none 0 0) rfl ⟨rfl,rfl,rfl,rfl⟩ ⟨rfl,rfl⟩
theorem Fr.zeroOwn{ρ:Nat->Nat}(w:World)(p:Nat)(h:ρ p=1):Fr (fun k=>1<=k∧k<=5) ρ w (zeroOwn w p):=(((((((((Fr.own _ p 26 _ h).trans (Fr.own _ p 27 _ h)).trans (Fr.own _ p 28 _ h)).trans (Fr.own _ p 29 _ h)).trans (Fr.own _ p 30 _ h)).trans (Fr.own _ p 31 _ h)).trans (Fr.own _ p 32 _ h)).trans (Fr.own _ p 33 _ h)).trans (Fr.own _ p 34 _ h)).trans (Fr.own _ p 35 _ h)
theorem kno{b:List Int}(hr:inRange b=true):x4p (cn b)=true↔jwa (fun _=>1) b=0:=by
 rw [ynj];have e:=jxn (l:=b) (g:=fun _=>1) hr;constructor
 ·intro h;rw [← e];have:∀ k,k<=12->xir (cn b) (fun _=>1) k=0:=fun k=>by
   induction k with
   | zero=>intro _;rfl
   | succ k ih=>intro hk;show xir (cn b) (fun _=>1) k+cn b k*1=0;rw [ih (by omega),h k (by omega)];rfl
  exact this 12 (by omega)
 ·intro h j hj;by_cases h0:j=0
  ·subst h0;exact xu8 b
  ·rw [yzd b j (by omega),v6y b h]
theorem xck.sets{ρ:Nat->Nat}{w w':World}{g:Nat}{la lb:List Int}(h:xck w w' g la lb)(ra:inRange la=true)(rb:inRange lb=true)(hla:la.length<=269)(hlb:lb.length<=16)(hz:∀ k,w.heap.size<=k->ρ k=0) :
  ∃ ρ',Ext w.heap.size ρ ρ'∧(∀ k,ρ k≠0->ρ' k=ρ k)∧(∀ k,ρ' k≠0->ρ k≠0∨k<w'.heap.size)∧yoe ρ' w' g la lb:=by
 obtain ⟨t,u,m,n,N,M,f,hh,h1,h2,h3,h4,h5,h6,h7,p1,p2,p3,p4,p5⟩:=h.ex;obtain ⟨ρ',hρ⟩:∃ ρ':Nat->Nat,ρ'=fun k=>if k=t∨k=u∨k=m∨k=n∨k=g then 8 else ρ k:=⟨_,rfl⟩
 have e8:∀ k,k=t∨k=u∨k=m∨k=n∨k=g->ρ' k=8:=fun k hk=>by rw [hρ];exact if_pos hk
 have en:∀ k,¬ (k=t∨k=u∨k=m∨k=n∨k=g)->ρ' k=ρ k:=fun k hk=>by rw [hρ];exact if_neg hk
 refine ⟨ρ',fun k hk=>en k (by omega),fun k hk=>en k (fun hq=>hk (hz k (by omega))),fun k hk=>?_,t,u,h1,e8 g (by simp),⟨⟨m,N,_,h4,h2,fun i hi h0=>?_,e8 m (by simp)⟩,e8 t (by simp),ra,hla⟩,⟨⟨n,M,_,h6,h3,fun i hi h0=>?_,e8 n (by simp)⟩,e8 u (by simp),rb,by omega⟩⟩
 ·by_cases hq:k=t∨k=u∨k=m∨k=n∨k=g
  ·right
   have a1:=h4.pm;have a2:=h6.pm;have a3:=h1.lt;omega
  ·left;rw [← en k hq];exact hk
 ·have:=h5 i hi h0;show [_,_,_,_]=(litC i).toList;rw [← this]
 ·have:=h7 i hi h0;show [hh (pos lb i*2),hh (pos lb i*2+1)]=(y5c 1 i).toList;rw [this.1,this.2];rfl
theorem ysj{ρ:Nat->Nat}{w w':World}{p g:Nat}{x:MS}{la lb:List Int}(h:MM ρ w p x)(m:xck w w' g la lb)(ra:inRange la=true)(rb:inRange lb=true)(hla:la.length<=269)(hlb:lb.length<=16) :
  ym0 ρ w p { x with la:=la,lb:=lb,nl:=0,nd:=0,told:=0,hl:=[],hs:=[],hlen:=0,hbef:=false,hleast:=0,hbits:=0,row:=[],st:=17 } ((zeroOwn (w'.setCell ⟨p,37,none⟩ (.pointer (some ⟨g,0,none⟩))) p).setCell ⟨p,7,none⟩ (.int .i64 17)):=by
 obtain ⟨ρ',e1,e2,e3,S⟩:=m.sets (ρ:=ρ) ra rb hla hlb (fun k hk=>h.new k hk);obtain ⟨L,B,T⟩:=h.below m.bel;have B1:=B.rho e2;have T1:=T.rho e2 (fun k hk=>by rcases e3 k hk with h | h;exact T.lt k h;exact h);have B2:=B1.set (y:=x) (M:={ L with sets:= .pointer (some ⟨g,0,none⟩) }) 37 (.pointer (some ⟨g,0,none⟩)) rfl ⟨rfl,rfl,rfl,rfl⟩ ⟨rfl,rfl⟩;have B3:=B2.zeroOwn;have B4:=B3.set (y:={ x with nl:=0,nd:=0,told:=0,hlen:=0,hbef:=false,hleast:=0,hbits:=0,st:=17 }) (M:={ L with sets:= .pointer (some ⟨g,0,none⟩),hv:= .slice none 0 0,hp:= .pointer none,rv:= .slice none 0 0 }) 7 (.int .i64 17) rfl ⟨rfl,rfl,rfl,rfl⟩ ⟨rfl,rfl⟩;have rp:=B1.rp;have F:Fr (fun k=>1<=k∧k<=5) ρ' w' ((zeroOwn (w'.setCell ⟨p,37,none⟩ (.pointer (some ⟨g,0,none⟩))) p).setCell ⟨p,7,none⟩ (.int .i64 17)):=((Fr.own w' p 37 _ rp).trans (Fr.zeroOwn _ p rp)).trans (Fr.own _ p 7 _ rp);have T2:MT ρ' w' { x with la:=la,lb:=lb,hl:=[],hs:=[],row:=[] } { L with sets:= .pointer (some ⟨g,0,none⟩),hv:= .slice none 0 0,hp:= .pointer none,rv:= .slice none 0 0 }:=⟨T1.sup,⟨OI.nil _ _,fun b hb=>by cases hb⟩,⟨OI.nil _ _,fun b hb=>by cases hb⟩,Or.inl rfl,Or.inr ⟨g,rfl,S⟩,T1.fx,T1.lt⟩
 refine ⟨⟨ρ',e1,{ L with sets:= .pointer (some ⟨g,0,none⟩),hv:= .slice none 0 0,hp:= .pointer none,rv:= .slice none 0 0 },⟨B4.row,B4.ra,B4.rc,B4.rp,B4.rl⟩,(T2.fr5 F).same rfl rfl rfl rfl ⟨rfl,rfl⟩⟩,?_⟩;exact (Fr.below (ρ:=ρ) m.bel).ext F.five_mine e1
theorem MM.rowA{ρ:Nat->Nat}{w:World}{p:Nat}{x:MS}(h:MM ρ w p x)(hp:0<x.row.length):∃ g cap,w.cell? ⟨p,35,none⟩=some (.slice (some ⟨g,0,none⟩) x.row.length cap)∧xin w (some ⟨g,0,none⟩) x.row∧x.row.length<=cap∧cap<=maxLen∧g<w.heap.size:=by
 obtain ⟨L,B,T⟩:=h;obtain ⟨ad,cap,e,hc⟩:=T.rw.1.cells;rcases T.rw.1.2 with ⟨_,h0⟩ | ⟨g,cap',cur,hv,_,hg,h1,h2,_⟩
 ·omega
 ·rw [hv] at e;injection e with e1 e2 e3
  refine ⟨g,cap',by rw [← hv];exact B.row.cell (i:=35) (by omega),by rw [e1];exact hc,h1,h2,(Array.getElem?_eq_some_iff.1 hg).1⟩
theorem xin.take{w:World}{g:Nat}{l:List Int}(h:xin w (some ⟨g,0,none⟩) l)(n:Nat):xin w (some ⟨g,0,none⟩) (l.take n):=fun k hk=>by
 obtain ⟨b,o,e,h1,h2⟩:=h k (by simp at hk;omega);refine ⟨b,o,e,h1,?_⟩;rw [h2];have:k<n:=by simp at hk;omega
 simp [List.getElem?_take,this]
theorem xin.drop{w:World}{g:Nat}{l:List Int}(h:xin w (some ⟨g,0,none⟩) l)(n:Nat):xin w (some ⟨g,n,none⟩) (l.drop n):=fun k hk=>by
 obtain ⟨b,o,e,h1,h2⟩:=h (n+k) (by simp at hk;omega);injection e with e
 injection e with e1 e2
 subst e1 e2;refine ⟨g,n,rfl,h1,?_⟩;rw [show n+k=0+(n+k) by omega,h2];simp [List.getElem?_drop]
theorem ym0.of{ρ:Nat->Nat}{w w':World}{p:Nat}{y:MS}(h:MM ρ w' p y)(f:Fr mine ρ w w'):ym0 ρ w p y w':=⟨⟨ρ,Ext.refl _ _,h⟩,f⟩
theorem xlz{a b:List Int}(ra:inRange a=true)(rb:inRange b=true):jcj a b↔a.getD 256 0=0∨(shr (cn a) 12==2048)=false∨((shr (cn b) 12==2048) || y1y (cn b) || x4p (cn b))=false:=by
 have ea:shr (cn a) 12=jwa gw a:=by rw [kfr a ra,yky]
 have eb:shr (cn b) 12=jwa gw b:=by rw [kfr b rb,yky]
 have hn:=kno rb;have h0:0<=jwa (fun _=>1) b:=by
  rw [← jxn _ _ rb];have:∀ k,0<=xir (cn b) (fun _=>1) k:=fun k=>by
   induction k with
   | zero=>simp [xir]
   | succ k ih=>have:=v4o b k;show 0<=xir (cn b) (fun _=>1) k+cn b k*1;omega
  exact this 12
 unfold jcj;rw [ea,eb,ksm rb];constructor
 ·rintro (h | h | ⟨h1,h2,h3⟩)
  ·exact Or.inl h
  ·exact Or.inr (Or.inl (by simp [h]))
  ·refine Or.inr (Or.inr ?_);have:x4p (cn b)=false:=by
    cases hq:x4p (cn b)
    ·rfl
    ·have:=hn.1 hq;omega
   rw [h2,this];simp [h1]
 ·rintro (h | h | h)
  ·exact Or.inl h
  ·exact Or.inr (Or.inl (by simpa using h))
  ·refine Or.inr (Or.inr ?_);simp only [Bool.or_eq_false_iff] at h;refine ⟨by simpa using h.1.1,h.1.2,?_⟩;have:¬ jwa (fun _=>1) b=0:=fun e=>by rw [hn.2 e] at h;cases h.2
   omega
theorem kpl{ρ:Nat->Nat}{w:World}{p:Nat}{x:MS}(h:MM ρ w p x)(hr:inRange x.row=true)(hl:x.row.length=x.nl+x.nd)(h1:257<=x.nl∧x.nl<=269)(h2:1<=x.nd∧x.nd<=16) :
  Calls Tryz.prog 144 #[.pointer (some ⟨p,0,none⟩)] w fun v w'=>xxu ρ w p x.endRow v w':=by
 have HM:Hid (MM ρ w p x):=h;obtain ⟨g,cap,c35,hco,hcl,hcm,hg⟩:=h.rowA (by omega);obtain ⟨c26,_⟩:=h.own;have ra:inRange (x.row.take x.nl)=true:=zgl hr (fun y hy=>List.mem_of_mem_take hy);have rb:inRange (x.row.drop x.nl)=true:=zgl hr (fun y hy=>List.mem_of_mem_drop hy);have la:(x.row.take x.nl).length=x.nl:=by simp;omega
 have lb:(x.row.drop x.nl).length=x.nd:=by simp;omega
 have HBS:=xlz ra rb;have HE:Hid (x.endRow=if jcj (x.row.take x.nl) (x.row.drop x.nl) then x.refuse 10 else ({ x with la:=x.row.take x.nl,lb:=x.row.drop x.nl,nl:=0,nd:=0,told:=0,hl:=[],hs:=[],hlen:=0,hbef:=false,hleast:=0,hbits:=0,row:=[],st:=17 },0)):=rfl;have hc256:w.cell? ⟨g,256,none⟩=some (.int .i64 ((x.row.take x.nl).getD 256 0)):=by
  obtain ⟨b,o,e,_,hh⟩:=(hco.take x.nl) 256 (by omega);injection e with e
  injection e with e1 e2
  subst e1 e2;rw [show (256:Nat)=0+256 from rfl];exact hh
 have HCA:Hid (∀ w',Below w.heap.size w w'->xin w' (some ⟨g,0,none⟩) (x.row.take x.nl)∧xin w' (some ⟨g,x.nl,none⟩) (x.row.drop x.nl)):=fun w' b=>⟨(hco.take x.nl).below b (Nat.le_refl _),(hco.drop x.nl).below b (Nat.le_refl _)⟩
 have HEM:Hid (∀ w0 w' g',Below w.heap.size w w0->xck w0 w' g' (x.row.take x.nl) (x.row.drop x.nl)->ym0 ρ w0 p { x with la:=x.row.take x.nl,lb:=x.row.drop x.nl,nl:=0,nd:=0,told:=0,hl:=[],hs:=[],hlen:=0,hbef:=false,hleast:=0,hbits:=0,row:=[],st:=17 } ((zeroOwn (w'.setCell ⟨p,37,none⟩ (.pointer (some ⟨g',0,none⟩))) p).setCell ⟨p,7,none⟩ (.int .i64 17))):=fun w0 w' g' b m=>ysj (HM.out.below b) m ra rb (by omega) (by omega)
 have hcne:¬ cap=x.nl:=by omega
 have hle:x.nl<=cap:=by omega
 have hlei:(x.nl:Int)<=cap:=by omega
 have hlN:x.nl<=x.row.length:=by omega
 have hsub:x.row.length - x.nl=x.nd:=by omega
 unfold maxLen at hcm;obtain ⟨A,hA⟩:∃ A,A=x.row.take x.nl:=⟨_,rfl⟩
 obtain ⟨Bq,hB⟩:∃ B,B=x.row.drop x.nl:=⟨_,rfl⟩
 rw [← hA,← hB] at HBS HE HCA HEM;rw [← hA] at hc256 ra la;rw [← hB] at rb lb;clear hA hB hco h;have HSA:Hid (∀ w' cp,Below w.heap.size w w'->Calls Tryz.prog 114 #[.slice (some ⟨g,0,none⟩) x.nl cp] w' fun e w''=>e= .returned (.agg (arr (cn A)))∧Below w'.heap.size w' w''):=fun w' cp b=>by
  have:=v5q (some ⟨g,0,none⟩) cp A w' (by omega) (HCA.out w' b).1 ra;rw [la] at this;exact this
 have HSB:Hid (∀ w' cp,Below w.heap.size w w'->Calls Tryz.prog 114 #[.slice (some ⟨g,x.nl,none⟩) x.nd cp] w' fun e w''=>e= .returned (.agg (arr (cn Bq)))∧Below w'.heap.size w' w''):=fun w' cp b=>by
  have:=v5q (some ⟨g,x.nl,none⟩) cp Bq w' (by omega) (HCA.out w' b).2 rb;rw [lb] at this;exact this
 have HSS:Hid (∀ w' ca cb,Below w.heap.size w w'->Calls Tryz.prog 163 #[.slice (some ⟨g,0,none⟩) x.nl ca, .slice (some ⟨g,x.nl,none⟩) x.nd cb] w' fun e w''=>∃ g',e= .returned (.pointer (some ⟨g',0,none⟩))∧xck w' w'' g' A Bq):=fun w' ca cb b=>by
  have:=kvi (some ⟨g,0,none⟩) (some ⟨g,x.nl,none⟩) ca cb A Bq w' (by omega) (by omega) (HCA.out w' b).1 (HCA.out w' b).2 ra rb;rw [la,lb] at this;exact this
 have HBA:=z7r (l:=A) (by omega);have HBB:=z7r (l:=Bq) (by omega);have HHA:Hid (∀ j,j<12->0<=cn A j∧cn A j<=1000000):=HBA;have HHB:Hid (∀ j,j<12->0<=cn Bq j∧cn Bq j<=1000000):=HBB;have HBI:Hid (jcj A Bq↔A.getD 256 0=0∨(shr (cn A) 12==2048)=false∨((shr (cn Bq) 12==2048) || y1y (cn Bq) || x4p (cn Bq))=false):=HBS;clear HBA HBB HBS ra rb la lb;obtain ⟨v256,hv⟩:∃ v,v=A.getD 256 0:=⟨_,rfl⟩
 rw [← hv] at hc256 HBI;clear hv;go_enter Tryz.func144,Tryz.ntmps144
 go_wp2_with fail
 go_quiet (fail)
 have HD0:Hid (Below w.heap.size w (w.drewN nq)):=⟨rfl,rfl,rfl,Nat.le_refl _,fun _ _=>rfl⟩
 by_cases hv0:v256=0
 ·have hvd:(v256==0)=true:=by simp [hv0]
  have HBAD:Hid (jcj A Bq):=HBI.out.2 (Or.inl hv0);clear hv0;go_wp2_with fail
  refine (kv8 10 (HM.out.below HD0.out)).mono ?_;rintro v w9 ⟨rfl,g3,g4⟩;have HR2:Hid (ym0 ρ w p (x.refuse 10).1 w9):=ym0.of g3 ((Fr.below HD0.out).trans g4.five_mine);clear g3 g4;go_wp2_with fail
  go_ret
  unfold xxu;rw [HE.out,if_pos HBAD.out];exact ⟨rfl,HR2.out⟩
 ·have hvd:(v256==0)=false:=by simp;exact hv0
  have HV0:Hid (¬ v256=0):=hv0;clear hv0;go_wp2_with fail
  refine (HSA.out _ _ HD0.out).mono ?_;rintro e w1 ⟨rfl,b1⟩;have HD1:Hid (Below w.heap.size w w1):=HD0.out.trans (b1.mono HD0.out.size);clear b1;go_wp2_with fail
  refine (xni (cn A) _ HHA.out).mono ?_;rintro e w2 ⟨rfl,b2⟩;have HD2:Hid (Below w.heap.size w w2):=HD1.out.trans (b2.mono HD1.out.size);clear b2;cases hS:(shr (cn A) 12==2048) with
  | false=>
   have HBAD:Hid (jcj A Bq):=HBI.out.2 (Or.inr (Or.inl hS));clear hS;go_wp2_with fail
   refine (kv8 10 (HM.out.below HD2.out)).mono ?_;rintro v w9 ⟨rfl,g3,g4⟩;have HR2:Hid (ym0 ρ w p (x.refuse 10).1 w9):=ym0.of g3 ((Fr.below HD2.out).trans g4.five_mine);clear g3 g4;go_wp2_with fail
   go_ret
   unfold xxu;rw [HE.out,if_pos HBAD.out];exact ⟨rfl,HR2.out⟩
  | true=>
   have HS:Hid ((shr (cn A) 12==2048)=true):=hS;clear hS;go_wp2_with fail
   refine (HSB.out _ _ HD2.out).mono ?_;rintro e w3 ⟨rfl,b3⟩;have HD3:Hid (Below w.heap.size w w3):=HD2.out.trans (b3.mono HD2.out.size);clear b3;go_wp2_with fail
   refine (kex (cn Bq) _ HHB.out).mono ?_;rintro e w4 ⟨rfl,b4⟩;have HD4:Hid (Below w.heap.size w w4):=HD3.out.trans (b4.mono HD3.out.size);clear b4;cases hD:((shr (cn Bq) 12==2048) || y1y (cn Bq) || x4p (cn Bq)) with
   | false=>
    have HBAD:Hid (jcj A Bq):=HBI.out.2 (Or.inr (Or.inr hD));clear hD;go_wp2_with fail
    refine (kv8 10 (HM.out.below HD4.out)).mono ?_;rintro v w9 ⟨rfl,g3,g4⟩;have HR2:Hid (ym0 ρ w p (x.refuse 10).1 w9):=ym0.of g3 ((Fr.below HD4.out).trans g4.five_mine);clear g3 g4;go_wp2_with fail
    go_ret
    unfold xxu;rw [HE.out,if_pos HBAD.out];exact ⟨rfl,HR2.out⟩
   | true=>
    have HGOOD:Hid (¬ jcj A Bq):=fun hb=>by
     rcases HBI.out.1 hb with hb | hb | hb
     ·exact HV0.out hb
     ·rw [HS.out] at hb;cases hb
     ·rw [hD] at hb;cases hb
    clear hD;go_wp2_with fail
    refine (HSS.out _ _ _ HD4.out).mono ?_;rintro e w5 ⟨g',rfl,MS5⟩;have HA5:Hid (ym0 ρ w4 p { x with la:=A,lb:=Bq,nl:=0,nd:=0,told:=0,hl:=[],hs:=[],hlen:=0,hbef:=false,hleast:=0,hbits:=0,row:=[],st:=17 } ((zeroOwn (w5.setCell ⟨p,37,none⟩ (.pointer (some ⟨g',0,none⟩))) p).setCell ⟨p,7,none⟩ (.int .i64 17))):=HEM.out w4 w5 g' HD4.out MS5;have HM5:Hid (MM ρ w5 p x):=(HM.out.below HD4.out).below MS5.bel;clear MS5;obtain ⟨L,B5,T5⟩:=HM5.out;have k37:=B5.row.cell (i:=37) (by omega);have z37:=B5.row.frozen 37;have k26:=B5.row.cell (i:=26) (by omega);have z26:=B5.row.frozen 26;have k27:=B5.row.cell (i:=27) (by omega);have z27:=B5.row.frozen 27;have k28:=B5.row.cell (i:=28) (by omega);have z28:=B5.row.frozen 28;have k29:=B5.row.cell (i:=29) (by omega);have z29:=B5.row.frozen 29;have k30:=B5.row.cell (i:=30) (by omega);have z30:=B5.row.frozen 30;have k31:=B5.row.cell (i:=31) (by omega);have z31:=B5.row.frozen 31;have k32:=B5.row.cell (i:=32) (by omega);have z32:=B5.row.frozen 32;have k33:=B5.row.cell (i:=33) (by omega);have z33:=B5.row.frozen 33;have k34:=B5.row.cell (i:=34) (by omega);have z34:=B5.row.frozen 34;have k35:=B5.row.cell (i:=35) (by omega);have z35:=B5.row.frozen 35;have k7:=B5.row.cell (i:=7) (by omega);have z7:=B5.row.frozen 7;have e37:w5.cell? ⟨p,37,none⟩=some L.sets:=k37;have e26:w5.cell? ⟨p,26,none⟩=some (.int .i64 x.nl):=k26;have e27:w5.cell? ⟨p,27,none⟩=some (.int .i64 x.nd):=k27;have e28:w5.cell? ⟨p,28,none⟩=some (.int .i64 x.told):=k28;have e29:w5.cell? ⟨p,29,none⟩=some L.hv:=k29;have e30:w5.cell? ⟨p,30,none⟩=some L.hp:=k30;have e31:w5.cell? ⟨p,31,none⟩=some (.int .i64 x.hlen):=k31;have e32:w5.cell? ⟨p,32,none⟩=some (.bool x.hbef):=k32;have e33:w5.cell? ⟨p,33,none⟩=some (.int .i64 x.hleast):=k33;have e34:w5.cell? ⟨p,34,none⟩=some (.int .i64 x.hbits):=k34;have e35:w5.cell? ⟨p,35,none⟩=some L.rv:=k35;have e7:w5.cell? ⟨p,7,none⟩=some (.int .i64 x.st):=k7;clear B5 T5 k37 k26 k27 k28 k29 k30 k31 k32 k33 k34 k35 k7 c35 c26 hc256;unfold zeroOwn at HA5;go_wp2_with fail
    go_ret
    unfold xxu;rw [HE.out,if_neg HGOOD.out];exact ⟨rfl,ym0.next (Ext.refl _ _) (Fr.below HD4.out) HA5.out⟩
end Go.Proofs.YtbcjmakpempkiaaGreatDoor
