import Derived.Laws.IdiomStrings
import Derived.Test.YtbcjmakpempkiaaGreatDoorX01
set_option maxRecDepth 100000
set_option maxHeartbeats 8000000
set_option linter.all false
namespace Go.Proofs.YtbcjmakpempkiaaGreatDoor
open Go.RowKit
theorem Inv.waitAt{B gW d:Nat}{ρ:Nat->Nat}{s:kuu}{w:World}(h:Inv B gW d ρ s w){k:Nat}(hk:k<s.waits.length)(hd:d<=k) :
  ∃ (gw cw:Nat) (ad bd:Option Addr) (cr:Nat) (gr pr:Nat),s.vw= .slice (some ⟨gw,0,none⟩) s.waits.length cw∧s.vr= .slice (some ⟨gr,0,none⟩) s.waits.length pr∧gw<w.heap.size∧gr<w.heap.size∧
   w.cell? ⟨gw,k,none⟩=some (.slice ad (s.waits[k]).2.length (s.waits[k]).2.length)∧w.cell? ⟨gr,k,none⟩=some (.slice bd (s.waits[k]).2.length cr)∧
   s.waits[k].1= .slice ad (s.waits[k]).2.length (s.waits[k]).2.length∧(ad=none->s.waits[k].2.length=0)∧xin w ad (s.waits[k]).2∧xin w bd (s.waits[k]).2:=by
 obtain ⟨gw,cw,hv,hB,hlt⟩:=h.wts.form (by omega);have hlw:=h.lenw;obtain ⟨gr,pr,hv2,hB2,hlt2⟩:=h.wrs.form (by omega);rw [hlw] at hv2;obtain ⟨hO,hti⟩:=h.wt k hk hd;have hO2:=h.wr k (by omega) hk;obtain ⟨ad,cp,e1,c1⟩:=hO.cells;obtain ⟨bd,cr,e2,c2⟩:=hO2.cells;have hcp:cp=(s.waits[k]).2.length∧(ad=none->(s.waits[k]).2.length=0):=by
  rcases hti with e | ⟨g,n,e⟩
  ·rw [e1] at e;simp only [Value.slice.injEq] at e;exact ⟨by omega,fun _=>by omega⟩
  ·rw [e1] at e;simp only [Value.slice.injEq] at e;exact ⟨by omega,fun x=>by rw [x] at e;simp at e⟩
 have hw:=h.wts;rw [hv] at hw;have hr:=h.wrs;rw [hlw,hv2] at hr;refine ⟨gw,cw,ad,bd,cr,gr,pr,hv,hv2,hlt,hlt2,?_,?_,by rw [e1,hcp.1],hcp.2,c1,c2⟩
 ·rw [World.ownsRow.cellAt hw k (by omega)];simp [hk,e1,hcp.1]
 ·rw [World.ownsRow.cellAt hr k (by omega)];simp [hlw,hk,e2]
theorem z5b(s:kuu)(m:Nat)(i:Nat)(hi:i<9):(if i=4 then (.int .i64 (m:Int)) else fld s i)=fld { s with mks:=m } i:=by
 have:i=0∨i=1∨i=2∨i=3∨i=4∨i=5∨i=6∨i=7∨i=8:=by omega
 rcases this with rfl | rfl | rfl | rfl | rfl | rfl | rfl | rfl | rfl <;> simp [fld]
theorem ju9{B gW k m d:Nat}{ρ:Nat->Nat}{s:kuu}{vb:Value}{bs:List (Int×List Value)}{w:World}{v:Value}{l:List Int}{c:Int}(h:Inv B gW d ρ { s with mks:=m+k,vb:=vb,books:=bs } w)(hO:OI w B v l)(hv:∀ g,v.ownBlock=some g->g≠gW) :
  OI (w.setCell ⟨gW,4,none⟩ (.int .i64 ((m:Int)+k+1))) B v (List.replicate 0 c++l.drop 0)∧(w.setCell ⟨gW,4,none⟩ (.int .i64 ((m:Int)+k+1))).rowIs gW 75 9 (fld { s with mks:=m+k+1,vb:=vb,books:=bs })∧Kp (fun r=>r=5∨r=10+d) ρ w (w.setCell ⟨gW,4,none⟩ (.int .i64 ((m:Int)+k+1)))∧Below B w (w.setCell ⟨gW,4,none⟩ (.int .i64 ((m:Int)+k+1))):=by
 refine ⟨?_,?_,Kp.of_set w _ _ (Or.inl h.rW),(Below.refl _ _).setCell h.gB _⟩
 ·simp only [List.replicate_zero,List.nil_append,List.drop_zero];exact kcz (R:=fun k=>k=gW) (ρ:=fun k=>k) hO ⟨by simp [World.setCell],fun k _ hk=>Below.heap_setCell _ _ _ _ hk⟩ (fun x hx=>hv x hx)
 ·have e:(m:Int)+k+1=((m+k+1:Nat):Int):=by omega
  rw [e];exact (h.row.set 4 _).congr (fun i hi=>z5b { s with mks:=m+k,vb:=vb,books:=bs } (m+k+1) i hi)
theorem jzs{w:World}{B g n:Nat}{l:List Int}{j:Nat}{c:Int}(h:OI w B (.slice (some ⟨g,0,none⟩) n n) (List.replicate j c++l.drop j))(hn:n=l.length)(hj:j<l.length):∃ y,w.cell? ⟨g,j,none⟩=some (.int .i64 y):=by
 have e:(List.replicate j c++l.drop j).length=n:=by simp;omega
 have h':w.ownsRow B 3 1 (.slice (some ⟨g,0,none⟩) n n) n (k2f (List.replicate j c++l.drop j)):=by have:=h;unfold OI at this;rw [e] at this;exact this
 refine ⟨l[j],?_⟩;rw [World.ownsRow.cellAt h' j (by omega)];simp [k2f,List.getElem?_append,hj]
theorem vhj{w:World}{B g n:Nat}{l:List Int}{j:Nat}{c:Int}(h:OI w B (.slice (some ⟨g,0,none⟩) n n) (List.replicate j c++l.drop j))(hn:n=l.length)(hj:j<l.length)(i:Nat):w.frozen? ⟨g,i,none⟩=false:=by
 have e:(List.replicate j c++l.drop j).length=n:=by simp;omega
 have h':w.ownsRow B 3 1 (.slice (some ⟨g,0,none⟩) n n) n (k2f (List.replicate j c++l.drop j)):=by have:=h;unfold OI at this;rw [e] at this;exact this
 exact World.ownsRow.frozenAt h' i
theorem kg9{w:World}{B g n:Nat}{l:List Int}{j:Nat}{c:Int}(h:OI w B (.slice (some ⟨g,0,none⟩) n n) (List.replicate j c++l.drop j))(hn:n=l.length)(hj:j<l.length):OI (w.setCell ⟨g,j,none⟩ (.int .i64 c)) B (.slice (some ⟨g,0,none⟩) n n) (List.replicate (j+1) c++l.drop (j+1)):=by
 have e:(List.replicate j c++l.drop j).length=n:=by simp;omega
 have e2:(List.replicate (j+1) c++l.drop (j+1)).length=n:=by simp;omega
 have h':w.ownsRow B 3 1 (.slice (some ⟨g,0,none⟩) n n) n (k2f (List.replicate j c++l.drop j)):=by have:=h;unfold OI at this;rw [e] at this;exact this
 have h2:=(World.ownsRow.stored h' j (.int .i64 c)).1;have e3:(k2f (List.replicate j c++l.drop j)).set j (.int .i64 c)=k2f (List.replicate (j+1) c++l.drop (j+1)):=by
  unfold k2f;rw [← List.map_set];congr 1
  apply List.ext_getElem?;intro i;rw [List.getElem?_set];by_cases ei:j=i
  ·subst ei;rw [if_pos rfl];simp [List.getElem?_append];omega
  ·rw [if_neg ei];simp only [List.getElem?_append,List.length_replicate,List.getElem?_replicate,List.getElem?_drop];by_cases e4:i<j
   ·rw [if_pos e4,if_pos e4,if_pos (by omega),if_pos (by omega)]
   ·rw [if_neg e4,if_neg (by omega)];congr 1;omega
 rw [e3] at h2;unfold OI;rw [e2];exact h2
def j9n(m:Int)(v0 v1 v2 v3:Value):Nat->Value
 | 0=> .int .i64 m
 | 1=>v0
 | 2=>v1
 | 3=>v2
 | _=>v3
structure Grw(B:Nat)(w:World)(gb:Nat)(W:World)(f:Nat->Value):Prop where
 bel:Below w.heap.size w W
 hB:B<=w.heap.size
 ge:w.heap.size<=gb
 row:W.rowIs gb 143 5 f
theorem Grw.cell{B gb:Nat}{w W:World}{f:Nat->Value}(h:Grw B w gb W f){i:Nat}(hi:i<5):W.cell? ⟨gb,i,none⟩=some (f i):=h.row.cell hi
theorem Grw.free{B gb:Nat}{w W:World}{f:Nat->Value}(h:Grw B w gb W f)(i:Nat):W.frozen? ⟨gb,i,none⟩=false:=h.row.frozen i
theorem Grw.start{B:Nat}(w:World)(m:Int)(v0:Value)(hB:B<=w.heap.size):Grw B w w.heap.size (w.alloc (.cells #[.int .i64 m,v0, .slice none 0 0, .slice none 0 0, .slice none 0 0] 143)) (fun i=>j9n m v0 (.slice none 0 0) (.slice none 0 0) (.slice none 0 0) i) where
 bel:=(Below.refl _ _).alloc (Nat.le_refl _) _
 hB:=hB
 ge:=Nat.le_refl _
 row:=World.rowIs_alloc w _ _ _ (fun i hi=>by
  simp at hi;have:i=0∨i=1∨i=2∨i=3∨i=4:=by omega
  rcases this with rfl | rfl | rfl | rfl | rfl <;> rfl)
theorem Grw.next{B gb:Nat}{w W w1:World}{f:Nat->Value}{o:Obj}(h:Grw B w gb W f)(hgrow:(W.alloc o).grownBy w1 none)(j:Nat)(v:Value):Grw B w gb (w1.setCell ⟨gb,j,none⟩ v) (fun i=>if i=j then v else f i) where
 bel:=by
  refine ((h.bel.alloc h.bel.size o).grown hgrow ?_ (fun x hx=>by simp at hx)).setCell h.ge v;have:=h.bel.size;simp;omega
 hB:=h.hB
 ge:=h.ge
 row:=by
  have hlt:=h.row.lt;exact (h.row.of_block ((hgrow.block gb (by simp;omega) (by simp)).trans (Below.heap_alloc W o gb hlt))).set j v
theorem Grw.old{B gb:Nat}{w W w1:World}{f:Nat->Value}{o:Obj}{u:Value}{l:List Int}(_:Grw B w gb W f)(hgrow:(W.alloc o).grownBy w1 none)(j:Nat)(v:Value)(hu:OI W B u l)(hne:∀ x,u.ownBlock=some x->x≠gb):OI (w1.setCell ⟨gb,j,none⟩ v) B u l:=by
 refine kcz (R:=fun k=>k=gb) (ρ:=fun k=>k) hu ⟨by have:=hgrow.size;simp [World.setCell] at this ⊢;omega,fun k hk hr=>?_⟩ (fun x hx=>hne x hx);rw [Below.heap_setCell _ _ _ _ hr,hgrow.block k (by simp;omega) (by simp),Below.heap_alloc W o k hk]
theorem Grw.new{B gb:Nat}{w W w1:World}{f:Nat->Value}{o:Obj}{v:Value}{l:List Int}(h:Grw B w gb W f)(hown:w1.ownsRow (W.alloc o).heap.size 3 1 v l.length (k2f l))(j:Nat)(x:Value):OI (w1.setCell ⟨gb,j,none⟩ x) B v l∧(∀ y,v.ownBlock=some y->w.heap.size<y∧y≠gb):=by
 have hlt:=h.row.lt;have hge:∀ y,v.ownBlock=some y->W.heap.size+1<=y:=fun y hy=>by have:=(hown.lt y hy).1;simpa using this
 have hs:=h.bel.size;refine ⟨?_,fun y hy=>by have:=hge y hy;omega⟩;have h1:w1.ownsRow B 3 1 v l.length (k2f l):=by
  refine ⟨hown.1,?_⟩;rcases hown.2 with hn | ⟨g,cap,cur,e,hb,rest⟩
  ·exact .inl hn
  ·refine .inr ⟨g,cap,cur,e,?_,rest⟩;have:=h.hB;simp at hb;omega
 exact kcz (R:=fun k=>k=gb) (ρ:=fun k=>k) h1 ⟨by simp [World.setCell],fun k _ hk=>Below.heap_setCell _ _ _ _ hk⟩ (fun y hy=>by have:=hge y hy;omega)
theorem Grw.newR{B gb n c:Nat}{w W w1:World}{f:Nat->Value}{v:Value}{m:Int}(h:Grw B w gb W f)(hown:w1.ownsRow (W.heap.size+1) 3 1 v (n+c) (k2f (List.replicate n m)++List.replicate c (.int .i64 m)))(j:Nat)(x:Value):OI (w1.setCell ⟨gb,j,none⟩ x) B v (List.replicate (n+c) m)∧(∀ y,v.ownBlock=some y->w.heap.size<y∧y≠gb):=by
 refine h.new (o:= .cells #[] 0) (l:=List.replicate (n+c) m) ?_ j x;have e:k2f (List.replicate (n+c) m)=k2f (List.replicate n m)++List.replicate c (.int .i64 m):=by simp [k2f,← List.replicate_append_replicate]
 rw [e,List.length_replicate];simpa using hown
theorem xec(b o j:Nat):(⟨b,o,none⟩:Addr).add j=⟨b,o+j,none⟩:=by unfold Addr.add;split <;> simp_all
theorem vd2{B n c:Nat}{w W:World}{ad:Option Addr}{l:List Int}(h:OI w B (.slice ad n c) l)(hb:Below w.heap.size w W)(o:Obj):∀ b,ad=some b->∀ (j:Nat) (u:Value),(k2f l)[j]?=some u->(W.alloc o).cell? (b.add j)=some u:=by
 intro b hb' j u hu;subst hb';obtain ⟨ad',cap',e,hc⟩:=h.cells;simp only [Value.slice.injEq] at e;have hj:j<l.length:=by
  rcases Nat.lt_or_ge j l.length with h' | h'
  ·exact h'
  ·simp [k2f,h'] at hu
 obtain ⟨b1,o1,e1,hlt,hcell⟩:=hc j hj;have e2:b=⟨b1,o1,none⟩:=by rw [← e.1] at e1;simpa using e1
 subst e2;rw [xec];have e3:(W.alloc o).cell? ⟨b1,o1+j,none⟩=w.cell? ⟨b1,o1+j,none⟩:=World.cell?_of_block ((Below.heap_alloc W o b1 (Nat.lt_of_lt_of_le hlt hb.size)).trans (hb.block b1 hlt));rw [e3,hcell];simpa [k2f,hj] using hu
theorem kok{B gW d:Nat}{ρ:Nat->Nat}{s:kuu}{w:World}(h:Inv B gW d ρ s w) :
  Inv B gW 0 ρ { s with vw:= .slice none 0 0,waits:=[],vr:= .slice none 0 0,weres:=[] } ((w.setCell ⟨gW,5,none⟩ (.slice none 0 0)).setCell ⟨gW,6,none⟩ (.slice none 0 0))∧Below B w ((w.setCell ⟨gW,5,none⟩ (.slice none 0 0)).setCell ⟨gW,6,none⟩ (.slice none 0 0)):=by
 have kk:Kp (fun r=>r=5) ρ w ((w.setCell ⟨gW,5,none⟩ (.slice none 0 0)).setCell ⟨gW,6,none⟩ (.slice none 0 0)):=(Kp.of_set w _ _ h.rW).trans (Kp.of_set _ _ _ h.rW);refine ⟨?_,((Below.refl _ _).setCell h.gB _).setCell h.gB _⟩;exact {
  gB:=h.gB
  hB:=Nat.le_trans h.hB kk.size
  row:=((h.row.set 5 _).set 6 _).congr (fun i hi=>by
   have:i=0∨i=1∨i=2∨i=3∨i=4∨i=5∨i=6∨i=7∨i=8:=by omega
   rcases this with rfl | rfl | rfl | rfl | rfl | rfl | rfl | rfl | rfl <;> simp [fld])
  len:=kcz h.len kk (fun g hg hr=>by have:=h.rl g hg;omega)
  wts:=World.ownsRow_nil _ _ _ _
  wrs:=World.ownsRow_nil _ _ _ _
  bks:=kcz h.bks kk (fun g hg hr=>by have:=h.rb g hg;omega)
  lenw:=rfl
  wt:=fun i hi=>by simp at hi
  wr:=fun i hi=>by simp at hi
  bk:=fun b hb=>⟨(h.bk b hb).1,fun v hv=>by
   obtain ⟨n,hn⟩:=(h.bk b hb).2 v hv;exact ⟨n,kcz hn kk (fun g hg hr=>by have:=h.rbk b hb v hv g hg;omega)⟩⟩
  rW:=h.rW
  rl:=h.rl
  rwv:=fun g hg=>by simp [Value.ownBlock] at hg
  rr:=fun g hg=>by simp [Value.ownBlock] at hg
  rb:=h.rb
  rwt:=fun i hi=>by simp at hi
  rwr:=fun v hv=>by simp at hv
  rbk:=h.rbk
  mkB:=h.mkB
  lnB:=h.lnB
  lnN:=h.lnN
  wlB:=fun i hi=>by simp at hi
  stl:=fun x hx=>y9j (h.stl x hx) kk (fun hr=>by have:=h.rst x hx;omega)
  rst:=h.rst }
theorem y5n{B gW k:Nat}{ρ:Nat->Nat}{s:kuu}{vb:Value}{bs:List (Int×List Value)}{w wk wr W3:World}{f:Nat->Value}{ad:Option Addr}{n x1 p1 x2 p2 x3 p3:Nat}{m:Int}
  (h:Inv B gW k ρ { s with mks:=s.mks+k,vb:=vb,books:=bs } wk) (hk:Kp (fun r=>r=5∨r=10+k) ρ wk wr) (hrow:wr.rowIs gW 75 9 (fld { s with mks:=s.mks+k+1,vb:=vb,books:=bs })) (hb:Below B w wr) (hm:s.mks+k+1<=1000000000)
  (hρ:∀ g,(Value.slice ad n n).ownBlock=some g->ρ g=10+k) (hO:OI wr B (.slice ad n n) (List.replicate n m)) (hG:Grw B wr wr.heap.size W3 f)
  (N1:OI W3 B (.slice (some ⟨x1,0,none⟩) (n+1) p1) (List.replicate (n+1) m)∧∀ y,(Value.slice (some ⟨x1,0,none⟩) (n+1) p1).ownBlock=some y->wr.heap.size<y∧y≠wr.heap.size)
  (N2:OI W3 B (.slice (some ⟨x2,0,none⟩) (n+2) p2) (List.replicate (n+2) m)∧∀ y,(Value.slice (some ⟨x2,0,none⟩) (n+2) p2).ownBlock=some y->wr.heap.size<y∧y≠wr.heap.size)
  (N3:OI W3 B (.slice (some ⟨x3,0,none⟩) (n+3) p3) (List.replicate (n+3) m)∧∀ y,(Value.slice (some ⟨x3,0,none⟩) (n+3) p3).ownBlock=some y->wr.heap.size<y∧y≠wr.heap.size) :
  ∃ ρ2:Nat->Nat,Inv B gW (k+1) ρ2 { s with mks:=s.mks+(k+1),vb:=vb,books:=bs } W3∧
   (∀ v∈[Value.slice ad n n, .slice (some ⟨x1,0,none⟩) (n+1) p1, .slice (some ⟨x2,0,none⟩) (n+2) p2, .slice (some ⟨x3,0,none⟩) (n+3) p3],∃ c,OI W3 B v (List.replicate c m))∧
   (∀ v∈[Value.slice ad n n, .slice (some ⟨x1,0,none⟩) (n+1) p1, .slice (some ⟨x2,0,none⟩) (n+2) p2, .slice (some ⟨x3,0,none⟩) (n+3) p3],∀ g,v.ownBlock=some g->ρ2 g=0)∧Below B w W3:=by
 have h1:Inv B gW (k+1) ρ { s with mks:=s.mks+k+1,vb:=vb,books:=bs } wr:=h.marked (R:=fun r=>r=5∨r=10+k) hk (fun r hr=>by omega) (by omega) hrow hm;have y1:=(N1.2 x1 rfl).1;have y2:=(N2.2 x2 rfl).1;have y3:=(N3.2 x3 rfl).1;have h2:=h1.turn (ρ':=fun y=>if ρ y=10+k∨y=x1∨y=x2∨y=x3 then 0 else ρ y) (fun y hy hr=>by
  rw [if_neg (by omega)])
 refine ⟨_,h2.below hG.bel,?_,?_,hb.trans (hG.bel.mono hG.hB)⟩
 ·intro v hv;simp only [List.mem_cons,List.not_mem_nil,or_false] at hv;rcases hv with rfl | rfl | rfl | rfl
  ·exact ⟨n,kcz (R:=fun _=>False) (ρ:=ρ) hO (Kp.of_below hG.bel) (fun _ _ x=>x)⟩
  ·exact ⟨_,N1.1⟩
  ·exact ⟨_,N2.1⟩
  ·exact ⟨_,N3.1⟩
 ·intro v hv g hg;simp only [List.mem_cons,List.not_mem_nil,or_false] at hv;rcases hv with rfl | rfl | rfl | rfl
  ·rw [if_pos (Or.inl (hρ g hg))]
  ·simp [Value.ownBlock] at hg;rw [if_pos (by omega)]
  ·simp [Value.ownBlock] at hg;rw [if_pos (by omega)]
  ·simp [Value.ownBlock] at hg;rw [if_pos (by omega)]
theorem kyt(B gW:Nat)(ρ:Nat->Nat)(s:kuu)(w:World)(h:Inv B gW 0 ρ s w)(hwl:s.waits.length<=10000000)(hbl:s.books.length<=900000000)(hmk:s.mks<=900000000) :
  Calls Tryz.prog 35 #[.pointer (some ⟨gW,0,none⟩)] w fun e w'=>e= .returned (.bool true)∧Below B w w'∧∃ (ρ':Nat->Nat) (vb:Value) (bs:List (Int×List Value)),Inv B gW 0 ρ' { s with mks:=s.mks+s.waits.length,vb:=vb,books:=bs,vw:= .slice none 0 0,waits:=[],vr:= .slice none 0 0,weres:=[] } w'∧bs.length=s.books.length+s.waits.length:=by
 have HI:Hid (Inv B gW 0 ρ s w):=h;have hgl:gW<w.heap.size:=h.row.lt;obtain ⟨aw,cw,hvw⟩:∃ aw cw,s.vw= .slice aw s.waits.length cw:=by
  rcases h.wts.2 with ⟨hv,h0⟩ | ⟨g,cap,cur,hv,_⟩
  ·exact ⟨none,0,by rw [hv,h0]⟩
  ·exact ⟨_,_,hv⟩
 have c5:w.cell? ⟨gW,5,none⟩=some (.slice aw s.waits.length cw):=by rw [h.row.cell (i:=5) (by omega)];simp [fld,hvw]
 have HVW:Hid (s.vw= .slice aw s.waits.length cw):=hvw;clear h hvw;go_enter Tryz.func35,Tryz.ntmps35
 go_wp2_with fail
 go_loopw [3,4] (fun ok i wr=>∃ k q:Nat,k<=s.waits.length∧ok= .bool true∧i= .int .i64 k∧wr=w.drewN q) (fun _ i _=>s.waits.length - (intOf i).toNat)
 case atStart=>exact ⟨0,0,Nat.zero_le _,rfl,rfl,rfl⟩
 case round=>
  obtain ⟨k,q,hk,rfl,rfl,hwr⟩:=hrel;have c5':wr.cell? ⟨gW,5,none⟩=some (.slice aw s.waits.length cw):=by rw [hwr];exact c5
  have HWR:Hid (wr=w.drewN q):=hwr;clear hwr c5;by_cases hlt:k<s.waits.length
  ·obtain ⟨gw,cw',ad,bd,cr,gr,pr,hv,hv2,hlw,hlr,d1,d2,_,_,k1,k2⟩:=HI.out.waitAt hlt (Nat.zero_le _);obtain ⟨rfl,rfl⟩:aw=some ⟨gw,0,none⟩∧cw=cw':=by have:=HVW.out.symm.trans hv;simpa using this
   have c6:wr.cell? ⟨gW,6,none⟩=some (.slice (some ⟨gr,0,none⟩) s.waits.length pr):=by rw [HWR.out];show w.cell? _=_;rw [HI.out.row.cell (i:=6) (by omega)];simp [fld,hv2]
   have hl:=(HI.out.wlB k hlt)
   obtain ⟨l,hle⟩:∃ l,(s.waits[k]).2=l:=⟨_,rfl⟩
   rw [hle] at d1 d2 k1 k2 hl;have d1':wr.cell? ⟨gw,k,none⟩=some (.slice ad l.length l.length):=by rw [HWR.out];exact d1
   have d2':wr.cell? ⟨gr,k,none⟩=some (.slice bd l.length cr):=by rw [HWR.out];exact d2
   have k1':xin wr ad l:=by rw [HWR.out];exact k1.same rfl
   have k2':xin wr bd l:=by rw [HWR.out];exact k2.same rfl
   clear hle d1 d2 k1 k2;have hk0:(0:Int)<=(k:Int):=by omega
   have hk1:(k:Int)<(s.waits.length:Int):=by omega
   go_wp2_with fail
   go_quiet ((go_at_call 62;refine Calls.quiet_of (zze ad bd l.length cr l _ ?_ ?_ ?_);omega;exact k1'.same rfl;exact k2'.same rfl))
   go_wp2_with fail
   go_roundw
   case rel=>exact ⟨k+1,q+_,by omega,rfl,by go_num,by rw [HWR.out,World.drewN_drewN]⟩
   case measure=>simp [intOf];omega
  ·obtain rfl:k=s.waits.length:=by omega
   go_wp2_with fail
   clear c5';have HB0:Hid (Below B w wr):=by show Below B w wr;rw [HWR.out];exact ⟨rfl,rfl,rfl,Nat.le_refl _,fun _ _=>rfl⟩
   have HI1:Hid (Inv B gW 0 ρ s wr):=by show Inv B gW 0 ρ s wr;rw [HWR.out];exact HI.out.drewN q
   clear HWR;obtain ⟨w0,hw0⟩:∃ w0,w0=wr:=⟨_,rfl⟩
   go_loopw [6] (fun i ws=>∃ (k:Nat) (ρk:Nat->Nat) (vb:Value) (bs:List (Int×List Value)),k<=s.waits.length∧i= .int .i64 k∧Inv B gW k ρk { s with mks:=s.mks+k,vb:=vb,books:=bs } ws∧bs.length=s.books.length+k∧Below B w ws) (fun i _=>s.waits.length - (intOf i).toNat)
   case atStart=>exact ⟨0,ρ,s.vb,s.books,Nat.zero_le _,rfl,HI1.out,rfl,HB0.out⟩
   case round=>
    obtain ⟨k,ρk,vb,bs,hk,rfl,hI,hbs,hbel⟩:=hrel;have HIk:Hid (Inv B gW k ρk { s with mks:=s.mks+k,vb:=vb,books:=bs } wr):=hI;have HBS:Hid (bs.length=s.books.length+k):=hbs;have hgl':gW<wr.heap.size:=hI.row.lt;have c5:wr.cell? ⟨gW,5,none⟩=some (.slice aw s.waits.length cw):=by rw [hI.row.cell (i:=5) (by omega)];have:=HVW.out;simp [fld,this]
    have c4:wr.cell? ⟨gW,4,none⟩=some (.int .i64 (s.mks+k)):=by rw [hI.row.cell (i:=4) (by omega)];simp [fld]
    have f4:=hI.row.frozen 4;have f5:=hI.row.frozen 5;have f6:=hI.row.frozen 6;have c6:wr.cell? ⟨gW,6,none⟩=some s.vr:=by rw [hI.row.cell (i:=6) (by omega)];simp [fld]
    clear hI hbs;by_cases hlt:k<s.waits.length
    ·obtain ⟨gw,cw',ad,bd,cr,gr,pr,hv,hv2,hlw,hlr,d1,d2,hval,hnone,k1,k2⟩:=HIk.out.waitAt hlt (Nat.le_refl _);obtain ⟨rfl,rfl⟩:aw=some ⟨gw,0,none⟩∧cw=cw':=by have:=HVW.out.symm.trans hv;simpa using this
     have hl:=(HIk.out.wlB k hlt)
     obtain ⟨l,hle⟩:∃ l,(s.waits[k]).2=l:=⟨_,rfl⟩
     have hO:=(HIk.out.wt k hlt (Nat.le_refl _)).1;have hρ:=HIk.out.rwt k hlt (Nat.le_refl _);simp only at d1 d2 k1 k2 hl hval hnone hO hρ;rw [hle] at d1 d2 k1 k2 hl hval hnone hO;rw [hval] at hO hρ;clear k2 d2 hv2 hlr;have hm0:(s.mks:Int)+k<=990000000:=by omega
     have S0:=ju9 (c:= -((s.mks:Int)+k+1)) HIk.out hO (fun g hg e=>by have:=hρ g hg;have:=HIk.out.rW;rw [e] at *;omega);go_wp2_with fail
     clear c4 c5 c6 f4 f5 f6 d1 k1;go_loopw [9] (fun i wx=>∃ j:Nat,j<=l.length∧i= .int .i64 j∧OI wx B (.slice ad l.length l.length) (List.replicate j (-((s.mks:Int)+k+1))++l.drop j)∧wx.rowIs gW 75 9 (fld { s with mks:=s.mks+k+1,vb:=vb,books:=bs })∧Kp (fun r=>r=5∨r=10+k) ρk wr wx∧Below B w wx) (fun i _=>l.length - (intOf i).toNat)
     case atStart=>exact ⟨0,Nat.zero_le _,rfl,S0.1,S0.2.1,S0.2.2.1,hbel.trans S0.2.2.2⟩
     case round=>
      rename_i wr0 _ _ _
      obtain ⟨j,hj,rfl,hOx,hrx,hkx,hbx⟩:=hrel;by_cases hjl:j<l.length
      ·obtain ⟨g,rfl⟩:∃ g,ad=some ⟨g,0,none⟩:=by
        obtain ⟨g,cap,e,_⟩:=World.ownsRow.form hO (by omega);simp only [Value.slice.injEq] at e;exact ⟨g,e.1⟩
       obtain ⟨y,hy⟩:∃ y,wr.cell? ⟨g,j,none⟩=some (.int .i64 y):=jzs hOx rfl hjl;have hz:=vhj hOx rfl hjl j;have S1:=kg9 hOx rfl hjl;have S2:=hrx.setOther (a:=⟨g,j,none⟩) (by have:=hρ g rfl;have:=HIk.out.rW;intro e;simp at e;rw [e] at this;omega) (.int .i64 (-((s.mks:Int)+k+1)));have S3:=hkx.trans (Kp.of_set wr ⟨g,j,none⟩ (.int .i64 (-((s.mks:Int)+k+1))) (Or.inr (hρ g rfl)));have S4:=hbx.setCell (p:=⟨g,j,none⟩) (hO.lt g rfl).1 (.int .i64 (-((s.mks:Int)+k+1)));go_wp2_with fail
       go_roundw
       case rel=>exact ⟨j+1,by omega,by go_num,S1,S2,S3,S4⟩
       case measure=>simp [intOf];omega
      ·obtain rfl:j=l.length:=by omega
       have hOf:OI wr B (.slice ad l.length l.length) (List.replicate l.length (-((s.mks:Int)+k+1))):=by
        have:=hOx;rw [List.drop_length,List.append_nil] at this;exact this
       clear hOx;obtain ⟨i0,hi,hz0,hz1,hz2⟩:=info_parts ve2;have hgW:=hrx.lt;have hsz:=hbx.size;have hBs:=HI.out.hB;have G0:Grw B wr wr.heap.size (wr.alloc (.cells #[.int .i64 (-((s.mks:Int)+k+1)), .slice ad l.length l.length, .slice none 0 0, .slice none 0 0, .slice none 0 0] 143)) (fun i=>j9n (-((s.mks:Int)+k+1)) (.slice ad l.length l.length) (.slice none 0 0) (.slice none 0 0) (.slice none 0 0) i):=Grw.start _ _ _ (by omega);go_upto_region 18 with fail
       obtain ⟨W0,hW0⟩:∃ W0,W0=wr.alloc (.cells #[.int .i64 (-((s.mks:Int)+k+1)), .slice ad l.length l.length, .slice none 0 0, .slice none 0 0, .slice none 0 0] 143):=⟨_,rfl⟩
       rw [← hW0] at G0 ⊢;clear hW0;have q2:=G0.cell (i:=2) (by omega);have z2:=G0.free 2;have olds0:=vd2 hOf G0.bel;go_upto_region 19 with (first | (at_builtin;refine wpList_append_grows _ rfl (.tmp 80) (.tmp 82) 69 rfl 3 i0 (.int .i64 0) 1 8 Tryz.underlying69 hi hz0 hz1 hz2 rfl (by decide) ad l.length l.length (k2f (List.replicate l.length (-((s.mks:Int)+k+1)))) rfl (fun e=>⟨hnone e,hnone e⟩) (by simp [k2f]) (olds0 _) ⟨W0.heap.size,0,none⟩ 1 1 [.int .i64 (-((s.mks:Int)+k+1))] rfl rfl ?q18a (by simp [Value.oneCell']) (by omega) (by unfold maxLen;omega) (by omega) ?_))
       case q18a=>exact World.news_of_block (heap_alloc_new W0 _)
       intro v1 w1 hown1 hgrow1;obtain ⟨x1,p1,rfl,_,_⟩:=hown1.form (by omega);have qq:=x7a hgrow1 G0.row.lt (by simp) q2;have zz:=jk1 hgrow1 G0.row.lt (by simp) z2;have G1:=G0.next hgrow1 2 (.slice (some ⟨x1,0,none⟩) (l.length+1) p1);have N1:=G0.newR (c:=1) hown1 2 (.slice (some ⟨x1,0,none⟩) (l.length+1) p1);clear q2 z2 olds0;go_upto_region 19 with fail
       obtain ⟨W1,hW1⟩:∃ W1,W1=w1.setCell ⟨wr.heap.size,2,none⟩ (.slice (some ⟨x1,0,none⟩) (l.length+1) p1):=⟨_,rfl⟩
       rw [← hW1] at G1 N1 ⊢;clear hW1 qq zz hown1 hgrow1 G0;have q3:=G1.cell (i:=3) (by omega);have z3:=G1.free 3;have olds1:=vd2 hOf G1.bel;go_upto_region 20 with (first | (at_builtin;refine wpList_append_grows _ rfl (.tmp 85) (.tmp 88) 69 rfl 3 i0 (.int .i64 0) 1 8 Tryz.underlying69 hi hz0 hz1 hz2 rfl (by decide) ad l.length l.length (k2f (List.replicate l.length (-((s.mks:Int)+k+1)))) rfl (fun e=>⟨hnone e,hnone e⟩) (by simp [k2f]) (olds1 _) ⟨W1.heap.size,0,none⟩ 2 2 [.int .i64 (-((s.mks:Int)+k+1)), .int .i64 (-((s.mks:Int)+k+1))] rfl rfl ?q19a (by simp [Value.oneCell']) (by omega) (by unfold maxLen;omega) (by omega) ?_))
       case q19a=>exact World.news_of_block (heap_alloc_new W1 _)
       intro v2 w2 hown2 hgrow2;obtain ⟨x2,p2,rfl,_,_⟩:=hown2.form (by omega);have qq:=x7a hgrow2 G1.row.lt (by simp) q3;have zz:=jk1 hgrow2 G1.row.lt (by simp) z3;have G2:=G1.next hgrow2 3 (.slice (some ⟨x2,0,none⟩) (l.length+2) p2);have N2:=G1.newR (c:=2) hown2 3 (.slice (some ⟨x2,0,none⟩) (l.length+2) p2);have N1:OI _ B _ _∧_:=⟨G1.old hgrow2 3 (.slice (some ⟨x2,0,none⟩) (l.length+2) p2) N1.1 (fun y hy=>(N1.2 y hy).2),N1.2⟩
       clear q3 z3 olds1;go_upto_region 20 with fail
       obtain ⟨W2,hW2⟩:∃ W2,W2=w2.setCell ⟨wr.heap.size,3,none⟩ (.slice (some ⟨x2,0,none⟩) (l.length+2) p2):=⟨_,rfl⟩
       rw [← hW2] at G2 N1 N2 ⊢;clear hW2 qq zz hown2 hgrow2 G1;have q4:=G2.cell (i:=4) (by omega);have z4:=G2.free 4;have olds2:=vd2 hOf G2.bel;go_upto_region 21 with (first | (at_builtin;refine wpList_append_grows _ rfl (.tmp 91) (.tmp 95) 69 rfl 3 i0 (.int .i64 0) 1 8 Tryz.underlying69 hi hz0 hz1 hz2 rfl (by decide) ad l.length l.length (k2f (List.replicate l.length (-((s.mks:Int)+k+1)))) rfl (fun e=>⟨hnone e,hnone e⟩) (by simp [k2f]) (olds2 _) ⟨W2.heap.size,0,none⟩ 3 3 [.int .i64 (-((s.mks:Int)+k+1)), .int .i64 (-((s.mks:Int)+k+1)), .int .i64 (-((s.mks:Int)+k+1))] rfl rfl ?q20a (by simp [Value.oneCell']) (by omega) (by unfold maxLen;omega) (by omega) ?_))
       case q20a=>exact World.news_of_block (heap_alloc_new W2 _)
       intro v3 w3 hown3 hgrow3;obtain ⟨x3,p3,rfl,_,_⟩:=hown3.form (by omega);have qq:=x7a hgrow3 G2.row.lt (by simp) q4;have zz:=jk1 hgrow3 G2.row.lt (by simp) z4;have G3:=G2.next hgrow3 4 (.slice (some ⟨x3,0,none⟩) (l.length+3) p3);have N3:=G2.newR (c:=3) hown3 4 (.slice (some ⟨x3,0,none⟩) (l.length+3) p3);have N1:OI _ B _ _∧_:=⟨G2.old hgrow3 4 (.slice (some ⟨x3,0,none⟩) (l.length+3) p3) N1.1 (fun y hy=>(N1.2 y hy).2),N1.2⟩
       have N2:OI _ B _ _∧_:=⟨G2.old hgrow3 4 (.slice (some ⟨x3,0,none⟩) (l.length+3) p3) N2.1 (fun y hy=>(N2.2 y hy).2),N2.2⟩
       clear q4 z4 olds2;go_upto_region 21 with fail
       obtain ⟨W3,hW3⟩:∃ W3,W3=w3.setCell ⟨wr.heap.size,4,none⟩ (.slice (some ⟨x3,0,none⟩) (l.length+3) p3):=⟨_,rfl⟩
       rw [← hW3] at G3 N1 N2 N3 ⊢;clear hW3 qq zz hown3 hgrow3 G2;have T:=y5n HIk.out hkx hrx hbx (by omega) hρ hOf G3 N1 N2 N3;obtain ⟨ρ2,hI3⟩:=T;have b0:W3.cell? ⟨wr.heap.size,0,none⟩=some (.int .i64 (-((s.mks:Int)+k+1))):=by rw [G3.cell (i:=0) (by omega)];simp [j9n]
       have b1:W3.cell? ⟨wr.heap.size,1,none⟩=some (.slice ad l.length l.length):=by rw [G3.cell (i:=1) (by omega)];simp [j9n]
       have b2:W3.cell? ⟨wr.heap.size,2,none⟩=some (.slice (some ⟨x1,0,none⟩) (l.length+1) p1):=by rw [G3.cell (i:=2) (by omega)];simp
       have b3:W3.cell? ⟨wr.heap.size,3,none⟩=some (.slice (some ⟨x2,0,none⟩) (l.length+2) p2):=by rw [G3.cell (i:=3) (by omega)];simp
       have b4:W3.cell? ⟨wr.heap.size,4,none⟩=some (.slice (some ⟨x3,0,none⟩) (l.length+3) p3):=by rw [G3.cell (i:=4) (by omega)];simp
       have c7:W3.cell? ⟨gW,7,none⟩=some vb:=by rw [hI3.1.row.cell (i:=7) (by omega)];simp [fld]
       have f7:=hI3.1.row.frozen 7;have hgW3:=hI3.1.row.lt;have hgb3:=G3.row.lt;have hbk3:=hI3.1.bks;simp only at hbk3;have hB3:=hI3.1.hB;have ag7:vb.ownBlock≠some gW:=fun e=>by have h1:=hI3.1.rb gW e;have h2:=hI3.1.rW;omega
       have hbsl:bs.length<=990000000:=by have:=HBS.out;omega
       have HI3:Hid _:=hI3;obtain ⟨j0,hj',hy0,hy1,hy2⟩:=info_parts yye;clear hI3 N1 N2 N3 hOf hrx hkx;go_region_law
        ((refine step_append_lies _ (by rfl) _ _ _ (by rfl) B 143 j0 _ 5 104 Tryz.underlying72 hj' hy0 hy1 hy2 rfl (by omega) vb bs.length (bs.flatMap zan) (by rfl) ((hbk3.alloc _).drew) ⟨W3.heap.size,0,none⟩ 1 1 [.int .i64 (-((s.mks:Int)+k+1)), .slice ad l.length l.length, .slice (some ⟨x1,0,none⟩) (l.length+1) p1, .slice (some ⟨x2,0,none⟩) (l.length+2) p2, .slice (some ⟨x3,0,none⟩) (l.length+3) p3] (by rfl) (by rfl) (World.news_of_block (cs:=#[.int .i64 (-((s.mks:Int)+k+1)), .slice ad l.length l.length, .slice (some ⟨x1,0,none⟩) (l.length+1) p1, .slice (some ⟨x2,0,none⟩) (l.length+2) p2, .slice (some ⟨x3,0,none⟩) (l.length+3) p3]) (t:=143) (fr:=(0,0)) (heap_alloc_new W3 _)) (by simp [Value.oneCell']) (by omega) (by unfold maxLen;omega) (by omega) (by simp;omega) (W3.heap.size+1) (by simp) ?_;intro gg cap w4 hown4 hgrow4 hat4 hlt4;have k7:=x1k hgrow4 hgW3 ag7 c7;have z7:=xg8 hgrow4 hgW3 ag7 f7))
       all_goals
        go_wp2_with fail
        have T:=HI3.out.1.addBook (b:=((-((s.mks:Int)+k+1)),[.slice ad l.length l.length, .slice (some ⟨x1,0,none⟩) (l.length+1) p1, .slice (some ⟨x2,0,none⟩) (l.length+2) p2, .slice (some ⟨x3,0,none⟩) (l.length+3) p3])) hgrow4 hown4 hat4 rfl HI3.out.2.1 HI3.out.2.2.1;go_roundw
        case rel=>exact ⟨k+1,_,_,_,by omega,by go_num,T.1,by have:=HBS.out;simp;omega,HI3.out.2.2.2.trans T.2.2⟩
        case measure=>simp [intOf];omega
    ·obtain rfl:k=s.waits.length:=by omega
     have T:=kok HIk.out;go_wp2_with fail
     go_ret
     exact ⟨rfl,hbel.trans T.2,ρk,vb,bs,T.1,HBS.out⟩
def sxy(f:Nat->Int):Nat->Int×Int
 | 0=>(1,0)
 | k+1=>(((sxy f k).1+f k)%65521,((sxy f k).2+((sxy f k).1+f k)%65521)%65521)
theorem zz9(f:Nat->Int)(k:Nat):0<=(sxy f k).1∧(sxy f k).1<=65520∧0<=(sxy f k).2∧(sxy f k).2<=65520:=by
 induction k with
 | zero=>simp [sxy]
 | succ k ih=>simp only [sxy];omega
def vhw(s:ByteArray)(k:Nat):Int:=((s.data.toList.getD k 0).toNat:Int)
theorem yq7(s:ByteArray)(k:Nat)(h:k<s.size):((s[k]).toNat:Int)=vhw s k:=by
 unfold vhw;have:s.data.toList.getD k 0=s[k]:=by
  have h':k<s.data.toList.length:=by simpa using h
  rw [List.getD_eq_getElem?_getD,List.getElem?_eq_getElem h'];rfl
 rw [this]
theorem jeu(cs:Array Value)(h:cs.size=2):(Tryz.prog.info? 119).map (·.size)=some cs.size:=by rw [h];kernel_rfl
theorem xch{w:World}{g T:Nat}{f:Nat->Value}(h:w.rowIs g T 2 f):w.heap[g]?=some (.cells #[f 0,f 1] T):=by
 obtain ⟨c,hc,hn,hv⟩:=h;rw [hc];have h0:=hv 0 (by omega);have h1:=hv 1 (by omega);have:c=#[f 0,f 1]:=by
  apply Array.ext
  ·simpa using hn
  ·intro i h2 h3;have:i=0∨i=1:=by simp at h3;omega
   rcases this with rfl | rfl
   ·rw [Array.getElem?_eq_getElem h2] at h0;simpa using h0
   ·rw [Array.getElem?_eq_getElem h2] at h1;simpa using h1
 rw [this]
theorem kmk(w:World):Calls Tryz.prog 110 #[] w fun e w'=>e= .returned (.agg #[.int .i64 1, .int .i64 0])∧Below w.heap.size w w':=by
 go_enter Tryz.func110,Tryz.ntmps110
 go_wp2
 refine bodyPost_ret (v:= .agg #[.int .i64 1, .int .i64 0]) ?_ rfl ?_
 ·exact results_cell_row Tryz.results110 _ _ _ 119 _ _ _ rfl (heap_alloc_new _ _) Tryz.underlying119 rfl (jeu _ rfl)
 ·exact ⟨rfl,(Below.refl _ _).alloc (Nat.le_refl _) _⟩
theorem zf1(x y:Int)(w:World)(hx:0<=x∧x<=65520)(hy:0<=y∧y<=65520) :
  Calls Tryz.prog 112 #[.agg #[.int .i64 x, .int .i64 y]] w fun e w'=>e= .returned (.int .i64 (65536*y+x))∧Below w.heap.size w w':=by
 go_enter Tryz.func112,Tryz.ntmps112
 go_wp2
 go_ret
 exact ⟨rfl,(Below.refl _ _).alloc (Nat.le_refl _) _⟩
theorem kd6(g o:Nat)(x y b:Int)(w:World)(hx:0<=x∧x<=65520)(hy:0<=y∧y<=65520)(hb:0<=b∧b<=255)
  (cx:w.cell? ⟨g,o,none⟩=some (.int .i64 x)) (cy:w.cell? ⟨g,o+1,none⟩=some (.int .i64 y)) (fx:w.frozen? ⟨g,o,none⟩=false) (fy:w.frozen? ⟨g,o+1,none⟩=false) :
  Calls Tryz.prog 111 #[.pointer (some ⟨g,o,none⟩), .int .u8 b] w fun e w'=>e= .returned (.tuple #[])∧
   ∃ m,w'=((w.drewN m).setCell ⟨g,o,none⟩ (.int .i64 ((x+b)%65521))).setCell ⟨g,o+1,none⟩ (.int .i64 ((y+(x+b)%65521)%65521)):=by
 go_enter Tryz.func111,Tryz.ntmps111
 go_wp2
 go_region
 all_goals
  go_end0
  refine ⟨rfl,1,?_⟩;first | rfl | (simp;rfl)
def opV(kd a b c:Int)(s:ByteArray)(p:Value):Array Value:=#[.int .i64 kd, .int .i64 a, .int .i64 b, .int .i64 c, .string s,p]
structure Nxt(s s':kuu):Prop where
 st:Kst s s'
 cs:s'.vcs=s.vcs
 ss:s'.vss=s.vss
 ln:s'.lens.length<=s.lens.length+1
 mks:s'.mks<=s.mks+1
 wt:s'.waits.length<=s.waits.length+2
 bk:s'.books.length<=s.books.length+1
theorem Nxt.refl(s:kuu):Nxt s s:=⟨⟨rfl,rfl,rfl⟩,rfl,rfl,by omega,by omega,by omega,by omega⟩
theorem jnk(s:kuu)(v:Value)(l:List Int)(i:Nat)(hi:i<9):(if i=2 then v else fld s i)=fld { s with vl:=v,lens:=l } i:=by
 have:i=0∨i=1∨i=2∨i=3∨i=4∨i=5∨i=6∨i=7∨i=8:=by omega
 rcases this with rfl | rfl | rfl | rfl | rfl | rfl | rfl | rfl | rfl <;> simp [fld]
theorem Inv.setLen{B gW d:Nat}{ρ ρ':Nat->Nat}{s:kuu}{w w':World}{v:Value}{l:List Int}(h:Inv B gW d ρ s w)(hk:Kp (fun r=>r=1∨r=5) ρ w w')(hrow:w'.rowIs gW 75 9 (fld { s with vl:=v,lens:=l }))
  (hO:OI w' B v l) (hv:∀ g,v.ownBlock=some g->ρ' g=1) (hρ:∀ k,k<w.heap.size->ρ' k=ρ k) (hl:l.length<=100000000) (hn:v= .slice none 0 0∨0<l.length):Inv B gW d ρ' { s with vl:=v,lens:=l } w':=by
 have h':=h.turn (ρ':=ρ') (fun k hk _=>hρ k hk);have kk:Kp (fun r=>r=1∨r=5) ρ' w w':=hk.congr (fun k hk=>by rw [hρ k hk];exact fun x=>x);exact {
  gB:=h.gB
  hB:=Nat.le_trans h.hB kk.size
  row:=hrow
  len:=hO
  wts:=kcz h'.wts kk (fun g hg hr=>by have:=h'.rwv g hg;omega)
  wrs:=kcz h'.wrs kk (fun g hg hr=>by have:=h'.rr g hg;omega)
  bks:=kcz h'.bks kk (fun g hg hr=>by have:=h'.rb g hg;omega)
  lenw:=h.lenw
  wt:=fun i hi hd=>⟨kcz (h'.wt i hi hd).1 kk (fun g hg hr=>by have:=h'.rwt i hi hd g hg;omega),(h'.wt i hi hd).2⟩
  wr:=fun i hi hi'=>kcz (h'.wr i hi hi') kk (fun g hg hr=>by have:=h'.rwr _ (List.getElem_mem hi) g hg;omega)
  bk:=fun b hb=>⟨(h'.bk b hb).1,fun x hx=>by
   obtain ⟨n,hn⟩:=(h'.bk b hb).2 x hx;exact ⟨n,kcz hn kk (fun g hg hr=>by have:=h'.rbk b hb x hx g hg;omega)⟩⟩
  rW:=h'.rW
  rl:=hv
  rwv:=h'.rwv
  rr:=h'.rr
  rb:=h'.rb
  rwt:=h'.rwt
  rwr:=h'.rwr
  rbk:=h'.rbk
  mkB:=h.mkB
  lnB:=hl
  lnN:=hn
  wlB:=h.wlB
  stl:=fun x hx=>y9j (h'.stl x hx) kk (fun hr=>by have:=h'.rst x hx;omega)
  rst:=h'.rst }
theorem ve1{B gW d:Nat}{ρ:Nat->Nat}{s:kuu}{w w1:World}{o:Obj}{gg cap:Nat}{x:Int}(h:Inv B gW d ρ s w)
  (hgrow:(w.alloc o).drew.grownBy w1 s.vl.ownBlock) (hown:w1.ownsRow B 3 1 (.slice (some ⟨gg,0,none⟩) (s.lens.length+1) cap) (s.lens.length+1) (k2f s.lens++[.int .i64 x]))
  (hat:s.vl.ownBlock=some gg∨gg=w.heap.size+1) (hl:s.lens.length+1<=100000000) :
  Below B w (w1.setCell ⟨gW,2,none⟩ (.slice (some ⟨gg,0,none⟩) (s.lens.length+1) cap))∧
  Inv B gW d (setρ ρ gg 1) { s with vl:= .slice (some ⟨gg,0,none⟩) (s.lens.length+1) cap,lens:=s.lens++[x] } (w1.setCell ⟨gW,2,none⟩ (.slice (some ⟨gg,0,none⟩) (s.lens.length+1) cap)):=by
 have k1:Kp (fun r=>r=1) ρ w w1:=by
  have a:Kp (fun r=>r=1) ρ w (w.alloc o).drew:=Kp.of_below (((Below.refl _ _).alloc (Nat.le_refl _) o).drew);exact a.trans (Kp.of_grown hgrow (fun g hg=>h.rl g hg))
 have k2:Kp (fun r=>r=1∨r=5) ρ w (w1.setCell ⟨gW,2,none⟩ (.slice (some ⟨gg,0,none⟩) (s.lens.length+1) cap)):=
  (k1.mono (fun _ x=>Or.inl x)).trans (Kp.of_set w1 _ _ (Or.inr h.rW))
 have hgn:gg≠gW:=by
  rcases hat with e | e
  ·intro e';have:=h.rl gg e;rw [e',h.rW] at this;omega
  ·have:=h.row.lt;omega
 refine ⟨?_,h.setLen k2 (((zlz h.row k1 (by rw [h.rW];omega)).set 2 _).congr (fun i hi=>jnk s _ _ i hi)) ?_ (fun g hg=>by simp [Value.ownBlock] at hg;subst hg;exact setρ_at _ _ _) (fun k hk=>?_) (by simpa using hl) (Or.inr (by simp))⟩
 ·have a:Below B w (w.alloc o).drew:=((Below.refl _ _).alloc h.hB o).drew;exact (a.grown hgrow (by have:=h.hB;simp;omega) (fun g hg=>(h.len.lt g hg).1)).setCell h.gB _
 ·have e:k2f (s.lens++[x])=k2f s.lens++[.int .i64 x]:=by simp [k2f]
  unfold OI;rw [e];simp only [List.length_append,List.length_cons,List.length_nil,Nat.zero_add];exact kcz (R:=fun k=>k=gW) (ρ:=fun k=>k) hown ⟨by simp [World.setCell],fun k _ hk=>Below.heap_setCell _ _ _ _ hk⟩ (fun g hg=>by simp [Value.ownBlock] at hg;omega)
 ·by_cases e:k=gg
  ·subst e;rcases hat with e | e
   ·rw [setρ_at,h.rl _ e]
   ·omega
  ·exact setρ_ne e
theorem ykn(B gW:Nat)(ρ:Nat->Nat)(s:kuu)(a b c:Int)(t:ByteArray)(ap:Option Addr)(np cp:Nat)(w:World)(h:Inv B gW 0 ρ s w) :
  Calls Tryz.prog 34 #[.pointer (some ⟨gW,0,none⟩), .agg (opV 2 a b c t (.slice ap np cp))] w fun e w'=>e= .returned (.bool true)∧Below B w w'∧∃ (ρ':Nat->Nat) (s':kuu),Inv B gW 0 ρ' s' w'∧Nxt s s':=by
 have HI:Hid (Inv B gW 0 ρ s w):=h;have hgl:gW<w.heap.size:=h.row.lt;have B0:Below w.heap.size w (w.alloc (.cells #[.int .i64 2, .int .i64 a, .int .i64 b, .int .i64 c, .string t, .slice ap np cp] 79)):=(Below.refl _ _).alloc (Nat.le_refl _) _;have c2:w.cell? ⟨gW,2,none⟩=some s.vl:=h.row.cell (i:=2) (by omega);have f2:=h.row.frozen 2;unfold opV;clear h;go_enter Tryz.func34,Tryz.ntmps34
 go_wp2_with fail
 go_ret
 have k1:Kp (fun r=>r=1∨r=5) ρ w (w.setCell ⟨gW,2,none⟩ (.slice none 0 0)):=Kp.of_set w _ _ (Or.inr HI.out.rW);have I1:=HI.out.setLen (ρ':=ρ) (v:= .slice none 0 0) (l:=[]) k1 ((HI.out.row.set 2 _).congr (fun i hi=>jnk s _ _ i hi)) (OI.nil _ _) (fun g hg=>by simp [Value.ownBlock] at hg) (fun _ _=>rfl) (by simp) (Or.inl rfl);have B1:Below B w (w.setCell ⟨gW,2,none⟩ (.slice none 0 0)):=(Below.refl _ _).setCell HI.out.gB _;exact ⟨rfl,B1.alloc (by have:=HI.out.hB;simp [World.setCell];omega) _,ρ,_,I1.below ((Below.refl _ _).alloc (Nat.le_refl _) _),⟨⟨rfl,rfl,rfl⟩,rfl,rfl,by simp,by simp,by simp,by simp⟩⟩
theorem jln(B gW:Nat)(ρ:Nat->Nat)(s:kuu)(a b c:Int)(t:ByteArray)(ap:Option Addr)(np cp:Nat)(w:World)(h:Inv B gW 0 ρ s w)(hln:s.lens.length<=90000000) :
  Calls Tryz.prog 34 #[.pointer (some ⟨gW,0,none⟩), .agg (opV 1 a b c t (.slice ap np cp))] w fun e w'=>e= .returned (.bool true)∧Below B w w'∧∃ (ρ':Nat->Nat) (s':kuu),Inv B gW 0 ρ' s' w'∧Nxt s s':=by
 obtain ⟨Wb,hWb⟩:∃ Wb,Wb=w.alloc (.cells #[.int .i64 1, .int .i64 a, .int .i64 b, .int .i64 c, .string t, .slice ap np cp] 79):=⟨_,rfl⟩
 have B0:Below w.heap.size w Wb:=by rw [hWb];exact (Below.refl _ _).alloc (Nat.le_refl _) _
 have hI:=h.below B0;have HI:Hid (Inv B gW 0 ρ s Wb):=hI;have HB:Hid (Below B w Wb):=B0.mono h.hB;have hgl:gW<Wb.heap.size:=hI.row.lt;have hBs:=hI.hB;have c2:Wb.cell? ⟨gW,2,none⟩=some s.vl:=hI.row.cell (i:=2) (by omega);have f2:=hI.row.frozen 2;have hown:Wb.ownsRow B 3 1 s.vl s.lens.length (k2f s.lens):=hI.len;have ag:s.vl.ownBlock≠some gW:=fun e=>by have h1:=hI.rl gW e;have h2:=hI.rW;omega
 have ca:Wb.cell? ⟨w.heap.size,1,none⟩=some (.int .i64 a):=by
  have h1:Wb.heap[w.heap.size]?=some (.cells #[.int .i64 1, .int .i64 a, .int .i64 b, .int .i64 c, .string t, .slice ap np cp] 79 (0,0)):=by rw [hWb];exact heap_alloc_new w _
  rw [cell_of_row _ _ 1 _ _ _ h1];rfl
 have hbw:w.heap.size<Wb.heap.size:=by rw [hWb];simp
 clear h hI B0;unfold opV;obtain ⟨i0,hi,hz0,hz1,hz2⟩:=info_parts ve2;go_enter Tryz.func34,Tryz.ntmps34
 go_upto_region 2 with fail
 rw [← hWb];clear hWb;go_region_law
  ((refine step_append_lies _ (by rfl) _ _ _ (by rfl) B 3 i0 _ 1 8 Tryz.underlying69 hi hz0 hz1 hz2 rfl (by omega) s.vl s.lens.length (k2f s.lens) (by rfl) ((hown.alloc _).drew) ⟨Wb.heap.size,0,none⟩ 1 1 [.int .i64 a] (by rfl) (by rfl) (cell_one_new Wb _ _) (by simp [Value.oneCell']) (by omega) (by unfold maxLen;omega) (by omega) (by simp;omega) (Wb.heap.size+1) (by simp) ?_;intro gg cap w1 hown1 hgrow hat hlt;have k2:=x1k hgrow hgl ag c2;have z2:=xg8 hgrow hgl ag f2))
 all_goals go_wp2_with fail
 all_goals go_ret
 all_goals
  have T:=ve1 HI.out hgrow hown1 hat (by omega);exact ⟨rfl,HB.out.trans T.1,_,_,T.2,⟨⟨rfl,rfl,rfl⟩,rfl,rfl,by simp,by simp,by simp,by simp⟩⟩
theorem vjb(B gW:Nat)(ρ:Nat->Nat)(s:kuu)(kd a b c:Int)(t:ByteArray)(ap:Option Addr)(np cp:Nat)(w:World)(h:Inv B gW 0 ρ s w)(hk:kd<=0) :
  Calls Tryz.prog 34 #[.pointer (some ⟨gW,0,none⟩), .agg (opV kd a b c t (.slice ap np cp))] w fun e w'=>e= .returned (.bool true)∧Below B w w'∧∃ (ρ':Nat->Nat) (s':kuu),Inv B gW 0 ρ' s' w'∧Nxt s s':=by
 have HI:Hid (Inv B gW 0 ρ s w):=h;have B0:Hid (Below w.heap.size w (w.alloc (.cells #[.int .i64 kd, .int .i64 a, .int .i64 b, .int .i64 c, .string t, .slice ap np cp] 79))):=(Below.refl _ _).alloc (Nat.le_refl _) _;unfold opV;clear h;have t1:(kd==1)=false:=by simp;omega
 have t2:(kd==2)=false:=by simp;omega
 have t3:(kd==8)=false:=by simp;omega
 have t4:decide (3<=kd)=false:=by simp;omega
 have t5:decide (8<kd)=false:=by simp;omega
 go_enter Tryz.func34,Tryz.ntmps34
 go_wp2_with fail
 go_ret
 exact ⟨rfl,B0.out.mono HI.out.hB,ρ,s,HI.out.below B0.out,Nxt.refl s⟩
theorem ypn(B gW:Nat)(ρ:Nat->Nat)(s:kuu)(kd a b c:Int)(t:ByteArray)(ap:Option Addr)(np cp:Nat)(w:World)(h:Inv B gW 0 ρ s w)(hk:kd<3)(hln:s.lens.length<=90000000) :
  Calls Tryz.prog 34 #[.pointer (some ⟨gW,0,none⟩), .agg (opV kd a b c t (.slice ap np cp))] w fun e w'=>e= .returned (.bool true)∧Below B w w'∧∃ (ρ':Nat->Nat) (s':kuu),Inv B gW 0 ρ' s' w'∧Nxt s s':=by
 have h3:kd<=0∨kd=1∨kd=2:=by omega
 rcases h3 with h3 | rfl | rfl
 ·exact vjb B gW ρ s kd a b c t ap np cp w h h3
 ·exact jln B gW ρ s a b c t ap np cp w h hln
 ·exact ykn B gW ρ s a b c t ap np cp w h
end Go.Proofs.YtbcjmakpempkiaaGreatDoor
