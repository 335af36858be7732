import Derived.RegionTactic
import Derived.Test.YtbcjmakpempkiaaGreatDoorX05
set_option maxRecDepth 100000
set_option maxHeartbeats 8000000
set_option linter.all false
namespace Go.Proofs.YtbcjmakpempkiaaGreatDoor
open Go.RowKit
def bfld(cnt fst bg:Nat->Int)(lg m n:Nat)(i:Nat):Value:=
 if i<12 then .int .i64 (cnt i) else if i<24 then .int .i64 (fst (i - 12)) else if i<36 then .int .i64 (bg (i - 24)) else if i=36 then .int .i64 lg else .slice (some ⟨m,0,none⟩) n n
theorem xw2(cnt fst bg:Nat->Int)(lg m n i:Nat)(h:i<12):bfld cnt fst bg lg m n i= .int .i64 (cnt i):=if_pos h
theorem ytq(cnt fst bg:Nat->Int)(lg m n i:Nat)(h:i<12):bfld cnt fst bg lg m n (12+i)= .int .i64 (fst i):=by
 unfold bfld;rw [if_neg (by omega),if_pos (by omega),show 12+i - 12=i by omega]
theorem vwk(cnt fst bg:Nat->Int)(lg m n i:Nat)(h:i<12):bfld cnt fst bg lg m n (24+i)= .int .i64 (bg i):=by
 unfold bfld;rw [if_neg (by omega),if_neg (by omega),if_pos (by omega),show 24+i - 24=i by omega]
theorem v7f{P:Program}{fn:Func}{p u:Tmp}{ty:TypeId}(h:fn.results=#[.cell p ty, .tmp u])(tmps:Array Value)(w:World)(g:Nat)(t:TypeId)(cs:Array Value)(fr:Nat×Nat)(d:TypeDesc)
  (hp:tmps.getD p undef= .pointer (some ⟨g,0,none⟩)) (hg:w.heap[g]?=some (.cells cs t fr))
  (hu:P.underlying ty=some d) (hd:(match d with | .struct _ | .array _ _=>true | _=>false)=true) (hi:(P.info? ty).map (·.size)=some cs.size) :
  (results fn tmps).run P w= .ok (.tuple #[.agg cs,tmps.getD u undef]) w:=by
 rw [results_cell_tmp h,hp];simp [asAddr,run_loadVar_row w g t ty cs fr d hg hu hd hi]
structure TabI(w:World)(ty:TypeId)(k:Nat)(p m n:Nat)(cnt fst bg:Nat->Int)(lg:Nat)(mg:Nat->List Value):Prop where
 row:w.rowIs p ty 38 (bfld cnt fst bg lg m n)
 at_:∀ j,j<n->(mg j).length=k∧w.rangeAt m (j*k) (mg j)
 pm:p<w.heap.size∧m<w.heap.size
theorem ysa{w:World}{p m n:Nat}{cnt fst bg:Nat->Int}{lg:Nat}{mg:Nat->List Value}(h:TabI w 271 2 p m n cnt fst bg lg mg) :
  Calls Tryz.prog 176 #[.pointer (some ⟨p,0,none⟩)] w fun x w'=>x= .returned (.int .i64 lg)∧w=w':=by
 have c2:w.cell? ⟨p,36,none⟩=some (.int .i64 lg):=h.row.cell (i:=36) (by omega);clear h;go_enter Tryz.func176,Tryz.ntmps176
 go_wp2_with fail
 go_ret
 exact ⟨rfl,rfl⟩
theorem x82{w:World}{p m n:Nat}{cnt fst bg:Nat->Int}{lg:Nat}{mg:Nat->List Value}(c L:Nat)(h:TabI w 271 2 p m n cnt fst bg lg mg)
  (hc:c<=1000000) (hL:L<12) (hf:0<=fst L∧fst L<=1000000) (hm:¬ (fst L<=c∧(c:Int) - fst L<cnt L)) :
  Calls Tryz.prog 177 #[.pointer (some ⟨p,0,none⟩), .int .i64 c, .int .i64 L] w fun x w'=>x= .returned (.tuple #[.agg #[.int .i64 0, .int .i64 0], .bool false])∧Below w.heap.size w w':=by
 have c1:w.cell? ⟨p,L,none⟩=some (.int .i64 (cnt L)):=by rw [h.row.cell (i:=L) (by omega),xw2 _ _ _ _ _ _ _ hL]
 have c2:w.cell? ⟨p,12+L,none⟩=some (.int .i64 (fst L)):=by rw [h.row.cell (i:=12+L) (by omega),ytq _ _ _ _ _ _ _ hL]
 have hp:=h.pm.1;clear h;obtain ⟨F,hF⟩:∃ F,F=fst L:=⟨_,rfl⟩
 obtain ⟨N,hN⟩:∃ N,N=cnt L:=⟨_,rfl⟩
 rw [← hF] at c2 hf hm;rw [← hN] at c1 hm;clear hF hN;have hL':(L:Int)<12:=by omega
 have HB:Hid (Below w.heap.size w ((w.alloc (.cells #[.int .i64 0, .int .i64 0] 125)).alloc (.cells #[.int .i64 0, .int .i64 0] 125))):=((Below.refl _ _).alloc (Nat.le_refl _) _).alloc (by simp) _;have HH:Hid (((w.alloc (.cells #[.int .i64 0, .int .i64 0] 125)).alloc (.cells #[.int .i64 0, .int .i64 0] 125)).heap[w.heap.size]?=some (.cells #[.int .i64 0, .int .i64 0] 125)):=(Go.heap_alloc_old _ _ (by simp)).trans (heap_alloc_new _ _);by_cases hlt:(c:Int) - F<0
 ·go_enter Tryz.func177,Tryz.ntmps177
  go_wp2_with fail
  refine bodyPost_ret (v7f Tryz.results177 _ _ _ _ _ _ _ rfl HH.out Tryz.underlying125 rfl (xtd _ rfl)) rfl ?_;exact ⟨rfl,HB.out⟩
 ·have hd:decide ((c:Int) - F<0)=false:=by simp;omega
  have hge:N<=(c:Int) - F:=by omega
  go_enter Tryz.func177,Tryz.ntmps177
  go_wp2_with fail
  refine bodyPost_ret (v7f Tryz.results177 _ _ _ _ _ _ _ rfl HH.out Tryz.underlying125 rfl (xtd _ rfl)) rfl ?_;exact ⟨rfl,HB.out⟩
theorem kkr{w:World}{p m n:Nat}{cnt fst bg:Nat->Int}{lg:Nat}{mg:Nat->List Value}(c L:Nat)(h:TabI w 271 2 p m n cnt fst bg lg mg)
  (hc:c<=1000000) (hL:L<12) (hf:0<=fst L∧fst L<=1000000) (hm:fst L<=c∧(c:Int) - fst L<cnt L) (j:Nat) (hj:bg L+((c:Int) - fst L)=j) (hn:j<n) (hn':n<=1000000) (v1 v2:Int) (hv:mg j=[.int .i64 v1, .int .i64 v2]) :
  Calls Tryz.prog 177 #[.pointer (some ⟨p,0,none⟩), .int .i64 c, .int .i64 L] w fun x w'=>x= .returned (.tuple #[.agg #[.int .i64 v1, .int .i64 v2], .bool true])∧Below w.heap.size w w':=by
 have c1:w.cell? ⟨p,L,none⟩=some (.int .i64 (cnt L)):=by rw [h.row.cell (i:=L) (by omega),xw2 _ _ _ _ _ _ _ hL]
 have c2:w.cell? ⟨p,12+L,none⟩=some (.int .i64 (fst L)):=by rw [h.row.cell (i:=12+L) (by omega),ytq _ _ _ _ _ _ _ hL]
 have c3:w.cell? ⟨p,24+L,none⟩=some (.int .i64 (bg L)):=by rw [h.row.cell (i:=24+L) (by omega),vwk _ _ _ _ _ _ _ hL]
 have c4:w.cell? ⟨p,37,none⟩=some (.slice (some ⟨m,0,none⟩) n n):=h.row.cell (i:=37) (by omega);have c5:w.cell? ⟨m,j*2,none⟩=some (.int .i64 v1):=(h.at_ j hn).2 0 _ (by rw [hv];rfl);have c6:w.cell? ⟨m,j*2+1,none⟩=some (.int .i64 v2):=(h.at_ j hn).2 1 _ (by rw [hv];rfl);have hp:=h.pm.1;have hm':=h.pm.2;clear h hv;obtain ⟨F,hF⟩:∃ F,F=fst L:=⟨_,rfl⟩
 obtain ⟨N,hN⟩:∃ N,N=cnt L:=⟨_,rfl⟩
 obtain ⟨b,hb⟩:∃ b,b=bg L:=⟨_,rfl⟩
 rw [← hF] at c2 hf hm hj;rw [← hN] at c1 hm;rw [← hb] at c3 hj;clear hF hN hb;have hL':(L:Int)<12:=by omega
 have hd:decide ((c:Int) - F<0)=false:=by simp;omega
 have hd2:decide (N<=(c:Int) - F)=false:=by simp;omega
 have HB:Hid (Below w.heap.size w (w.alloc (.cells #[.int .i64 v1, .int .i64 v2] 125)).drew):=((Below.refl _ _).alloc (Nat.le_refl _) _).drew;have HH:Hid ((w.alloc (.cells #[.int .i64 v1, .int .i64 v2] 125)).drew.heap[w.heap.size]?=some (.cells #[.int .i64 v1, .int .i64 v2] 125)):=heap_alloc_new _ _;have hjn:(j:Int)<n:=by omega
 go_enter Tryz.func177,Tryz.ntmps177
 go_wp2_with fail
 go_region
 go_wp2_with fail
 refine bodyPost_ret (v7f Tryz.results177 _ _ _ _ _ _ _ rfl HH.out Tryz.underlying125 rfl (xtd _ rfl)) rfl ?_;exact ⟨rfl,HB.out⟩
theorem vs7{w:World}{p m n:Nat}{cnt fst bg:Nat->Int}{lg:Nat}{mg:Nat->List Value}(h:TabI w 268 4 p m n cnt fst bg lg mg) :
  Calls Tryz.prog 174 #[.pointer (some ⟨p,0,none⟩)] w fun x w'=>x= .returned (.int .i64 lg)∧w=w':=by
 have c2:w.cell? ⟨p,36,none⟩=some (.int .i64 lg):=h.row.cell (i:=36) (by omega);clear h;go_enter Tryz.func174,Tryz.ntmps174
 go_wp2_with fail
 go_ret
 exact ⟨rfl,rfl⟩
theorem vrp{w:World}{p m n:Nat}{cnt fst bg:Nat->Int}{lg:Nat}{mg:Nat->List Value}(c L:Nat)(h:TabI w 268 4 p m n cnt fst bg lg mg)
  (hc:c<=1000000) (hL:L<12) (hf:0<=fst L∧fst L<=1000000) (hm:¬ (fst L<=c∧(c:Int) - fst L<cnt L)) :
  Calls Tryz.prog 175 #[.pointer (some ⟨p,0,none⟩), .int .i64 c, .int .i64 L] w fun x w'=>x= .returned (.tuple #[.agg #[.int .i64 0, .int .u8 0, .int .i64 0, .int .i64 0], .bool false])∧Below w.heap.size w w':=by
 have c1:w.cell? ⟨p,L,none⟩=some (.int .i64 (cnt L)):=by rw [h.row.cell (i:=L) (by omega),xw2 _ _ _ _ _ _ _ hL]
 have c2:w.cell? ⟨p,12+L,none⟩=some (.int .i64 (fst L)):=by rw [h.row.cell (i:=12+L) (by omega),ytq _ _ _ _ _ _ _ hL]
 have hp:=h.pm.1;clear h;obtain ⟨F,hF⟩:∃ F,F=fst L:=⟨_,rfl⟩
 obtain ⟨N,hN⟩:∃ N,N=cnt L:=⟨_,rfl⟩
 rw [← hF] at c2 hf hm;rw [← hN] at c1 hm;clear hF hN;have hL':(L:Int)<12:=by omega
 have HB:Hid (Below w.heap.size w ((w.alloc (.cells #[.int .i64 0, .int .u8 0, .int .i64 0, .int .i64 0] 218)).alloc (.cells #[.int .i64 0, .int .u8 0, .int .i64 0, .int .i64 0] 218))):=((Below.refl _ _).alloc (Nat.le_refl _) _).alloc (by simp) _;have HH:Hid (((w.alloc (.cells #[.int .i64 0, .int .u8 0, .int .i64 0, .int .i64 0] 218)).alloc (.cells #[.int .i64 0, .int .u8 0, .int .i64 0, .int .i64 0] 218)).heap[w.heap.size]?=some (.cells #[.int .i64 0, .int .u8 0, .int .i64 0, .int .i64 0] 218)):=(Go.heap_alloc_old _ _ (by simp)).trans (heap_alloc_new _ _);by_cases hlt:(c:Int) - F<0
 ·go_enter Tryz.func175,Tryz.ntmps175
  go_wp2_with fail
  refine bodyPost_ret (v7f Tryz.results175 _ _ _ _ _ _ _ rfl HH.out Tryz.underlying218 rfl (yes _ rfl)) rfl ?_;exact ⟨rfl,HB.out⟩
 ·have hd:decide ((c:Int) - F<0)=false:=by simp;omega
  have hge:N<=(c:Int) - F:=by omega
  go_enter Tryz.func175,Tryz.ntmps175
  go_wp2_with fail
  refine bodyPost_ret (v7f Tryz.results175 _ _ _ _ _ _ _ rfl HH.out Tryz.underlying218 rfl (yes _ rfl)) rfl ?_;exact ⟨rfl,HB.out⟩
theorem j98{w:World}{p m n:Nat}{cnt fst bg:Nat->Int}{lg:Nat}{mg:Nat->List Value}(c L:Nat)(h:TabI w 268 4 p m n cnt fst bg lg mg)
  (hc:c<=1000000) (hL:L<12) (hf:0<=fst L∧fst L<=1000000) (hm:fst L<=c∧(c:Int) - fst L<cnt L) (j:Nat) (hj:bg L+((c:Int) - fst L)=j) (hn:j<n) (hn':n<=1000000) (v1 v2 v3 v4:Int) (hv:mg j=[.int .i64 v1, .int .u8 v2, .int .i64 v3, .int .i64 v4]) :
  Calls Tryz.prog 175 #[.pointer (some ⟨p,0,none⟩), .int .i64 c, .int .i64 L] w fun x w'=>x= .returned (.tuple #[.agg #[.int .i64 v1, .int .u8 v2, .int .i64 v3, .int .i64 v4], .bool true])∧Below w.heap.size w w':=by
 have c1:w.cell? ⟨p,L,none⟩=some (.int .i64 (cnt L)):=by rw [h.row.cell (i:=L) (by omega),xw2 _ _ _ _ _ _ _ hL]
 have c2:w.cell? ⟨p,12+L,none⟩=some (.int .i64 (fst L)):=by rw [h.row.cell (i:=12+L) (by omega),ytq _ _ _ _ _ _ _ hL]
 have c3:w.cell? ⟨p,24+L,none⟩=some (.int .i64 (bg L)):=by rw [h.row.cell (i:=24+L) (by omega),vwk _ _ _ _ _ _ _ hL]
 have c4:w.cell? ⟨p,37,none⟩=some (.slice (some ⟨m,0,none⟩) n n):=h.row.cell (i:=37) (by omega);have c5:w.cell? ⟨m,j*4,none⟩=some (.int .i64 v1):=(h.at_ j hn).2 0 _ (by rw [hv];rfl);have c6:w.cell? ⟨m,j*4+1,none⟩=some (.int .u8 v2):=(h.at_ j hn).2 1 _ (by rw [hv];rfl);have c7:w.cell? ⟨m,j*4+2,none⟩=some (.int .i64 v3):=(h.at_ j hn).2 2 _ (by rw [hv];rfl);have c8:w.cell? ⟨m,j*4+3,none⟩=some (.int .i64 v4):=(h.at_ j hn).2 3 _ (by rw [hv];rfl);have hp:=h.pm.1;have hm':=h.pm.2;clear h hv;obtain ⟨F,hF⟩:∃ F,F=fst L:=⟨_,rfl⟩
 obtain ⟨N,hN⟩:∃ N,N=cnt L:=⟨_,rfl⟩
 obtain ⟨b,hb⟩:∃ b,b=bg L:=⟨_,rfl⟩
 rw [← hF] at c2 hf hm hj;rw [← hN] at c1 hm;rw [← hb] at c3 hj;clear hF hN hb;have hL':(L:Int)<12:=by omega
 have hd:decide ((c:Int) - F<0)=false:=by simp;omega
 have hd2:decide (N<=(c:Int) - F)=false:=by simp;omega
 have HB:Hid (Below w.heap.size w (w.alloc (.cells #[.int .i64 v1, .int .u8 v2, .int .i64 v3, .int .i64 v4] 218)).drew):=((Below.refl _ _).alloc (Nat.le_refl _) _).drew;have HH:Hid ((w.alloc (.cells #[.int .i64 v1, .int .u8 v2, .int .i64 v3, .int .i64 v4] 218)).drew.heap[w.heap.size]?=some (.cells #[.int .i64 v1, .int .u8 v2, .int .i64 v3, .int .i64 v4] 218)):=heap_alloc_new _ _;have hjn:(j:Int)<n:=by omega
 go_enter Tryz.func175,Tryz.ntmps175
 go_wp2_with fail
 go_region
 go_wp2_with fail
 refine bodyPost_ret (v7f Tryz.results175 _ _ _ _ _ _ _ rfl HH.out Tryz.underlying218 rfl (yes _ rfl)) rfl ?_;exact ⟨rfl,HB.out⟩
theorem kta{w:World}{p m n:Nat}{cnt fst bg:Nat->Int}{lg:Nat}{mg:Nat->List Value}(h:TabI w 265 4 p m n cnt fst bg lg mg) :
  Calls Tryz.prog 170 #[.pointer (some ⟨p,0,none⟩)] w fun x w'=>x= .returned (.int .i64 lg)∧w=w':=by
 have c2:w.cell? ⟨p,36,none⟩=some (.int .i64 lg):=h.row.cell (i:=36) (by omega);clear h;go_enter Tryz.func170,Tryz.ntmps170
 go_wp2_with fail
 go_ret
 exact ⟨rfl,rfl⟩
theorem j90{w:World}{p m n:Nat}{cnt fst bg:Nat->Int}{lg:Nat}{mg:Nat->List Value}(c L:Nat)(h:TabI w 265 4 p m n cnt fst bg lg mg)
  (hc:c<=1000000) (hL:L<12) (hf:0<=fst L∧fst L<=1000000) (hm:¬ (fst L<=c∧(c:Int) - fst L<cnt L)) :
  Calls Tryz.prog 172 #[.pointer (some ⟨p,0,none⟩), .int .i64 c, .int .i64 L] w fun x w'=>x= .returned (.tuple #[.agg #[.int .i64 0, .bool false, .int .i64 0, .int .i64 0], .bool false])∧Below w.heap.size w w':=by
 have c1:w.cell? ⟨p,L,none⟩=some (.int .i64 (cnt L)):=by rw [h.row.cell (i:=L) (by omega),xw2 _ _ _ _ _ _ _ hL]
 have c2:w.cell? ⟨p,12+L,none⟩=some (.int .i64 (fst L)):=by rw [h.row.cell (i:=12+L) (by omega),ytq _ _ _ _ _ _ _ hL]
 have hp:=h.pm.1;clear h;obtain ⟨F,hF⟩:∃ F,F=fst L:=⟨_,rfl⟩
 obtain ⟨N,hN⟩:∃ N,N=cnt L:=⟨_,rfl⟩
 rw [← hF] at c2 hf hm;rw [← hN] at c1 hm;clear hF hN;have hL':(L:Int)<12:=by omega
 have HB:Hid (Below w.heap.size w ((w.alloc (.cells #[.int .i64 0, .bool false, .int .i64 0, .int .i64 0] 127)).alloc (.cells #[.int .i64 0, .bool false, .int .i64 0, .int .i64 0] 127))):=((Below.refl _ _).alloc (Nat.le_refl _) _).alloc (by simp) _;have HH:Hid (((w.alloc (.cells #[.int .i64 0, .bool false, .int .i64 0, .int .i64 0] 127)).alloc (.cells #[.int .i64 0, .bool false, .int .i64 0, .int .i64 0] 127)).heap[w.heap.size]?=some (.cells #[.int .i64 0, .bool false, .int .i64 0, .int .i64 0] 127)):=(Go.heap_alloc_old _ _ (by simp)).trans (heap_alloc_new _ _);by_cases hlt:(c:Int) - F<0
 ·go_enter Tryz.func172,Tryz.ntmps172
  go_wp2_with fail
  refine bodyPost_ret (v7f Tryz.results172 _ _ _ _ _ _ _ rfl HH.out Tryz.underlying127 rfl (yfc _ rfl)) rfl ?_;exact ⟨rfl,HB.out⟩
 ·have hd:decide ((c:Int) - F<0)=false:=by simp;omega
  have hge:N<=(c:Int) - F:=by omega
  go_enter Tryz.func172,Tryz.ntmps172
  go_wp2_with fail
  refine bodyPost_ret (v7f Tryz.results172 _ _ _ _ _ _ _ rfl HH.out Tryz.underlying127 rfl (yfc _ rfl)) rfl ?_;exact ⟨rfl,HB.out⟩
theorem vsr{w:World}{p m n:Nat}{cnt fst bg:Nat->Int}{lg:Nat}{mg:Nat->List Value}(c L:Nat)(h:TabI w 265 4 p m n cnt fst bg lg mg)
  (hc:c<=1000000) (hL:L<12) (hf:0<=fst L∧fst L<=1000000) (hm:fst L<=c∧(c:Int) - fst L<cnt L) (j:Nat) (hj:bg L+((c:Int) - fst L)=j) (hn:j<n) (hn':n<=1000000) (v1:Int) (v2:Bool) (v3 v4:Int) (hv:mg j=[.int .i64 v1, .bool v2, .int .i64 v3, .int .i64 v4]) :
  Calls Tryz.prog 172 #[.pointer (some ⟨p,0,none⟩), .int .i64 c, .int .i64 L] w fun x w'=>x= .returned (.tuple #[.agg #[.int .i64 v1, .bool v2, .int .i64 v3, .int .i64 v4], .bool true])∧Below w.heap.size w w':=by
 have c1:w.cell? ⟨p,L,none⟩=some (.int .i64 (cnt L)):=by rw [h.row.cell (i:=L) (by omega),xw2 _ _ _ _ _ _ _ hL]
 have c2:w.cell? ⟨p,12+L,none⟩=some (.int .i64 (fst L)):=by rw [h.row.cell (i:=12+L) (by omega),ytq _ _ _ _ _ _ _ hL]
 have c3:w.cell? ⟨p,24+L,none⟩=some (.int .i64 (bg L)):=by rw [h.row.cell (i:=24+L) (by omega),vwk _ _ _ _ _ _ _ hL]
 have c4:w.cell? ⟨p,37,none⟩=some (.slice (some ⟨m,0,none⟩) n n):=h.row.cell (i:=37) (by omega);have c5:w.cell? ⟨m,j*4,none⟩=some (.int .i64 v1):=(h.at_ j hn).2 0 _ (by rw [hv];rfl);have c6:w.cell? ⟨m,j*4+1,none⟩=some (.bool v2):=(h.at_ j hn).2 1 _ (by rw [hv];rfl);have c7:w.cell? ⟨m,j*4+2,none⟩=some (.int .i64 v3):=(h.at_ j hn).2 2 _ (by rw [hv];rfl);have c8:w.cell? ⟨m,j*4+3,none⟩=some (.int .i64 v4):=(h.at_ j hn).2 3 _ (by rw [hv];rfl);have hp:=h.pm.1;have hm':=h.pm.2;clear h hv;obtain ⟨F,hF⟩:∃ F,F=fst L:=⟨_,rfl⟩
 obtain ⟨N,hN⟩:∃ N,N=cnt L:=⟨_,rfl⟩
 obtain ⟨b,hb⟩:∃ b,b=bg L:=⟨_,rfl⟩
 rw [← hF] at c2 hf hm hj;rw [← hN] at c1 hm;rw [← hb] at c3 hj;clear hF hN hb;have hL':(L:Int)<12:=by omega
 have hd:decide ((c:Int) - F<0)=false:=by simp;omega
 have hd2:decide (N<=(c:Int) - F)=false:=by simp;omega
 have HB:Hid (Below w.heap.size w (w.alloc (.cells #[.int .i64 v1, .bool v2, .int .i64 v3, .int .i64 v4] 127)).drew):=((Below.refl _ _).alloc (Nat.le_refl _) _).drew;have HH:Hid ((w.alloc (.cells #[.int .i64 v1, .bool v2, .int .i64 v3, .int .i64 v4] 127)).drew.heap[w.heap.size]?=some (.cells #[.int .i64 v1, .bool v2, .int .i64 v3, .int .i64 v4] 127)):=heap_alloc_new _ _;have hjn:(j:Int)<n:=by omega
 go_enter Tryz.func172,Tryz.ntmps172
 go_wp2_with fail
 go_region
 go_wp2_with fail
 refine bodyPost_ret (v7f Tryz.results172 _ _ _ _ _ _ _ rfl HH.out Tryz.underlying127 rfl (yfc _ rfl)) rfl ?_;exact ⟨rfl,HB.out⟩
def tab0(f g:Nat->Int):Array Value:=#[.int .i64 (f 0), .int .i64 (f 1), .int .i64 (f 2), .int .i64 (f 3), .int .i64 (f 4), .int .i64 (f 5), .int .i64 (f 6), .int .i64 (f 7), .int .i64 (f 8), .int .i64 (f 9), .int .i64 (f 10), .int .i64 (f 11),
 .int .i64 (g 0), .int .i64 (g 1), .int .i64 (g 2), .int .i64 (g 3), .int .i64 (g 4), .int .i64 (g 5), .int .i64 (g 6), .int .i64 (g 7), .int .i64 (g 8), .int .i64 (g 9), .int .i64 (g 10), .int .i64 (g 11),
 .int .i64 0, .int .i64 0, .int .i64 0, .int .i64 0, .int .i64 0, .int .i64 0, .int .i64 0, .int .i64 0, .int .i64 0, .int .i64 0, .int .i64 0, .int .i64 0, .int .i64 0, .slice none 0 0]
def bfv(cnt fst bg:Nat->Int)(lg:Nat)(v:Value)(i:Nat):Value:=
 if i<12 then .int .i64 (cnt i) else if i<24 then .int .i64 (fst (i - 12)) else if i<36 then .int .i64 (bg (i - 24)) else if i=36 then .int .i64 lg else v
def bsum(l:List Int):Nat->Int
 | 0=>0
 | k+1=>bsum l k+cn l k
def bgTo(l:List Int)(k i:Nat):Int:=if i<k then bsum l i else 0
def lgTo(l:List Int):Nat->Nat
 | 0=>0
 | k+1=>if 0<cn l k then k else lgTo l k
theorem jnz(l:List Int)(w:World)(T:TypeId):(w.alloc (.cells (tab0 (cn l) (fc (cn l))) T)).rowIs w.heap.size T 38 (bfv (cn l) (fc (cn l)) (bgTo l 0) (lgTo l 0) (.slice none 0 0)):=by
 refine World.rowIs_alloc w (tab0 (cn l) (fc (cn l))) T _ ?_;intro i hi;have hi':i<38:=hi;have:i=0∨i=1∨i=2∨i=3∨i=4∨i=5∨i=6∨i=7∨i=8∨i=9∨i=10∨i=11∨i=12∨i=13∨i=14∨i=15∨i=16∨i=17∨i=18∨i=19∨i=20∨i=21∨i=22∨i=23∨i=24∨i=25∨i=26∨i=27∨i=28∨i=29∨i=30∨i=31∨i=32∨i=33∨i=34∨i=35∨i=36∨i=37:=by omega
 rcases this with rfl | rfl | rfl | rfl | rfl | rfl | rfl | rfl | rfl | rfl | rfl | rfl | rfl | rfl | rfl | rfl | rfl | rfl | rfl | rfl | rfl | rfl | rfl | rfl | rfl | rfl | rfl | rfl | rfl | rfl | rfl | rfl | rfl | rfl | rfl | rfl | rfl | rfl <;> rfl
theorem ysr{l:List Int}(hl:l.length<=269)(k:Nat)(hk:k<=12):0<=bsum l k∧bsum l k<=1000000*k:=by
 induction k with
 | zero=>simp [bsum]
 | succ k ih=>
  have h1:=z7r hl k (by omega);have:=ih (by omega);simp only [bsum];omega
theorem jnr{w:World}{p T:Nat}{cnt fst bg:Nat->Int}{lg:Nat}{v:Value}(k:Nat)(x:Int)(hk:k<12)(h:w.rowIs p T 38 (bfv cnt fst bg lg v)) :
  (w.setCell ⟨p,24+k,none⟩ (.int .i64 x)).rowIs p T 38 (bfv cnt fst (fun i=>if i=k then x else bg i) lg v):=by
 refine (h.set (24+k) _).congr fun i _=>?_
 unfold bfv;by_cases e:i=24+k
 ·subst e;rw [if_pos rfl,if_neg (by omega),if_neg (by omega),if_pos (by omega),show 24+k - 24=k by omega];simp
 ·rw [if_neg e];by_cases e1:i<12
  ·rw [if_pos e1,if_pos e1]
  ·rw [if_neg e1,if_neg e1];by_cases e2:i<24
   ·rw [if_pos e2,if_pos e2]
   ·rw [if_neg e2,if_neg e2];by_cases e3:i<36
    ·rw [if_pos e3,if_pos e3];have:¬ (i - 24=k):=by omega
     simp [this]
    ·rw [if_neg e3,if_neg e3]
theorem zta{w:World}{p T:Nat}{cnt fst bg:Nat->Int}{lg:Nat}{v:Value}(x:Nat)(h:w.rowIs p T 38 (bfv cnt fst bg lg v)) :
  (w.setCell ⟨p,36,none⟩ (.int .i64 x)).rowIs p T 38 (bfv cnt fst bg x v):=by
 refine (h.set 36 _).congr fun i _=>?_
 unfold bfv;by_cases e:i=36
 ·subst e;rfl
 ·simp [e]
theorem jb3{w:World}{p T:Nat}{cnt fst bg:Nat->Int}{lg:Nat}{v:Value}(x:Value)(h:w.rowIs p T 38 (bfv cnt fst bg lg v)) :
  (w.setCell ⟨p,37,none⟩ x).rowIs p T 38 (bfv cnt fst bg lg x):=by
 refine (h.set 37 _).congr fun i hi=>?_
 unfold bfv;by_cases e:i=37
 ·subst e;rfl
 ·rw [if_neg e];by_cases e1:i=36
  ·subst e1;rfl
  ·have:i<36:=by omega
   simp [this]
theorem xp6(l:List Int)(k:Nat):(fun i=>if i=k then bsum l k else bgTo l k i)=bgTo l (k+1):=by
 funext i
 unfold bgTo;by_cases e:i=k
 ·subst e;rw [if_pos rfl,if_pos (by omega)]
 ·rw [if_neg e];by_cases e1:i<k
  ·rw [if_pos e1,if_pos (by omega)]
  ·rw [if_neg e1,if_neg (by omega)]
theorem y6c:(Tryz.prog.info? 125).map (fun i=>(i.zero,i.size,i.bytes))=some (some (.agg #[.int .i64 0, .int .i64 0]),2,16):=by kernel_rfl
theorem khk(n:Nat)(hn:n<=12000000)(w:World):(Instr.makeSlice 269 (.int .i64 (n:Int)) (.int .i64 (n:Int))).run Tryz.prog w= .ok (.slice (some ⟨w.heap.size,0,none⟩) n n) (w.alloc (.cells (madeCells #[.int .i64 0, .int .i64 0] (n*2)) 125)):=by
 obtain ⟨i,hi,hz⟩:=Option.map_eq_some_iff.1 y6c;simp only [Prod.mk.injEq] at hz;have hr:=run_make (P:=Tryz.prog) w 269 125 i _ Tryz.underlying269 hi hz.1 .i64 .i64 n n (by omega) (Int.le_refl _) (by rw [hz.2.2];omega) (by omega);simp only [Int.toNat_natCast,hz.2.1] at hr;exact hr
theorem xfg{w:World}{p T:Nat}{cnt fst:Nat->Int}{l:List Int}{lg:Nat}{v:Value}(h:w.rowIs p T 38 (bfv cnt fst (bgTo l 12) lg v)):w.rangeAt p 24 (arr (bsum l)).toList:=by
 intro j x hx;have hj:j<12:=by have:=(List.getElem?_eq_some_iff.1 hx).1;simpa [arr] using this
 rw [h.cell (i:=24+j) (by omega)];have e:(arr (bsum l))[j]?=some x:=by simpa using hx
 rw [zge _ _ hj] at e;rw [← Option.some.inj e];unfold bfv bgTo;rw [if_neg (by omega),if_neg (by omega),if_pos (by omega),show 24+j - 24=j by omega,if_pos hj]
theorem tab_build(f g:Nat->Int)(w:World):(Instr.build 271 #[(0, .agg (arr f)),(1, .agg (arr g))]).run Tryz.prog w= .ok (.agg (tab0 f g)) w:=by kernel_rfl
theorem tab_box(f g:Nat->Int)(w:World):(Instr.box 271 (.agg (tab0 f g))).run Tryz.prog w= .ok (.pointer (some ⟨w.heap.size,0,none⟩)) (w.alloc (.cells (tab0 f g) 271)):=by kernel_rfl
theorem xwb{w:World}{g:Nat}{l:List Int}(h:w.heap[g]?=some (.cells (arr (cn l)) 199)):w.cell? ⟨g,0,none⟩=some (.int .i64 (cn l 0))∧w.cell? ⟨g,1,none⟩=some (.int .i64 (cn l 1))∧w.cell? ⟨g,2,none⟩=some (.int .i64 (cn l 2))∧w.cell? ⟨g,3,none⟩=some (.int .i64 (cn l 3))∧w.cell? ⟨g,4,none⟩=some (.int .i64 (cn l 4))∧w.cell? ⟨g,5,none⟩=some (.int .i64 (cn l 5))∧w.cell? ⟨g,6,none⟩=some (.int .i64 (cn l 6))∧w.cell? ⟨g,7,none⟩=some (.int .i64 (cn l 7))∧w.cell? ⟨g,8,none⟩=some (.int .i64 (cn l 8))∧w.cell? ⟨g,9,none⟩=some (.int .i64 (cn l 9))∧w.cell? ⟨g,10,none⟩=some (.int .i64 (cn l 10))∧w.cell? ⟨g,11,none⟩=some (.int .i64 (cn l 11)):=jax h
def pos(l:List Int)(i:Nat):Nat:=(bsum l (l.getD i 0).toNat+cn (l.take i) (l.getD i 0).toNat).toNat
theorem xki(l:List Int)(i j:Nat):cn (l.take i) j<=cn l j:=by
 unfold cn;have:=((List.take_sublist i l).filter (fun x=>decide (0<x) && x==(j:Int))).length_le;omega
theorem znk(l:List Int)(a d:Nat):bsum l a<=bsum l (a+d):=by
 induction d with
 | zero=>simp
 | succ d ih=>
  have:bsum l (a+(d+1))=bsum l (a+d)+cn l (a+d):=rfl;have:=v4o l (a+d);omega
theorem yr6{l:List Int}{i k n:Nat}(hik:i<k)(hi:i<l.length)(hx:l[i]=(n:Int))(hn:0<n):cn (l.take i) n+1<=cn (l.take k) n:=by
 have h1:=ysp (j:=n) hi;have h2:=xki (l.take k) (i+1) n;rw [List.take_take,Nat.min_eq_left (by omega),h1,hx,if_pos ⟨by omega,rfl⟩] at h2;omega
theorem k44{l:List Int}{i n:Nat}(hi:i<l.length)(hx:l[i]=(n:Int))(hl:l.length<=269)(hn:n<12):(pos l i:Int)=bsum l n+cn (l.take i) n:=by
 have e:(l.getD i 0).toNat=n:=by simp [hi,hx]
 have h1:=(ysr hl n (by omega)).1;have h2:=v4o (l.take i) n;unfold pos;rw [e];omega
theorem vil{l:List Int}{i n:Nat}(hi:i<l.length)(hx:l[i]=(n:Int))(hl:l.length<=269)(h0:0<n)(hn:n<12):(pos l i:Int)<bsum l 12:=by
 rw [k44 hi hx hl hn];have h1:=yr6 (k:=l.length) hi hi hx h0;rw [List.take_length] at h1;have h2:bsum l (n+1)=bsum l n+cn l n:=rfl;have h3:=znk l (n+1) (12 - (n+1));rw [show n+1+(12 - (n+1))=12 by omega] at h3;omega
theorem z4t{l:List Int}{i k n m:Nat}(hik:i<k)(hk:k<l.length)(hi:i<l.length)(hx:l[i]=(n:Int))(hy:l[k]=(m:Int))(hl:l.length<=269)(h0:0<n)(hn:n<12)(g0:0<m)(gn:m<12):pos l i≠pos l k:=by
 intro e;have e1:=k44 hi hx hl hn;have e2:=k44 hk hy hl gn;rw [e] at e1;have a1:=yr6 (k:=l.length) hi hi hx h0;have a2:=yr6 (k:=l.length) hk hk hy g0;rw [List.take_length] at a1 a2;have b1:=v4o (l.take i) n;have b2:=v4o (l.take k) m;have h2:bsum l (n+1)=bsum l n+cn l n:=rfl;have h3:bsum l (m+1)=bsum l m+cn l m:=rfl;by_cases c:n<m
 ·have:=znk l (n+1) (m - (n+1));rw [show n+1+(m - (n+1))=m by omega] at this;omega
 ·by_cases c2:m<n
  ·have:=znk l (m+1) (n - (m+1));rw [show m+1+(n - (m+1))=n by omega] at this;omega
  ·obtain rfl:n=m:=by omega
   have:=yr6 hik hi hx h0;omega
def newW(wr:World)(p n:Nat)(l:List Int):World:=
 (((wr.setCell ⟨p,37,none⟩ (.slice (some ⟨wr.heap.size,0,none⟩) n n)).alloc (.cells (madeCells #[.int .i64 0, .int .i64 0] (n*2)) 125)).alloc (.cells (arr (fun _=>0)) 197)).setRow (wr.heap.size+1) (arr (bsum l))
theorem vni(w:World)(n:Nat)(t:TypeId):(w.alloc (.cells (madeCells #[.int .i64 0, .int .i64 0] (n*2)) t)).rowIs w.heap.size t (n*2) (fun _=> .int .i64 0):=by
 have:=World.rowIs_alloc w (madeCells #[.int .i64 0, .int .i64 0] (n*2)) t (fun _=> .int .i64 0) (fun i hi=>by
  have h2:i<n*2:=by simpa [size_madeCells] using hi
  have h3:i%2=0∨i%2=1:=by omega
  rcases h3 with h3 | h3 <;> simp [madeCells,h2,h3])
 rwa [size_madeCells] at this
theorem newW_at(wr:World)(p n:Nat):((((wr.setCell ⟨p,37,none⟩ (.slice (some ⟨wr.heap.size,0,none⟩) n n)).alloc (.cells (madeCells #[.int .i64 0, .int .i64 0] (n*2)) 125)).alloc (.cells (arr (fun _=>0)) 197)).heap[wr.heap.size+1]?)=some (.cells (arr (fun _=>0)) 197):=by
 have:=heap_alloc2_new (wr.setCell ⟨p,37,none⟩ (.slice (some ⟨wr.heap.size,0,none⟩) n n)) (.cells (madeCells #[.int .i64 0, .int .i64 0] (n*2)) 125) (.cells (arr (fun _=>0)) 197);simpa using this
theorem newW_facts{w wr:World}{p n:Nat}{l:List Int}{cnt fst:Nat->Int}{lg:Nat}(h:wr.rowIs p 271 38 (bfv cnt fst (bgTo l 12) lg (.slice none 0 0)))(hb:Below w.heap.size w wr)(hp:w.heap.size<=p) :
  (newW wr p n l).rowIs p 271 38 (bfv cnt fst (bgTo l 12) lg (.slice (some ⟨wr.heap.size,0,none⟩) n n))∧(newW wr p n l).rowIs wr.heap.size 125 (n*2) (fun _=> .int .i64 0)∧
  (newW wr p n l).rowIs (wr.heap.size+1) 197 12 (fun j=> .int .i64 (bsum l j))∧Below w.heap.size w (newW wr p n l):=by
 have hl:=h.lt;have hz:(wr.setCell ⟨p,37,none⟩ (.slice (some ⟨wr.heap.size,0,none⟩) n n)).heap.size=wr.heap.size:=by simp
 have hs:=hb.size;refine ⟨?_,?_,?_,?_⟩
 ·exact (((jb3 _ h).alloc _).alloc _).of_block (setRow_other _ _ _ _ (by omega))
 ·have:=(vni (wr.setCell ⟨p,37,none⟩ (.slice (some ⟨wr.heap.size,0,none⟩) n n)) n 125).alloc (.cells (arr (fun _=>0)) 197);rw [hz] at this;exact this.of_block (setRow_other _ _ _ _ (by omega))
 ·exact ⟨arr (bsum l),setRow_heap _ _ _ _ _ _ (newW_at wr p n),rfl,fun i hi=>zge _ _ hi⟩
 ·exact below_setRow (((hb.setCell (p:=⟨p,37,none⟩) hp _).alloc (by rw [hz];exact hs) _).alloc (by simp;omega) _) (by omega) _
def Filled(l:List Int)(f:Nat->Value)(k:Nat):Prop:=∀ i,i<k->0<l.getD i 0->f (pos l i*2)= .int .i64 (Tr.spanLeast 1 i)∧f (pos l i*2+1)= .int .i64 (Tr.spanBits i)
theorem Filled.skip{l:List Int}{f:Nat->Value}{k:Nat}(h:Filled l f k)(e0:l.getD k 0=0):Filled l f (k+1):=fun i hi h0=>by
 by_cases e:i=k
 ·subst e;omega
 ·exact h i (by omega) h0
theorem Filled.step{l:List Int}{f:Nat->Value}{k x:Nat}(h:Filled l f k)(hl:l.length<=269)(hr:inRange l=true)(hk:k<l.length)(hx:l[k]=(x:Int))(h0:0<x)(h12:x<12) :
  Filled l (fun j=>if j=pos l k*2+1 then .int .i64 (Tr.spanBits k) else if j=pos l k*2 then .int .i64 (Tr.spanLeast 1 k) else f j) (k+1):=fun i hi hp=>by
 by_cases e:i=k
 ·subst e;simp
 ·have hi':i<k:=by omega
  have hil:i<l.length:=by omega
  obtain ⟨y,hy,hy12⟩:∃ y:Nat,l[i]=(y:Int)∧y<12:=by
   have:=(vto l).1 hr l[i] (List.getElem_mem hil);exact ⟨l[i].toNat,by omega,by omega⟩
  have hg:l.getD i 0=(y:Int):=by simp [hil,hy]
  have ne:=z4t hi' hk hil hy hx hl (by omega) hy12 h0 h12;have hh:=h i hi' hp;refine ⟨?_,?_⟩
  ·show (if pos l i*2=pos l k*2+1 then _ else if pos l i*2=pos l k*2 then _ else f (pos l i*2))=_;rw [if_neg (by omega),if_neg (by omega)];exact hh.1
  ·show (if pos l i*2+1=pos l k*2+1 then _ else if pos l i*2+1=pos l k*2 then _ else f (pos l i*2+1))=_;rw [if_neg (by omega),if_neg (by omega)];exact hh.2
theorem jq1{w:World}{m i j:Nat}{v u:Value}{q:Addr}(h:q.block≠m):((w.setCell ⟨m,i,none⟩ v).setCell ⟨m,j,none⟩ u).cell? q=w.cell? q:=
 (World.cell?_setCell_far _ _ _ _ (Ne.symm h)).trans (World.cell?_setCell_far _ _ _ _ (Ne.symm h))
theorem new_round{w wr w7:World}{p m n k x P:Nat}{l:List Int}{F:Nat->Value}{f:Nat->Value}{v1 v2:Value}(q1:wr.rowIs p 271 38 F)(q2:wr.rowIs m 125 (n*2) f)(q4:wr.rowIs (m+1) 197 12 (fun j=> .int .i64 (bsum l j+cn (l.take k) j)))
  (q5:Below w.heap.size w wr) (hb:Below wr.heap.size wr w7) (hk:k<l.length) (hx:l[k]=(x:Int)) (h0:0<x) (_h12:x<12) (hpm:p≠m) (hpm2:p≠m+1) (_hp:w.heap.size<=p) (hm:w.heap.size<=m) (hN:bsum l x+cn (l.take k) x=(pos l k:Int)) (hP:P=pos l k) :
  (((w7.setCell ⟨m,P*2,none⟩ v1).setCell ⟨m,P*2+1,none⟩ v2).setCell ⟨m+1,x,none⟩ (.int .i64 (P+1))).rowIs p 271 38 F∧
  (((w7.setCell ⟨m,P*2,none⟩ v1).setCell ⟨m,P*2+1,none⟩ v2).setCell ⟨m+1,x,none⟩ (.int .i64 (P+1))).rowIs m 125 (n*2) (fun j=>if j=P*2+1 then v2 else if j=P*2 then v1 else f j)∧
  (((w7.setCell ⟨m,P*2,none⟩ v1).setCell ⟨m,P*2+1,none⟩ v2).setCell ⟨m+1,x,none⟩ (.int .i64 (P+1))).rowIs (m+1) 197 12 (fun j=> .int .i64 (bsum l j+cn (l.take (k+1)) j))∧
  Below w.heap.size w (((w7.setCell ⟨m,P*2,none⟩ v1).setCell ⟨m,P*2+1,none⟩ v2).setCell ⟨m+1,x,none⟩ (.int .i64 (P+1))):=by
 have e:(P:Int)+1=bsum l x+cn (l.take k) x+1:=by omega
 refine ⟨?_,?_,?_,?_⟩
 ·exact (((j96 q1 hb q1.lt).setOther (a:=⟨m,P*2,none⟩) hpm _).setOther (a:=⟨m,P*2+1,none⟩) hpm _).setOther (a:=⟨m+1,x,none⟩) hpm2 _
 ·exact (((j96 q2 hb q2.lt).set (P*2) _).set (P*2+1) _).setOther (a:=⟨m+1,x,none⟩) (by simp) _
 ·rw [e];exact jr9 hk hx h0 (((j96 q4 hb q4.lt).setOther (a:=⟨m,P*2,none⟩) (by simp) _).setOther (a:=⟨m,P*2+1,none⟩) (by simp) _)
 ·exact (((q5.trans (hb.mono q5.size)).setCell (p:=⟨m,P*2,none⟩) hm _).setCell (p:=⟨m,P*2+1,none⟩) hm _).setCell (p:=⟨m+1,x,none⟩) (by show w.heap.size<=m+1;omega) _
theorem x7m(ad:Option Addr)(cap:Nat)(l:List Int)(w:World)(hl16:l.length<=16)(hc:xin w ad l)(hr:inRange l=true) :
  Calls Tryz.prog 193 #[.slice ad l.length cap, .func (.func 194) #[] #[]] w fun e w'=>∃ (p m n:Nat) (f:Nat->Value),e= .returned (.pointer (some ⟨p,0,none⟩))∧bsum l 12=n∧
   TabI w' 271 2 p m n (cn l) (fc (cn l)) (bgTo l 12) (lgTo l 12) (fun j=>[f (j*2),f (j*2+1)])∧(∀ i,i<l.length->0<l.getD i 0->f (pos l i*2)= .int .i64 (Tr.spanLeast 1 i)∧f (pos l i*2+1)= .int .i64 (Tr.spanBits i))∧w.heap.size<=p∧w.heap.size<=m∧Below w.heap.size w w':=by
 have hl:l.length<=269:=by omega
 have HC:Hid (xin w ad l):=hc;have HB:Hid (∀ j,j<12->0<=cn l j∧cn l j<=1000000):=z7r hl;go_enter Tryz.func193,Tryz.ntmps193
 go_wp2_with fail
 refine (v5q ad cap l _ (by omega) hc hr).mono ?_;rintro e w1 ⟨rfl,hb1⟩;have HG1:Hid (Below w.heap.size w w1):=hb1;clear hb1 hc;go_wp2_with (first | (refine wpList_store_row rfl 199 _ _ rfl _ _ rfl rfl 199 _ (heap_alloc_new _ _) (zvc _) rfl (yui _) ?_;rw [World.setRow_alloc_new]))
 have hW:(w1.alloc (.cells (arr (cn l)) 199)).heap[w1.heap.size]?=some (.cells (arr (cn l)) 199):=heap_alloc_new _ _;have HW:Hid (Below w.heap.size w (w1.alloc (.cells (arr (cn l)) 199))):=HG1.out.alloc HG1.out.size _;have hWs:w1.heap.size<(w1.alloc (.cells (arr (cn l)) 199)).heap.size:=by simp
 generalize w1.alloc (.cells (arr (cn l)) 199)=W at *;have hbd:=tab_build (cn l) (fc (cn l));have hbx:=tab_box (cn l) (fc (cn l));unfold arr at hbd;generalize hg:w1.heap.size=g at *;clear hg;go_region_held3 (fun wv=>wv.cell? ⟨g,0,none⟩=some (.int .i64 (cn l 0))∧wv.cell? ⟨g,1,none⟩=some (.int .i64 (cn l 1))∧wv.cell? ⟨g,2,none⟩=some (.int .i64 (cn l 2))∧wv.cell? ⟨g,3,none⟩=some (.int .i64 (cn l 3))∧wv.cell? ⟨g,4,none⟩=some (.int .i64 (cn l 4))∧wv.cell? ⟨g,5,none⟩=some (.int .i64 (cn l 5))∧wv.cell? ⟨g,6,none⟩=some (.int .i64 (cn l 6))∧wv.cell? ⟨g,7,none⟩=some (.int .i64 (cn l 7))∧wv.cell? ⟨g,8,none⟩=some (.int .i64 (cn l 8))∧wv.cell? ⟨g,9,none⟩=some (.int .i64 (cn l 9))∧wv.cell? ⟨g,10,none⟩=some (.int .i64 (cn l 10))∧wv.cell? ⟨g,11,none⟩=some (.int .i64 (cn l 11))) (first | exact xwb (w:=W.drew) hW | exact xwb hh3 | exact xwb ((Go.heap_alloc_old _ _ hg3).trans hh3))
  (first | (go_at_call 151;refine (jgl (cn l) _ HB.out).mono ?_;rintro e w3 ⟨rfl,hb3⟩;have hh3:=(hb3.block _ hWs).trans hW;have hg3:g<w3.heap.size:=Nat.lt_of_lt_of_le hWs hb3.size;unfold arr))
 have HG4:Hid (Below w.heap.size w w3):=HW.out.drew.trans (hb3.mono HW.out.size);have HS3:Hid (w3.heap[g]?=some (.cells (arr (cn l)) 199)):=hh3;clear hb3 hh3 hW hbd hbx HW HG1;have hp3:(w3.alloc (.cells (tab0 (cn l) (fc (cn l))) 271)).rowIs w3.heap.size 271 38 (bfv (cn l) (fc (cn l)) (bgTo l 0) (lgTo l 0) (.slice none 0 0)):=jnz _ _ _;have h4g:(w3.alloc (.cells (tab0 (cn l) (fc (cn l))) 271)).heap[g]?=some (.cells (arr (cn l)) 199):=(Go.heap_alloc_old _ _ hg3).trans HS3.out;have HG5:Hid (Below w.heap.size w (w3.alloc (.cells (tab0 (cn l) (fc (cn l))) 271))):=HG4.out.alloc HG4.out.size _;have hpW:w.heap.size<=w3.heap.size:=HG4.out.size;have hi:=idx (cn l);unfold tab0 at *;generalize w3.alloc _=w4 at *;generalize w3.heap.size=p at *;go_wp2_with (refine wpList_load_row rfl 197 _ rfl _ rfl 199 (arr (cn l)) (0,0) _ h4g Tryz.underlying197 rfl (xz2 _) ?_)
 go_loopw [7,22] (fun t i wr=>∃ k:Nat,k<=12∧i= .int .i64 k∧t= .int .i64 (bsum l k)∧wr.rowIs p 271 38 (bfv (cn l) (fc (cn l)) (bgTo l k) (lgTo l k) (.slice none 0 0))∧Below w.heap.size w wr) (fun _ i _=>12 - (intOf i).toNat)
 case atStart=>exact ⟨0,Nat.zero_le _,rfl,rfl,hp3,HG5.out⟩
 case round=>
  obtain ⟨k,hk,rfl,rfl,hrow,hbel⟩:=hrel;by_cases hlt:k<12
  ·have hik:=hi k hlt;have ⟨b1,b2⟩:=ysr hl k hk;have ⟨b3,b4⟩:=HB.out k hlt;have g1:=hrow.cell (i:=24+k) (by omega);have g2:=hrow.frozen (24+k);have g3:=hrow.cell (i:=36) (by omega);have g4:=hrow.frozen 36;have R:=jnr k (bsum l k) hlt hrow;rw [xp6] at R;have R1:=hbel.setCell (p:=⟨p,24+k,none⟩) hpW (.int .i64 (bsum l k));by_cases hpos:0<cn l k
   ·have R2:=zta k R;have e2:lgTo l (k+1)=k:=if_pos hpos;go_wp2
    go_roundw
    case rel=>exact ⟨k+1,by omega,by go_num,rfl,by rw [e2];exact R2,R1.setCell (p:=⟨p,36,none⟩) hpW _⟩
    case measure=>simp [intOf];omega
   ·have e2:lgTo l k=lgTo l (k+1):=(if_neg hpos).symm;rw [e2] at R;go_wp2
    go_roundw
    case rel=>exact ⟨k+1,by omega,by go_num,rfl,R,R1⟩
    case measure=>simp [intOf];omega
  ·obtain rfl:k=12:=by omega
   have HR:Hid (wr.rowIs p 271 38 (bfv (cn l) (fc (cn l)) (bgTo l 12) (lgTo l 12) (.slice none 0 0))∧Below w.heap.size w wr):=⟨hrow,hbel⟩
   obtain ⟨n,hn⟩:∃ n:Nat,bsum l 12=n:=⟨(bsum l 12).toNat,by have:=(ysr hl 12 (by omega)).1;omega⟩
   have hn2:n<=12000000:=by have:=(ysr hl 12 (by omega)).2;omega
   rw [hn];have g1:=hrow.cell (i:=37) (by omega);have g2:=hrow.frozen 37;have hmk:=khk n hn2;clear hi;have r5:((wr.setCell ⟨p,37,none⟩ (.slice (some ⟨wr.heap.size,0,none⟩) n n)).alloc (.cells (madeCells #[.int .i64 0, .int .i64 0] (n*2)) 125)).rowIs p 271 38 (bfv (cn l) (fc (cn l)) (bgTo l 12) (lgTo l 12) (.slice (some ⟨wr.heap.size,0,none⟩) n n)):=(jb3 _ hrow).alloc _;have m5:=xfg r5;have hpl:=hrow.lt;have h6:=newW_at wr p n;have NF:=newW_facts (n:=n) hrow hbel hpW;unfold newW at NF;rw [show arr (fun _=>0)=#[.int .i64 0, .int .i64 0, .int .i64 0, .int .i64 0, .int .i64 0, .int .i64 0, .int .i64 0, .int .i64 0, .int .i64 0, .int .i64 0, .int .i64 0, .int .i64 0] from rfl] at NF;have HNF:Hid _:=NF;clear NF;go_wp2_with (first | (refine wpList_load_mid rfl 197 _ rfl p 24 rfl (arr (bsum l)).toList _ m5 Tryz.underlying197 rfl (xz2 (bsum l)) ?_;rw [Array.toArray_toList]) | (refine wpList_store_row rfl 197 _ _ rfl (wr.heap.size+1) (arr (bsum l)) rfl rfl 197 _ h6 (xz2 _) rfl (yui _) ?_))
   have hmW:w.heap.size<=wr.heap.size:=hbel.size;clear h6 m5 r5 g1 g2 hmk hrow h4g hbel HR;generalize (((wr.setCell ⟨p,37,none⟩ (.slice (some ⟨wr.heap.size,0,none⟩) n n)).alloc (.cells (madeCells #[.int .i64 0, .int .i64 0] (n*2)) 125)).alloc (.cells #[.int .i64 0, .int .i64 0, .int .i64 0, .int .i64 0, .int .i64 0, .int .i64 0, .int .i64 0, .int .i64 0, .int .i64 0, .int .i64 0, .int .i64 0, .int .i64 0] 197)).setRow (wr.heap.size+1) (arr (bsum l))=w6 at *;generalize wr.heap.size=m at *;go_loopw [53] (fun i wx=>∃ (k:Nat) (f:Nat->Value),k<=l.length∧i= .int .i64 k∧wx.rowIs p 271 38 (bfv (cn l) (fc (cn l)) (bgTo l 12) (lgTo l 12) (.slice (some ⟨m,0,none⟩) n n))∧wx.rowIs m 125 (n*2) f∧Filled l f k∧wx.rowIs (m+1) 197 12 (fun j=> .int .i64 (bsum l j+cn (l.take k) j))∧Below w.heap.size w wx) (fun i _=>l.length - (intOf i).toNat)
   case atStart=>exact ⟨0,fun _=> .int .i64 0,Nat.zero_le _,rfl,HNF.out.1,HNF.out.2.1,fun i hi=>absurd hi (by omega),HNF.out.2.2.1.congr fun i _=>by simp [j3h],HNF.out.2.2.2⟩
   case round=>
    obtain ⟨k,f,hk,rfl,q1,q2,q3,q4,q5⟩:=hrel;by_cases hlt:k<l.length
    ·obtain ⟨b,o,x,rfl,g,hx12,hx⟩:=(HC.out.below q5 (Nat.le_refl _)).atNat hr hlt;have HQ:Hid (wr.rowIs p 271 38 (bfv (cn l) (fc (cn l)) (bgTo l 12) (lgTo l 12) (.slice (some ⟨m,0,none⟩) n n))∧wr.rowIs m 125 (n*2) f∧wr.rowIs (m+1) 197 12 (fun j=> .int .i64 (bsum l j+cn (l.take k) j))∧Below w.heap.size w wr):=⟨q1,q2,q4,q5⟩
     have HF:Hid (Filled l f k):=q3;clear q3;by_cases hpos:0<x
     ·have e1:=k44 hlt hx.out hl (by omega);have e2:=vil hlt hx.out hl hpos (by omega);rw [hn] at e2;have hpn:pos l k<n:=by omega
      have c1:wr.cell? ⟨p,37,none⟩=some (.slice (some ⟨m,0,none⟩) n n):=q1.cell (i:=37) (by omega);have c2:wr.cell? ⟨m+1,x,none⟩=some (.int .i64 (pos l k)):=by rw [q4.cell (i:=x) (by omega),e1]
      have HN:Hid (bsum l x+cn (l.take k) x=(pos l k:Int)):=e1.symm;have HFS:=HF.out.step hl hr hlt hx.out hpos (by omega);have HFT:Hid _:=HFS;clear HFS e1;have HNX:Hid ((wr:World)=wr):=rfl;obtain ⟨P,hP⟩:∃ P,P=pos l k:=⟨_,rfl⟩
      have l1:=q1.lt;have l2:=q2.lt;have l3:=q4.lt;have hPi:(P:Int)<n:=by omega
      have hx12':(x:Int)<12:=by omega
      have k1:=q2.cell (i:=P*2) (by omega);have k2:=q2.cell (i:=P*2+1) (by omega);have y1:=q2.frozen (P*2);have y2:=q2.frozen (P*2+1);rw [← hP] at c2;have HP:Hid (P=pos l k):=hP;have hk15:k<=15:=by omega
      have hpm:p≠m:=by omega
      have hpm2:p≠m+1:=by omega
      have y3:=q4.frozen x;clear q1 q2 q4 q5 hP;go_wp2_with fail
      go_region_held3 (fun wv=>wv.cell? ⟨p,37,none⟩=some (.slice (some ⟨m,0,none⟩) n n)∧wv.cell? ⟨m+1,x,none⟩=some (.int .i64 P)) (first | exact ⟨c1,c2⟩ | exact ⟨d1,d2⟩ | exact ⟨(jq1 (q:=⟨p,37,none⟩) hpm).trans d1,(jq1 (q:=⟨m+1,x,none⟩) (by simp)).trans d2⟩)
       (first | (go_at_call 194;refine (x00 k _ hk15).mono ?_;rintro e w7 ⟨rfl,hb7⟩;have d1:=(hb7.cell l1).trans c1;have d2:=(hb7.cell l3).trans c2;have d3:w7.cell? ⟨m,P*2,none⟩=some (f (P*2)):=(hb7.cell l2).trans k1;have d4:w7.cell? ⟨m,P*2+1,none⟩=some (f (P*2+1)):=(hb7.cell l2).trans k2;have d5:w7.frozen? ⟨m,P*2,none⟩=false:=(hb7.frozen l2).trans y1;have d6:w7.frozen? ⟨m,P*2+1,none⟩=false:=(hb7.frozen l2).trans y2;have d7:w7.frozen? ⟨m+1,x,none⟩=false:=(hb7.frozen l3).trans y3;have HB7:Hid (Below wr.heap.size wr w7):=⟨hb7.os,hb7.tape,hb7.output,hb7.size,hb7.block⟩;clear hb7;unfold y5c))
      have T:=new_round (v1:= .int .i64 (Tr.spanLeast 1 k)) (v2:= .int .i64 (Tr.spanBits k)) HQ.out.1 HQ.out.2.1 HQ.out.2.2.1 HQ.out.2.2.2 HB7.out hlt hx.out hpos (by omega) hpm hpm2 hpW hmW HN.out HP.out;have HT:Hid _:=T;clear T k1 k2 y1 y2 y3;go_wp2
      go_roundw
      case rel=>exact ⟨k+1,_,by omega,by go_num,HT.out.1,HT.out.2.1,by rw [HP.out];exact HFT.out,HT.out.2.2.1,HT.out.2.2.2⟩
      case measure=>simp [intOf];omega
     ·obtain rfl:x=0:=by omega
      have R:=zlc hlt hx.out q4;have e0:l.getD k 0=0:=by have:=hx.out;simp [hlt];simpa using this
      have HF2:Hid (Filled l f (k+1)):=HF.out.skip e0;go_wp2
      go_roundw
      case rel=>exact ⟨k+1,f,by omega,by go_num,q1,q2,HF2.out,R,q5⟩
      case measure=>simp [intOf];omega
    ·obtain rfl:k=l.length:=by omega
     go_wp2
     go_ret
     refine ⟨p,m,n,f,rfl,hn,⟨q1,fun j hj=>⟨rfl,?_⟩,q1.lt,q2.lt⟩,fun i hi h0=>q3 i hi h0,hpW,hmW,q5⟩;intro t v hv;have ht:t=0∨t=1:=by have:=(List.getElem?_eq_some_iff.1 hv).1;simp at this;omega
     rcases ht with rfl | rfl
     ·rw [← Option.some.inj hv];exact q2.cell (i:=j*2) (by omega)
     ·rw [← Option.some.inj hv];exact q2.cell (i:=j*2+1) (by omega)
end Go.Proofs.YtbcjmakpempkiaaGreatDoor
