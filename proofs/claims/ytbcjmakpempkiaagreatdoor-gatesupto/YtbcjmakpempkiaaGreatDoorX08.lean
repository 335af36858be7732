import Derived.Test.YtbcjmakpempkiaaGreatDoorX05
set_option maxRecDepth 100000
set_option maxHeartbeats 8000000
set_option linter.all false
namespace Go.Proofs.YtbcjmakpempkiaaGreatDoor
variable {w wr:World} {T i k lg m n p x:Nat} {l:List Int} {v:Value}
open Go.Proofs.Tryz
open Go.RowKit
def FL(k:Nat):Array Value:=
 if k<256 then #[.int .i64 0, .int .u8 k, .int .i64 0, .int .i64 0]
 else if k=256 then #[.int .i64 1, .int .u8 0, .int .i64 0, .int .i64 0]
 else #[.int .i64 2, .int .u8 0, .int .i64 (Tr.Ar 3 (k - 257)), .int .i64 (Tr.Ag (k - 257))]
def EU(k:Nat):Array Value:=
 if k=12 then #[.int .i64 0, .bool true, .int .i64 3, .int .i64 2]
 else if k=13 then #[.int .i64 0, .bool false, .int .i64 3, .int .i64 3]
 else if k=14 then #[.int .i64 0, .bool false, .int .i64 11, .int .i64 6]
 else #[.int .i64 k, .bool false, .int .i64 1, .int .i64 0]
theorem Ga(cs:Array Value)(h:cs.size=4):(prog.info? 218).map (·.size)=some cs.size:=by rw [h];kernel_rfl
theorem FW(cs:Array Value)(h:cs.size=4):(prog.info? 127).map (·.size)=some cs.size:=by rw [h];kernel_rfl
theorem Rg(k:Nat)(w:World)(hk:k<=268) :
  Calls prog 192 #[.int .i64 k] w fun x o=>x= .returned (.agg (FL k))/\Below w.heap.size w o:=by
 by_cases h1:k<256
 ·have b:Hid (True->FL k=#[.int .i64 0, .int .u8 k, .int .i64 0, .int .i64 0]):=fun _=>by unfold FL;rw [zC h1]
  have l:(k:Int)%256=(k:Int):=zO;go_enter func192,ntmps192
  go_wp2_with fail
  refine zX (v:= .agg #[.int .i64 0, .int .u8 k, .int .i64 0, .int .i64 0]) ?_ rfl ?_
  ·exact xH results192 _ _ _ 218 _ _ _ rfl (zJ _ _) underlying218 rfl (Ga _ rfl)
  ·exact ⟨by rw [b.out trivial],zB.alloc zL _⟩
 ·by_cases h2:k=256
  ·have b:Hid (True->FL k=#[.int .i64 1, .int .u8 0, .int .i64 0, .int .i64 0]):=fun _=>by unfold FL;rw [zA h1,zC h2]
   have hd:((k:Int)==256)=true:=by simp;omega
   clear h2;go_enter func192,ntmps192
   go_wp2_with fail
   refine zX (v:= .agg #[.int .i64 1, .int .u8 0, .int .i64 0, .int .i64 0]) ?_ rfl ?_
   ·exact xH results192 _ _ _ 218 _ _ _ rfl (zJ _ _) underlying218 rfl (Ga _ rfl)
   ·exact ⟨by rw [b.out trivial],zB.alloc zL _⟩
  ·have b:Hid (True->FL k=#[.int .i64 2, .int .u8 0, .int .i64 (Tr.Ar 3 (k - 257)), .int .i64 (Tr.Ag (k - 257))]):=fun _=>by unfold FL;rw [zA h1,zA h2]
   have hd:((k:Int)==256)=false:=by simp;omega
   obtain ⟨j,i⟩:=qe (k - 257);have n:(k:Int) - 257=(j:Int):=zO;have d:j<=15:=zO;rw [<- i] at b;clear i;have g:Hid (Below w.heap.size w (w.alloc (.cells #[.int .i64 0, .int .u8 0, .int .i64 0, .int .i64 0] 218))):=zB.alloc zL _;go_enter func192,ntmps192
   go_wp2_with fail
   refine (Ql 3 j _ zO d).mono ?_;rintro e w1 ⟨rfl,a⟩;have c:w1.heap[w.heap.size]?=some (.cells #[.int .i64 0, .int .u8 0, .int .i64 0, .int .i64 0] 218 (0,0)):=(a.block _ zS).trans (zJ _ _);have h:=hid (Ds g.out a);clear a;unfold Eu;have f:(#[.int .i64 2, .int .u8 0, .int .i64 (Tr.Ar 3 j), .int .i64 (Tr.Ag j)]:Array Value).all (·.oneCell')=true:=by simp [Value.oneCell']
   go_wp2_with (refine yS rfl 218 _ _ rfl w.heap.size #[.int .i64 2, .int .u8 0, .int .i64 (Tr.Ar 3 j), .int .i64 (Tr.Ag j)] rfl rfl 218 _ c (Ga _ rfl) rfl f ?_)
   refine zX (v:= .agg #[.int .i64 2, .int .u8 0, .int .i64 (Tr.Ar 3 j), .int .i64 (Tr.Ag j)]) ?_ rfl ?_
   ·exact xH results192 _ _ _ 218 _ _ _ rfl (xK _ _ _ _ 218 _ c) underlying218 rfl (Ga _ rfl)
   ·exact ⟨by rw [b.out trivial],xN h.out zL _⟩
theorem Td(k:Nat)(w:World) :
  Calls prog 169 #[.int .i64 k] w fun x b=>x= .returned (.agg (EU k))/\Below w.heap.size w b:=by
 by_cases h1:k=12
 ·have a:Hid (True->EU k=#[.int .i64 0, .bool true, .int .i64 3, .int .i64 2]):=fun _=>by unfold EU;rw [zC h1]
  have hd:((k:Int)==12)=true:=by simp;omega
  clear h1;go_enter func169,ntmps169
  go_wp2_with fail
  refine zX (v:= .agg #[.int .i64 0, .bool true, .int .i64 3, .int .i64 2]) ?_ rfl ?_
  ·exact xH results169 _ _ _ 127 _ _ _ rfl (zJ _ _) underlying127 rfl (FW _ rfl)
  ·exact ⟨by rw [a.out trivial],zB.alloc zL _⟩
 ·have d1:((k:Int)==12)=false:=by simp;omega
  by_cases h2:k=13
  ·have a:Hid (True->EU k=#[.int .i64 0, .bool false, .int .i64 3, .int .i64 3]):=fun _=>by unfold EU;rw [zA h1,zC h2]
   have hd:((k:Int)==13)=true:=by simp;omega
   clear h1 h2;go_enter func169,ntmps169
   go_wp2_with fail
   refine zX (v:= .agg #[.int .i64 0, .bool false, .int .i64 3, .int .i64 3]) ?_ rfl ?_
   ·exact xH results169 _ _ _ 127 _ _ _ rfl (zJ _ _) underlying127 rfl (FW _ rfl)
   ·exact ⟨by rw [a.out trivial],zB.alloc zL _⟩
  ·have d2:((k:Int)==13)=false:=by simp;omega
   by_cases h3:k=14
   ·have a:Hid (True->EU k=#[.int .i64 0, .bool false, .int .i64 11, .int .i64 6]):=fun _=>by unfold EU;rw [zA h1,zA h2,zC h3]
    have hd:((k:Int)==14)=true:=by simp;omega
    clear h1 h2 h3;go_enter func169,ntmps169
    go_wp2_with fail
    refine zX (v:= .agg #[.int .i64 0, .bool false, .int .i64 11, .int .i64 6]) ?_ rfl ?_
    ·exact xH results169 _ _ _ 127 _ _ _ rfl (zJ _ _) underlying127 rfl (FW _ rfl)
    ·exact ⟨by rw [a.out trivial],zB.alloc zL _⟩
   ·have a:Hid (True->EU k=#[.int .i64 k, .bool false, .int .i64 1, .int .i64 0]):=fun _=>by unfold EU;rw [zA h1,zA h2,zA h3]
    have c:((k:Int)==14)=false:=by simp;omega
    go_enter func169,ntmps169
    go_wp2_with fail
    refine zX (v:= .agg #[.int .i64 k, .bool false, .int .i64 1, .int .i64 0]) ?_ rfl ?_
    ·exact xH results169 _ _ _ 127 _ _ _ rfl (zJ _ _) underlying127 rfl (FW _ rfl)
    ·exact ⟨by rw [a.out trivial],zB.alloc zL _⟩
def Zb(Cq fst bg:Nat->Int)(lg m n:Nat)(i:Nat):Value:=
 if i<12 then .int .i64 (Cq i) else if i<24 then .int .i64 (fst (i - 12)) else if i<36 then .int .i64 (bg (i - 24)) else if i=36 then .int .i64 lg else .slice (some ⟨m,0,none⟩) n n
theorem IX(Cq a bg:Nat->Int)(b m n i:Nat)(h:i<12):Zb Cq a bg b m n i= .int .i64 (Cq i):=zC h
theorem IY(Cq a bg:Nat->Int)(b m n i:Nat)(h:i<12):Zb Cq a bg b m n (12+i)= .int .i64 (a i):=by
 unfold Zb;rw [zA zO,zC zO,show 12+i - 12=i by omega]
theorem TM(Cq a bg:Nat->Int)(b m n i:Nat)(h:i<12):Zb Cq a bg b m n (24+i)= .int .i64 (bg i):=by
 unfold Zb;rw [zA zO,zA zO,zC zO,show 24+i - 24=i by omega]
theorem Bf{P:Program}{fn:Func}{p u:Tmp}{ty:TypeId}(h:fn.results=#[.cell p ty, .tmp u])(a:Array Value)(w:World)(g:Nat)(t:TypeId)(cs:Array Value)(fr:Nat×Nat)(d:TypeDesc)
  (hp:a.getD p undef= .pointer (some ⟨g,0,none⟩)) (b:w.heap[g]?=some (.cells cs t fr))
  (c:P.underlying ty=some d) (hd:(match d with | .struct _ | .array _ _=>true | _=>false)=true) (hi:(P.info? ty).map (·.size)=some cs.size) :
  (results fn a).run P w= .ok (.tuple #[.agg cs,a.getD u undef]) w:=by
 rw [results_cell_tmp h,hp];simp [asAddr,AC w g t ty cs fr d b c hd hi]
structure It(w:World)(ty:TypeId)(k:Nat)(p m n:Nat)(Cq fst bg:Nat->Int)(lg:Nat)(mg:Nat->List Value):Prop where
 row:w.rowIs p ty 38 (Zb Cq fst bg lg m n)
 at_:∀ j,j<n->(mg j).length=k/\w.rangeAt m (j*k) (mg j)
 pm:p<w.heap.size/\m<w.heap.size
theorem Th{Cq fst bg:Nat->Int}{mg:Nat->List Value}(h:It w 271 2 p m n Cq fst bg lg mg) :
  Calls prog 176 #[.pointer (some ⟨p,0,none⟩)] w fun x a=>x= .returned (.int .i64 lg)/\w=a:=by
 have c2:w.cell? ⟨p,36,none⟩=some (.int .i64 lg):=h.row.cell (i:=36) zO;clear h;go_enter func176,ntmps176
 go_wp2
 go_ret
 exact ⟨rfl,rfl⟩
theorem Ps{Cq fst bg:Nat->Int}{mg:Nat->List Value}(c L:Nat)(h:It w 271 2 p m n Cq fst bg lg mg)
  (hc:c<=1000000) (d:L<12) (g:0<=fst L/\fst L<=1000000) (hm:¬ (fst L<=c/\(c:Int) - fst L<Cq L)) :
  Calls prog 177 #[.pointer (some ⟨p,0,none⟩), .int .i64 c, .int .i64 L] w fun x l=>x= .returned (.tuple #[.agg #[.int .i64 0, .int .i64 0], .bool false])/\Below w.heap.size w l:=by
 have c1:w.cell? ⟨p,L,none⟩=some (.int .i64 (Cq L)):=by rw [h.row.cell (i:=L) zO,IX _ _ _ _ _ _ _ d]
 have c2:w.cell? ⟨p,12+L,none⟩=some (.int .i64 (fst L)):=by rw [h.row.cell (i:=12+L) zO,IY _ _ _ _ _ _ _ d]
 have hp:=h.pm.1;clear h;obtain ⟨F,hF⟩:=qe (fst L);obtain ⟨N,e⟩:=qe (Cq L);rw [<- hF] at c2 g hm;rw [<- e] at c1 hm;clear hF e;have f:(L:Int)<12:=zO;have a:Hid (Below w.heap.size w ((w.alloc (.cells #[.int .i64 0, .int .i64 0] 125)).alloc (.cells #[.int .i64 0, .int .i64 0] 125))):=(zB.alloc zL _).alloc zS _;have b:Hid (((w.alloc (.cells #[.int .i64 0, .int .i64 0] 125)).alloc (.cells #[.int .i64 0, .int .i64 0] 125)).heap[w.heap.size]?=some (.cells #[.int .i64 0, .int .i64 0] 125)):=(xQ _ _ zS).trans (zJ _ _);by_cases k:(c:Int) - F<0
 ·go_enter func177,ntmps177
  go_wp2_with fail
  refine zX (Bf results177 _ _ _ _ _ _ _ rfl b.out underlying125 rfl (FX _ rfl)) rfl ?_;exact ⟨rfl,a.out⟩
 ·have hd:decide ((c:Int) - F<0)=false:=by simp;omega
  have j:N<=(c:Int) - F:=zO;go_enter func177,ntmps177
  go_wp2_with fail
  refine zX (Bf results177 _ _ _ _ _ _ _ rfl b.out underlying125 rfl (FX _ rfl)) rfl ?_;exact ⟨rfl,a.out⟩
theorem RZ{Cq fst bg:Nat->Int}{mg:Nat->List Value}(c L:Nat)(h:It w 271 2 p m n Cq fst bg lg mg)
  (hc:c<=1000000) (a:L<12) (r:0<=fst L/\fst L<=1000000) (hm:fst L<=c/\(c:Int) - fst L<Cq L) (j:Nat) (f:bg L+((c:Int) - fst L)=j) (g:j<n) (u:n<=1000000) (v1 v2:Int) (hv:mg j=[.int .i64 v1, .int .i64 v2]) :
  Calls prog 177 #[.pointer (some ⟨p,0,none⟩), .int .i64 c, .int .i64 L] w fun x v=>x= .returned (.tuple #[.agg #[.int .i64 v1, .int .i64 v2], .bool true])/\Below w.heap.size w v:=by
 have c1:w.cell? ⟨p,L,none⟩=some (.int .i64 (Cq L)):=by rw [h.row.cell (i:=L) zO,IX _ _ _ _ _ _ _ a]
 have c2:w.cell? ⟨p,12+L,none⟩=some (.int .i64 (fst L)):=by rw [h.row.cell (i:=12+L) zO,IY _ _ _ _ _ _ _ a]
 have c3:w.cell? ⟨p,24+L,none⟩=some (.int .i64 (bg L)):=by rw [h.row.cell (i:=24+L) zO,TM _ _ _ _ _ _ _ a]
 have y:w.cell? ⟨p,37,none⟩=some (.slice (some ⟨m,0,none⟩) n n):=h.row.cell (i:=37) zO;have z:w.cell? ⟨m,j*2,none⟩=some (.int .i64 v1):=(h.at_ j g).2 0 _ (by rw [hv];rfl);have c6:=(h.at_ j g).2 1 _ (by rw [hv];rfl);have hp:=h.pm.1;have t:=h.pm.2;clear h hv;obtain ⟨F,hF⟩:=qe (fst L);obtain ⟨N,d⟩:=qe (Cq L);obtain ⟨b,e⟩:=qe (bg L);rw [<- hF] at c2 r hm f;rw [<- d] at c1 hm;rw [<- e] at c3 f;clear hF d e;have o:(L:Int)<12:=zO;have hd:decide ((c:Int) - F<0)=false:=by simp;omega
 have q:decide (N<=(c:Int) - F)=false:=by simp;omega
 have k:Hid (Below w.heap.size w (w.alloc (.cells #[.int .i64 v1, .int .i64 v2] 125)).drew):=(zB.alloc zL _).drew;have l:Hid ((w.alloc (.cells #[.int .i64 v1, .int .i64 v2] 125)).drew.heap[w.heap.size]?=some (.cells #[.int .i64 v1, .int .i64 v2] 125)):=zJ _ _;have s:(j:Int)<n:=zO;go_enter func177,ntmps177
 go_wp2_with fail
 go_region
 go_wp2_with fail
 refine zX (Bf results177 _ _ _ _ _ _ _ rfl l.out underlying125 rfl (FX _ rfl)) rfl ?_;exact ⟨rfl,k.out⟩
theorem OM{Cq fst bg:Nat->Int}{mg:Nat->List Value}(h:It w 268 4 p m n Cq fst bg lg mg) :
  Calls prog 174 #[.pointer (some ⟨p,0,none⟩)] w fun x a=>x= .returned (.int .i64 lg)/\w=a:=by
 have c2:w.cell? ⟨p,36,none⟩=some (.int .i64 lg):=h.row.cell (i:=36) zO;clear h;go_enter func174,ntmps174
 go_wp2
 go_ret
 exact ⟨rfl,rfl⟩
theorem Lk{Cq fst bg:Nat->Int}{mg:Nat->List Value}(c L:Nat)(h:It w 268 4 p m n Cq fst bg lg mg)
  (hc:c<=1000000) (d:L<12) (g:0<=fst L/\fst L<=1000000) (hm:¬ (fst L<=c/\(c:Int) - fst L<Cq L)) :
  Calls prog 175 #[.pointer (some ⟨p,0,none⟩), .int .i64 c, .int .i64 L] w fun x l=>x= .returned (.tuple #[.agg #[.int .i64 0, .int .u8 0, .int .i64 0, .int .i64 0], .bool false])/\Below w.heap.size w l:=by
 have c1:w.cell? ⟨p,L,none⟩=some (.int .i64 (Cq L)):=by rw [h.row.cell (i:=L) zO,IX _ _ _ _ _ _ _ d]
 have c2:w.cell? ⟨p,12+L,none⟩=some (.int .i64 (fst L)):=by rw [h.row.cell (i:=12+L) zO,IY _ _ _ _ _ _ _ d]
 have hp:=h.pm.1;clear h;obtain ⟨F,hF⟩:=qe (fst L);obtain ⟨N,e⟩:=qe (Cq L);rw [<- hF] at c2 g hm;rw [<- e] at c1 hm;clear hF e;have f:(L:Int)<12:=zO;have a:Hid (Below w.heap.size w ((w.alloc (.cells #[.int .i64 0, .int .u8 0, .int .i64 0, .int .i64 0] 218)).alloc (.cells #[.int .i64 0, .int .u8 0, .int .i64 0, .int .i64 0] 218))):=(zB.alloc zL _).alloc zS _;have b:Hid (((w.alloc (.cells #[.int .i64 0, .int .u8 0, .int .i64 0, .int .i64 0] 218)).alloc (.cells #[.int .i64 0, .int .u8 0, .int .i64 0, .int .i64 0] 218)).heap[w.heap.size]?=some (.cells #[.int .i64 0, .int .u8 0, .int .i64 0, .int .i64 0] 218)):=(xQ _ _ zS).trans (zJ _ _);by_cases k:(c:Int) - F<0
 ·go_enter func175,ntmps175
  go_wp2_with fail
  refine zX (Bf results175 _ _ _ _ _ _ _ rfl b.out underlying218 rfl (Ga _ rfl)) rfl ?_;exact ⟨rfl,a.out⟩
 ·have hd:decide ((c:Int) - F<0)=false:=by simp;omega
  have j:N<=(c:Int) - F:=zO;go_enter func175,ntmps175
  go_wp2_with fail
  refine zX (Bf results175 _ _ _ _ _ _ _ rfl b.out underlying218 rfl (Ga _ rfl)) rfl ?_;exact ⟨rfl,a.out⟩
theorem My{Cq fst bg:Nat->Int}{mg:Nat->List Value}(c L:Nat)(h:It w 268 4 p m n Cq fst bg lg mg)
  (hc:c<=1000000) (d:L<12) (r:0<=fst L/\fst L<=1000000) (hm:fst L<=c/\(c:Int) - fst L<Cq L) (j:Nat) (g:bg L+((c:Int) - fst L)=j) (a:j<n) (u:n<=1000000) (v1 v2 v3 v4:Int) (hv:mg j=[.int .i64 v1, .int .u8 v2, .int .i64 v3, .int .i64 v4]) :
  Calls prog 175 #[.pointer (some ⟨p,0,none⟩), .int .i64 c, .int .i64 L] w fun x v=>x= .returned (.tuple #[.agg #[.int .i64 v1, .int .u8 v2, .int .i64 v3, .int .i64 v4], .bool true])/\Below w.heap.size w v:=by
 have c1:w.cell? ⟨p,L,none⟩=some (.int .i64 (Cq L)):=by rw [h.row.cell (i:=L) zO,IX _ _ _ _ _ _ _ d]
 have c2:w.cell? ⟨p,12+L,none⟩=some (.int .i64 (fst L)):=by rw [h.row.cell (i:=12+L) zO,IY _ _ _ _ _ _ _ d]
 have c3:w.cell? ⟨p,24+L,none⟩=some (.int .i64 (bg L)):=by rw [h.row.cell (i:=24+L) zO,TM _ _ _ _ _ _ _ d]
 have y:w.cell? ⟨p,37,none⟩=some (.slice (some ⟨m,0,none⟩) n n):=h.row.cell (i:=37) zO;have z:w.cell? ⟨m,j*4,none⟩=some (.int .i64 v1):=(h.at_ j a).2 0 _ (by rw [hv];rfl);have c6:=(h.at_ j a).2 1 _ (by rw [hv];rfl);have A:=(h.at_ j a).2 2 _ (by rw [hv];rfl);have B:=(h.at_ j a).2 3 _ (by rw [hv];rfl);have hp:=h.pm.1;have t:=h.pm.2;clear h hv;obtain ⟨F,hF⟩:=qe (fst L);obtain ⟨N,e⟩:=qe (Cq L);obtain ⟨b,f⟩:=qe (bg L);rw [<- hF] at c2 r hm g;rw [<- e] at c1 hm;rw [<- f] at c3 g;clear hF e f;have o:(L:Int)<12:=zO;have hd:decide ((c:Int) - F<0)=false:=by simp;omega
 have q:decide (N<=(c:Int) - F)=false:=by simp;omega
 have k:Hid (Below w.heap.size w (w.alloc (.cells #[.int .i64 v1, .int .u8 v2, .int .i64 v3, .int .i64 v4] 218)).drew):=(zB.alloc zL _).drew;have l:Hid ((w.alloc (.cells #[.int .i64 v1, .int .u8 v2, .int .i64 v3, .int .i64 v4] 218)).drew.heap[w.heap.size]?=some (.cells #[.int .i64 v1, .int .u8 v2, .int .i64 v3, .int .i64 v4] 218)):=zJ _ _;have s:(j:Int)<n:=zO;go_enter func175,ntmps175
 go_wp2_with fail
 go_region
 go_wp2_with fail
 refine zX (Bf results175 _ _ _ _ _ _ _ rfl l.out underlying218 rfl (Ga _ rfl)) rfl ?_;exact ⟨rfl,k.out⟩
theorem QH{Cq fst bg:Nat->Int}{mg:Nat->List Value}(h:It w 265 4 p m n Cq fst bg lg mg) :
  Calls prog 170 #[.pointer (some ⟨p,0,none⟩)] w fun x a=>x= .returned (.int .i64 lg)/\w=a:=by
 have c2:w.cell? ⟨p,36,none⟩=some (.int .i64 lg):=h.row.cell (i:=36) zO;clear h;go_enter func170,ntmps170
 go_wp2
 go_ret
 exact ⟨rfl,rfl⟩
theorem Mx{Cq fst bg:Nat->Int}{mg:Nat->List Value}(c L:Nat)(h:It w 265 4 p m n Cq fst bg lg mg)
  (hc:c<=1000000) (d:L<12) (g:0<=fst L/\fst L<=1000000) (hm:¬ (fst L<=c/\(c:Int) - fst L<Cq L)) :
  Calls prog 172 #[.pointer (some ⟨p,0,none⟩), .int .i64 c, .int .i64 L] w fun x l=>x= .returned (.tuple #[.agg #[.int .i64 0, .bool false, .int .i64 0, .int .i64 0], .bool false])/\Below w.heap.size w l:=by
 have c1:w.cell? ⟨p,L,none⟩=some (.int .i64 (Cq L)):=by rw [h.row.cell (i:=L) zO,IX _ _ _ _ _ _ _ d]
 have c2:w.cell? ⟨p,12+L,none⟩=some (.int .i64 (fst L)):=by rw [h.row.cell (i:=12+L) zO,IY _ _ _ _ _ _ _ d]
 have hp:=h.pm.1;clear h;obtain ⟨F,hF⟩:=qe (fst L);obtain ⟨N,e⟩:=qe (Cq L);rw [<- hF] at c2 g hm;rw [<- e] at c1 hm;clear hF e;have f:(L:Int)<12:=zO;have a:Hid (Below w.heap.size w ((w.alloc (.cells #[.int .i64 0, .bool false, .int .i64 0, .int .i64 0] 127)).alloc (.cells #[.int .i64 0, .bool false, .int .i64 0, .int .i64 0] 127))):=(zB.alloc zL _).alloc zS _;have b:Hid (((w.alloc (.cells #[.int .i64 0, .bool false, .int .i64 0, .int .i64 0] 127)).alloc (.cells #[.int .i64 0, .bool false, .int .i64 0, .int .i64 0] 127)).heap[w.heap.size]?=some (.cells #[.int .i64 0, .bool false, .int .i64 0, .int .i64 0] 127)):=(xQ _ _ zS).trans (zJ _ _);by_cases k:(c:Int) - F<0
 ·go_enter func172,ntmps172
  go_wp2_with fail
  refine zX (Bf results172 _ _ _ _ _ _ _ rfl b.out underlying127 rfl (FW _ rfl)) rfl ?_;exact ⟨rfl,a.out⟩
 ·have hd:decide ((c:Int) - F<0)=false:=by simp;omega
  have j:N<=(c:Int) - F:=zO;go_enter func172,ntmps172
  go_wp2_with fail
  refine zX (Bf results172 _ _ _ _ _ _ _ rfl b.out underlying127 rfl (FW _ rfl)) rfl ?_;exact ⟨rfl,a.out⟩
theorem OK{Cq fst bg:Nat->Int}{mg:Nat->List Value}(c L:Nat)(h:It w 265 4 p m n Cq fst bg lg mg)
  (hc:c<=1000000) (d:L<12) (r:0<=fst L/\fst L<=1000000) (hm:fst L<=c/\(c:Int) - fst L<Cq L) (j:Nat) (g:bg L+((c:Int) - fst L)=j) (a:j<n) (u:n<=1000000) (v1:Int) (v2:Bool) (v3 v4:Int) (hv:mg j=[.int .i64 v1, .bool v2, .int .i64 v3, .int .i64 v4]) :
  Calls prog 172 #[.pointer (some ⟨p,0,none⟩), .int .i64 c, .int .i64 L] w fun x v=>x= .returned (.tuple #[.agg #[.int .i64 v1, .bool v2, .int .i64 v3, .int .i64 v4], .bool true])/\Below w.heap.size w v:=by
 have c1:w.cell? ⟨p,L,none⟩=some (.int .i64 (Cq L)):=by rw [h.row.cell (i:=L) zO,IX _ _ _ _ _ _ _ d]
 have c2:w.cell? ⟨p,12+L,none⟩=some (.int .i64 (fst L)):=by rw [h.row.cell (i:=12+L) zO,IY _ _ _ _ _ _ _ d]
 have c3:w.cell? ⟨p,24+L,none⟩=some (.int .i64 (bg L)):=by rw [h.row.cell (i:=24+L) zO,TM _ _ _ _ _ _ _ d]
 have y:w.cell? ⟨p,37,none⟩=some (.slice (some ⟨m,0,none⟩) n n):=h.row.cell (i:=37) zO;have z:w.cell? ⟨m,j*4,none⟩=some (.int .i64 v1):=(h.at_ j a).2 0 _ (by rw [hv];rfl);have c6:=(h.at_ j a).2 1 _ (by rw [hv];rfl);have A:=(h.at_ j a).2 2 _ (by rw [hv];rfl);have B:=(h.at_ j a).2 3 _ (by rw [hv];rfl);have hp:=h.pm.1;have t:=h.pm.2;clear h hv;obtain ⟨F,hF⟩:=qe (fst L);obtain ⟨N,e⟩:=qe (Cq L);obtain ⟨b,f⟩:=qe (bg L);rw [<- hF] at c2 r hm g;rw [<- e] at c1 hm;rw [<- f] at c3 g;clear hF e f;have o:(L:Int)<12:=zO;have hd:decide ((c:Int) - F<0)=false:=by simp;omega
 have q:decide (N<=(c:Int) - F)=false:=by simp;omega
 have k:Hid (Below w.heap.size w (w.alloc (.cells #[.int .i64 v1, .bool v2, .int .i64 v3, .int .i64 v4] 127)).drew):=(zB.alloc zL _).drew;have l:Hid ((w.alloc (.cells #[.int .i64 v1, .bool v2, .int .i64 v3, .int .i64 v4] 127)).drew.heap[w.heap.size]?=some (.cells #[.int .i64 v1, .bool v2, .int .i64 v3, .int .i64 v4] 127)):=zJ _ _;have s:(j:Int)<n:=zO;go_enter func172,ntmps172
 go_wp2_with fail
 go_region
 go_wp2_with fail
 refine zX (Bf results172 _ _ _ _ _ _ _ rfl l.out underlying127 rfl (FW _ rfl)) rfl ?_;exact ⟨rfl,k.out⟩
def Hu(f g:Nat->Int):Array Value:=#[.int .i64 (f 0), .int .i64 (f 1), .int .i64 (f 2), .int .i64 (f 3), .int .i64 (f 4), .int .i64 (f 5), .int .i64 (f 6), .int .i64 (f 7), .int .i64 (f 8), .int .i64 (f 9), .int .i64 (f 10), .int .i64 (f 11),
 .int .i64 (g 0), .int .i64 (g 1), .int .i64 (g 2), .int .i64 (g 3), .int .i64 (g 4), .int .i64 (g 5), .int .i64 (g 6), .int .i64 (g 7), .int .i64 (g 8), .int .i64 (g 9), .int .i64 (g 10), .int .i64 (g 11),
 .int .i64 0, .int .i64 0, .int .i64 0, .int .i64 0, .int .i64 0, .int .i64 0, .int .i64 0, .int .i64 0, .int .i64 0, .int .i64 0, .int .i64 0, .int .i64 0, .int .i64 0, .slice none 0 0]
def LS(Cq fst bg:Nat->Int)(lg:Nat)(v:Value)(i:Nat):Value:=
 if i<12 then .int .i64 (Cq i) else if i<24 then .int .i64 (fst (i - 12)) else if i<36 then .int .i64 (bg (i - 24)) else if i=36 then .int .i64 lg else v
def bsum(l:List Int):Nat->Int
 | 0=>0
 | k+1=>bsum l k+cn l k
def FT(l:List Int)(k i:Nat):Int:=if i<k then bsum l i else 0
def EB(l:List Int):Nat->Nat
 | 0=>0
 | k+1=>if 0<cn l k then k else EB l k
theorem Qt(l:List Int)(w:World)(T:TypeId):(w.alloc (.cells (Hu (cn l) (fc (cn l))) T)).rowIs w.heap.size T 38 (LS (cn l) (fc (cn l)) (FT l 0) (EB l 0) (.slice none 0 0)):=by
 refine yL w (Hu (cn l) (fc (cn l))) T _ ?_;intro i hi;have a:i<38:=hi;have:i=0\/i=1\/i=2\/i=3\/i=4\/i=5\/i=6\/i=7\/i=8\/i=9\/i=10\/i=11\/i=12\/i=13\/i=14\/i=15\/i=16\/i=17\/i=18\/i=19\/i=20\/i=21\/i=22\/i=23\/i=24\/i=25\/i=26\/i=27\/i=28\/i=29\/i=30\/i=31\/i=32\/i=33\/i=34\/i=35\/i=36\/i=37:=zO;rcases this with rfl | rfl | rfl | rfl | rfl | rfl | rfl | rfl | rfl | rfl | rfl | rfl | rfl | rfl | rfl | rfl | rfl | rfl | rfl | rfl | rfl | rfl | rfl | rfl | rfl | rfl | rfl | rfl | rfl | rfl | rfl | rfl | rfl | rfl | rfl | rfl | rfl | rfl <;> rfl
theorem GY(hl:l.length<=269)(k:Nat)(hk:k<=12):0<=bsum l k/\bsum l k<=1000000*k:=by
 induction k with
 | zero=>simp [bsum]
 | succ k ih=>
  have h1:=FV hl k zO;have:=ih zO;simp only [bsum];omega
theorem Wi{Cq fst bg:Nat->Int}(k:Nat)(x:Int)(hk:k<12)(h:w.rowIs p T 38 (LS Cq fst bg lg v)) :
  (w.setCell ⟨p,24+k,none⟩ (.int .i64 x)).rowIs p T 38 (LS Cq fst (fun i=>if i=k then x else bg i) lg v):=by
 refine (h.set (24+k) _).congr fun i _=>?_
 unfold LS;by_cases e:i=24+k
 ·subst e;rw [zC rfl,zA zO,zA zO,zC zO,show 24+k - 24=k by omega];simp
 ·rw [zA e];by_cases a:i<12
  ·rw [zC a,zC a]
  ·rw [zA a,zA a];by_cases b:i<24
   ·rw [zC b,zC b]
   ·rw [zA b,zA b];by_cases c:i<36
    ·rw [zC c,zC c];have:¬ (i - 24=k):=zO;simp [this]
    ·rw [zA c,zA c]
theorem Wj{Cq fst bg:Nat->Int}(x:Nat)(h:w.rowIs p T 38 (LS Cq fst bg lg v)) :
  (w.setCell ⟨p,36,none⟩ (.int .i64 x)).rowIs p T 38 (LS Cq fst bg x v):=by
 refine (h.set 36 _).congr fun i _=>?_
 unfold LS;by_cases e:i=36
 ·subst e;rfl
 ·simp [e]
theorem Rp{Cq fst bg:Nat->Int}(x:Value)(h:w.rowIs p T 38 (LS Cq fst bg lg v)) :
  (w.setCell ⟨p,37,none⟩ x).rowIs p T 38 (LS Cq fst bg lg x):=by
 refine (h.set 37 _).congr fun i hi=>?_
 unfold LS;by_cases e:i=37
 ·subst e;rfl
 ·rw [zA e];by_cases a:i=36
  ·subst a;rfl
  ·have:i<36:=zO;simp [this]
theorem Mo(l:List Int)(k:Nat):(fun i=>if i=k then bsum l k else FT l k i)=FT l (k+1):=by
 funext i
 unfold FT;by_cases e:i=k
 ·subst e;rw [zC rfl,zC zO]
 ·rw [zA e];by_cases a:i<k
  ·rw [zC a,zC zO]
  ·rw [zA a,zA zO]
theorem aM:(prog.info? 125).map (fun i=>(i.zero,i.size,i.bytes))=some (some (.agg #[.int .i64 0, .int .i64 0]),2,16):=zK
theorem aU(n:Nat)(c:n<=12000000)(w:World):(Instr.makeSlice 269 (.int .i64 (n:Int)) (.int .i64 (n:Int))).run prog w= .ok (.slice (some ⟨w.heap.size,0,none⟩) n n) (w.alloc (.cells (madeCells #[.int .i64 0, .int .i64 0] (n*2)) 125)):=by
 obtain ⟨i,hi,a⟩:=kW.1 aM;simp only [vF] at a;have b:=run_make (P:=prog) w 269 125 i _ underlying269 hi a.1 .i64 .i64 n n zO (kT _) (by rw [a.2.2];omega) zO;simp only [jW,a.2.1] at b;exact b
theorem UO{Cq fst:Nat->Int}(h:w.rowIs p T 38 (LS Cq fst (FT l 12) lg v)):w.rangeAt p 24 (arr (bsum l)).toList:=by
 intro j x hx;have a:j<12:=by have:=(vH.1 hx).1;simpa [arr] using this
 rw [h.cell (i:=24+j) zO];have e:(arr (bsum l))[j]?=some x:=by simpa using hx
 rw [Hz _ _ a] at e;rw [<- Option.some.inj e];unfold LS FT;rw [zA zO,zA zO,zC zO,show 24+j - 24=j by omega,zC a]
theorem Ir(f g:Nat->Int)(w:World):(Instr.build 271 #[(0, .agg (arr f)),(1, .agg (arr g))]).run prog w= .ok (.agg (Hu f g)) w:=zK
theorem Me(f g:Nat->Int)(w:World):(Instr.box 271 (.agg (Hu f g))).run prog w= .ok (.pointer (some ⟨w.heap.size,0,none⟩)) (w.alloc (.cells (Hu f g) 271)):=zK
theorem MW{g:Nat}(h:w.heap[g]?=some (.cells (arr (cn l)) 199)):w.cell? ⟨g,0,none⟩=some (.int .i64 (cn l 0))/\w.cell? ⟨g,1,none⟩=some (.int .i64 (cn l 1))/\w.cell? ⟨g,2,none⟩=some (.int .i64 (cn l 2))/\w.cell? ⟨g,3,none⟩=some (.int .i64 (cn l 3))/\w.cell? ⟨g,4,none⟩=some (.int .i64 (cn l 4))/\w.cell? ⟨g,5,none⟩=some (.int .i64 (cn l 5))/\w.cell? ⟨g,6,none⟩=some (.int .i64 (cn l 6))/\w.cell? ⟨g,7,none⟩=some (.int .i64 (cn l 7))/\w.cell? ⟨g,8,none⟩=some (.int .i64 (cn l 8))/\w.cell? ⟨g,9,none⟩=some (.int .i64 (cn l 9))/\w.cell? ⟨g,10,none⟩=some (.int .i64 (cn l 10))/\w.cell? ⟨g,11,none⟩=some (.int .i64 (cn l 11)):=Lf h
def pos(l:List Int)(i:Nat):Nat:=(bsum l (l.getD i 0).toNat+cn (l.take i) (l.getD i 0).toNat).toNat
theorem Ww(l:List Int)(i j:Nat):cn (l.take i) j<=cn l j:=by
 unfold cn;have:=((List.take_sublist i l).filter (fun x=>decide (0<x) && x==(j:Int))).length_le;omega
theorem Mp(l:List Int)(a d:Nat):bsum l a<=bsum l (a+d):=by
 induction d with
 | zero=>simp
 | succ d ih=>
  have:bsum l (a+(d+1))=bsum l (a+d)+cn l (a+d):=rfl;have:=EK l (a+d);omega
theorem Iw(a:i<k)(hi:i<l.length)(hx:l[i]=(n:Int))(b:0<n):cn (l.take i) n+1<=cn (l.take k) n:=by
 have h1:=DT (j:=n) hi;have h2:=Ww (l.take k) (i+1) n;rw [List.take_take,Nat.min_eq_left zO,h1,hx,zC ⟨zO,rfl⟩] at h2;omega
theorem pos_eq(hi:i<l.length)(hx:l[i]=(n:Int))(hl:l.length<=269)(a:n<12):(pos l i:Int)=bsum l n+cn (l.take i) n:=by
 have e:(l.getD i 0).toNat=n:=by simp [hi,hx]
 have h1:=(GY hl n zO).1;have h2:=EK (l.take i) n;unfold pos;rw [e];omega
theorem Tq(hi:i<l.length)(hx:l[i]=(n:Int))(hl:l.length<=269)(h0:0<n)(a:n<12):(pos l i:Int)<bsum l 12:=by
 rw [pos_eq hi hx hl a];have h1:=Iw (k:=l.length) hi hi hx h0;rw [vG] at h1;have h2:bsum l (n+1)=bsum l n+cn l n:=rfl;have h3:=Mp l (n+1) (12 - (n+1));rw [show n+1+(12 - (n+1))=12 by omega] at h3;omega
theorem Xn(a:i<k)(hk:k<l.length)(hi:i<l.length)(hx:l[i]=(n:Int))(b:l[k]=(m:Int))(hl:l.length<=269)(h0:0<n)(h:n<12)(g0:0<m)(g:m<12):pos l i≠pos l k:=by
 intro e;have f:=pos_eq hi hx hl h;have p:=pos_eq hk b hl g;rw [e] at f;have d:=Iw (k:=l.length) hi hi hx h0;have a2:=Iw (k:=l.length) hk hk b g0;rw [vG] at d a2;have j:=EK (l.take i) n;have o:=EK (l.take k) m;have h2:bsum l (n+1)=bsum l n+cn l n:=rfl;have h3:bsum l (m+1)=bsum l m+cn l m:=rfl;by_cases c:n<m
 ·have:=Mp l (n+1) (m - (n+1));rw [show n+1+(m - (n+1))=m by omega] at this;omega
 ·by_cases c2:m<n
  ·have:=Mp l (m+1) (n - (m+1));rw [show m+1+(n - (m+1))=n by omega] at this;omega
  ·obtain rfl:n=m:=zO;have:=Iw a hi hx h0;omega
def Jm(wr:World)(p n:Nat)(l:List Int):World:=
 (((wr.setCell ⟨p,37,none⟩ (.slice (some ⟨wr.heap.size,0,none⟩) n n)).alloc (.cells (madeCells #[.int .i64 0, .int .i64 0] (n*2)) 125)).alloc (.cells (arr (fun _=>0)) 197)).setRow (wr.heap.size+1) (arr (bsum l))
theorem ma(w:World)(n:Nat)(t:TypeId):(w.alloc (.cells (madeCells #[.int .i64 0, .int .i64 0] (n*2)) t)).rowIs w.heap.size t (n*2) (fun _=> .int .i64 0):=by
 have:=yL w (madeCells #[.int .i64 0, .int .i64 0] (n*2)) t (fun _=> .int .i64 0) (fun i hi=>by
  have h2:i<n*2:=by simpa [vL] using hi
  have h3:i%2=0\/i%2=1:=zO;rcases h3 with h3 | h3 <;> simp [madeCells,h2,h3])
 rwa [vL] at this
theorem IK(wr:World)(p n:Nat):((((wr.setCell ⟨p,37,none⟩ (.slice (some ⟨wr.heap.size,0,none⟩) n n)).alloc (.cells (madeCells #[.int .i64 0, .int .i64 0] (n*2)) 125)).alloc (.cells (arr (fun _=>0)) 197)).heap[wr.heap.size+1]?)=some (.cells (arr (fun _=>0)) 197):=by
 have:=heap_alloc2_new (wr.setCell ⟨p,37,none⟩ (.slice (some ⟨wr.heap.size,0,none⟩) n n)) (.cells (madeCells #[.int .i64 0, .int .i64 0] (n*2)) 125) (.cells (arr (fun _=>0)) 197);simpa using this
theorem Ho{Cq fst:Nat->Int}(h:wr.rowIs p 271 38 (LS Cq fst (FT l 12) lg (.slice none 0 0)))(a:Below w.heap.size w wr)(hp:w.heap.size<=p) :
  (Jm wr p n l).rowIs p 271 38 (LS Cq fst (FT l 12) lg (.slice (some ⟨wr.heap.size,0,none⟩) n n))/\(Jm wr p n l).rowIs wr.heap.size 125 (n*2) (fun _=> .int .i64 0)/\
  (Jm wr p n l).rowIs (wr.heap.size+1) 197 12 (fun j=> .int .i64 (bsum l j))/\Below w.heap.size w (Jm wr p n l):=by
 have hl:=h.lt;have b:(wr.setCell ⟨p,37,none⟩ (.slice (some ⟨wr.heap.size,0,none⟩) n n)).heap.size=wr.heap.size:=zS;have hs:=a.size;refine ⟨?_,?_,?_,?_⟩
 ·exact (((Rp _ h).alloc _).alloc _).of_block (xD _ _ _ _ zO)
 ·have:=(ma (wr.setCell ⟨p,37,none⟩ (.slice (some ⟨wr.heap.size,0,none⟩) n n)) n 125).alloc (.cells (arr (fun _=>0)) 197);rw [b] at this;exact this.of_block (xD _ _ _ _ zO)
 ·exact ⟨arr (bsum l),xK _ _ _ _ _ _ (IK wr p n),rfl,fun i hi=>Hz _ _ hi⟩
 ·exact xN (((a.setCell (p:=⟨p,37,none⟩) hp _).alloc (by rw [b];exact hs) _).alloc (by simp;omega) _) zO _
def Cx(l:List Int)(f:Nat->Value)(k:Nat):Prop:=∀ i,i<k->0<l.getD i 0->f (pos l i*2)= .int .i64 (Tr.Ar 1 i)/\f (pos l i*2+1)= .int .i64 (Tr.Ag i)
theorem Cx.skip{f:Nat->Value}(h:Cx l f k)(a:l.getD k 0=0):Cx l f (k+1):=fun i hi h0=>by
 by_cases e:i=k
 ·subst e;omega
 ·exact h i zO h0
theorem Cx.step{f:Nat->Value}(h:Cx l f k)(hl:l.length<=269)(o:Ae l=true)(hk:k<l.length)(hx:l[k]=(x:Int))(h0:0<x)(d:x<12) :
  Cx l (fun j=>if j=pos l k*2+1 then .int .i64 (Tr.Ag k) else if j=pos l k*2 then .int .i64 (Tr.Ar 1 k) else f j) (k+1):=fun i hi hp=>by
 by_cases e:i=k
 ·subst e;simp
 ·have b:i<k:=zO;have a:i<l.length:=zO;obtain ⟨y,n,c⟩:∃ y:Nat,l[i]=(y:Int)/\y<12:=by
   have:=(EV l).1 o l[i] (yD a);exact ⟨l[i].toNat,zO,zO⟩
  have p:l.getD i 0=(y:Int):=by simp [a,n]
  have ne:=Xn b hk a n hx hl zO c h0 d;have g:=h i b hp;refine ⟨?_,?_⟩
  ·show (if pos l i*2=pos l k*2+1 then _ else if pos l i*2=pos l k*2 then _ else f (pos l i*2))=_;rw [zA zO,zA zO];exact g.1
  ·show (if pos l i*2+1=pos l k*2+1 then _ else if pos l i*2+1=pos l k*2 then _ else f (pos l i*2+1))=_;rw [zA zO,zA zO];exact g.2
theorem Gz{j:Nat}{u:Value}{q:Addr}(h:q.block≠m):((w.setCell ⟨m,i,none⟩ v).setCell ⟨m,j,none⟩ u).cell? q=w.cell? q:=
 (vE _ _ _ _ (zY h)).trans (vE _ _ _ _ (zY h))
theorem Ig{w7:World}{P:Nat}{F:Nat->Value}{f:Nat->Value}{v1 v2:Value}(g:wr.rowIs p 271 38 F)(h:wr.rowIs m 125 (n*2) f)(i:wr.rowIs (m+1) 197 12 (fun j=> .int .i64 (bsum l j+cn (l.take k) j)))
  (o:Below w.heap.size w wr) (d:Below wr.heap.size wr w7) (hk:k<l.length) (hx:l[k]=(x:Int)) (h0:0<x) (_h12:x<12) (b:p≠m) (c:p≠m+1) (_hp:w.heap.size<=p) (hm:w.heap.size<=m) (q:bsum l x+cn (l.take k) x=(pos l k:Int)) (hP:P=pos l k) :
  (((w7.setCell ⟨m,P*2,none⟩ v1).setCell ⟨m,P*2+1,none⟩ v2).setCell ⟨m+1,x,none⟩ (.int .i64 (P+1))).rowIs p 271 38 F/\
  (((w7.setCell ⟨m,P*2,none⟩ v1).setCell ⟨m,P*2+1,none⟩ v2).setCell ⟨m+1,x,none⟩ (.int .i64 (P+1))).rowIs m 125 (n*2) (fun j=>if j=P*2+1 then v2 else if j=P*2 then v1 else f j)/\
  (((w7.setCell ⟨m,P*2,none⟩ v1).setCell ⟨m,P*2+1,none⟩ v2).setCell ⟨m+1,x,none⟩ (.int .i64 (P+1))).rowIs (m+1) 197 12 (fun j=> .int .i64 (bsum l j+cn (l.take (k+1)) j))/\
  Below w.heap.size w (((w7.setCell ⟨m,P*2,none⟩ v1).setCell ⟨m,P*2+1,none⟩ v2).setCell ⟨m+1,x,none⟩ (.int .i64 (P+1))):=by
 have e:(P:Int)+1=bsum l x+cn (l.take k) x+1:=zO;refine ⟨?_,?_,?_,?_⟩
 ·exact (((Dc g d g.lt).setOther (a:=⟨m,P*2,none⟩) b _).setOther (a:=⟨m,P*2+1,none⟩) b _).setOther (a:=⟨m+1,x,none⟩) c _
 ·exact (((Dc h d h.lt).set (P*2) _).set (P*2+1) _).setOther (a:=⟨m+1,x,none⟩) zS _
 ·rw [e];exact Ol hk hx h0 (((Dc i d i.lt).setOther (a:=⟨m,P*2,none⟩) zS _).setOther (a:=⟨m,P*2+1,none⟩) zS _)
 ·exact (((o.trans (d.mono o.size)).setCell (p:=⟨m,P*2,none⟩) hm _).setCell (p:=⟨m,P*2+1,none⟩) hm _).setCell (p:=⟨m+1,x,none⟩) (by show w.heap.size<=m+1;omega) _
theorem Ri(ad:Option Addr)(cap:Nat)(l:List Int)(w:World)(b0:l.length<=16)(hc:Ap w ad l)(hr:Ae l=true) :
  Calls prog 193 #[.slice ad l.length cap, .func (.func 194) #[] #[]] w fun e w'=>∃ (p m n:Nat) (f:Nat->Value),e= .returned (.pointer (some ⟨p,0,none⟩))/\bsum l 12=n/\
   It w' 271 2 p m n (cn l) (fc (cn l)) (FT l 12) (EB l 12) (fun j=>[f (j*2),f (j*2+1)])/\(∀ i,i<l.length->0<l.getD i 0->f (pos l i*2)= .int .i64 (Tr.Ar 1 i)/\f (pos l i*2+1)= .int .i64 (Tr.Ag i))/\w.heap.size<=p/\w.heap.size<=m/\Below w.heap.size w w':=by
 have hl:l.length<=269:=zO;have HC:=hid hc;have HB:=hid (FV hl);go_enter func193,ntmps193
 go_wp2_with fail
 refine (El ad cap l _ zO hc hr).mono ?_;rintro e w1 ⟨rfl,M⟩;have C:=hid M;clear M hc;go_wp2_with (first | (refine yS rfl 199 _ _ rfl _ _ rfl rfl 199 _ (zJ _ _) (GU _) rfl (FZ _) ?_;rw [vN]))
 have hW:(w1.alloc (.cells (arr (cn l)) 199)).heap[w1.heap.size]?=some (.cells (arr (cn l)) 199):=zJ _ _;have HW:Hid (Below w.heap.size w (w1.alloc (.cells (arr (cn l)) 199))):=C.out.alloc C.out.size _;have L:w1.heap.size<(w1.alloc (.cells (arr (cn l)) 199)).heap.size:=zS;generalize w1.alloc (.cells (arr (cn l)) 199)=W at *;have N:=Ir (cn l) (fc (cn l));have a5:=Me (cn l) (fc (cn l));unfold arr at N;generalize hg:w1.heap.size=g at *;clear hg;go_region_held3 (fun s=>s.cell? ⟨g,0,none⟩=some (.int .i64 (cn l 0))/\s.cell? ⟨g,1,none⟩=some (.int .i64 (cn l 1))/\s.cell? ⟨g,2,none⟩=some (.int .i64 (cn l 2))/\s.cell? ⟨g,3,none⟩=some (.int .i64 (cn l 3))/\s.cell? ⟨g,4,none⟩=some (.int .i64 (cn l 4))/\s.cell? ⟨g,5,none⟩=some (.int .i64 (cn l 5))/\s.cell? ⟨g,6,none⟩=some (.int .i64 (cn l 6))/\s.cell? ⟨g,7,none⟩=some (.int .i64 (cn l 7))/\s.cell? ⟨g,8,none⟩=some (.int .i64 (cn l 8))/\s.cell? ⟨g,9,none⟩=some (.int .i64 (cn l 9))/\s.cell? ⟨g,10,none⟩=some (.int .i64 (cn l 10))/\s.cell? ⟨g,11,none⟩=some (.int .i64 (cn l 11))) (first | exact MW (w:=W.drew) hW | exact MW B | exact MW ((xQ _ _ O).trans B))
  (first | (go_at_call 151;refine (GA (cn l) _ HB.out).mono ?_;rintro e G ⟨rfl,A⟩;have B:=(A.block _ L).trans hW;have O:=zM L A.size;unfold arr))
 have D:=hid (HW.out.drew.trans (A.mono HW.out.size));have a4:=hid B;clear A B hW N a5 HW C;have a8:(G.alloc (.cells (Hu (cn l) (fc (cn l))) 271)).rowIs G.heap.size 271 38 (LS (cn l) (fc (cn l)) (FT l 0) (EB l 0) (.slice none 0 0)):=Qt _ _ _;have J:(G.alloc (.cells (Hu (cn l) (fc (cn l))) 271)).heap[g]?=some (.cells (arr (cn l)) 199):=(xQ _ _ O).trans a4.out;have a3:Hid (Below w.heap.size w (G.alloc (.cells (Hu (cn l) (fc (cn l))) 271))):=D.out.alloc D.out.size _;have u:=D.out.size;have hi:=idx (cn l);unfold Hu at *;generalize G.alloc _=w4 at *;generalize G.heap.size=p at *;go_wp2_with (refine yT rfl 197 _ rfl _ rfl 199 (arr (cn l)) (0,0) _ J underlying197 rfl (FU _) ?_)
 go_loopw [7,22] (fun t i wr=>∃ k:Nat,k<=12/\i= .int .i64 k/\t= .int .i64 (bsum l k)/\wr.rowIs p 271 38 (LS (cn l) (fc (cn l)) (FT l k) (EB l k) (.slice none 0 0))/\Below w.heap.size w wr) (fun _ i _=>12 - (intOf i).toNat)
 case atStart=>exact ⟨0,zH _,rfl,rfl,a8,a3.out⟩
 case round=>
  obtain ⟨k,hk,rfl,rfl,a,r⟩:=hrel;by_cases d:k<12
  ·have b8:=hi k d;have ⟨b1,b2⟩:=GY hl k hk;have ⟨b3,b4⟩:=HB.out k d;have g1:=a.cell (i:=24+k) zO;have g2:=a.frozen (24+k);have g3:=a.cell (i:=36) zO;have g4:=a.frozen 36;have R:=Wi k (bsum l k) d a;rw [Mo] at R;have R1:=r.setCell (p:=⟨p,24+k,none⟩) u (.int .i64 (bsum l k));by_cases h:0<cn l k
   ·have R2:=Wj k R;have I:EB l (k+1)=k:=zC h;go_wp2
    go_roundw
    case rel=>exact ⟨k+1,zO,by go_num,rfl,by rw [I];exact R2,R1.setCell (p:=⟨p,36,none⟩) u _⟩
    case measure=>simp [intOf];omega
   ·have I:EB l k=EB l (k+1):=(zA h).symm;rw [I] at R;go_wp2
    go_roundw
    case rel=>exact ⟨k+1,zO,by go_num,rfl,R,R1⟩
    case measure=>simp [intOf];omega
  ·obtain rfl:k=12:=zO;have HR:=CL a r;obtain ⟨n,hn⟩:∃ n:Nat,bsum l 12=n:=⟨(bsum l 12).toNat,by have:=(GY hl 12 zO).1;omega⟩
   have a7:n<=12000000:=by have:=(GY hl 12 zO).2;omega
   rw [hn];have g1:=a.cell (i:=37) zO;have g2:=a.frozen 37;have a6:=aU n a7;clear hi;have r5:((wr.setCell ⟨p,37,none⟩ (.slice (some ⟨wr.heap.size,0,none⟩) n n)).alloc (.cells (madeCells #[.int .i64 0, .int .i64 0] (n*2)) 125)).rowIs p 271 38 (LS (cn l) (fc (cn l)) (FT l 12) (EB l 12) (.slice (some ⟨wr.heap.size,0,none⟩) n n)):=(Rp _ a).alloc _;have m5:=UO r5;have b9:=a.lt;have h6:=IK wr p n;have NF:=Ho (n:=n) a r u;unfold Jm at NF;rw [show arr (fun _=>0)=#[.int .i64 0, .int .i64 0, .int .i64 0, .int .i64 0, .int .i64 0, .int .i64 0, .int .i64 0, .int .i64 0, .int .i64 0, .int .i64 0, .int .i64 0, .int .i64 0] from rfl] at NF;have z:Hid _:=NF;clear NF;go_wp2_with (first | (refine wpList_load_mid rfl 197 _ rfl p 24 rfl (arr (bsum l)).toList _ m5 underlying197 rfl (FU (bsum l)) ?_;rw [CB]) | (refine yS rfl 197 _ _ rfl (wr.heap.size+1) (arr (bsum l)) rfl rfl 197 _ h6 (FU _) rfl (FZ _) ?_))
   have S:=r.size;clear h6 m5 r5 g1 g2 a6 a J r HR;generalize (((wr.setCell ⟨p,37,none⟩ (.slice (some ⟨wr.heap.size,0,none⟩) n n)).alloc (.cells (madeCells #[.int .i64 0, .int .i64 0] (n*2)) 125)).alloc (.cells #[.int .i64 0, .int .i64 0, .int .i64 0, .int .i64 0, .int .i64 0, .int .i64 0, .int .i64 0, .int .i64 0, .int .i64 0, .int .i64 0, .int .i64 0, .int .i64 0] 197)).setRow (wr.heap.size+1) (arr (bsum l))=w6 at *;generalize wr.heap.size=m at *;go_loopw [53] (fun i wx=>∃ (k:Nat) (f:Nat->Value),k<=l.length/\i= .int .i64 k/\wx.rowIs p 271 38 (LS (cn l) (fc (cn l)) (FT l 12) (EB l 12) (.slice (some ⟨m,0,none⟩) n n))/\wx.rowIs m 125 (n*2) f/\Cx l f k/\wx.rowIs (m+1) 197 12 (fun j=> .int .i64 (bsum l j+cn (l.take k) j))/\Below w.heap.size w wx) (fun i _=>l.length - (intOf i).toNat)
   case atStart=>exact ⟨0,fun _=> .int .i64 0,zH _,rfl,z.out.1,z.out.2.1,fun i hi=>absurd hi zO,z.out.2.2.1.congr fun i _=>by simp [Iv],z.out.2.2.2⟩
   case round=>
    obtain ⟨k,f,hk,rfl,E,y,q3,F,X⟩:=hrel;by_cases d:k<l.length
    ·obtain ⟨b,o,x,rfl,g,b5,hx⟩:=(HC.out.below X zL).LZ hr d;have Y:=IQ E y F X;have HF:=hid q3;clear q3;by_cases h:0<x
     ·have e1:=pos_eq d hx.out hl zO;have I:=Tq d hx.out hl h zO;rw [hn] at I;have c0:pos l k<n:=zO;have c1:wr.cell? ⟨p,37,none⟩=some (.slice (some ⟨m,0,none⟩) n n):=E.cell (i:=37) zO;have c2:wr.cell? ⟨m+1,x,none⟩=some (.int .i64 (pos l k)):=by rw [F.cell (i:=x) zO,e1]
      have HN:=hid e1.symm;have H:=HF.out.step hl hr d hx.out h zO;have a2:Hid _:=H;clear H e1;have b6:Hid ((wr:World)=wr):=rfl;obtain ⟨P,hP⟩:=qe (pos l k);have l1:=E.lt;have l2:=y.lt;have l3:=F.lt;have b7:(P:Int)<n:=zO;have a9:(x:Int)<12:=zO;have k1:=y.cell (i:=P*2) zO;have k2:=y.cell (i:=P*2+1) zO;have y1:=y.frozen (P*2);have y2:=y.frozen (P*2+1);rw [<- hP] at c2;have HP:=hid hP;have Q:k<=15:=zO;have U:p≠m:=zO;have V:p≠m+1:=zO;have y3:=F.frozen x;clear E y F X hP;go_wp2_with fail
      go_region_held3 (fun s=>s.cell? ⟨p,37,none⟩=some (.slice (some ⟨m,0,none⟩) n n)/\s.cell? ⟨m+1,x,none⟩=some (.int .i64 P)) (first | exact ⟨c1,c2⟩ | exact ⟨d1,d2⟩ | exact ⟨(Gz (q:=⟨p,37,none⟩) U).trans d1,(Gz (q:=⟨m+1,x,none⟩) zS).trans d2⟩)
       (first | (go_at_call 194;refine (Pn k _ Q).mono ?_;rintro e w7 ⟨rfl,c⟩;have d1:=(c.cell l1).trans c1;have d2:=(c.cell l3).trans c2;have d3:=(c.cell l2).trans k1;have d4:=(c.cell l2).trans k2;have d5:=(c.frozen l2).trans y1;have d6:=(c.frozen l2).trans y2;have d7:=(c.frozen l3).trans y3;have a0:Hid (Below wr.heap.size wr w7):=⟨c.os,c.tape,c.output,c.size,c.block⟩;clear c;unfold Eu))
      have T:=Ig (v1:= .int .i64 (Tr.Ar 1 k)) (v2:= .int .i64 (Tr.Ag k)) Y.out.1 Y.out.2.1 Y.out.2.2.1 Y.out.2.2.2 a0.out d hx.out h zO U V u S HN.out HP.out;have Z:Hid _:=T;clear T k1 k2 y1 y2 y3;go_wp2
      go_roundw
      case rel=>exact ⟨k+1,_,zO,by go_num,Z.out.1,Z.out.2.1,by rw [HP.out];exact a2.out,Z.out.2.2.1,Z.out.2.2.2⟩
      case measure=>simp [intOf];omega
     ·obtain rfl:x=0:=zO;have R:=Oj d hx.out F;have e0:l.getD k 0=0:=by have:=hx.out;simp [d];simpa using this
      have a1:=hid (HF.out.skip e0);go_wp2
      go_roundw
      case rel=>exact ⟨k+1,f,zO,by go_num,E,y,a1.out,R,X⟩
      case measure=>simp [intOf];omega
    ·obtain rfl:k=l.length:=zO;go_wp2
     go_ret
     refine ⟨p,m,n,f,rfl,hn,⟨E,fun j hj=>⟨rfl,?_⟩,E.lt,y.lt⟩,fun i hi h0=>q3 i hi h0,u,S,X⟩;intro t v hv;have ht:t=0\/t=1:=by have:=(vH.1 hv).1;simp at this;omega
     rcases ht with rfl | rfl
     ·rw [<- Option.some.inj hv];exact y.cell (i:=j*2) zO
     ·rw [<- Option.some.inj hv];exact y.cell (i:=j*2+1) zO
end Go.Proofs.YtbcjmakpempkiaaGreatDoor
