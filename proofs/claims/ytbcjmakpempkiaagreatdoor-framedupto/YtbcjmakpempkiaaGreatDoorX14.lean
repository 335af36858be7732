import Derived.Lib.LaidTab
import Derived.Test.YtbcjmakpempkiaaGreatDoorX13
set_option maxRecDepth 100000
set_option maxHeartbeats 8000000
set_option linter.all false
namespace Go.Proofs.YtbcjmakpempkiaaGreatDoor
open Go.RowKit
structure ByI(w:World)(g:Nat)(s:ByteArray):Prop where
 cell:∀ k,k<s.size->w.cell? ⟨g,k,none⟩=some (.int .u8 ((xpg s).getD k 0:Nat))
 free:∀ k,k<s.size->w.frozen? ⟨g,k,none⟩=false
theorem ByI.made(s:ByteArray)(w:World)(c:Nat):ByI (w.alloc (.cells (bytesRow s c) 5 ((bytesRow s c).size,(bytesRow s c).size+1))).drew w.heap.size s:=by
 have h1:(w.alloc (.cells (bytesRow s c) 5 ((bytesRow s c).size,(bytesRow s c).size+1))).drew.heap[w.heap.size]?=some (.cells (bytesRow s c) 5 ((bytesRow s c).size,(bytesRow s c).size+1)):=
  heap_alloc_new w (.cells (bytesRow s c) 5 ((bytesRow s c).size,(bytesRow s c).size+1))
 refine ⟨fun k hk=>?_,fun k hk=>?_⟩
 ·rw [yl9 s w c k hk];unfold vhw xpg;rw [List.getD_eq_getElem?_getD,List.getD_eq_getElem?_getD,List.getElem?_map];cases s.data.toList[k]? <;> rfl
 ·have hsz:s.size<=(bytesRow s c).size:=by
   unfold bytesRow;simp
  unfold World.frozen?;rw [h1];simp;omega
theorem ByI.turned{w:World}{g:Nat}{s:ByteArray}(h:ByI w g s){k d:Nat}(hk:k<s.size)(cap:Nat) :
  (convert 34 9 (.slice (some ⟨g,0,none⟩) s.size cap)).run Tryz.prog (w.setCell ⟨g,k,none⟩ (.int .u8 d))= .ok (.string (xu6 ((xpg s).set k d))) (w.setCell ⟨g,k,none⟩ (.int .u8 d)):=by
 have hl:((xpg s).set k d).length=s.size:=by rw [List.length_set,kev]
 refine run_convert_bytes_arg _ 34 5 Tryz.underlying34 Tryz.underlying5 g 0 s.size cap (((xpg s).set k d).map fun (n:Nat)=>(n:Int)) (by rw [List.length_map,hl]) ?_ 9 Tryz.underlying9;intro i hi;rw [Nat.zero_add];have hi':i<(xpg s).length:=by rw [kev];exact hi
 by_cases e:i=k
 ·subst e;rw [World.cell?_setCell_same _ _ _ (h.cell i hi)];simp [hi']
 ·rw [World.cell?_setCell_other _ _ _ _ (fun h=>e (by injection h with _ h2 _;exact h2.symm)),h.cell i hi];simp [hi',List.getElem?_set,Ne.symm e]
theorem v0c{s:ByteArray}{n:Nat}(h:(s.size:Int) - 1=n):xpg (s.extract 0 n)=(xpg s).take ((xpg s).length - 1):=by
 rw [vyo s n (by omega),kev];congr 1
 omega
theorem keepFramed{ad ad2:Option Addr}(cap cap2:Nat)(one two:List PtD)(name note:ByteArray)(mk at_ v:Int)(w:World)(hP:PartsO w ad one)(hP2:PartsO w ad2 two)(hW:wts one+wts two+name.size+note.size<=1048576)(hmk:inI mk)(hat:inI at_)(hO:OrdP w) :
  Calls Tryz.prog 7 #[.slice ad one.length cap, .slice ad2 two.length cap2, .string name, .string note, .int .i64 mk, .int .i64 at_, .int .i64 v] w fun e w'=>e= .returned (.bool true)∧Below w.heap.size w w':=by
 have HM:Hid (∀ W,Below w.heap.size w W->Calls Tryz.prog 14 #[.slice ad one.length cap] W fun e w'=>∃ s o,e= .returned (.tuple #[.string s, .string o])∧x56 (xpg s) (xpg o)∧(s.size<=875*wts one+20∧o.size<=66*wts one)∧Below W.heap.size W w'):=fun W hb=>v3p cap one W (hP.below hb) (by omega)
 have HA:Hid (∀ (W:World) (m:Nat),Below w.heap.size w W->m<8->Calls Tryz.prog 16 #[.slice ad one.length cap, .string name, .string note, .int .i64 m] W fun e w'=>∃ s o,e= .returned (.tuple #[.string s, .string o])∧MbE W m (wts one) name note s o w'):=fun W m hb hm=>vp7 cap one name note m W (hP.below hb) (by omega) hm (by omega) (by omega)
 have HB:Hid (∀ (W:World) (m:Nat),Below w.heap.size w W->m<8->Calls Tryz.prog 16 #[.slice ad2 two.length cap2, .string note, .string name, .int .i64 m] W fun e w'=>∃ s o,e= .returned (.tuple #[.string s, .string o])∧MbE W m (wts two) note name s o w'):=fun W m hb hm=>vp7 cap2 two note name m W (hP2.below hb) (by omega) hm (by omega) (by omega)
 have HO:Hid (∀ W,Below w.heap.size w W->OrdP W):=fun W hb=>hO.below hb
 have HW:Hid (wts one+wts two+name.size+note.size<=1048576):=hW;clear hP hP2 hO hW;obtain ⟨mk1,mk2⟩:=hmk;obtain ⟨at1,at2⟩:=hat;go_enter Tryz.func7,Tryz.ntmps7
 go_upto_if 32 with fail
 go_cut [4,32] (fun s4 _ wx=>∃ M:Nat,s4= .int .i64 M∧M<=9223372036854775807∧wx=w)
 case first=>
  by_cases h:mk<0
  ·have hd:decide (mk<0)=true:=by simpa using h
   go_wp2_with fail
   go_meet
   exact ⟨(-(mk+1)).toNat,by rw [Int.toNat_of_nonneg (by omega)],by omega,rfl⟩
  ·have hd:decide (mk<0)=false:=by simpa using h
   go_wp2_with fail
   go_meet
   exact ⟨mk.toNat,by rw [Int.toNat_of_nonneg (by omega)],by omega,rfl⟩
 case rest=>
 obtain ⟨M,rfl,hM,rfl⟩:=hcut;clear mk1 mk2;go_upto_if 37 with fail
 go_cut [5,37] (fun s5 _ wx=>∃ A:Nat,s5= .int .i64 A∧A<=9223372036854775807∧wx=wc)
 case first=>
  by_cases h:at_<0
  ·have hd:decide (at_<0)=true:=by simpa using h
   go_wp2_with fail
   go_meet
   exact ⟨(-(at_+1)).toNat,by rw [Int.toNat_of_nonneg (by omega)],by omega,rfl⟩
  ·have hd:decide (at_<0)=false:=by simpa using h
   go_wp2_with fail
   go_meet
   exact ⟨at_.toNat,by rw [Int.toNat_of_nonneg (by omega)],by omega,rfl⟩
 case rest=>
 obtain ⟨A,rfl,hA,rfl⟩:=hcut;clear at1 at2;obtain ⟨w0,hw0⟩:∃ w0:World,w0=wc:=⟨_,rfl⟩
 subst hw0;obtain ⟨m1,hm1,hm1b⟩:∃ m1:Nat,(M:Int)%8=m1∧m1<8:=⟨M%8,by omega,by omega⟩
 obtain ⟨m2,hm2,hm2b⟩:∃ m2:Nat,(M:Int) / 8%8=m2∧m2<8:=⟨M / 8%8,by omega,by omega⟩
 go_upto_region 6 with (go_at_call 14;refine (HM.out _ (Below.refl _ _)).mono ?_;rintro e w1 ⟨s0,o0,rfl,hp0,⟨hs0,ho0⟩,b1⟩)
 have B1:Hid (Below w0.heap.size w0 w1):=b1;have HP0:Hid (x56 (xpg s0) (xpg o0)):=hp0;have hw1:=HW.out;have hs1:s0.size<=917504020:=by omega
 have ho1:o0.size<=69206016:=by omega
 clear b1 hp0 hs0 ho0 hw1 HM;obtain ⟨t4,ht4⟩:∃ t4,t4=xu6 (sum4 (xpg o0)):=⟨_,rfl⟩
 have hz4:t4.size=4:=by rw [ht4,x8r];rfl
 have HT4:Hid (xpg t4=sum4 (xpg o0)):=by show _=_;rw [ht4,y7p (kme _)]
 have HS:Hid (Calls Tryz.prog 15 #[.string o0] w1 fun e w'=>e= .returned (.string t4)∧Below w1.heap.size w1 w'):=by
  rw [ht4];exact xpa o0 w1 (by unfold maxLen;omega)
 clear ht4;have hz2:(ByteArray.mk #[115,1]).size=2:=rfl;go_upto_region 7 with (go_at_call 15;refine HS.out.mono ?_;rintro e w2 ⟨rfl,b2⟩)
 obtain ⟨sh,hsh⟩:∃ sh:ByteArray,sh=⟨#[115,1]⟩++s0++t4:=⟨_,rfl⟩
 rw [← hsh];have hsz:6<=sh.size∧sh.size<=917504026:=by rw [hsh,ByteArray.size_append,ByteArray.size_append,hz2];omega
 obtain ⟨hsz1,hsz2⟩:=hsz;have HSH:Hid (xpg sh=115 :: 1 :: (xpg s0++sum4 (xpg o0))):=by
  show _=_;rw [hsh,krw,krw,HT4.out];rfl
 have B2:Hid (Below w0.heap.size w0 w2):=B1.out.trans (b2.mono B1.out.size);clear hsh HT4 b2 B1 HS;have HN1:Hid (Calls Tryz.prog 13 #[.int .i64 (1:Nat), .string sh, .string o0] w2 fun e w'=>e= .returned (.bool true)∧Below w2.heap.size w2 w'):=z3j 1 sh o0 w2 (by decide) (by omega) (HO.out w2 B2.out) (by rw [vjr (ksp.of HSH.out) HP0.out (by omega),y51]);go_upto_region 10 with (go_at_call 13;refine HN1.out.mono ?_;rintro e w3 ⟨rfl,b3⟩)
 have B3:Hid (Below w0.heap.size w0 w3):=B2.out.trans (b3.mono B2.out.size);clear b3 B2 HN1;go_upto_region 11 with (go_at_call 16;refine (HA.out w3 m1 B3.out hm1b).mono ?_;rintro e w4 ⟨a,x,rfl,E4⟩)
 have B4:Hid (Below w0.heap.size w0 w4):=B3.out.trans (E4.bel.mono B3.out.size);clear B3 HA;go_upto_region 12 with (go_at_call 16;refine (HB.out w4 m2 B4.out hm2b).mono ?_;rintro e w5 ⟨b,y,rfl,E5⟩)
 have B5:Hid (Below w0.heap.size w0 w5):=B4.out.trans (E5.bel.mono B4.out.size);clear B4 HB;obtain ⟨⟨r1,M1,ha⟩,⟨hza,hzx⟩,_⟩:=E4;obtain ⟨⟨r2,M2,hb⟩,⟨hzb,hzy⟩,_⟩:=E5;have HE:Hid ((Mem m1 (upB name) (upB note) r1 (xpg x)∧xpg a=vin m1 (upB name) (upB note) r1 (sum4 (xpg x)) (Tr.size2 (xpg x).length))∧Mem m2 (upB note) (upB name) r2 (xpg y)∧xpg b=vin m2 (upB note) (upB name) r2 (sum4 (xpg y)) (Tr.size2 (xpg y).length)):=⟨⟨M1,ha⟩,M2,hb⟩
 have hw5:=HW.out;have hzab:a.size+b.size<=999000000:=by omega
 have hzxy:x.size+y.size<=69206016:=by omega
 have ha10:10<=a.size:=by
  rw [← kev,ha];unfold vin;simp only [List.length_append];have h1:3<=(k6d m1 (upB name) (upB note)).length:=by unfold k6d z7c;simp only [List.length_append,List.length_cons];omega
  have h2:(sum4 (xpg x)).length=4:=rfl;have h3:(Tr.size2 (xpg x).length).length=2:=rfl;have h4:r1.length≠0:=fun e=>M1.pk.ne (List.length_eq_zero_iff.1 e)
  omega
 have hb1:1<=b.size:=by
  rw [← kev,hb];unfold vin k6d z7c;simp only [List.length_append,List.length_cons];omega
 clear M1 ha M2 hb hw5 HW hza hzb hzx hzy;have HN2:Hid (Calls Tryz.prog 13 #[.int .i64 (2:Nat), .string (a++b), .string (x++y)] w5 fun e w'=>e= .returned (.bool true)∧Below w5.heap.size w5 w'):=z3j 2 (a++b) (x++y) w5 (by decide) (by rw [ByteArray.size_append];omega) (HO.out w5 B5.out) (by rw [zlb HE.out.1.1 HE.out.2.1 (ksp.of (by rw [krw,HE.out.1.2,HE.out.2.2])) (by rw [ByteArray.size_append];omega),← krw,y51]);go_upto_region 15 with (go_at_call 13;refine HN2.out.mono ?_;rintro e w6 ⟨rfl,b6⟩)
 have B6:Hid (Below w0.heap.size w0 w6):=B5.out.trans (b6.mono B5.out.size);clear b6 B5 HN2;have hconv:=run_bytes_of_string (P:=Tryz.prog) w6 9 34 5 sh Tryz.underlying9 Tryz.underlying34 Tryz.underlying5;go_upto_region 16 with fail
 have hby:=ByI.made sh w6 (grownCap w6 sh.size 0 5);obtain ⟨W7,hW7⟩:∃ W7,W7=(w6.alloc (.cells (bytesRow sh (grownCap w6 sh.size 0 5)) 5 ((bytesRow sh (grownCap w6 sh.size 0 5)).size,(bytesRow sh (grownCap w6 sh.size 0 5)).size+1))).drew:=⟨_,rfl⟩
 have B7:Hid (Below w0.heap.size w0 W7∧w0.heap.size<=w6.heap.size):=by rw [hW7];exact ⟨(B6.out.alloc B6.out.size _).drew,B6.out.size⟩
 rw [← hW7] at hby ⊢;generalize grownCap w6 sh.size 0 5=cp at *;have HBY:Hid (ByI W7 w6.heap.size sh):=hby;clear hW7 hconv hby B6;obtain ⟨G,hG⟩:∃ G,G=w6.heap.size:=⟨_,rfl⟩
 rw [← hG] at B7 HBY ⊢;clear hG;obtain ⟨k,hk,hk2⟩:∃ k:Nat,(sh.size:Int) - 1 - (A:Int)%4=k∧k+(1+A%4)=sh.size:=⟨sh.size - 1 - A%4,by omega,by omega⟩
 have hkl:k<sh.size:=by omega
 have hkli:(k:Int)<sh.size:=by omega
 obtain ⟨c0,hc0,hc0l⟩:∃ c0:Nat,(xpg sh)[k]?=some c0∧c0<256:=by
  have hl:k<(xpg sh).length:=by rw [kev];exact hkl
  exact ⟨_,List.getElem?_eq_getElem hl,jn7 sh _ (List.getElem_mem hl)⟩
 have c1:W7.cell? ⟨G,k,none⟩=some (.int .u8 (c0:Nat)):=by rw [HBY.out.cell k hkl,List.getD_eq_getElem?_getD,hc0];rfl
 have f1:=HBY.out.free k hkl;have HC0:Hid ((xpg sh)[k]?=some c0):=hc0;clear hc0;go_upto_region 18 with (go_at_call 17;refine (xav c0 v W7 hc0l).mono ?_;rintro e w8 ⟨⟨d,rfl,hd,hdc⟩,rfl⟩)
 have hcv:=HBY.out.turned (d:=d) hkl cp;have B8:Hid (Below w0.heap.size w0 (w8.setCell ⟨G,k,none⟩ (.int .u8 d))):=B7.out.1.setCell (p:=⟨G,k,none⟩) B7.out.2 _;obtain ⟨W8,hW8⟩:∃ W8,W8=w8.setCell ⟨G,k,none⟩ (.int .u8 d):=⟨_,rfl⟩
 obtain ⟨tc,htc⟩:∃ tc,tc=xu6 ((xpg sh).set k d):=⟨_,rfl⟩
 have HN3:Hid (Calls Tryz.prog 18 #[.int .i64 (1:Nat), .string tc, .int .i64 (12:Nat)] W8 fun e w'=>e= .returned (.bool true)∧Below W8.heap.size W8 w'):=by
  have hbt:xpg tc=(xpg sh).set k d:=by rw [htc,y7p (vsm (jn7 sh) hd)]
  have hzt:tc.size<=1000000000:=by rw [← kev,hbt,List.length_set,kev];omega
  refine y9e 1 tc 12 W8 (by decide) hzt (HO.out W8 (by rw [hW8];exact B8.out)) ?_;exact vf0 (j:=A%4) (k:=k) (d:=d) HSH.out (by omega) (by rw [kev];omega) hd (by rw [HC0.out];intro e;injection e with e;exact hdc e.symm) hbt HP0.out hzt
 rw [← hW8] at hcv B8 ⊢;rw [← htc] at hcv;clear hW8 htc c1 f1 B7 HBY;go_upto_region 21 with (go_at_call 18;refine HN3.out.mono ?_;rintro e w9 ⟨rfl,b9⟩)
 have B9:Hid (Below w0.heap.size w0 w9):=B8.out.trans (b9.mono B8.out.size);clear b9 B8 HN3 hcv hk hk2 hkl hkli HC0;have hconv:=run_bytes_of_string (P:=Tryz.prog) w9 9 34 5 a Tryz.underlying9 Tryz.underlying34 Tryz.underlying5;go_upto_region 22 with fail
 have hby:=ByI.made a w9 (grownCap w9 a.size 0 5);obtain ⟨Wa,hWa⟩:∃ Wa,Wa=(w9.alloc (.cells (bytesRow a (grownCap w9 a.size 0 5)) 5 ((bytesRow a (grownCap w9 a.size 0 5)).size,(bytesRow a (grownCap w9 a.size 0 5)).size+1))).drew:=⟨_,rfl⟩
 have Ba:Hid (Below w0.heap.size w0 Wa∧w0.heap.size<=w9.heap.size):=by rw [hWa];exact ⟨(B9.out.alloc B9.out.size _).drew,B9.out.size⟩
 rw [← hWa] at hby ⊢;generalize grownCap w9 a.size 0 5=cq at *;have HBY:Hid (ByI Wa w9.heap.size a):=hby;clear hWa hconv hby B9;obtain ⟨G2,hG⟩:∃ G2,G2=w9.heap.size:=⟨_,rfl⟩
 rw [← hG] at Ba HBY ⊢;clear hG;obtain ⟨j,hj,hj2⟩:∃ j:Nat,(a.size:Int) - 1 - (A:Int)%6=j∧j+(1+A%6)=a.size:=⟨a.size - 1 - A%6,by omega,by omega⟩
 have hjl:j<a.size:=by omega
 have hjli:(j:Int)<a.size:=by omega
 obtain ⟨c9,hc9,hc9l⟩:∃ c9:Nat,(xpg a)[j]?=some c9∧c9<256:=by
  have hl:j<(xpg a).length:=by rw [kev];exact hjl
  exact ⟨_,List.getElem?_eq_getElem hl,jn7 a _ (List.getElem_mem hl)⟩
 have c1:Wa.cell? ⟨G2,j,none⟩=some (.int .u8 (c9:Nat)):=by rw [HBY.out.cell j hjl,List.getD_eq_getElem?_getD,hc9];rfl
 have f1:=HBY.out.free j hjl;have HC9:Hid ((xpg a)[j]?=some c9):=hc9;clear hc9;go_upto_region 24 with (go_at_call 17;refine (xav c9 v Wa hc9l).mono ?_;rintro e wb ⟨⟨g,rfl,hg,hgc⟩,rfl⟩)
 have hcv:=HBY.out.turned (d:=g) hjl cq;have Bb:Hid (Below w0.heap.size w0 (wb.setCell ⟨G2,j,none⟩ (.int .u8 g))):=Ba.out.1.setCell (p:=⟨G2,j,none⟩) Ba.out.2 _;obtain ⟨Wb,hWb⟩:∃ Wb,Wb=wb.setCell ⟨G2,j,none⟩ (.int .u8 g):=⟨_,rfl⟩
 obtain ⟨td,htd⟩:∃ td,td=xu6 ((xpg a).set j g):=⟨_,rfl⟩
 have HTD:Hid (xpg td=(xpg a).set j g):=by show _=_;rw [htd,y7p (vsm (jn7 a) hg)]
 have hztd:td.size=a.size:=by rw [← kev,HTD.out,List.length_set,kev]
 have HN4:Hid (Calls Tryz.prog 18 #[.int .i64 (2:Nat), .string (td++b), .int .i64 ((if A%6<2 then 13 else 12:Nat):Int)] Wb fun e w'=>e= .returned (.bool true)∧Below Wb.heap.size Wb w'):=by
  have hbt:xpg (td++b)=(xpg a).set j g++xpg b:=by rw [krw,HTD.out]
  have hzt:(td++b).size<=1000000000:=by rw [ByteArray.size_append,hztd];omega
  refine y9e 2 (td++b) _ Wb (by decide) hzt (HO.out Wb (by rw [hWb];exact Bb.out)) ?_;exact vcj (j:=A%6) (k:=j) (d:=g) HE.out.1.1 HE.out.1.2 (by omega) (by rw [kev];omega) hg (by rw [HC9.out];intro e;injection e with e;exact hgc e.symm) hbt hzt
 have hztd2:td.size+b.size<=999000000:=by omega
 rw [← hWb] at hcv Bb ⊢;rw [← htd] at hcv;clear hWb htd c1 f1 Ba HBY hztd HTD hj hj2 hjl hjli HC9;go_upto_if 125 with fail
 go_cut [26,125] (fun s26 _ wx=>s26= .int .i64 ((if A%6<2 then 13 else 12:Nat):Int)∧wx=Wb)
 case first=>
  by_cases h6:A%6<2
  ·have hd6:decide ((A:Int)%6<2)=true:=by simp;omega
   have hd7:decide (A%6<2)=true:=by simp;omega
   go_wp2_with fail
   go_meet
   exact ⟨by rw [if_pos h6];rfl,rfl⟩
  ·have hd6:decide ((A:Int)%6<2)=false:=by simp;omega
   have hd7:decide (A%6<2)=false:=by simp;omega
   go_wp2_with fail
   go_meet
   exact ⟨by rw [if_neg h6];rfl,rfl⟩
 case rest=>
 obtain ⟨rfl,rfl⟩:=hcut;generalize (if A%6<2 then 13 else 12:Nat)=want at *;go_upto_region 30 with (go_at_call 18;refine HN4.out.mono ?_;rintro e we ⟨rfl,be⟩)
 have Be:Hid (Below w0.heap.size w0 we):=Bb.out.trans (be.mono Bb.out.size);clear be Bb HN4 hcv;obtain ⟨p1,hp1⟩:∃ p1:Nat,(sh.size:Int) - 1=p1:=⟨sh.size - 1,by omega⟩
 have hp1l:(p1:Int)<=sh.size:=by omega
 obtain ⟨p2,hp2⟩:∃ p2:Nat,(b.size:Int) - 1=p2:=⟨b.size - 1,by omega⟩
 have hp2l:(p2:Int)<=b.size:=by omega
 have HF1:Hid (∀ W,Below w0.heap.size w0 W->Calls Tryz.prog 18 #[.int .i64 (1:Nat), .string (sh.extract 0 p1), .int .i64 (15:Nat)] W fun e w'=>e= .returned (.bool true)∧Below W.heap.size W w'):=fun W hW=>by
  have hz:(sh.extract 0 p1).size<=1000000000:=by rw [ByteArray.size_extract];omega
  exact y9e 1 _ 15 W (by decide) hz (HO.out W hW) (ydw HSH.out (v0c hp1) HP0.out hz)
 have HF2:Hid (∀ W,Below w0.heap.size w0 W->Calls Tryz.prog 18 #[.int .i64 (2:Nat), .string (a++b.extract 0 p2), .int .i64 (15:Nat)] W fun e w'=>e= .returned (.bool true)∧Below W.heap.size W w'):=fun W hW=>by
  have hz:(a++b.extract 0 p2).size<=1000000000:=by rw [ByteArray.size_append,ByteArray.size_extract];omega
  exact y9e 2 _ 15 W (by decide) hz (HO.out W hW) (zfo HE.out.1.1 HE.out.2.1 HE.out.1.2 HE.out.2.2 (by rw [krw,v0c hp2]) hz)
 have HF3:Hid (∀ W,Below w0.heap.size w0 W->Calls Tryz.prog 18 #[.int .i64 (1:Nat), .string (sh++⟨#[115]⟩), .int .i64 (14:Nat)] W fun e w'=>e= .returned (.bool true)∧Below W.heap.size W w'):=fun W hW=>by
  have hz:(sh++⟨#[115]⟩:ByteArray).size<=1000000000:=by rw [ByteArray.size_append];show sh.size+1<=_;omega
  exact y9e 1 _ 14 W (by decide) hz (HO.out W hW) (krj (x:=115) (ksp.of (by rw [krw,HSH.out];simp [xpg])) HP0.out hz)
 have HF4:Hid (∀ W,Below w0.heap.size w0 W->Calls Tryz.prog 18 #[.int .i64 (2:Nat), .string (a++⟨#[120]⟩), .int .i64 (4:Nat)] W fun e w'=>e= .returned (.bool true)∧Below W.heap.size W w'):=fun W hW=>by
  have hz:(a++⟨#[120]⟩:ByteArray).size<=1000000000:=by rw [ByteArray.size_append];show a.size+1<=_;omega
  exact y9e 2 _ 4 W (by decide) hz (HO.out W hW) (j9p (x:=120) HE.out.1.1 (ksp.of (by rw [krw,HE.out.1.2];simp [xpg])) hz (by decide) (by decide))
 clear HSH HE HP0 HO;have he2:(b.extract 0 p2).size<=b.size:=by rw [ByteArray.size_extract];omega
 go_upto_region 31 with (go_at_call 18;refine (HF1.out we Be.out).mono ?_;rintro e wf ⟨rfl,bf⟩)
 have Bf:Hid (Below w0.heap.size w0 wf):=Be.out.trans (bf.mono Be.out.size);clear bf Be HF1;go_upto_region 32 with (go_at_call 18;refine (HF2.out wf Bf.out).mono ?_;rintro e wg ⟨rfl,bg⟩)
 have Bg:Hid (Below w0.heap.size w0 wg):=Bf.out.trans (bg.mono Bf.out.size);clear bg Bf HF2;go_upto_region 33 with (go_at_call 18;refine (HF3.out wg Bg.out).mono ?_;rintro e wh ⟨rfl,bh⟩)
 have Bh:Hid (Below w0.heap.size w0 wh):=Bg.out.trans (bh.mono Bg.out.size);clear bh Bg HF3;go_wp2_with (go_at_call 18;refine (HF4.out wh Bh.out).mono ?_;rintro e wi ⟨rfl,bi⟩)
 go_ret
 exact ⟨rfl,Bh.out.trans (bi.mono Bh.out.size)⟩
theorem yum{P:Program}{w:World}:∀ {l:List (String×DataW Unit)} {ps:List MemPlace},DataW.LaidVars P w l ps->∀ n d,(n,d)∈l->∃ g t cs fuel p,P.globalNamed n=some g∧(P.globals[g]?).map (·.type)=some t∧w.var? P n=some cs∧DataW.trod (fun _=>()) P w 0 (fun _=>true) false fuel t cs.toList=some (d,p)
 | [],_,_,_,_,hm=>by cases hm
 | (n',d') :: r,ps,h,n,d,hm=>by
  obtain ⟨g,t,cs,fuel,p,q,h1,h2,h3,h4,h5,_⟩:=h;rcases List.mem_cons.1 hm with e | hm
  ·injection e with e1 e2
   subst e1;subst e2;exact ⟨g,t,cs,fuel,p,h1,h2,h3,h4⟩
  ·exact yum h5 n d hm
def xm6:List Int:=[13,14,12,0,7,8,6,9,5,10,4,11,3,2,1]
theorem v18:xm6.map (fun z=>Value.int .i64 z)=zn4.toList:=rfl
theorem yip:Tryz.prog.cellsOf 3=1:=by kernel_rfl
theorem knh:Tryz.prog.cellsOf 245=15:=by kernel_rfl
theorem zpy{W:World}{laid:List (String×DataW Unit)}{name:String}{g0:Nat}(hl:laidMetH Tryz.prog laid W)(hf:(laid.filter fun x=>x.2.handleName?.isSome)=[])(hm:(name,Lib.tabData .i64 xm6)∈laid)(hg:Tryz.prog.globalNamed name=some g0)(ht:(Tryz.prog.globals[g0]?).map (·.type)=some 245)(hgl:g0<Tryz.prog.globals.size)
  (hrow:∃ z,(((begin Tryz.prog (fun _ _=>0) default).world.heap[g0]?).bind Obj.row?)=some (z,245)) (hs:W.ShapedOpen Tryz.prog):∃ fr,W.heap[g0]?=some (.cells zn4 245 fr):=by
 unfold laidMetH at hl;rw [hf] at hl;obtain ⟨ps,hL,_,_⟩:=hl;obtain ⟨g,t,cs,fuel,p,h1,h2,h3,h4⟩:=yum hL _ _ hm;rw [hg] at h1;injection h1 with h1
 subst h1;rw [ht] at h2;injection h2 with h2
 subst h2;have e:=Lib.cells_of_tab (zs:=xm6) Tryz.underlying245 Tryz.underlying3 yip knh h4;rw [v18] at e;have e':cs=zn4:=Array.ext' e;obtain ⟨z,hz⟩:=hrow;obtain ⟨cs',hc,_,_⟩:=hs.1 g0 z 245 hgl hz;refine ⟨(0,0),?_⟩;unfold World.var? at h3;rw [hg] at h3;simp only [Option.bind_some,hc,Option.some.injEq] at h3;rw [hc,h3,e']
theorem ordp_laid {W : World} {laid : List (String × DataW Unit)} (hl : laidMetH Tryz.prog laid W) (hf : (laid.filter fun x => x.2.handleName?.isSome) = []) (h2 : ("floodgate/floodgate.helperOrder", Lib.tabData .i64 xm6) ∈ laid) (hs : W.ShapedOpen Tryz.prog) : OrdP W := by
 obtain ⟨fr',h'⟩:=zpy (g0:=0) hl hf h2 (by kernel_rfl) (by kernel_rfl) (of_decide_eq_true (by kernel_rfl)) ⟨#[.int .i64 0, .int .i64 0, .int .i64 0, .int .i64 0, .int .i64 0, .int .i64 0, .int .i64 0, .int .i64 0, .int .i64 0, .int .i64 0, .int .i64 0, .int .i64 0, .int .i64 0, .int .i64 0, .int .i64 0],by kernel_rfl⟩ hs;exact ⟨fr',h'⟩
end Go.Proofs.YtbcjmakpempkiaaGreatDoor
