import Derived.Deep.Slices
import Derived.Lib.Builder
import Derived.Lib.UnsafeStr
import Derived.Maps.AppendAt
import Derived.Shelf.RegionOpenPlain
import Derived.Test.YtbcjmakpempkiaaGreatDoorX04
import Derived.Test.YtbcjmakpempkiaaGreatDoorX12
set_option maxRecDepth 100000
set_option maxHeartbeats 8000000
set_option linter.all false
namespace Go.Proofs.YtbcjmakpempkiaaGreatDoor
open Go.RowKit
def MS.fresh(fm ou ra sl me he sp:Nat):MS:={ fm:=fm,ou:=ou,ra:=ra,sl:=sl,me:=me,he:=he,sp:=sp,st:=0,er:=0,tk:=0,pu:=0,mb:=0,held:=0,count:=0,marks:=0,head:=0,hsum:=0,sx:=0,sy:=0,size:=0,last:=false,left:=0,nl:=0,nd:=0,told:=0,hlen:=0,hbef:=false,hleast:=0,hbits:=0,lit:=0,least:=0,bits:=0,dist:=0,rest:=[],qa:=[],qc:=[],hl:=[],row:=[],hs:=[],la:=[],lb:=[] }
theorem yys(cs:Array Value)(h:cs.size=7):(Tryz.prog.info? 42).map (·.size)=some cs.size:=by rw [h];kernel_rfl
theorem kec(n:Int)(w:World):Calls Tryz.prog 49 #[.int .i64 n] w fun e w'=>e= .returned (Cfg.val ⟨n,9223372036854775807,0,9223372036854775807,9223372036854775807,9223372036854775807,9223372036854775807⟩)∧Below w.heap.size w w':=by
 unfold Cfg.val;go_enter Tryz.func49,Tryz.ntmps49
 go_wp2_with fail
 refine bodyPost_ret (v:= .agg #[.int .i64 n, .int .i64 9223372036854775807, .int .i64 0, .int .i64 9223372036854775807, .int .i64 9223372036854775807, .int .i64 9223372036854775807, .int .i64 9223372036854775807]) ?_ rfl ?_
 ·exact results_cell_row Tryz.results49 _ _ _ 42 _ _ _ rfl (heap_alloc_new _ _) Tryz.underlying42 rfl (yys _ rfl)
 ·exact ⟨rfl,(Below.refl _ _).alloc (Nat.le_refl _) _⟩
structure CfgB(w W:World)(G fm ou ra sl me he sp:Nat):Prop where
 cs:W.cell? ⟨G,0,none⟩=some (.int .i64 fm)∧W.cell? ⟨G,1,none⟩=some (.int .i64 ou)∧W.cell? ⟨G,2,none⟩=some (.int .i64 ra)∧W.cell? ⟨G,3,none⟩=some (.int .i64 sl)∧W.cell? ⟨G,4,none⟩=some (.int .i64 me)∧W.cell? ⟨G,5,none⟩=some (.int .i64 he)∧W.cell? ⟨G,6,none⟩=some (.int .i64 sp)
 bel:Below w.heap.size w W
 lt:G<W.heap.size
theorem CfgB.step{w W W':World}{G fm ou ra sl me he sp:Nat}(h:CfgB w W G fm ou ra sl me he sp)(f:Below W.heap.size W W'):CfgB w W' G fm ou ra sl me he sp:=by
 obtain ⟨⟨c0,c1,c2,c3,c4,c5,c6⟩,b,l⟩:=h;have k:∀ i,W'.cell? ⟨G,i,none⟩=W.cell? ⟨G,i,none⟩:=fun i=>f.cell l
 exact ⟨⟨by rw [k];exact c0,by rw [k];exact c1,by rw [k];exact c2,by rw [k];exact c3,by rw [k];exact c4,by rw [k];exact c5,by rw [k];exact c6⟩,b.trans (f.mono b.size),Nat.lt_of_lt_of_le l f.size⟩
theorem CfgB.made(w:World)(fm ou ra sl me he sp:Nat):CfgB w (w.alloc (.cells #[.int .i64 fm, .int .i64 ou, .int .i64 ra, .int .i64 sl, .int .i64 me, .int .i64 he, .int .i64 sp] 42)) w.heap.size fm ou ra sl me he sp:=by
 have h:=heap_alloc_new w (.cells #[.int .i64 fm, .int .i64 ou, .int .i64 ra, .int .i64 sl, .int .i64 me, .int .i64 he, .int .i64 sp] 42);refine ⟨⟨?_,?_,?_,?_,?_,?_,?_⟩,(Below.refl _ _).alloc (Nat.le_refl _) _,by simp⟩ <;> (rw [cell_of_row _ _ _ _ _ _ h];rfl)
theorem RgI.below'{w w':World}{r c N o:Nat}{f:Nat->Nat}{q:List Nat}(h:RgI w r c N o f q)(b:Below w.heap.size w w'):RgI w' r c N o f q:=h.kp (R:=fun _=>False) (ρ:=fun _=>0) (Kp.of_below b) (fun e=>e) (fun e=>e)
theorem xi1{w:World}{g i:Nat}(h:g<w.heap.size)(o:Obj):(w.alloc o).cell? ⟨g,i,none⟩=w.cell? ⟨g,i,none⟩:=by
 unfold World.cell?;rw [Go.heap_alloc_old _ _ h]
theorem jmy{w w2:World}{fm ou ra sl me he sp a b c d:Nat}(hs:w.heap.size<=a∧w.heap.size<=b)(h2:a<c∧a<d∧b<c∧b<d)(h3:a<w2.heap.size∧b<w2.heap.size∧c<w2.heap.size∧d<w2.heap.size)(I1:RgI w2 a b 64 0 (fun _=>0) [])(I2:RgI w2 c d 256 0 (fun _=>0) [])(hb:Below w.heap.size w w2) :
  ∃ ρ,MQ ρ (w2.alloc (.cells (k7n (MS.fresh fm ou ra sl me he sp) ⟨a,b,c,d, .slice none 0 0,0, .slice none 0 0, .pointer none, .slice none 0 0, .pointer none, .pointer none⟩).toArray 132)) w2.heap.size (MS.fresh fm ou ra sl me he sp)∧(∀ k,ρ k≠0->w.heap.size<=k):=by
 have n1:=I1.ne;have n2:=I2.ne;obtain ⟨ρ,hρ⟩:∃ ρ:Nat->Nat,ρ=fun k=>if k=w2.heap.size then 1 else if k=a then 2 else if k=b then 3 else if k=c then 4 else if k=d then 5 else 0:=⟨_,rfl⟩
 have e0:ρ w2.heap.size=1:=by rw [hρ];simp
 have e1:ρ a=2:=by rw [hρ];simp;omega
 have e2:ρ b=3:=by
  rw [hρ];show (if b=w2.heap.size then 1 else if b=a then 2 else if b=b then 3 else _)=3;rw [if_neg (by omega),if_neg (Ne.symm n1),if_pos rfl]
 have e3:ρ c=4:=by
  rw [hρ];show (if c=w2.heap.size then 1 else if c=a then 2 else if c=b then 3 else if c=c then 4 else _)=4;rw [if_neg (by omega),if_neg (by omega),if_neg (by omega),if_pos rfl]
 have e4:ρ d=5:=by
  rw [hρ];show (if d=w2.heap.size then 1 else if d=a then 2 else if d=b then 3 else if d=c then 4 else if d=d then 5 else 0)=5;rw [if_neg (by omega),if_neg (by omega),if_neg (by omega),if_neg (Ne.symm n2),if_pos rfl]
 have hz:∀ k,ρ k≠0->k=w2.heap.size∨k=a∨k=b∨k=c∨k=d:=fun k hk=>by
  apply Classical.byContradiction;intro hn;apply hk;rw [hρ];show (if k=w2.heap.size then 1 else if k=a then 2 else if k=b then 3 else if k=c then 4 else if k=d then 5 else 0)=0;rw [if_neg (by omega),if_neg (by omega),if_neg (by omega),if_neg (by omega),if_neg (by omega)]
 have ba:∀ o,Below w2.heap.size w2 (w2.alloc o):=fun o=>(Below.refl _ _).alloc (Nat.le_refl _) o
 have hsz:=hb.size;refine ⟨ρ,⟨⟨a,b,c,d, .slice none 0 0,0, .slice none 0 0, .pointer none, .slice none 0 0, .pointer none, .pointer none⟩,⟨?_,⟨0,_,I1.below' (ba _)⟩,⟨0,_,I2.below' (ba _)⟩,e0,e1,e2,e3,e4⟩,⟨SupI.nil_ _ _,⟨OI.nil _ _,fun g hg=>by cases hg⟩,⟨OI.nil _ _,fun g hg=>by cases hg⟩,Or.inl rfl,Or.inl rfl,Or.inl rfl,fun k hk=>?_⟩,rfl,rfl⟩,fun k hk=>?_⟩
 ·refine World.rowIs_alloc w2 _ 132 _ fun i hi=>?_
  have hi':i<(k7n (MS.fresh fm ou ra sl me he sp) ⟨a,b,c,d, .slice none 0 0,0, .slice none 0 0, .pointer none, .slice none 0 0, .pointer none, .pointer none⟩).length:=by simpa using hi
  unfold lrow;rw [List.getElem?_toArray,List.getD_eq_getElem?_getD,List.getElem?_eq_getElem hi'];rfl
 ·have:=hz k hk;simp;omega
 ·have:=hz k hk;omega
theorem j54(fm ou ra sl me he sp:Nat)(w:World):Calls Tryz.prog 46 #[Cfg.val ⟨fm,ou,ra,sl,me,he,sp⟩] w fun e w'=>∃ p ρ,e= .returned (.pointer (some ⟨p,0,none⟩))∧MQ ρ w' p (MS.fresh fm ou ra sl me he sp)∧(∀ k,ρ k≠0->w.heap.size<=k)∧Below w.heap.size w w':=by
 unfold Cfg.val;go_enter Tryz.func46,Tryz.ntmps46
 go_wp2_with fail
 have HT:Hid (CfgB w (w.alloc (.cells #[.int .i64 fm, .int .i64 ou, .int .i64 ra, .int .i64 sl, .int .i64 me, .int .i64 he, .int .i64 sp] 42)) w.heap.size fm ou ra sl me he sp):=CfgB.made w fm ou ra sl me he sp;generalize (w.alloc (.cells #[.int .i64 fm, .int .i64 ou, .int .i64 ra, .int .i64 sl, .int .i64 me, .int .i64 he, .int .i64 sp] 42))=W at *;obtain ⟨G,hG⟩:∃ G,G=w.heap.size:=⟨_,rfl⟩
 rw [← hG] at HT ⊢;have HG:Hid (G=w.heap.size):=hG;clear hG;obtain ⟨c0,c1,c2,c3,c4,c5,c6⟩:=HT.out.cs;go_region_held3 (fun wv=>wv.cell? ⟨G,0,none⟩=some (.int .i64 fm)∧wv.cell? ⟨G,1,none⟩=some (.int .i64 ou)∧wv.cell? ⟨G,2,none⟩=some (.int .i64 ra)∧wv.cell? ⟨G,3,none⟩=some (.int .i64 sl)∧wv.cell? ⟨G,4,none⟩=some (.int .i64 me)∧wv.cell? ⟨G,5,none⟩=some (.int .i64 he)∧wv.cell? ⟨G,6,none⟩=some (.int .i64 sp)) (first | exact ⟨c0,c1,c2,c3,c4,c5,c6⟩ | exact ⟨d0,d1,d2,d3,d4,d5,d6⟩ | exact ⟨f0,f1,f2,f3,f4,f5,f6⟩ | exact ⟨(xi1 hGl _).trans f0,(xi1 hGl _).trans f1,(xi1 hGl _).trans f2,(xi1 hGl _).trans f3,(xi1 hGl _).trans f4,(xi1 hGl _).trans f5,(xi1 hGl _).trans f6⟩)
  (first
   | (go_at_call 74;refine (joa 64 _ (by decide) (by decide)).mono ?_;rintro e w1 ⟨r1,q1,rfl,I1,a1,b1,k1⟩;have H1:Hid (CfgB w w1 G fm ou ra sl me he sp∧RgI w1 r1 q1 64 0 (fun _=>0) []∧W.heap.size<=r1∧W.heap.size<=q1∧W.heap.size<=w1.heap.size):=⟨HT.out.step ⟨k1.os,k1.tape,k1.output,k1.size,k1.block⟩,I1,a1,b1,k1.size⟩;obtain ⟨d0,d1,d2,d3,d4,d5,d6⟩:=H1.out.1.cs;clear I1 a1 b1 k1)
   | (go_at_call 74;refine (joa 256 _ (by decide) (by decide)).mono ?_;rintro e w2 ⟨r2,q2,rfl,I2,a2,b2,k2⟩;have H2:Hid (CfgB w w2 G fm ou ra sl me he sp∧RgI w2 r2 q2 256 0 (fun _=>0) []∧w1.heap.size<=r2∧w1.heap.size<=q2∧Below w1.heap.size w1 w2):=⟨H1.out.1.step k2,I2,a2,b2,k2⟩;obtain ⟨f0,f1,f2,f3,f4,f5,f6⟩:=H2.out.1.cs;have hGl:=H2.out.1.lt;clear I2 a2 b2 k2))
 all_goals
  go_wp2_with fail
  go_ret
  have g1:=H1.out;have g2:=H2.out;have hl1:=g1.2.1.row.lt;have hl2:=g1.2.1.cells.lt;have hl3:=g2.2.1.row.lt;have hl4:=g2.2.1.cells.lt;have hsz:=g2.2.2.2.2.size;have hWl:=HT.out.lt;have hGw:=HG.out;obtain ⟨ρ,M,hk⟩:=jmy (w:=w) (w2:=w2) (fm:=fm) (ou:=ou) (ra:=ra) (sl:=sl) (me:=me) (he:=he) (sp:=sp) (a:=r1) (b:=q1) (c:=r2) (d:=q2) ⟨by omega,by omega⟩ ⟨by omega,by omega,by omega,by omega⟩ ⟨by omega,by omega,by omega,by omega⟩ (g1.2.1.below' g2.2.2.2.2) g2.2.1 g2.1.bel;exact ⟨_,ρ,rfl,M,hk,g2.1.bel.alloc (by have:=g2.1.bel.size;omega) _⟩
structure BlI(B b:Nat)(p v:Value)(l:List Nat)(w:World):Prop where
 le:B<=b
 at_:w.rowIs b 106 2 (lrow [p,v])
 own:w.ownsRow B 5 1 v l.length (keg l)
 ne:v.ownBlock≠some b
 self:p= .pointer none∨p= .pointer (some ⟨b,0,none⟩)
theorem BlI.lt{B b:Nat}{p v:Value}{l:List Nat}{w:World}(h:BlI B b p v l w):b<w.heap.size:=h.at_.lt
theorem BlI.cell0{B b:Nat}{p v:Value}{l:List Nat}{w:World}(h:BlI B b p v l w):w.cell? ⟨b,0,none⟩=some p:=h.at_.cell (i:=0) (by omega)
theorem BlI.cell1{B b:Nat}{p v:Value}{l:List Nat}{w:World}(h:BlI B b p v l w):w.cell? ⟨b,1,none⟩=some v:=h.at_.cell (i:=1) (by omega)
theorem BlI.frozen{B b:Nat}{p v:Value}{l:List Nat}{w:World}(h:BlI B b p v l w)(i:Nat):w.frozen? ⟨b,i,none⟩=false:=h.at_.frozen i
theorem vp1:(Tryz.prog.info? 106).map (·.size)=some 2:=by kernel_rfl
theorem jex:liesAt Tryz.prog Tryz.prog.depth 106 (2 / Tryz.prog.cellsOf 106) 0 106 1=true:=by kernel_rfl
theorem yuq:Tryz.prog.cellsOf 5=1:=by kernel_rfl
theorem BlI.shape{B b:Nat}{p v:Value}{l:List Nat}{w:World}(h:BlI B b p v l w):w.shape? b=some (106,2):=by
 obtain ⟨cs,h1,h2,_⟩:=h.at_;simp [World.shape?,h1,h2]
theorem BlI.used{B b:Nat}{p v:Value}{l:List Nat}{w:World}(h:BlI B b p v l w):BlI B b (.pointer (some ⟨b,0,none⟩)) v l (w.setCell ⟨b,0,none⟩ (.pointer (some ⟨b,0,none⟩))):=by
 refine ⟨h.le,?_,?_,h.ne,Or.inr rfl⟩
 ·exact ypd h.at_ 0 _ rfl
 ·exact kcz h.own (R:=fun k=>k=b) (ρ:=fun k=>k) (Kp.of_set w ⟨b,0,none⟩ _ rfl) (fun g hg e=>h.ne (by rw [hg];exact congrArg some e))
theorem y1a{B b:Nat}{p v:Value}{l:List Nat}{w:World}(h:BlI B b p v l w):Calls Tryz.prog 77 #[.pointer (some ⟨b,0,none⟩)] w fun e w'=>e= .returned (.tuple #[])∧BlI B b (.pointer (some ⟨b,0,none⟩)) v l w'∧(w'=w∨w'=w.setCell ⟨b,0,none⟩ (.pointer (some ⟨b,0,none⟩))):=by
 obtain ⟨j,hj,hjs⟩:=Option.map_eq_some_iff.1 vp1;have c0:=h.cell0;have z0:=h.frozen 0;have hsh:=h.shape;have HB:Hid (BlI B b p v l w):=h;have hs:=h.self;clear h;rcases hs with rfl | rfl
 ·go_enter Tryz.func77,Tryz.ntmps77
  go_wp2_with fail
  rw [Lib.run_to_unsafe w ⟨b,0,none⟩ Tryz.underlying104 Tryz.underlying191 hj (by rw [hjs];decide) hsh (Nat.zero_lt_succ 1)];simp only [Result.andThen];rw [Oper.upon_value];go_wp2_with fail
  rw [run_callFunc_extern Tryz.func107 (by kernel_rfl) (by kernel_rfl) (by kernel_rfl) (e:=Extern.AbiNoEscape.same) (by kernel_rfl)];rw [Lib.run_noEscape];simp only [Result.andThen];rw [Oper.upon_value];go_wp2_with fail
  rw [Lib.run_from_unsafe w ⟨b,0,none⟩ Tryz.underlying191 Tryz.underlying104 hj hsh jex];simp only [Result.andThen];rw [Oper.upon_value];go_wp2_with fail
  go_end0
  exact ⟨rfl,HB.out.used,Or.inr rfl⟩
 ·go_enter Tryz.func77,Tryz.ntmps77
  go_wp2_with fail
  rw [Lib.run_neq_ptr_same w _ Tryz.underlying104 hj];go_wp2_with fail
  go_end0
  exact ⟨rfl,HB.out,Or.inl rfl⟩
structure BFr(b:Nat)(o:Option Nat)(w w':World):Prop where
 size:w.heap.size<=w'.heap.size
 block:∀ k,k<w.heap.size->k≠b->o≠some k->w'.heap[k]?=w.heap[k]?
 os:w'.os=w.os
 tape:w'.tape=w.tape
 output:w'.output=w.output
def WrE(B b:Nat)(v:Value)(l news:List Nat)(w:World)(e:Ending)(w':World):Prop:=
 ∃ v',e= .returned (.tuple #[.int .i64 news.length, .nilIface])∧BlI B b (.pointer (some ⟨b,0,none⟩)) v' (l++news) w'∧(v'.ownBlock=v.ownBlock∨v'.ownBlock=some w.heap.size)∧BFr b v.ownBlock w w'
theorem vt5{w:World}{g m:Nat}{news:List Nat}(h:w.rowIs g 5 m (fun j=> .int .u8 (news.getD j 0:Nat)))(hm:news.length=m):∀ j u,(keg news)[j]?=some u->w.cell? (Addr.add ⟨g,0,none⟩ j)=some u:=fun j u hu=>by
 have hj:j<m:=by have:=(List.getElem?_eq_some_iff.1 hu).1;simp [keg] at this;omega
 have e1:Addr.add ⟨g,0,none⟩ j=⟨g,j,none⟩:=by unfold Addr.add;by_cases hj0:j=0 <;> simp [hj0]
 rw [e1,h.cell hj];unfold keg at hu;rw [List.getElem?_map,List.getElem?_eq_getElem (by omega)] at hu;rw [← hu];simp [List.getD_eq_getElem?_getD,List.getElem?_eq_getElem (show j<news.length by omega)]
theorem x4f{B b:Nat}{p v:Value}{l news:List Nat}{w:World}{g m:Nat}(h:BlI B b p v l w)(hB:B<=w.heap.size)(hr:w.rowIs g 5 m (fun j=> .int .u8 (news.getD j 0:Nat)))(hm:news.length=m)(hgb:g≠b)(hlen:l.length+m<=10000000000000) :
  Calls Tryz.prog 51 #[.pointer (some ⟨b,0,none⟩), .slice (some ⟨g,0,none⟩) m m] w fun e w'=>WrE B b v l news w e w':=by
 have HB:Hid (BlI B b p v l w∧w.rowIs g 5 m (fun j=> .int .u8 (news.getD j 0:Nat))):=⟨h,hr⟩
 clear h hr;obtain ⟨i5,hi5,hx0,hx1,hx2⟩:=info_parts kh5;go_enter Tryz.func51,Tryz.ntmps51
 go_wp2_with fail
 refine (y1a HB.out.1).mono ?_;rintro e w1 ⟨rfl,I1,hw1⟩;have HF1:Hid (BFr b none w w1∧w1.rowIs g 5 m (fun j=> .int .u8 (news.getD j 0:Nat))∧w1.heap.size=w.heap.size):=by
  rcases hw1 with rfl | rfl
  ·exact ⟨⟨Nat.le_refl _,fun _ _ _ _=>rfl,rfl,rfl,rfl⟩,HB.out.2,rfl⟩
  ·exact ⟨⟨by simp,fun k _ hk _=>Below.heap_setCell _ _ _ _ hk,rfl,rfl,rfl⟩,HB.out.2.setOther (a:=⟨b,0,none⟩) hgb _,by simp⟩
 clear hw1;obtain ⟨v',w2,hrun,hown,hgrow,_,hat⟩:=run_append_own_at (P:=Tryz.prog) w1 B 34 34 5 i5 (.int .u8 0) 1 1 Tryz.underlying34 hi5 hx0 hx1 hx2 rfl (by decide) v l.length (keg l) I1.own ⟨g,0,none⟩ m m (keg news) (by simp [keg,hm]) (vt5 HF1.out.2.1 hm) (fun u hu=>by unfold keg at hu;obtain ⟨x,_,rfl⟩:=List.mem_map.1 hu;rfl) (by unfold maxLen;omega) (by omega) (by rw [HF1.out.2.2];exact hB);have c1:=I1.cell1;have hb1:=I1.lt;have hbk:w2.heap[b]?=w1.heap[b]?:=hgrow.block b hb1 (fun e=>I1.ne e.symm);have hI2:w2.rowIs b 106 2 (lrow [.pointer (some ⟨b,0,none⟩),v]):=I1.at_.of_block hbk;have hv'b:v'.ownBlock≠some b:=by
  rcases hat with e | e
  ·rw [e];exact I1.ne
  ·rw [e];intro e2;injection e2 with e2;omega
 have HN:Hid (BlI B b (.pointer (some ⟨b,0,none⟩)) v' (l++news) (w2.setCell ⟨b,1,none⟩ v')∧(v'.ownBlock=v.ownBlock∨v'.ownBlock=some w.heap.size)∧BFr b v.ownBlock w (w2.setCell ⟨b,1,none⟩ v')):=by
  refine ⟨⟨I1.le,ypd hI2 1 v' rfl,?_,hv'b,Or.inr rfl⟩,?_,?_⟩
  ·have e1:(l++news).length=l.length+m:=by rw [List.length_append,hm]
   rw [e1,show keg (l++news)=keg l++keg news by simp [keg]];exact kcz hown (R:=fun k=>k=b) (ρ:=fun k=>k) (Kp.of_set w2 ⟨b,1,none⟩ _ rfl) (fun g hg e=>hv'b (by rw [hg];exact congrArg some e))
  ·rw [← HF1.out.2.2];exact hat
  ·refine ⟨by rw [← HF1.out.2.2];simpa using hgrow.size,fun k hk hkb hkv=>?_,hgrow.os.trans HF1.out.1.os,hgrow.tape.trans HF1.out.1.tape,hgrow.output.trans HF1.out.1.output⟩;rw [Below.heap_setCell _ _ _ _ hkb,hgrow.block k (by rw [HF1.out.2.2];exact hk) (Ne.symm hkv)];exact HF1.out.1.block k hk hkb (by simp)
 have d1:w2.cell? ⟨b,1,none⟩=some v:=hI2.cell (i:=1) (by omega);have z1:w2.frozen? ⟨b,1,none⟩=false:=hI2.frozen 1;obtain ⟨ao,n',cap',rfl⟩:∃ ao n' cap,v'= .slice ao n' cap:=by
  rcases hown.2 with ⟨hv,_⟩ | ⟨g,cap,cur,hv,_⟩
  ·exact ⟨_,_,_,hv⟩
  ·exact ⟨_,_,_,hv⟩
 clear hI2 hbk I1 hat hgrow hown hv'b;go_wp2_with (at_builtin;refine Lib.wpList_append_run w1 rfl _ _ 34 34 rfl _ _ rfl rfl _ w2 hrun ?_)
 go_ret2
 exact ⟨_,by rw [hm];rfl,HN.out⟩
theorem zz2(l:List Nat):xu6 l=⟨(l.map UInt8.ofNat).toArray⟩:=by
 unfold xu6 strOfNums;simp [Function.comp_def]
theorem xcv{l:List Nat}(h:∀ x∈l,x<256):keg l=Lib.byteCells (l.map UInt8.ofNat):=by
 unfold keg Lib.byteCells;rw [List.map_map];apply List.map_congr_left;intro x hx;have:=h x hx;simp;omega
theorem vfo{B b:Nat}{p v:Value}{l:List Nat}{w:World}(h:BlI B b p v l w)(hB:B<=w.heap.size)(hl:∀ x∈l,x<256) :
  Calls Tryz.prog 54 #[.pointer (some ⟨b,0,none⟩)] w fun e w'=>e= .returned (.string (xu6 l))∧Below B w w':=by
 have mixed:Tryz.prog.follows Departure.mixedOrders=true:=by kernel_rfl
 have HB:Hid (BlI B b p v l w):=h;have c1:w.drew.cell? ⟨b,1,none⟩=some v:=h.cell1;have hown:=h.own;clear h;rcases hown.2 with ⟨rfl,h0⟩ | ⟨g,cap,cur,rfl,hbg,hg,hnc,hcm,hcs,htake⟩
 ·have hl0:l=[]:=List.eq_nil_of_length_eq_zero h0;subst hl0;have hSD:(Builtin.unsafeSliceData_ #[34] 165 #[.slice none 0 0]).run Tryz.prog w.drew= .ok (.pointer none) w.drew:=rfl;have hUS:=fun W=>Lib.run_unsafeString_none (P:=Tryz.prog) W 165 3 9 none
  clear hown;go_enter Tryz.func54,Tryz.ntmps54
  go_wp2_with fail
  go_region_o
  all_goals
   go_wp2_with fail
   go_ret
   exact ⟨rfl,Below.drew (Below.refl B w)⟩
 ·by_cases h0:l=[]
  ·subst h0;simp only [List.length_nil] at c1 HB hnc;by_cases hc0:cap=0
   ·subst hc0;have hg':w.drew.heap[g]?=some (.cells cur 5 (0,0)):=hg;have hSD:=Lib.run_unsafeSliceData_zero (P:=Tryz.prog) w.drew #[34] 165 5 Tryz.underlying165 ⟨g,0,none⟩ 0 (5,cur.size) (by simp [World.shape?,hg']);have hUS:=fun W=>Lib.run_unsafeString_none (P:=Tryz.prog) W 165 3 9 (some ⟨w.heap.size,0,none⟩)
    have hbl:=HB.out.lt;have c1w:w.cell? ⟨b,1,none⟩=some (.slice (some ⟨g,0,none⟩) 0 0):=HB.out.cell1;have c1':∀ o,(w.drew.alloc o).cell? ⟨b,1,none⟩=some (.slice (some ⟨g,0,none⟩) 0 0):=fun o=>by rw [xi1 (show b<w.drew.heap.size from hbl)];exact c1
    clear hown hg hg' htake hcs;go_enter Tryz.func54,Tryz.ntmps54
    go_wp2_with fail
    go_region_o
    all_goals
     go_wp2_with fail
     go_ret
     exact ⟨rfl,(Below.drew (Below.refl B w)).alloc hB _⟩
   ·have hSD:=Lib.run_unsafeSliceData_row (P:=Tryz.prog) w.drew #[34] 165 ⟨g,0,none⟩ 0 cap hc0;have hUS:=fun W=>Lib.run_unsafeString_none (P:=Tryz.prog) W 165 3 9 (some ⟨g,0,none⟩)
    clear hown hg htake hcs;go_enter Tryz.func54,Tryz.ntmps54
    go_wp2_with fail
    go_region_o
    all_goals
     go_wp2_with fail
     go_ret
     exact ⟨rfl,Below.drew (Below.refl B w)⟩
  ·have hll:l.length≠0:=by simpa using h0
   obtain ⟨lu,hlu⟩:∃ lu,lu=l.map UInt8.ofNat:=⟨_,rfl⟩
   have hlul:lu.length=l.length:=by rw [hlu];simp
   have hlu0:lu≠[]:=by intro e;rw [e] at hlul;simp at hlul;omega
   have hcells:∀ j x,lu[j]?=some x->w.drew.cell? (Addr.add ⟨g,0,none⟩ j)=some (.int .u8 x.toNat):=fun j x hx=>by
    refine hown.cells (g:=g) rfl j (.int .u8 x.toNat) ?_;rw [xcv hl,← hlu];simp [Lib.byteCells,hx]
   have hg':w.drew.heap[g]?=some (.cells cur 5 (0,0)):=hg;have hSD:=Lib.run_unsafeSliceData_row (P:=Tryz.prog) w.drew #[34] 165 ⟨g,0,none⟩ l.length cap (by omega);have hUS:=Lib.run_unsafeString_row (P:=Tryz.prog) w.drew 165 3 9 5 Tryz.underlying165 yuq g cur.size (by simp [World.shape?,hg']) lu hlu0 (by omega) (by unfold maxLen at hcm;omega) hcells;rw [hlul] at hUS;have HL:Hid (xu6 l=⟨lu.toArray⟩):=by show _=_;rw [zz2,hlu]
   generalize l.length=n at *;clear hown hg hg' htake hcs hcells hlu;go_enter Tryz.func54,Tryz.ntmps54
   go_wp2_with fail
   go_region_o
   all_goals
    go_wp2_with fail
    go_ret
    exact ⟨by rw [HL.out];rfl,Lib.below_freeze (Below.drew (Below.refl B w)) (p:=⟨g,0,none⟩) hbg _⟩
def MS.verdict(x:MS):Nat:=if x.er=0∧x.st≠24 then 15 else x.er
theorem z9n{ρ:Nat->Nat}{w:World}{p:Nat}{x:MS}(h:MM ρ w p x):Calls Tryz.prog 53 #[.pointer (some ⟨p,0,none⟩)] w fun e w'=>e= .returned (.int .i64 x.verdict)∧w'=w:=by
 have c7:=h.cell7.1;obtain ⟨L,B,_⟩:=h;have c8:w.cell? ⟨p,8,none⟩=some (.int .i64 x.er):=B.row.cell (i:=8) (by omega);clear B;unfold MS.verdict;by_cases h0:x.er=0
 ·by_cases h1:x.st=24
  ·rw [if_neg (fun h=>h.2 h1),h0];rw [h0] at c8;rw [h1] at c7;go_enter Tryz.func53,Tryz.ntmps53
   go_wp2_with fail
   go_ret
   exact ⟨rfl,rfl⟩
  ·rw [if_pos ⟨h0,h1⟩];rw [h0] at c8;have h1i:¬ (x.st:Int)=24:=by omega
   go_enter Tryz.func53,Tryz.ntmps53
   go_wp2_with fail
   go_ret
   exact ⟨rfl,rfl⟩
 ·rw [if_neg (fun h=>h0 h.1)];have h0i:¬ (x.er:Int)=0:=by omega
  go_enter Tryz.func53,Tryz.ntmps53
  go_wp2_with fail
  go_ret
  exact ⟨rfl,rfl⟩
theorem MQ.taken{ρ:Nat->Nat}{w:World}{p:Nat}{x:MS}(h:MQ ρ w p x)(most:Nat)(hm:most<=1000000):∃ r,w.cell? ⟨p,16,none⟩=some (.pointer (some ⟨r,0,none⟩))∧Calls Tryz.prog 52 #[.pointer (some ⟨r,0,none⟩), .int .i64 most] w fun e w'=>
  ∃ g,e= .returned (.slice (some ⟨g,0,none⟩) (min most x.qa.length) (min most x.qa.length))∧w.heap.size<=g∧w'.rowIs g 5 (min most x.qa.length) (fun j=> .int .u8 (x.qa.getD j 0:Nat))∧MQ ρ w' p { x with qa:=x.qa.drop (min most x.qa.length) }∧Fr mine ρ w w':=by
 obtain ⟨L,B,T,h1,h2⟩:=h;obtain ⟨o,f,k⟩:=B.ra;obtain ⟨r1,r2,_,_⟩:=B.rl;refine ⟨L.a,B.row.cell (i:=16) (by omega),(vv3 most k (T.lt _ (by rw [r2];decide)) hm).mono ?_⟩;rintro e w' ⟨g,rfl,hg,hrow,hI,hT⟩;have F:=Fr.five hT r1 r2 (by decide) (by decide);exact ⟨g,rfl,hg,hrow,⟨L,B.ringA hI hT,(T.fr5 F).same rfl rfl rfl rfl ⟨rfl,rfl⟩,h1,h2⟩,F.five_mine⟩
namespace St
def re(σ:St)(M L:Nat):St:={ σ with mem:=M,lim:=L }
structure Eff(σ σ':St):Prop where
 cnt:σ'.count<=σ.count
 hm:8*σ'.hmany+σ'.count<=8*σ.hmany+σ.count
 bg:σ.st≠23->σ'.begun=σ.begun∧σ'.st≠0∧(σ.st=0->σ'.count+8<=σ.count)
 bg2:σ.st=23->σ'.begun=σ.begun+1∧σ.fmt=2∧σ'.st=0∧σ'.count=σ.count
 fm:σ'.fmt=σ.fmt
end St
def Act.re(A:Act)(M L:Nat):Act:=
 match A with
 | .take=> .take
 | .put b σ=> .put b (σ.re M L)
 | .tau σ=> .tau (σ.re M L)
 | .fail e=> .fail e
namespace St
theorem eff_tau{σ σ':St}(W:Wf σ)(ha:σ.act= .tau σ'):Eff σ σ':=by
 rcases cases24 W.st with h | h | h | h | h | h | h | h | h | h | h | h | h | h | h | h | h | h | h | h | h | h | h | h
 all_goals
  rw [act_at h] at ha;simp only [actAt,need,headByte,text,kind,endBlock,rowNumber,endRow,symbol,literal] at ha;(repeat' split at ha)
  all_goals first
   | (cases ha;done)
   | (injection ha with ha;subst ha;exact ⟨by simp [crown,rd] <;> omega,by simp [crown,rd] <;> omega,fun h23=>by first | (exfalso;exact h23 h) | exact ⟨rfl,by simp [crown,rd,h] <;> (try split) <;> omega,fun h0=>by simp [crown,rd] <;> omega⟩,fun h23=>by first | (exfalso;omega) | exact ⟨rfl,by omega,rfl,rfl⟩,rfl⟩)
theorem eff_put{σ σ':St}{b:Nat}(W:Wf σ)(ha:σ.act= .put b σ'):Eff σ σ':=by
 rcases cases24 W.st with h | h | h | h | h | h | h | h | h | h | h | h | h | h | h | h | h | h | h | h | h | h | h | h
 all_goals
  rw [act_at h] at ha;simp only [actAt,need,headByte,text,kind,endBlock,rowNumber,endRow,symbol,literal] at ha;(repeat' split at ha)
  all_goals first
   | (cases ha;done)
   | (injection ha with _ ha;subst ha;exact ⟨by simp [crown,rd] <;> omega,by simp [crown,rd] <;> omega,fun h23=>⟨rfl,by simp [crown,rd,h],fun h0=>by omega⟩,fun h23=>by omega,rfl⟩)
theorem re_if{M L:Nat}{c c':Prop}[Decidable c][Decidable c']{A B A' B':Act}(hc:c'↔c)(ha:A'=A.re M L)(hb:B'=B.re M L):(if c' then A' else B')=(if c then A else B).re M L:=by
 by_cases h:c
 ·rw [if_pos h,if_pos (hc.2 h)];exact ha
 ·rw [if_neg h,if_neg (fun x=>h (hc.1 x))];exact hb
theorem re_need{M L:Nat}{σ:St}{k:Nat}{A A':Act}(h:A'=A.re M L):(σ.re M L).need k A'=(σ.need k A).re M L:=re_if Iff.rfl rfl h
theorem re_headByte{M L:Nat}{σ:St}{a b:Nat}(h:L<=σ.hmany↔σ.lim<=σ.hmany):(σ.re M L).headByte a b=(σ.headByte a b).re M L:=re_if h rfl (re_if Iff.rfl rfl rfl)
theorem re_text{M L:Nat}{σ:St}{a:Nat}(h:L<=σ.hmany↔σ.lim<=σ.hmany):(σ.re M L).text a=(σ.text a).re M L:=re_if h rfl rfl
theorem re_endBlock{M L:Nat}{σ:St}:(σ.re M L).endBlock=σ.endBlock.re M L:=re_if Iff.rfl (re_if Iff.rfl rfl rfl) rfl
theorem re_kind{M L:Nat}{σ:St}:(σ.re M L).kind=σ.kind.re M L:=re_if Iff.rfl (re_if Iff.rfl rfl rfl) (re_if Iff.rfl rfl (re_if Iff.rfl rfl rfl))
theorem re_endRow{M L:Nat}{σ:St}:(σ.re M L).endRow=σ.endRow.re M L:=re_if Iff.rfl rfl rfl
theorem re_rowNumber{M L:Nat}{σ:St}:(σ.re M L).rowNumber=σ.rowNumber.re M L:=re_if Iff.rfl rfl (re_if Iff.rfl rfl (re_if Iff.rfl (re_endRow (σ:={ σ.rd (hbits σ.hk) with row:=σ.row++List.replicate (hleast σ.hk+σ.num (hbits σ.hk)) (hval σ.hk σ.row),st:=13 }) (M:=M) (L:=L)) rfl))
theorem re_literal{M L:Nat}{σ:St}{k:Nat}:(σ.re M L).literal k=(σ.literal k).re M L:=by
 unfold literal;by_cases h1:k<256
 ·rw [if_pos h1,if_pos h1];rfl
 ·rw [if_neg h1,if_neg h1];by_cases h2:k=256
  ·rw [if_pos h2,if_pos h2];exact re_endBlock
  ·rw [if_neg h2,if_neg h2];rfl
theorem re_symbol{M L:Nat}{σ:St}{l:List Int}{f f':St->Nat->Act}(h:∀ τ k,f' (St.re τ M L) k=(f τ k).re M L):(σ.re M L).symbol l f'=(σ.symbol l f).re M L:=by
 show (match jcs l σ.held σ.count with | .hit k m=>f' ((σ.rd m).re M L) k | .more=>Act.take | .none=> .fail 11)=(match jcs l σ.held σ.count with | .hit k m=>f (σ.rd m) k | .more=>Act.take | .none=> .fail 11).re M L;cases jcs l σ.held σ.count with
 | hit k m=>exact h _ _
 | more=>rfl
 | none=>rfl
theorem act_re{σ:St}(W:Wf σ){M L:Nat}(h1:¬ σ.lim<=σ.hmany)(h1':¬ L<=σ.hmany)(h2:¬ σ.mem<=σ.begun)(h2':¬ M<=σ.begun):(σ.re M L).act=σ.act.re M L:=by
 have hL:L<=σ.hmany↔σ.lim<=σ.hmany:=⟨fun h=>absurd h h1',fun h=>absurd h h1⟩
 have hM:M<=σ.begun↔σ.mem<=σ.begun:=⟨fun h=>absurd h h2',fun h=>absurd h h2⟩
 rcases cases24 W.st with h | h | h | h | h | h | h | h | h | h | h | h | h | h | h | h | h | h | h | h | h | h | h | h
 ·rw [act_at h,act_at (show (σ.re M L).st=0 from h)];exact re_need (re_headByte hL)
 ·rw [act_at h,act_at (show (σ.re M L).st=1 from h)];exact re_need (re_headByte hL)
 ·rw [act_at h,act_at (show (σ.re M L).st=2 from h)];exact re_if Iff.rfl (re_need (re_if hL rfl (re_if Iff.rfl rfl rfl))) rfl
 ·rw [act_at h,act_at (show (σ.re M L).st=3 from h)];exact re_if Iff.rfl (re_need (re_text hL)) rfl
 ·rw [act_at h,act_at (show (σ.re M L).st=4 from h)];exact re_if Iff.rfl (re_need (re_text hL)) rfl
 ·rw [act_at h,act_at (show (σ.re M L).st=5 from h)];exact re_if Iff.rfl (re_need (re_headByte hL)) rfl
 ·rw [act_at h,act_at (show (σ.re M L).st=6 from h)];exact re_need re_kind
 ·rw [act_at h,act_at (show (σ.re M L).st=7 from h)];exact re_need (re_if Iff.rfl rfl rfl)
 ·rw [act_at h,act_at (show (σ.re M L).st=8 from h)];exact re_if Iff.rfl re_endBlock (re_need rfl)
 ·rw [act_at h,act_at (show (σ.re M L).st=9 from h)];exact re_need (re_if Iff.rfl rfl rfl)
 ·rw [act_at h,act_at (show (σ.re M L).st=10 from h)];exact re_need rfl
 ·rw [act_at h,act_at (show (σ.re M L).st=11 from h)];exact re_need (re_if Iff.rfl rfl rfl)
 ·rw [act_at h,act_at (show (σ.re M L).st=12 from h)];exact re_if Iff.rfl (re_need rfl) (re_if Iff.rfl rfl rfl)
 ·rw [act_at h,act_at (show (σ.re M L).st=13 from h)];show (σ.re M L).symbol σ.hs (fun τ k=> .tau { τ with hk:=k,st:=14 })=(σ.symbol σ.hs (fun τ k=> .tau { τ with hk:=k,st:=14 })).re M L;refine re_symbol ?_;intro τ k;rfl
 ·rw [act_at h,act_at (show (σ.re M L).st=14 from h)];exact re_need re_rowNumber
 ·rw [act_at h,act_at (show (σ.re M L).st=15 from h)];exact rfl
 ·rw [act_at h,act_at (show (σ.re M L).st=16 from h)];refine re_symbol ?_;intro τ k;exact re_literal
 ·rw [act_at h,act_at (show (σ.re M L).st=17 from h)];exact re_need rfl
 ·rw [act_at h,act_at (show (σ.re M L).st=18 from h)];show (σ.re M L).symbol σ.lb (fun τ k=> .tau { τ with least:=Tr.spanLeast 1 k,bits:=Tr.spanBits k,st:=19 })=(σ.symbol σ.lb (fun τ k=> .tau { τ with least:=Tr.spanLeast 1 k,bits:=Tr.spanBits k,st:=19 })).re M L;refine re_symbol ?_;intro τ k;rfl
 ·rw [act_at h,act_at (show (σ.re M L).st=19 from h)];exact re_need (re_if Iff.rfl rfl rfl)
 ·rw [act_at h,act_at (show (σ.re M L).st=20 from h)];exact re_if Iff.rfl rfl rfl
 ·rw [act_at h,act_at (show (σ.re M L).st=21 from h)];exact re_if Iff.rfl rfl (re_need (re_if Iff.rfl rfl rfl))
 ·rw [act_at h,act_at (show (σ.re M L).st=22 from h)];exact re_if Iff.rfl (re_need (re_if Iff.rfl rfl rfl)) rfl
 ·rw [act_at h,act_at (show (σ.re M L).st=23 from h)];exact re_need (re_if Iff.rfl rfl (re_if hM rfl rfl))
structure Cnt(c:Cf):Prop where
 hm:8*c.σ.hmany+c.σ.count<=8*c.pre.length
 bg:8*c.σ.begun+c.σ.count<=8*c.pre.length+8∨(c.σ.fmt≠2∧c.σ.begun=1)
 bg2:c.σ.st≠0->c.σ.fmt=2->8*c.σ.begun+c.σ.count<=8*c.pre.length
end St
theorem Cnt.begin(fm mem lim:Nat):St.Cnt (Cf.begin fm mem lim):=by
 refine ⟨by show 8*0+0<=8*0;omega,Or.inl (by show 8*1+0<=8*0+8;omega),fun h h2=>?_⟩;exfalso
 have h2':fm=2:=h2;apply h;show (if fm=0 then 6 else 0)=0;rw [if_neg (by omega)]
theorem Cnt.step{q:Quo}{D:Nat}{s:ByteArray}{c c':Cf}(W:St.Wf c.σ)(h:St.Cnt c)(st:j3w q D s c c'):St.Cnt c':=by
 obtain ⟨a1,a2,a3⟩:=h;have key:∀ σ',St.Eff c.σ σ'->(8*σ'.hmany+σ'.count<=8*c.pre.length)∧(8*σ'.begun+σ'.count<=8*c.pre.length+8∨(σ'.fmt≠2∧σ'.begun=1))∧(σ'.st≠0->σ'.fmt=2->8*σ'.begun+σ'.count<=8*c.pre.length):=fun σ' E=>by
  obtain ⟨e1,e2,e3,e4,e5⟩:=E;refine ⟨by omega,?_,fun g1 g2=>?_⟩
  ·by_cases h23:c.σ.st=23
   ·obtain ⟨f1,f2,f3,f4⟩:=e4 h23;have:=a3 (by omega) f2;left;omega
   ·obtain ⟨f1,f2,f3⟩:=e3 h23;rcases a2 with a2 | ⟨a2,a2'⟩
    ·left;omega
    ·right;exact ⟨by rw [e5];exact a2,by omega⟩
  ·by_cases h23:c.σ.st=23
   ·exact absurd (e4 h23).2.2.1 g1
   ·obtain ⟨f1,f2,f3⟩:=e3 h23;by_cases h0:c.σ.st=0
    ·have:=f3 h0;rcases a2 with a2 | ⟨a2,_⟩
     ·omega
     ·exact absurd (e5.symm.trans g2) a2
    ·have:=a3 h0 (by rw [← e5];exact g2);omega
 cases st with
 | take h1 h2 h3=>
  refine ⟨?_,?_,fun g1 g2=>?_⟩
  ·show 8*c.σ.hmany+(c.σ.count+8)<=8*(c.pre++[_]).length;rw [List.length_append,List.length_singleton];omega
  ·show 8*c.σ.begun+(c.σ.count+8)<=8*(c.pre++[_]).length+8∨(c.σ.fmt≠2∧c.σ.begun=1);rw [List.length_append,List.length_singleton];rcases a2 with a2 | a2
   ·left;omega
   ·right;exact a2
  ·show 8*c.σ.begun+(c.σ.count+8)<=8*(c.pre++[_]).length;rw [List.length_append,List.length_singleton];have:=a3 g1 g2;omega
 | put b σ' h1 h2 h3=>obtain ⟨k1,k2,k3⟩:=key σ' (St.eff_put W h1);exact ⟨k1,k2,k3⟩
 | tau σ' h1=>obtain ⟨k1,k2,k3⟩:=key σ' (St.eff_tau W h1);exact ⟨k1,k2,k3⟩
def Cf.re(c:Cf)(M L:Nat):Cf:={ c with σ:=c.σ.re M L }
structure Far(s:ByteArray)(c:Cf)(M L:Nat):Prop where
 m:s.size+1<c.σ.mem∧s.size+1<M
 l:s.size<c.σ.lim∧s.size<L
theorem Cnt.act_re{s:ByteArray}{c:Cf}{M L:Nat}(W:St.Wf c.σ)(h:St.Cnt c)(hl:c.pre.length<=s.size)(F:Far s c M L):(c.σ.re M L).act=c.σ.act.re M L:=by
 have h1:=h.hm;have h2:=h.bg;obtain ⟨f1,f2⟩:=F;refine St.act_re W (by omega) (by omega) ?_ ?_
 ·rcases h2 with h2 | h2 <;> omega
 ·rcases h2 with h2 | h2 <;> omega
theorem v44.re{q:Quo}{D:Nat}{s:ByteArray}{a b:Cf}{M L:Nat}(h:v44 q D s a b):St.Wf a.σ->St.Cnt a->a.pre.length<=s.size->Far s a M L->v44 q D s (a.re M L) (b.re M L)∧St.Cnt b∧b.pre.length<=s.size∧Far s b M L∧St.Wf b.σ:=by
 induction h with
 | refl c=>exact fun W C hl F=>⟨.refl _,C,hl,F,W⟩
 | step a b c h1 _ ih=>
  intro W C hl F;have N:=St.next W;have ha:=Cnt.act_re W C hl F;have C1:=Cnt.step W C h1;have key:j3w q D s (a.re M L) (b.re M L)∧St.Wf b.σ∧b.pre.length<=s.size∧b.σ.mem=a.σ.mem∧b.σ.lim=a.σ.lim:=by
   cases h1 with
   | take g1 g2 g3=>
    rw [g1] at ha N;refine ⟨j3w.take (a.re M L) ha g2 g3,N _ (z5g _ _),?_,rfl,rfl⟩;show (a.pre++[_]).length<=s.size;rw [List.length_append,List.length_singleton];omega
   | put y σ' g1 g2 g3=>
    rw [g1] at ha N;exact ⟨j3w.put (a.re M L) y (σ'.re M L) ha g2 g3,N.1,hl,N.2.2.2.2.1,N.2.2.2.2.2⟩
   | tau σ' g1=>
    rw [g1] at ha N;exact ⟨j3w.tau (a.re M L) (σ'.re M L) ha,N.1,hl,N.2.2.2.1,N.2.2.2.2.1⟩
  obtain ⟨k1,k2,k3,k4,k5⟩:=key;obtain ⟨i1,i2⟩:=ih k2 C1 k3 ⟨by rw [k4];exact F.m,by rw [k5];exact F.l⟩;exact ⟨.step _ _ _ k1 i1,i2⟩
theorem Sm.drain{q:Quo}{D:Nat}{s:ByteArray}{x:MS}{c:Cf}(h:Sm q D s x c)(k:Nat)(hk:D+k<=c.outs.length):Sm q (D+k) s { x with qa:=x.qa.drop k } c:=
 { h with
  qa:=by show x.qa.drop k=c.outs.drop (D+k);rw [h.qa,List.drop_drop]
  dle:=⟨hk,by have:=h.dle.2;omega⟩ }
theorem yvw.drain{q:Quo}{D:Nat}{s:ByteArray}{x:MS}{c:Cf}(h:yvw q D s x c)(k:Nat)(hk:D+k<=c.outs.length):yvw q (D+k) s { x with qa:=x.qa.drop k } c:=by
 cases h with
 | run h=>exact .run ⟨h.sm.drain k hk,h.st,h.mb,h.pre⟩
 | fresh h a b e=>exact .fresh (h.drain k hk) a b e
 | between h a b e f g i=>exact .between (h.drain k hk) a b e f g i
theorem Sm.feed{q:Quo}{D:Nat}{s:ByteArray}{x:MS}{c:Cf}(h:Sm q D s x c)(s':ByteArray)(hs:c.pre.length<=s'.size):Sm q D s' { x with rest:=jlo s' c.pre.length } c:=
 { h with
  rest:=rfl
  le:=hs }
theorem yvw.feed{q:Quo}{D:Nat}{s:ByteArray}{x:MS}{c:Cf}(h:yvw q D s x c)(s':ByteArray)(hs:c.pre.length<=s'.size):yvw q D s' { x with rest:=jlo s' c.pre.length } c:=by
 cases h with
 | run h=>exact .run ⟨h.sm.feed s' hs,h.st,h.mb,h.pre⟩
 | fresh h a b e=>exact .fresh (h.feed s' hs) a b e
 | between h a b e f g i=>exact .between (h.feed s' hs) a b e f g i
theorem yvw.first{q:Quo}{fm mem lim:Nat}(hfm:fm<3)(hm:1<=mem)(s:ByteArray):yvw q 0 s { MS.fresh fm q.out q.ratio q.slack mem lim q.steps with rest:=jlo s 0 } (Cf.begin fm mem lim):=by
 refine .fresh ?_ rfl rfl rfl;have hst:(Cf.begin fm mem lim).σ.st=if fm=0 then 6 else 0:=rfl;have h14:¬ 10<=(Cf.begin fm mem lim).σ.st:=by rw [hst];split <;> omega
 exact {
   wf:=St.begin_wf hfm
   fm:=rfl
   me:=rfl
   he:=rfl
   ou:=rfl
   ra:=rfl
   sl:=rfl
   sp:=rfl
   er:=rfl
   tk:=rfl
   pu:=rfl
   rest:=rfl
   le:=Nat.zero_le _
   held:=rfl
   count:=rfl
   qa:=rfl
   dle:=⟨Nat.zero_le _,Nat.zero_le _⟩
   qc:=by show ([]:List Nat)=List.drop _ [];rw [List.drop_nil]
   marks:=rfl
   head:=⟨rfl,Nat.zero_le _⟩
   hsum:=rfl
   sum:=fun h=>absurd rfl h
   sumle:=⟨Nat.zero_le _,Nat.zero_le _⟩
   stp:=Nat.zero_le _
   size:=rfl
   last:=rfl
   left:=rfl
   nl:=fun h=>absurd h.1 h14
   nd:=fun h=>absurd (Nat.le_trans (by decide) h.1) h14
   told:=fun h=>absurd (Nat.le_trans (by decide) h.1) h14
   hl:=rfl
   row:=rfl
   hs:=fun h=>absurd (Nat.le_trans (by decide) h.1) h14
   hk:=fun h=>absurd (by rw [h];decide) h14
   la:=fun h=>absurd (Nat.le_trans (by decide) h.1) h14
   lit:=rfl
   span:=⟨rfl,rfl⟩
   dist:=rfl
   mb:=⟨rfl,hm⟩ }
theorem j3w.outMu{q:Quo}{D:Nat}{s:ByteArray}{a b:Cf}(W:St.Wf a.σ)(h:j3w q D s a b):b.outs.length+muC s b<=a.outs.length+muC s a:=by
 have m:=(h.mu W).2;cases h with
 | take h1 h2 h3=>show a.outs.length+_<=_;omega
 | put y σ' h1 h2 h3=>
  show (a.outs++[y]).length+_<=_;rw [List.length_append,List.length_singleton];omega
 | tau σ' h1=>show a.outs.length+_<=_;omega
theorem v44.outMu{q:Quo}{D:Nat}{s:ByteArray}{a b:Cf}(h:v44 q D s a b):St.Wf a.σ->b.outs.length+muC s b<=a.outs.length+muC s a:=by
 induction h with
 | refl=>exact fun _=>Nat.le_refl _
 | step a b c h1 _ ih=>
  intro W;have:=h1.outMu W;have:=ih (h1.mu W).1;omega
theorem v44.bytes{q:Quo}{D:Nat}{s:ByteArray}{a b:Cf}(h:v44 q D s a b):St.Wf a.σ->(∀ y∈a.outs,y<256)->∀ y∈b.outs,y<256:=by
 induction h with
 | refl=>exact fun _ h=>h
 | step a b c h1 _ ih=>
  intro W hb;refine ih (h1.mu W).1 ?_;cases h1 with
  | take=>exact hb
  | put z σ' g1 g2 g3=>
   have N:=St.next W;rw [g1] at N;intro y hy;rcases List.mem_append.1 hy with hy | hy
   ·exact hb y hy
   ·rw [List.mem_singleton.1 hy];exact N.2.1
  | tau=>exact hb
inductive x0d(s:ByteArray):Nat->MS->List Nat->ByteArray×Nat->Prop
 | go (k n:Nat) (x:MS) (l:List Nat) (r:MS×Nat) (res:ByteArray×Nat):x.tk<=s.size->vgc n { x with rest:=jlo s x.tk } r->r.2=2->r.1.qa.length<=64->(∀ y∈l++r.1.qa,y<256)->l.length+64<=10000000000000->x0d s k { r.1 with rest:=[],qa:=[] } (l++r.1.qa) res->x0d s (k+1) x l res
 | stop (n:Nat) (x:MS) (l:List Nat) (r:MS×Nat):x.tk<=s.size->vgc n { x with rest:=jlo s x.tk } r->r.2≠2->r.1.qa.length<=64->(∀ y∈l++r.1.qa,y<256)->l.length+64<=10000000000000->x0d s 0 x l (if MS.verdict r.1≠0 then (⟨#[]⟩,MS.verdict r.1) else (xu6 (l++r.1.qa),0))
def kor:Quo:=⟨9223372036854775807,0,9223372036854775807,9223372036854775807⟩
theorem x3k:Lim kor 9223372036854775807 9223372036854775807:=⟨Nat.le_refl _,by show 0*9223372036854775807+9223372036854775807<=9223372036854775807;omega,Nat.le_refl _,Nat.le_refl _,Nat.le_refl _⟩
theorem Halt.cases{q:Quo}{D:Nat}{s:ByteArray}{c:Cf}{e:Nat}(h:Halt q D s false c e none):(e=0)∨(q.steps<=c.pre.length+c.outs.length)∨(∃ b σ',c.σ.act= .put b σ'∧vcn q c.pre.length c.outs.length=e∧e≠0)∨c.σ.act= .fail e:=by
 generalize hn:(none:Option Bool)=a at h;cases h with
 | hungry h1 h2=>left;rw [if_neg (fun h=>by cases h.1)]
 | steps h1 h2 h3=>right;left;exact h3
 | full b σ' h1 h2=>left;rfl
 | quota b σ' h1 h2 h3=>right;right;left;exact ⟨b,σ',h1,rfl,h3⟩
 | fail _ h1=>right;right;right;exact h1
theorem zjb(s:ByteArray)(fm mem lim:Nat)(h:fm<3):muC s (Cf.begin fm mem lim)<=1000*s.size+100:=by
 have:=St.loc_lt (St.begin_wf (mem:=mem) (lim:=lim) h);unfold muC St.phi;show 1000*(s.size - 0)+(100*0+_)<=_;have e:(Cf.begin fm mem lim).σ=St.begin fm mem lim:=rfl;rw [e];omega
structure Came(fm:Nat)(s:ByteArray)(c:Cf):Prop where
 path:v44 kor c.outs.length s (Cf.begin fm 9223372036854775807 9223372036854775807) c
theorem Came.begin(fm:Nat)(s:ByteArray):Came fm s (Cf.begin fm 9223372036854775807 9223372036854775807):=⟨.refl _⟩
theorem Came.facts{fm:Nat}{s:ByteArray}{c:Cf}(h:Came fm s c)(hfm:fm<3)(hs:s.size<=1000000000) :
  zi6 fm 9223372036854775807 9223372036854775807 c∧zik c.pre s∧c.outs.length<=1000*s.size+100∧(∀ y∈c.outs,y<256)∧GI fm 1152921504606846976 1152921504606846976 (c.re 1152921504606846976 1152921504606846976)∧(c.σ.re 1152921504606846976 1152921504606846976).act=c.σ.act.re 1152921504606846976 1152921504606846976:=by
 obtain ⟨G,T⟩:=zi6.steps h.path (zi6.begin hfm (by decide)) (zik.nil s);have W0:=St.begin_wf (mem:=9223372036854775807) (lim:=9223372036854775807) hfm;have h1:=h.path.outMu W0;have h2:=zjb s fm 9223372036854775807 9223372036854775807 hfm;have h3:(Cf.begin fm 9223372036854775807 9223372036854775807).outs.length=0:=rfl;have R:=v44.re (M:=1152921504606846976) (L:=1152921504606846976) h.path W0 (Cnt.begin _ _ _) (Nat.zero_le _) ⟨⟨by show s.size+1<9223372036854775807;omega,by omega⟩,⟨by show s.size<9223372036854775807;omega,by omega⟩⟩;obtain ⟨R1,R2,R3,R4,R5⟩:=R;have G':=(zi6.steps R1 (zi6.begin (fm:=fm) (mem:=1152921504606846976) (lim:=1152921504606846976) hfm (by decide)) (zik.nil s)).1;exact ⟨G,T,by omega,h.path.bytes W0 (fun y hy=>by cases hy),G'.gi,Cnt.act_re R5 R2 R3 R4⟩
theorem Came.go{fm:Nat}{s:ByteArray}{c c':Cf}(h:Came fm s c)(hfm:fm<3)(st:v44 kor c.outs.length s c c'):Came fm s c':=by
 have T:=(zi6.steps (h.path.trans st) (zi6.begin hfm (by decide)) (zik.nil s)).2;obtain ⟨k,hk⟩:=st.grows.outs;exact ⟨(h.path.trans st).mono (by rw [hk,List.length_append];omega) T⟩
theorem vah{fm:Nat}{s:ByteArray}(h0:s.size=0):(Tr.readAll fm s).mean=(⟨#[]⟩,15):=by
 have hT:Tr.obs (Tr.readAll fm s)=⟨[],[],0,[],0,true⟩:=by
  unfold Tr.readAll Tr.read Tr.readRaw Tr.readShort Tr.readLong;simp only [if_pos h0];split
  ·rfl
  ·split <;> rfl
 rw [Tr.mean_obs hT,if_neg (by decide),if_pos rfl]
theorem xy1{fm:Nat}{s:ByteArray}{D:Nat}{x:MS}{c:Cf}(h:Came fm s c)(hfm:fm<3)(hs:s.size<=1000000000)(S:yvw kor D s x c)(ha:c.σ.act= .take)(hl:s.size<=c.pre.length) :
  (Tr.readAll fm s).mean=if MS.verdict x≠0 then (⟨#[]⟩,MS.verdict x) else (xu6 c.outs,0):=by
 obtain ⟨G,T,_,_,GI',hact⟩:=h.facts hfm hs;have hle:=S.sm.le;have her:=S.sm.er;have main:s.size≠0->(Tr.readAll fm s).mean=if c.σ.st<23 then (⟨#[]⟩,15) else (xu6 c.outs,0):=fun h0=>by
  have O:=GI'.hungry (show (c.σ.re _ _).act=_ by rw [hact,ha];rfl) h0 T (show s.size=c.pre.length by omega);unfold Tr.readAll;rw [Tr.mean_obs O,if_neg (by decide)];show (if decide (c.σ.st<23)=true then _ else (xu6 c.outs,0))=_;by_cases h1:c.σ.st<23
  ·rw [if_pos (by simpa using h1),if_pos h1]
  ·rw [if_neg (by simpa using h1),if_neg h1]
 cases S with
 | run N=>
  rw [main (by have:=N.pre;omega)];have hst:=N.st;have hw:=N.sm.wf.st;unfold MS.verdict;by_cases h1:c.σ.st<23
  ·rw [if_pos h1,if_pos (show x.er=0∧x.st≠24 from ⟨her,by omega⟩),if_pos (by decide)]
  ·rw [if_neg h1,if_neg (show ¬ (x.er=0∧x.st≠24) from fun h=>h.2 (by omega)),her,if_neg (by decide)]
 | fresh _ e1 _ e2=>
  have h0:c.pre.length=0:=by rw [e2];rfl
  rw [vah (by omega)];unfold MS.verdict;rw [if_pos (show x.er=0∧x.st≠24 from ⟨her,by omega⟩),if_pos (by decide)]
 | between _ _ _ h23 _ h8 _=>
  exfalso
  rw [St.act_at h23] at ha;simp only [St.actAt,St.need] at ha;rw [if_neg (by omega)] at ha;(repeat' split at ha) <;> cases ha
theorem k0m{fm:Nat}{s:ByteArray}{D:Nat}{x:MS}{c:Cf}{e:Nat}(h:Came fm s c)(hfm:fm<3)(hs:s.size<=1000000000)(S:Dead kor x c e)(hst:Stop kor D s c e)(l:List Nat) :
  (Tr.readAll fm s).mean=if MS.verdict x≠0 then (⟨#[]⟩,MS.verdict x) else (xu6 l,0):=by
 obtain ⟨G,T,ho,_,GI',hact⟩:=h.facts hfm hs;have hT:=T.len;have hv:MS.verdict x=e:=by unfold MS.verdict;rw [if_neg (fun h=>S.ne (S.er.symm.trans h.1)),S.er]
 have hf:c.σ.act= .fail e:=by
  rcases (hst false).cases with h1 | h1 | ⟨b,σ',h1,h2,h3⟩ | h1
  ·exact absurd h1 S.ne
  ·have h2:9223372036854775807<=c.pre.length+c.outs.length:=h1;omega
  ·exfalso
   apply h3;rw [← h2];unfold vcn;show (if 9223372036854775807<=c.pre.length+c.outs.length then 16 else if 9223372036854775807<=c.outs.length then 17 else if 0*c.pre.length+9223372036854775807<=c.outs.length then 18 else 0)=0;rw [if_neg (by omega),if_neg (by omega),if_neg (by omega)]
  ·exact h1
 have h0:s.size≠0:=fun h0=>by
  have hp:c.pre=[]:=List.length_eq_zero_iff.1 (by omega);have:=(G.fs.act hp).1;rw [hf] at this;cases this
 have O:=GI'.fail (e:=e) (show (c.σ.re _ _).act=_ by rw [hact,hf];rfl) h0 T;unfold Tr.readAll;rw [Tr.mean_obs O.1,hv];rw [if_pos S.ne,if_pos S.ne]
theorem y2i{fm:Nat}{s:ByteArray}(hfm:fm<3)(hs:s.size<=1000000000)(m:Nat):∀ {x:MS} {c:Cf},muC s c<=m->yvw kor c.outs.length s { x with rest:=jlo s x.tk } c->Came fm s c->∃ k,x0d s k x c.outs (Tr.readAll fm s).mean:=by
 induction m using Nat.strongRecOn with
 | _ m ih=>
  intro x c hm S C;obtain ⟨G,T,ho,hb,_,_⟩:=C.facts hfm hs;have htk:x.tk=c.pre.length:=S.sm.tk;have hle:c.pre.length<=s.size:=S.sm.le;obtain ⟨n,r,R,E⟩:=S.runs (by rw [G.gi.memE,G.gi.limE];exact x3k);cases E with
  | full c' b σ' h1 h2 h3 h4 h5=>
   have C':=C.go hfm h1;obtain ⟨k,hk⟩:=h1.grows.outs;have hq:r.1.qa=k:=by rw [h3.sm.qa,hk,List.drop_left]
   have hd:=h3.sm.dle;have hl:k.length<=64:=by rw [hk,List.length_append] at hd;omega
   have hmu:=h1.outMu S.sm.wf;obtain ⟨_,_,_,hb',_,_⟩:=C'.facts hfm hs;have S':yvw kor c'.outs.length s { ({ r.1 with rest:=[],qa:=[] }:MS) with rest:=jlo s ({ r.1 with rest:=[],qa:=[] }:MS).tk } c':=by
    have h6:=h3.drain k.length (by rw [hk,List.length_append];exact Nat.le_refl _);have e1:c.outs.length+k.length=c'.outs.length:=by rw [hk,List.length_append]
    rw [e1,hq,List.drop_length] at h6;have h7:=h6.feed s h3.sm.le;rw [← h3.sm.tk] at h7;exact h7
   obtain ⟨j,hj⟩:=ih (muC s c') (by omega) (Nat.le_refl _) S' C';rw [hk,← hq] at hj;refine ⟨j+1, .go j n x c.outs r _ (by omega) R h2 (by rw [hq];exact hl) ?_ (by omega) hj⟩;rw [hq,← hk];exact hb'
  | hungry c' h1 h2 h3 h4 h5=>
   have C':=C.go hfm h1;obtain ⟨k,hk⟩:=h1.grows.outs;have hq:r.1.qa=k:=by rw [h3.sm.qa,hk,List.drop_left]
   have hd:=h3.sm.dle;have hl:k.length<=64:=by rw [hk,List.length_append] at hd;omega
   obtain ⟨_,_,_,hb',_,_⟩:=C'.facts hfm hs;refine ⟨0,?_⟩;rw [xy1 C' hfm hs h3 h4 h5,hk,← hq];exact .stop n x c.outs r (by omega) R (by omega) (by rw [hq];exact hl) (by rw [hq,← hk];exact hb') (by omega)
  | dead c' e h1 h2 h3 h4=>
   have C':=C.go hfm h1;refine ⟨0,?_⟩;rw [k0m C' hfm hs h3 h4 (c.outs++r.1.qa)];exact .stop n x c.outs r (by omega) R (by omega) (by rw [h3.qa];decide) (by rw [h3.qa,List.append_nil];exact hb) (by omega)
theorem y1x{fm:Nat}{s:ByteArray}(hfm:fm<3)(hs:s.size<=1000000000):∃ k,x0d s k (MS.fresh fm 9223372036854775807 0 9223372036854775807 9223372036854775807 9223372036854775807 9223372036854775807) [] (Tr.readAll fm s).mean:=
 y2i hfm hs _ (Nat.le_refl _) (c:=Cf.begin fm 9223372036854775807 9223372036854775807) (yvw.first (q:=kor) (mem:=9223372036854775807) (lim:=9223372036854775807) hfm (by decide) s) (Came.begin fm s)
theorem MB.fr0{ρ:Nat->Nat}{w w':World}{p:Nat}{x:MS}{L:Lo}(h:MB ρ w p x L)(f:Kp (fun r=>r=0) ρ w w'):MB ρ w' p x L where
 row:=zlz h.row f (by rw [h.rp];decide)
 ra:=by obtain ⟨o,g,k⟩:=h.ra;obtain ⟨r1,r2,r3,r4⟩:=h.rl;exact ⟨o,g,k.kp f (by rw [r1];decide) (by rw [r2];decide)⟩
 rc:=by obtain ⟨o,g,k⟩:=h.rc;obtain ⟨r1,r2,r3,r4⟩:=h.rl;exact ⟨o,g,k.kp f (by rw [r3];decide) (by rw [r4];decide)⟩
 rp:=h.rp
 rl:=h.rl
theorem MQ.fr0{ρ:Nat->Nat}{w w':World}{p:Nat}{x:MS}(h:MQ ρ w p x)(f:Kp (fun r=>r=0) ρ w w'):MQ ρ w' p x:=by
 obtain ⟨L,h1,h2,h3⟩:=h;exact ⟨L,h1.fr0 f,h2.fr f (fun r e=>by omega),h3⟩
theorem MQ.lt{ρ:Nat->Nat}{w:World}{p:Nat}{x:MS}(h:MQ ρ w p x):(∀ k,ρ k≠0->k<w.heap.size)∧ρ p=1∧p<w.heap.size:=by
 obtain ⟨L,h1,h2,_⟩:=h;exact ⟨h2.lt,h1.rp,h1.row.lt⟩
theorem MQ.tk{ρ:Nat->Nat}{w:World}{p:Nat}{x:MS}(h:MQ ρ w p x):w.cell? ⟨p,9,none⟩=some (.int .i64 x.tk):=by
 obtain ⟨L,h1,_,_⟩:=h;exact h1.row.cell (i:=9) (by omega)
theorem BlI.kp{R:Nat->Prop}{ρ:Nat->Nat}{B b:Nat}{p v:Value}{l:List Nat}{w w':World}(h:BlI B b p v l w)(k:Kp R ρ w w')(h1:¬ R (ρ b))(h2:∀ g,v.ownBlock=some g->¬ R (ρ g)):BlI B b p v l w':=⟨h.le,zlz h.at_ k h1,kcz h.own k h2,h.ne,h.self⟩
theorem yqg{s:ByteArray}{i:Nat}(h:i<=s.size):strN (s.extract i s.size)=jlo s i:=by
 unfold strN jlo strN;rw [ByteArray.data_extract,Array.toList_extract,List.extract_eq_take_drop,List.map_take,List.map_drop];apply List.take_of_length_le;rw [List.length_drop,List.length_map];exact Nat.le_refl _
structure xpd(w0:World)(p b:Nat)(s:ByteArray)(res:ByteArray×Nat)(ρ:Nat->Nat)(x:MS)(pb vb:Value)(l:List Nat)(w:World):Prop where
 mq:MQ ρ w p x
 bl:BlI w0.heap.size b pb vb l w
 rb:ρ b=0
 rv:∀ g,vb.ownBlock=some g->ρ g=0
 nw:∀ k,ρ k≠0->w0.heap.size<=k
 bel:Below w0.heap.size w0 w
theorem xpd.below{w0:World}{p b:Nat}{s:ByteArray}{res:ByteArray×Nat}{ρ:Nat->Nat}{x:MS}{pb vb:Value}{l:List Nat}{w w':World}(h:xpd w0 p b s res ρ x pb vb l w)(f:Below w.heap.size w w'):xpd w0 p b s res ρ x pb vb l w':=⟨h.mq.below f,h.bl.kp (R:=fun _=>False) (ρ:=ρ) (Kp.of_below f) (fun e=>e) (fun _ _ e=>e),h.rb,h.rv,h.nw,h.bel.trans (f.mono h.bel.size)⟩
theorem x6r{w0 w w':World}{ρ:Nat->Nat}{R:Nat->Prop}(h:Below w0.heap.size w0 w)(f:Fr R ρ w w')(hR:¬ R 0)(hn:∀ k,ρ k≠0->w0.heap.size<=k):Below w0.heap.size w0 w':=by
 refine h.trans ⟨f.os,f.tape,f.output,f.kp.size,fun k hk=>?_⟩;refine f.kp.block k (Nat.lt_of_lt_of_le hk h.size) ?_;have e:ρ k=0:=Classical.byContradiction fun hc=>by have:=hn k hc;omega
 rw [e];exact hR
theorem xpd.ran{w0:World}{p b:Nat}{s:ByteArray}{res:ByteArray×Nat}{ρ:Nat->Nat}{x y:MS}{pb vb:Value}{l:List Nat}{w w':World}(h:xpd w0 p b s res ρ x pb vb l w)(A:jvh ρ w p y w'):∃ ρ',xpd w0 p b s res ρ' y pb vb l w':=by
 obtain ⟨ρ',e,m⟩:=A.ex;have hm0:¬ mine 0:=by unfold mine;omega
 have hrow:∀ g,vb.ownBlock=some g->g<w.heap.size:=fun g hg=>xmo h.bl.own hg
 refine ⟨ρ',m,h.bl.kp A.fr.kp (by rw [h.rb];exact hm0) (fun g hg=>by rw [h.rv g hg];exact hm0),by rw [e b h.bl.lt];exact h.rb,fun g hg=>by rw [e g (hrow g hg)];exact h.rv g hg,fun k hk=>?_,x6r h.bel A.fr hm0 h.nw⟩;by_cases hl:k<w.heap.size
 ·rw [e k hl] at hk;exact h.nw k hk
 ·have:=h.bel.size;omega
theorem xpd.took{w0:World}{p b:Nat}{s:ByteArray}{res:ByteArray×Nat}{ρ:Nat->Nat}{x y:MS}{pb vb:Value}{l:List Nat}{w w':World}(h:xpd w0 p b s res ρ x pb vb l w)(m:MQ ρ w' p y)(f:Fr mine ρ w w'):xpd w0 p b s res ρ y pb vb l w':=by
 have hm0:¬ mine 0:=by unfold mine;omega
 exact ⟨m,h.bl.kp f.kp (by rw [h.rb];exact hm0) (fun g hg=>by rw [h.rv g hg];exact hm0),h.rb,h.rv,h.nw,x6r h.bel f hm0 h.nw⟩
theorem xpd.wrote{w0:World}{p b:Nat}{s:ByteArray}{res:ByteArray×Nat}{ρ:Nat->Nat}{x:MS}{pb vb vb':Value}{l l':List Nat}{w w':World}(h:xpd w0 p b s res ρ x pb vb l w)(k:BlI w0.heap.size b (.pointer (some ⟨b,0,none⟩)) vb' l' w')(hv:vb'.ownBlock=vb.ownBlock∨vb'.ownBlock=some w.heap.size)(f:BFr b vb.ownBlock w w'):xpd w0 p b s res ρ x (.pointer (some ⟨b,0,none⟩)) vb' l' w':=by
 have F:Kp (fun r=>r=0) ρ w w':=⟨f.size,fun k hk hr=>f.block k hk (fun e=>hr (by rw [e];exact h.rb)) (fun e=>hr (h.rv k e))⟩
 refine ⟨h.mq.fr0 F,k,h.rb,fun g hg=>?_,h.nw,h.bel.trans ⟨f.os,f.tape,f.output,f.size,fun k hk=>f.block k (Nat.lt_of_lt_of_le hk h.bel.size) (fun e=>?_) (fun e=>?_)⟩⟩
 ·rcases hv with e | e
  ·exact h.rv g (by rw [← e];exact hg)
  ·rw [e] at hg;injection hg with hg
   exact Classical.byContradiction fun hc=>by have:=h.mq.lt.1 g hc;omega
 ·have:=h.bl.le;omega
 ·have:=(h.bl.own.lt k e).1;omega
def jh4(w0:World)(p b:Nat)(s:ByteArray)(res:ByteArray×Nat)(w:World)(n:Nat):Prop:=∃ ρ x pb vb l,xpd w0 p b s res ρ x pb vb l w∧x0d s n x l res
open Classical in
noncomputable def jv8(w0:World)(p b:Nat)(s:ByteArray)(res:ByteArray×Nat)(w:World):Nat:=if h:∃ n,jh4 w0 p b s res w n then Classical.choose (least h) else 0
theorem v90{w0:World}{p b:Nat}{s:ByteArray}{res:ByteArray×Nat}{w:World}{n:Nat}(h:jh4 w0 p b s res w n):jh4 w0 p b s res w (jv8 w0 p b s res w)∧jv8 w0 p b s res w<=n:=by
 have h':∃ n,jh4 w0 p b s res w n:=⟨n,h⟩
 unfold jv8;rw [dif_pos h'];have:=Classical.choose_spec (least h');exact ⟨this.1,this.2 n h⟩
theorem x0d.turn{s:ByteArray}{n:Nat}{x:MS}{l:List Nat}{res:ByteArray×Nat}(h:x0d s n x l res):∃ j r,x.tk<=s.size∧vgc j { x with rest:=jlo s x.tk } r∧r.1.qa.length<=64∧(∀ y∈l++r.1.qa,y<256)∧l.length+64<=10000000000000∧
  ((r.2=2∧∃ k,n=k+1∧x0d s k { r.1 with rest:=[],qa:=[] } (l++r.1.qa) res)∨(r.2≠2∧res=if MS.verdict r.1≠0 then (⟨#[]⟩,MS.verdict r.1) else (xu6 (l++r.1.qa),0))):=by
 cases h with
 | go k j _ _ r _ h1 h2 h3 h4 h5 h6 h7=>exact ⟨j,r,h1,h2,h4,h5,h6,Or.inl ⟨h3,k,rfl,h7⟩⟩
 | stop j _ _ r h1 h2 h3 h4 h5 h6=>exact ⟨j,r,h1,h2,h4,h5,h6,Or.inr ⟨h3,rfl⟩⟩
theorem zpf(fm:Nat)(s:ByteArray)(w:World)(hfm:fm<=2)(hs:s.size<=1000000000)(hO:OrdP w) :
  Calls Tryz.prog 24 #[.int .i64 fm, .string s] w fun x w'=>vht w (Tr.readAll fm s).mean x w':=by
 have hw:wi fm 0 2=true:=xaq.2 ⟨by omega,by omega⟩;obtain ⟨k0,hK⟩:=y1x (fm:=fm) (by omega) hs;generalize (Tr.readAll fm s).mean=res at *;have HK:Hid (x0d s k0 (MS.fresh fm 9223372036854775807 0 9223372036854775807 9223372036854775807 9223372036854775807 9223372036854775807) [] res):=hK;have HO:Hid (OrdP w):=hO;clear hK hO;go_enter Tryz.func24,Tryz.ntmps24
 go_wp2_with fail
 refine (ykv fm w).mono ?_;rintro e w1 ⟨rfl,rfl⟩;rw [hw];clear hw;go_wp2_with fail
 refine (kec fm w).mono ?_;rintro e w1 ⟨rfl,b1⟩;have H1:Hid (Below w.heap.size w w1):=b1;clear b1;go_wp2_with fail
 refine (j54 fm 9223372036854775807 0 9223372036854775807 9223372036854775807 9223372036854775807 9223372036854775807 w1).mono ?_;rintro e w2 ⟨p,ρ,rfl,M,hk,b2⟩;have H2:Hid (MQ ρ w2 p (MS.fresh fm 9223372036854775807 0 9223372036854775807 9223372036854775807 9223372036854775807 9223372036854775807)∧(∀ k,ρ k≠0->w1.heap.size<=k)∧Below w1.heap.size w1 w2):=⟨M,hk,b2⟩
 clear M hk b2;have HI0:Hid (jh4 w p w2.heap.size s res (w2.alloc (.cells #[.pointer none, .slice none 0 0] 106)) k0):=by
  obtain ⟨M,hk,b2⟩:=H2.out;have hsz1:=H1.out.size;have hsz2:=b2.size;have al:Below w2.heap.size w2 (w2.alloc (.cells #[.pointer none, .slice none 0 0] 106)):=(Below.refl _ _).alloc (Nat.le_refl _) _;refine ⟨ρ,_, .pointer none, .slice none 0 0,[],⟨M.below al,⟨by omega,?_,World.ownsRow_nil _ _ _ _,by simp [Value.ownBlock],Or.inl rfl⟩,?_,fun g hg=>by simp [Value.ownBlock] at hg,fun k hk'=>by have:=hk k hk';omega,(H1.out.trans (b2.mono hsz1)).trans (al.mono (by omega))⟩,HK.out⟩
  ·exact World.rowIs_alloc w2 _ _ _ (fun i hi=>by
    simp at hi;have:i=0∨i=1:=by omega
    rcases this with rfl | rfl <;> rfl)
  ·exact Classical.byContradiction fun hc=>by have:=M.lt.1 _ hc;omega
 have hlb:w.heap.size<=w2.heap.size:=Nat.le_trans H1.out.size H2.out.2.2.size;clear H1 H2 HK;go_wp2_with fail
 go_loopw [] (fun wr=>Hid (∃ k,jh4 w p w2.heap.size s res wr k)) (fun wr=>jv8 w p w2.heap.size s res wr)
 case atStart=>exact ⟨k0,HI0.out⟩
 case round=>
  clear HI0;obtain ⟨k,hk⟩:=hrel.out;obtain ⟨⟨ρ1,x,pb,vb,l,I,MN⟩,_⟩:=v90 hk;obtain ⟨j,r,ht,R,hq,hby,hll,hc⟩:=MN.turn;have HI:Hid (xpd w p w2.heap.size s res ρ1 x pb vb l wr):=I;have HR:Hid (vgc j { x with rest:=jlo s x.tk } r∧(∀ y∈l++r.1.qa,y<256)∧((r.2=2∧∃ k,jv8 w p w2.heap.size s res wr=k+1∧x0d s k { r.1 with rest:=[],qa:=[] } (l++r.1.qa) res)∨(r.2≠2∧res=if MS.verdict r.1≠0 then (⟨#[]⟩,MS.verdict r.1) else (xu6 (l++r.1.qa),0)))):=⟨R,hby,hc⟩
  have ctk:=I.mq.tk;clear hk I MN R hby hc hrel;have al:Below wr.heap.size wr (wr.alloc (.cells #[.string (s.extract x.tk s.size)] 9)):=(Below.refl _ _).alloc (Nat.le_refl _) _;have HI1:Hid (xpd w p w2.heap.size s res ρ1 x pb vb l (wr.alloc (.cells #[.string (s.extract x.tk s.size)] 9))):=HI.out.below al;have HP1:Hid (Pcs ρ1 (wr.alloc (.cells #[.string (s.extract x.tk s.size)] 9)) (.slice (some ⟨wr.heap.size,0,none⟩) 1 1) [s.extract x.tk s.size]):=by
   have hO':=HO.out.lt;have hszz:=HI.out.bel.size;refine ⟨some ⟨wr.heap.size,0,none⟩,1,rfl,fun k hk=>?_,Nat.le_refl _,by unfold maxLen;omega,fun t ht'=>?_,fun b o e=>?_⟩
   ·have hk0:k=0:=by simp at hk;omega
    subst hk0;refine ⟨wr.heap.size,0,rfl,by simp,?_⟩;rw [cell_of_row _ _ (0+0) _ _ _ (heap_alloc_new wr _)];rfl
   ·rw [List.mem_singleton.1 ht',ByteArray.size_extract];unfold maxLen;omega
   ·injection e with e
    injection e with e1 e2
    subst e1;refine ⟨⟨Classical.byContradiction fun hc=>by have:=HI.out.mq.lt.1 _ hc;omega,by omega⟩,by simp⟩
  have HR1:Hid (vgc j { x with rest:=[s.extract x.tk s.size].flatMap strN } r):=by
   have e:[s.extract x.tk s.size].flatMap strN=jlo s x.tk:=by rw [List.flatMap_cons,List.flatMap_nil,List.append_nil,yqg ht]
   rw [e];exact HR.out.1
  clear al;go_wp2_with fail
  have hOP:=HO.out.below (HI1.out.bel);have hG0:ρ1 0=0:=Classical.byContradiction fun hc=>by have:=HI1.out.nw _ hc;have:=HO.out.lt;omega
  refine (mRun HI1.out.mq HP1.out HR1.out hOP hG0).mono ?_;rintro e w3 ⟨rfl,A3⟩;obtain ⟨ρ2,I3⟩:=HI1.out.ran A3;have HI3:Hid (xpd w p w2.heap.size s res ρ2 { r.1 with rest:=[] } pb vb l w3):=I3;clear I3 A3 hOP hG0 HR1 HP1 HI1 HI ctk;rcases HR.out.2.2 with ⟨h2,k',hk',MN'⟩ | ⟨h2,hres⟩
  ·have HM:Hid (jv8 w p w2.heap.size s res wr=k'+1∧x0d s k' { r.1 with rest:=[],qa:=[] } (l++r.1.qa) res):=⟨hk',MN'⟩
   clear hk' MN';rw [h2];obtain ⟨rr,c16,TK⟩:=(show MQ ρ2 w3 p { r.1 with rest:=[] } from HI3.out.mq).taken 64 (by decide);have HTK:Hid _:=TK;clear TK;go_wp2_with fail
   refine Calls.mono HTK.out ?_;rintro e w4 ⟨g,rfl,hg,hrow,M4,F4⟩;have hmin:min 64 r.1.qa.length=r.1.qa.length:=by omega
   have hdrop:r.1.qa.drop (min 64 r.1.qa.length)=[]:=by rw [hmin,List.drop_length]
   have HI4:Hid (xpd w p w2.heap.size s res ρ2 { r.1 with rest:=[],qa:=[] } pb vb l w4):=by
    have M4':MQ ρ2 w4 p { r.1 with rest:=[],qa:=[] }:=by
     have h:=M4;simp only [hdrop] at h;exact h
    exact HI3.out.took M4' F4
   have HR4:Hid (w4.rowIs g 5 r.1.qa.length (fun j=> .int .u8 (r.1.qa.getD j 0:Nat))∧g≠w2.heap.size):=⟨by rw [← hmin];exact hrow,fun e=>by have:=HI3.out.bl.lt;omega⟩
   clear M4 F4 hrow HTK c16 hg;rw [show min 64 ({ r.1 with rest:=[] }:MS).qa.length=r.1.qa.length from hmin];clear hmin hdrop;go_wp2_with fail
   refine (x4f HI4.out.bl HI4.out.bel.size HR4.out.1 rfl HR4.out.2 (by omega)).mono ?_;rintro e w5 ⟨v5,rfl,B5,hv5,F5⟩;have HI5:Hid (xpd w p w2.heap.size s res ρ2 { r.1 with rest:=[],qa:=[] } (.pointer (some ⟨w2.heap.size,0,none⟩)) v5 (l++r.1.qa) w5):=HI4.out.wrote B5 hv5 F5;clear B5 hv5 F5 HR4 HI4;have HL5:Hid (jh4 w p w2.heap.size s res w5 k'):=⟨_,_,_,_,_,HI5.out,HM.out.2⟩
   go_wp2_with fail
   go_roundw
   case rel=>exact ⟨k',HL5.out⟩
   case measure=>
    have h1:=(v90 HL5.out).2;have h2:=HM.out.1;omega
  ·have HM:Hid (res=if MS.verdict r.1≠0 then (⟨#[]⟩,MS.verdict r.1) else (xu6 (l++r.1.qa),0)):=hres;clear hres;have h2i:¬ ((r.2:Nat):Int)=2:=by omega
   obtain ⟨rr,c16,TK⟩:=(show MQ ρ2 w3 p { r.1 with rest:=[] } from HI3.out.mq).taken 64 (by decide);have HTK:Hid _:=TK;clear TK;go_wp2_with fail
   refine Calls.mono HTK.out ?_;rintro e w4 ⟨g,rfl,hg,hrow,M4,F4⟩;have hmin:min 64 r.1.qa.length=r.1.qa.length:=by omega
   have hdrop:r.1.qa.drop (min 64 r.1.qa.length)=[]:=by rw [hmin,List.drop_length]
   have HI4:Hid (xpd w p w2.heap.size s res ρ2 { r.1 with rest:=[],qa:=[] } pb vb l w4):=by
    have M4':MQ ρ2 w4 p { r.1 with rest:=[],qa:=[] }:=by
     have h:=M4;simp only [hdrop] at h;exact h
    exact HI3.out.took M4' F4
   have HR4:Hid (w4.rowIs g 5 r.1.qa.length (fun j=> .int .u8 (r.1.qa.getD j 0:Nat))∧g≠w2.heap.size):=⟨by rw [← hmin];exact hrow,fun e=>by have:=HI3.out.bl.lt;omega⟩
   clear M4 F4 hrow HTK c16 hg;rw [show min 64 ({ r.1 with rest:=[] }:MS).qa.length=r.1.qa.length from hmin];clear hmin hdrop;go_wp2_with fail
   refine (x4f HI4.out.bl HI4.out.bel.size HR4.out.1 rfl HR4.out.2 (by omega)).mono ?_;rintro e w5 ⟨v5,rfl,B5,hv5,F5⟩;have HI5:Hid (xpd w p w2.heap.size s res ρ2 { r.1 with rest:=[],qa:=[] } (.pointer (some ⟨w2.heap.size,0,none⟩)) v5 (l++r.1.qa) w5):=HI4.out.wrote B5 hv5 F5;clear B5 hv5 F5 HR4 HI4;go_wp2_with fail
   refine (z9n HI5.out.mq.mm).mono ?_;rintro e w6 ⟨rfl,rfl⟩;rw [show MS.verdict ({ r.1 with rest:=[],qa:=[] }:MS)=MS.verdict r.1 from rfl];by_cases hv:MS.verdict r.1=0
   ·have HM2:Hid (res=(xu6 (l++r.1.qa),0)):=by show _=_;rw [show res=_ from HM.out,if_neg (by rw [hv];simp)]
    rw [hv];go_wp2_with fail
    refine (vfo HI5.out.bl HI5.out.bel.size HR.out.2.1).mono ?_;rintro e w7 ⟨rfl,b7⟩;have HB7:Hid (Below w.heap.size w w7):=HI5.out.bel.trans b7;clear b7;go_wp2_with fail
    go_ret2
    rw [HM2.out];exact ⟨rfl,HB7.out⟩
   ·have HM2:Hid (res=(⟨#[]⟩,MS.verdict r.1)):=by show _=_;rw [show res=_ from HM.out,if_pos hv]
    have hvi:¬ ((MS.verdict r.1:Nat):Int)=0:=by omega
    go_wp2_with fail
    go_ret2
    rw [HM2.out];exact ⟨rfl,HI5.out.bel⟩
theorem z3j(fm:Nat)(s want:ByteArray)(w:World)(hfm:fm<=2)(hs:s.size<=1000000000)(hO:OrdP w)(h:(Tr.readAll fm s).mean=(want,0)) :
  Calls Tryz.prog 13 #[.int .i64 fm, .string s, .string want] w fun e w'=>e= .returned (.bool true)∧Below w.heap.size w w':=by
 have HM:Hid (Calls Tryz.prog 24 #[.int .i64 fm, .string s] w fun x w'=>vht w (want,0) x w'):=by
  have:=zpf fm s w hfm hs hO;rw [h] at this;exact this
 clear h hO;go_enter Tryz.func13,Tryz.ntmps13
 go_wp2_with fail
 refine HM.out.mono ?_;rintro e w1 ⟨rfl,b1⟩;have H1:Hid (Below w.heap.size w w1):=b1;clear b1;go_wp2_with fail
 go_ret
 exact ⟨by simp,H1.out⟩
theorem y9e(fm:Nat)(s:ByteArray)(e:Nat)(w:World)(hfm:fm<=2)(hs:s.size<=1000000000)(hO:OrdP w)(h:(Tr.readAll fm s).mean=(⟨#[]⟩,e)) :
  Calls Tryz.prog 18 #[.int .i64 fm, .string s, .int .i64 e] w fun v w'=>v= .returned (.bool true)∧Below w.heap.size w w':=by
 have HM:Hid (Calls Tryz.prog 24 #[.int .i64 fm, .string s] w fun x w'=>vht w (⟨#[]⟩,e) x w'):=by
  have:=zpf fm s w hfm hs hO;rw [h] at this;exact this
 clear h hO;go_enter Tryz.func18,Tryz.ntmps18
 go_wp2_with fail
 refine HM.out.mono ?_;rintro v w1 ⟨rfl,b1⟩;have H1:Hid (Below w.heap.size w w1):=b1;clear b1;go_wp2_with fail
 go_ret
 exact ⟨by simp,H1.out⟩
theorem yl9(s:ByteArray)(w:World)(c k:Nat)(hk:k<s.size):(w.alloc (.cells (bytesRow s c) 5 ((bytesRow s c).size,(bytesRow s c).size+1))).drew.cell? ⟨w.heap.size,k,none⟩=some (.int .u8 (vhw s k)):=by
 have h1:(w.alloc (.cells (bytesRow s c) 5 ((bytesRow s c).size,(bytesRow s c).size+1))).drew.heap[w.heap.size]?=some (.cells (bytesRow s c) 5 ((bytesRow s c).size,(bytesRow s c).size+1)):=
  heap_alloc_new w (.cells (bytesRow s c) 5 ((bytesRow s c).size,(bytesRow s c).size+1))
 rw [cell_of_row _ _ k _ _ _ h1,bytesRow_at s c k hk];congr 2
 exact yq7 s k hk
structure Few(k:Nat)(s:kuu):Prop where
 ln:s.lens.length<=k+18
 wt:s.waits.length<=2*k+36
 mm:s.mks+s.waits.length<=3*k+54
 bk:s.books.length+s.waits.length<=3*k+54
 tx:s.vtx= .slice none 0 0∧s.vrn= .slice none 0 0
open Go.RowKit Go.Deep
theorem ybc:Tryz.prog.cellsOf 3=1:=by kernel_rfl
theorem kwi:Tryz.prog.cellsOf 9=1:=by kernel_rfl
theorem x1j{H:Type}(d:DataW H):1<=Rows.uptoBulk d:=by
 cases d with
 | lit l=>cases l <;> simp [Rows.uptoBulk]
 | _=>simp [Rows.uptoBulk]
theorem jvo{H:Type}(l:List (DataW H)):l.length<=Rows.uptoBulkAll l:=by
 induction l with
 | nil=>simp [Rows.uptoBulkAll]
 | cons x r ih=>have:=x1j x;simp only [Rows.uptoBulkAll,List.length_cons];omega
def inI(z:Int):Prop:= -9223372036854775808<=z∧z<=9223372036854775807
theorem wf_in{z:Int}(h:(Lit.int .i64 z).wf=true):inI z:=by
 have h':decide (IntKind.i64.min<=z)=true∧decide (z<=IntKind.i64.max)=true:=by
  have h2:(decide (IntKind.i64.min<=z) && decide (z<=IntKind.i64.max))=true:=h;exact Bool.and_eq_true_iff.1 h2
 exact ⟨of_decide_eq_true h'.1,of_decide_eq_true h'.2⟩
theorem vkn:Tryz.prog.cellsOf 89=3:=by kernel_rfl
theorem zxt:Tryz.prog.cellsOf 86=5:=by kernel_rfl
theorem zc6{H:Type}{enc:TypeId×Value->H}{W:World}{base:Nat}{spare:Nat->Bool}{held:Bool}{n:Nat}{cs:List Value}{x:DataW H×List MemPlace}(h:DataW.trod enc Tryz.prog W base spare held n 89 cs=some x) :
  ∃ b m f:Int,cs=[.int .i64 b, .int .i64 m, .int .i64 f]:=by
 obtain ⟨xs,k,hk,hxy,hlen,hxl,hf⟩:=DataW.trod_struct Tryz.underlying89 h;rw [vkn] at hlen;have hxl3:xs.length=3:=hxl;match xs,hxl3,cs,hlen with
 | [y0,y1,y2],_,[v0,v1,v2],_=>
  have g0:=hf 0 _ rfl;have g1:=hf 1 _ rfl;have g2:=hf 2 _ rfl;simp [ybc] at g0 g1 g2;obtain ⟨z0,e0,_,w0⟩:=DataW.trod_int Tryz.underlying3 g0;obtain ⟨z1,e1,_,w1⟩:=DataW.trod_int Tryz.underlying3 g1;obtain ⟨z2,e2,_,w2⟩:=DataW.trod_int Tryz.underlying3 g2;simp at e0 e1 e2;exact ⟨z0,z1,z2,by rw [e0,e1,e2]⟩
theorem ku4{H:Type}{enc:TypeId×Value->H}{W:World}{base:Nat}{spare:Nat->Bool}{held:Bool}{fuel:Nat}{cs:List Value}{x:DataW H×List MemPlace}(h:DataW.trod enc Tryz.prog W base spare held fuel 84 cs=some x) :
  ∃ ad n cap,cs=[.slice ad n cap]∧ItO W ad n∧n<=Rows.uptoBulk x.1:=by
 rcases open_slice Tryz.underlying84 h with ⟨hcs,rfl⟩ | ⟨a,n,cp,m,f,D,Pl,hcs,hb,hl,hm,hmm,rfl,hx⟩
 ·exact ⟨none,0,0,hcs,fun k hk=>by omega,Nat.zero_le _⟩
 ·refine ⟨some a,n,cp,hcs,?_,?_⟩
  ·have hlm:n<=m:=by rw [hmm];split <;> omega
   intro k hk;obtain ⟨cs',h1,h2⟩:=hx k (by omega);obtain ⟨xb,xm,xf,rfl⟩:=zc6 h2;rw [vkn] at h1;obtain ⟨_,_,hcell⟩:=World.cells?_some h1;simp only [add_add] at hcell;obtain ⟨b0,o0,spot⟩:=a;have hspot:spot=none:=by
    obtain ⟨cs0,h10,h20⟩:=hx 0 (by omega);rw [vkn] at h10;obtain ⟨_,_,hcell0⟩:=World.cells?_some h10;obtain ⟨_,_,_,rfl⟩:=zc6 h20;have:=hcell0 0 (by omega);simp [add_add] at this;simpa [Addr.add] using World.cell?_spot this
   subst hspot;have e0:=hcell 0 (by omega);have e1:=hcell 1 (by omega);have e2:=hcell 2 (by omega);rw [Go.WideShapes.add_plain] at e0 e1 e2;simp only [← Nat.add_assoc] at e1 e2;refine ⟨b0,o0,xb,xm,xf,rfl,World.block_lt_of_cell? W _ e0,?_,?_,?_⟩
   ·simpa using e0
   ·simpa using e1
   ·simpa using e2
  ·have:=jvo ((List.range n).map D);simp only [Rows.uptoBulk];simp at this;omega
theorem kmw{H:Type}{enc:TypeId×Value->H}{W:World}{base:Nat}{spare:Nat->Bool}{held:Bool}{fuel:Nat}{cs:List Value}{x:DataW H×List MemPlace}(h:DataW.trod enc Tryz.prog W base spare held fuel 69 cs=some x) :
  ∃ ad n cap,cs=[.slice ad n cap]∧yas W ad n:=by
 rcases open_slice1 Tryz.underlying69 ybc h with ⟨hcs,rfl⟩ | ⟨a,n,cp,m,f,V,D,Pl,hcs,hb,hl,hm,hmm,rfl,hx⟩
 ·exact ⟨none,0,0,hcs,by omega,fun k hk=>by omega⟩
 ·have hlm:n<=m:=by rw [hmm];split <;> omega
  refine ⟨some a,n,cp,hcs,by unfold maxLen at hm;omega,fun k hk=>?_⟩;obtain ⟨b0,o0,spot⟩:=a;have hspot:spot=none:=by
   have:=(hx 0 (by omega)).1;simpa [Addr.add] using World.cell?_spot this
  subst hspot;obtain ⟨z,e,_,wz⟩:=DataW.trod_int Tryz.underlying3 (hx k (by omega)).2;have e':V k= .int .i64 z:=by simpa using e
  have hc:=(hx k (by omega)).1;rw [e',Go.WideShapes.add_plain] at hc;exact ⟨b0,o0,z,rfl,World.block_lt_of_cell? W _ hc,hc,(wf_in wz).1,(wf_in wz).2⟩
theorem vsf:Tryz.prog.cellsOf 84=1:=by kernel_rfl
theorem xfn:Tryz.prog.cellsOf 69=1:=by kernel_rfl
theorem jza:Tryz.prog.cellsOf 4=1:=by kernel_rfl
theorem kcg{H:Type}{enc:TypeId×Value->H}{W:World}{base:Nat}{spare:Nat->Bool}{held:Bool}{n:Nat}{cs:List Value}{x:DataW H×List MemPlace}(h:DataW.trod enc Tryz.prog W base spare held n 86 cs=some x) :
  ∃ d:PtD,cs=d.cells∧ItO W d.ai d.ni∧yas W d.ap d.np∧d.wt<=Rows.uptoBulk x.1:=by
 obtain ⟨xs,k,hk,hxy,hlen,hxl,hf⟩:=DataW.trod_struct Tryz.underlying86 h;rw [zxt] at hlen;have hxl5:xs.length=5:=hxl;match xs,hxl5,cs,hlen with
 | [y0,y1,y2,y3,y4],_,[v0,v1,v2,v3,v4],_=>
  have g0:=hf 0 _ rfl;have g1:=hf 1 _ rfl;have g2:=hf 2 _ rfl;have g3:=hf 3 _ rfl;have g4:=hf 4 _ rfl;simp [ybc,kwi,vsf,xfn,jza] at g0 g1 g2 g3 g4;obtain ⟨z0,e0,_,w0⟩:=DataW.trod_int Tryz.underlying3 g0;obtain ⟨t,e1,x1,ht⟩:=DataW.trod_string Tryz.underlying9 g1;obtain ⟨ai,ni,ci,e2,hI,hin⟩:=ku4 g2;obtain ⟨ap,np,cp,e3,hP⟩:=kmw g3;obtain ⟨bb,e4,_⟩:=DataW.trod_bool Tryz.underlying4 g4;simp at e0 e1 e2 e3 e4;have ht1:t.size+1<=Rows.uptoBulk y1.1:=by
   rw [x1];show _<=t.data.toList.length+1;rw [Array.length_toList];exact Nat.le_refl _
  refine ⟨⟨z0,t,ai,ni,ci,ap,np,cp,bb⟩,by rw [e0,e1,e2,e3,e4];rfl,hI,hP,?_⟩;show t.size+ni+1<=_;rw [hxy];simp only [Rows.uptoBulk,Rows.uptoBulkAll,List.map_cons,List.map_nil];omega
theorem ylb{H:Type}(F:Nat->PtD)(D:Nat->DataW H):∀ L:List Nat,(∀ k∈L,(F k).wt<=Rows.uptoBulk (D k))->wts (L.map F)<=Rows.uptoBulkAll (L.map D):=by
 intro L;induction L with
 | nil=>exact fun _=>Nat.zero_le _
 | cons k L ih=>
  intro h;have h1:=h k (by simp);have h2:=ih (fun j hj=>h j (by simp [hj]));have e:wts ((k :: L).map F)=(F k).wt+wts (L.map F):=rfl;rw [e];simp only [List.map_cons,Rows.uptoBulkAll];omega
theorem parts_of{H:Type}{enc:TypeId×Value->H}{W:World}{base:Nat}{spare:Nat->Bool}{held:Bool}{fuel:Nat}{ad:Option Addr}{n cap:Nat}{x:DataW H×List MemPlace}(h:DataW.trod enc Tryz.prog W base spare held fuel 25 [.slice ad n cap]=some x) :
  ∃ l:List PtD,l.length=n∧PartsO W ad l∧wts l<=Rows.uptoBulk x.1:=by
 rcases open_slice Tryz.underlying25 h with ⟨hcs,rfl⟩ | ⟨a,len,cp,m,f,D,Pl,hcs,hb,hl,hm,hmm,rfl,hx⟩
 ·simp at hcs;obtain ⟨rfl,rfl,rfl⟩:=hcs;exact ⟨[],rfl,fun k hk=>absurd hk (Nat.not_lt_zero _),Nat.zero_le _⟩
 ·simp at hcs;obtain ⟨rfl,rfl,rfl⟩:=hcs;have hlm:n<=m:=by rw [hmm];split <;> omega
  have hall:∀ k,∃ d:PtD,k<n->(∃ bl o:Nat,some a=some ⟨bl,o,none⟩∧bl<W.heap.size∧(∀ j (hj:j<5),W.cell? ⟨bl,o+k*5+j,none⟩=some (d.cells[j]'hj)))∧ItO W d.ai d.ni∧yas W d.ap d.np∧d.wt<=Rows.uptoBulk (D k):=by
   intro k;by_cases hk:k<n
   ·obtain ⟨cs',h1,h2⟩:=hx k (by omega);obtain ⟨d,rfl,hI,hP,hw⟩:=kcg h2;refine ⟨d,fun _=>⟨?_,hI,hP,hw⟩⟩;rw [zxt] at h1;obtain ⟨_,_,hcell⟩:=World.cells?_some h1;simp only [add_add] at hcell;obtain ⟨b0,o0,spot⟩:=a;have hspot:spot=none:=by
     obtain ⟨cs0,h10,h20⟩:=hx 0 (by omega);rw [zxt] at h10;obtain ⟨_,_,hcell0⟩:=World.cells?_some h10;obtain ⟨_,rfl,_⟩:=kcg h20;have:=hcell0 0 (by omega);simp [add_add,PtD.cells] at this;simpa [Addr.add] using World.cell?_spot this
    subst hspot;have e0:=hcell 0 (by omega);have e1:=hcell 1 (by omega);have e2:=hcell 2 (by omega);have e3:=hcell 3 (by omega);have e4:=hcell 4 (by omega);rw [Go.WideShapes.add_plain] at e0 e1 e2 e3 e4;simp only [← Nat.add_assoc] at e0 e1 e2 e3 e4;refine ⟨b0,o0,rfl,World.block_lt_of_cell? W _ e0,fun j hj=>?_⟩;have:j=0∨j=1∨j=2∨j=3∨j=4:=by omega
    rcases this with rfl | rfl | rfl | rfl | rfl
    ·simpa [PtD.cells] using e0
    ·simpa [PtD.cells] using e1
    ·simpa [PtD.cells] using e2
    ·simpa [PtD.cells] using e3
    ·simpa [PtD.cells] using e4
   ·exact ⟨⟨0,⟨#[]⟩,none,0,0,none,0,0,false⟩,fun h=>absurd h hk⟩
  obtain ⟨F,hF⟩:=Classical.axiomOfChoice hall;refine ⟨(List.range n).map F,by simp,fun k hk=>?_,?_⟩
  ·have hk':k<n:=by simpa using hk
   obtain ⟨⟨bl,o,e,h1,h2⟩,h3,h4,_⟩:=hF k hk';have hg:((List.range n).map F)[k]=F k:=by simp
   refine ⟨bl,o,e,h1,?_,?_,?_⟩
   ·intro j hj;have hcg:∀ p q:PtD,p=q->(p.cells[j]'hj)=(q.cells[j]'hj):=fun p q e=>by subst e;rfl
    rw [h2 j hj];exact congrArg some (hcg _ _ hg.symm)
   ·simpa only [hg] using h3
   ·simpa only [hg] using h4
  ·have:=ylb F D (List.range n) (fun k hk=>(hF k (List.mem_range.1 hk)).2.2.2);simp only [Rows.uptoBulk];omega
theorem zis(s:ByteArray):Tr.sumL (xpg s)=sumN s:=by
 unfold Tr.sumL sumN;have e:(fun k=>(((xpg s).getD k 0:Nat):Int))=vhw s:=by
  funext k
  unfold xpg vhw;rw [List.getD_eq_getElem?_getD,List.getD_eq_getElem?_getD,List.getElem?_map];cases s.data.toList[k]? <;> rfl
 rw [e,kev]
theorem v1c{X Y:Nat}{l:List Nat}(h:Tr.sumL l=65536*(Y:Int)+X)(hx:X<=65520)(hy:Y<=65520):sum4 l=[Y / 256,Y%256,X / 256,X%256]:=by
 have e:(Tr.sumL l).toNat=65536*Y+X:=by omega
 unfold sum4;rw [e];have e1:(65536*Y+X) / 16777216%256=Y / 256:=by omega
 have e2:(65536*Y+X) / 65536%256=Y%256:=by omega
 have e3:(65536*Y+X) / 256%256=X / 256:=by omega
 have e4:(65536*Y+X)%256=X%256:=by omega
 rw [e1,e2,e3,e4]
theorem xpa(s:ByteArray)(w:World)(hs:s.size<=maxLen) :
  Calls Tryz.prog 15 #[.string s] w fun e w'=>e= .returned (.string (xu6 (sum4 (xpg s))))∧Below w.heap.size w w':=by
 unfold maxLen at hs;have HS4:Hid (∀ X Y:Nat,X<=65520->Y<=65520->sumN s=65536*(Y:Int)+X->sum4 (xpg s)=[Y / 256,Y%256,X / 256,X%256]):=fun X Y hx hy h=>v1c (by rw [zis];exact h) hx hy
 go_enter Tryz.func15,Tryz.ntmps15
 go_wp2_with fail
 go_loopw [3,4,5] (fun x y i wr=>∃ k:Nat,k<=s.size∧x= .int .i64 (sxy (vhw s) k).1∧y= .int .i64 (sxy (vhw s) k).2∧i= .int .i64 k∧wr=w) (fun _ _ i _=>s.size - (intOf i).toNat)
 case atStart=>exact ⟨0,Nat.zero_le _,rfl,rfl,rfl,rfl⟩
 case round=>
  obtain ⟨k,hk,rfl,rfl,rfl,rfl⟩:=hrel;have hb:=zz9 (vhw s) k;by_cases hlt:k<s.size
  ·have HB:Hid (((s[k]).toNat:Int)=vhw s k):=yq7 s k hlt;have h255:((s[k]).toNat:Int)<=255:=by rw [HB.out];exact (vo4 s k).2
   have h0:0<=((s[k]).toNat:Int):=by omega
   obtain ⟨h1,h2,h3,h4⟩:=hb;go_wp2_with fail
   go_roundw
   case rel=>
    refine ⟨k+1,by omega,?_,?_,by go_num,by trivial⟩
    ·rw [HB.out];rfl
    ·rw [HB.out];rfl
   case measure=>simp [intOf];omega
  ·have hk0:k=s.size:=by omega
   obtain ⟨h1,h2,h3,h4⟩:=hb;obtain ⟨X,hX⟩:∃ X:Nat,(sxy (vhw s) k).1=X:=⟨(sxy (vhw s) k).1.toNat,by omega⟩
   obtain ⟨Y,hY⟩:∃ Y:Nat,(sxy (vhw s) k).2=Y:=⟨(sxy (vhw s) k).2.toNat,by omega⟩
   have HE:Hid (sum4 (xpg s)=[Y / 256,Y%256,X / 256,X%256]):=HS4.out X Y (by omega) (by omega) (by unfold sumN;rw [← hk0,hX,hY]);have hXb:X<=65520:=by omega
   have hYb:Y<=65520:=by omega
   rw [hX,hY];clear h1 h2 h3 h4;have hcv:∀ W:World,(convert 34 9 (.slice (some ⟨W.heap.size,0,none⟩) 4 4)).run Tryz.prog (W.alloc (.cells #[.int .u8 ((Y:Int) / 256), .int .u8 ((Y:Int)%256), .int .u8 ((X:Int) / 256), .int .u8 ((X:Int)%256)] 5))= .ok (.string (xu6 [Y / 256,Y%256,X / 256,X%256])) (W.alloc (.cells #[.int .u8 ((Y:Int) / 256), .int .u8 ((Y:Int)%256), .int .u8 ((X:Int) / 256), .int .u8 ((X:Int)%256)] 5)):=by
    intro W;have:=yo4 W (Y / 256) (Y%256) (X / 256) (X%256);rw [show ((Y / 256:Nat):Int)=(Y:Int) / 256 by omega,show ((Y%256:Nat):Int)=(Y:Int)%256 by omega,show ((X / 256:Nat):Int)=(X:Int) / 256 by omega,show ((X%256:Nat):Int)=(X:Int)%256 by omega] at this;exact this
   have k1:wrap64 ((Y:Int) / 256)=(Y:Int) / 256:=IntWalk.wrap64_in _ ⟨by omega,by omega⟩;have k2:wrap64 ((X:Int) / 256)=(X:Int) / 256:=IntWalk.wrap64_in _ ⟨by omega,by omega⟩;have k3:(Y:Int) / 256%256=(Y:Int) / 256:=by omega
   have k4:(X:Int) / 256%256=(X:Int) / 256:=by omega
   clear hX hY hk0;go_wp2_with fail
   go_ret
   rw [HE.out];exact ⟨rfl,(Below.refl _ _).alloc (Nat.le_refl _) _⟩
def upL:List Nat->Nat
 | []=>0
 | x :: xs=>if x=0 then 0 else upL xs+1
theorem yel(l:List Nat):upL l<=l.length:=by
 induction l with
 | nil=>exact Nat.le_refl _
 | cons x xs ih=>unfold upL;split <;> simp <;> omega
theorem yht{l:List Nat}:∀ {k:Nat},k<=upL l->l[k]?=some 0->upL l=k:=by
 induction l with
 | nil=>intro k _ h;simp at h
 | cons x xs ih=>
  intro k hk h;unfold upL at hk ⊢;cases k with
  | zero=>
   have:x=0:=by simpa using h
   rw [if_pos this]
  | succ k=>
   by_cases hx:x=0
   ·rw [if_pos hx] at hk;omega
   ·rw [if_neg hx] at hk ⊢;have:=ih (k:=k) (by omega) (by simpa using h);omega
theorem zsr{l:List Nat}:∀ {k x:Nat},k<=upL l->l[k]?=some x->x≠0->k+1<=upL l:=by
 induction l with
 | nil=>intro k x _ h;simp at h
 | cons y ys ih=>
  intro k x hk h hx;unfold upL at hk ⊢;cases k with
  | zero=>
   have:y=x:=by simpa using h
   rw [if_neg (by omega)];omega
  | succ k=>
   by_cases hy:y=0
   ·rw [if_pos hy] at hk;omega
   ·rw [if_neg hy] at hk ⊢;have:=ih (k:=k) (x:=x) (by omega) (by simpa using h) hx;omega
theorem y58(s:ByteArray)(k:Nat)(h:k<s.size):(xpg s)[k]?=some (s[k]).toNat:=by
 unfold xpg;have h':k<s.data.toList.length:=by simpa using h
 rw [List.getElem?_map,List.getElem?_eq_getElem h'];rfl
theorem zkw(s:ByteArray)(w:World)(hs:s.size<=maxLen) :
  Calls Tryz.prog 44 #[.string s] w fun e w'=>e= .returned (.string (s.extract 0 (upL (xpg s))))∧w'=w:=by
 unfold maxLen at hs;have HL:Hid (upL (xpg s)<=s.size):=by show _<=_;have:=yel (xpg s);rw [kev] at this;exact this
 go_enter Tryz.func44,Tryz.ntmps44
 go_wp2_with fail
 go_loopw [3] (fun i wr=>∃ k:Nat,k<=s.size∧Hid (k<=upL (xpg s))∧i= .int .i64 k∧wr=w) (fun i _=>s.size - (intOf i).toNat)
 case atStart=>exact ⟨0,Nat.zero_le _,Nat.zero_le _,rfl,rfl⟩
 case round=>
  obtain ⟨k,hk,HU,rfl,rfl⟩:=hrel;by_cases hlt:k<s.size
  ·have HB:=y58 s k hlt;by_cases h0:(s[k]).toNat=0
   ·have h0i:((s[k]).toNat:Int)=0:=by omega
    have HE:Hid (upL (xpg s)=k):=yht HU.out (by rw [HB,h0]);clear HB;go_wp2_with fail
    go_ret
    rw [HE.out];exact ⟨rfl,rfl⟩
   ·have h0i:¬ ((s[k]).toNat:Int)=0:=by omega
    have HE:Hid (k+1<=upL (xpg s)):=zsr HU.out HB h0;clear HB;go_wp2_with fail
    go_roundw
    case rel=>exact ⟨k+1,by omega,HE,by go_num,by trivial⟩
    case measure=>simp [intOf];omega
  ·have HE:Hid (s.extract 0 (upL (xpg s))=s):=by
    show _=_;have h1:upL (xpg s)=s.size:=by have:=HU.out;have:=HL.out;omega
    rw [h1];exact ByteArray.extract_zero_size
   go_wp2_with fail
   go_ret
   rw [HE.out];exact ⟨rfl,rfl⟩
theorem xav(c:Nat)(v:Int)(w:World)(hc:c<256) :
  Calls Tryz.prog 17 #[.int .u8 c, .int .i64 v] w fun e w'=>(∃ d:Nat,e= .returned (.int .u8 d)∧d<256∧d≠c)∧w'=w:=by
 obtain ⟨d,hd⟩:∃ d:Nat,v%256=d:=⟨(v%256).toNat,by omega⟩
 by_cases h:d=c
 ·have hd2:((d:Int)==(c:Int))=true:=by simp;omega
  go_enter Tryz.func17,Tryz.ntmps17
  go_wp2_with fail
  go_ret
  refine ⟨⟨(c+1)%256,?_,Nat.mod_lt _ (by decide),by omega⟩,rfl⟩;show Ending.returned (Value.int .u8 _)=_;rw [show (((c+1)%256:Nat):Int)=((c:Int)+1)%256 by omega]
 ·have hd2:((d:Int)==(c:Int))=false:=by simp;omega
  go_enter Tryz.func17,Tryz.ntmps17
  go_wp2_with fail
  go_ret
  refine ⟨⟨d,?_,by omega,h⟩,rfl⟩;show Ending.returned (Value.int .u8 _)=_;rw [← hd]
theorem ksp.of{s:ByteArray}{l:List Nat}(h:xpg s=l):ksp s l:=h ▸ xc3 s
theorem vmx{l:List Nat}(h:l.length=4):∃ a b c d,l=[a,b,c,d]:=by
 match l,h with
 | [a,b,c,d],_=>exact ⟨a,b,c,d,rfl⟩
theorem y3j{l:List Nat}(h:l.length=2):∃ a b,l=[a,b]:=by
 match l,h with
 | [a,b],_=>exact ⟨a,b,rfl⟩
theorem xfq{l:List Nat}{i d:Nat}(hi:i<l.length)(h:l[i]?≠some d):l.set i d≠l:=fun e=>by
 have:=congrArg (fun m=>m[i]?) e;simp [hi] at this;exact h (by rw [List.getElem?_eq_getElem hi,this])
theorem vsm{l:List Nat}{i d:Nat}(hl:∀ x∈l,x<256)(hd:d<256):∀ x∈l.set i d,x<256:=fun x hx=>by
 rcases List.mem_or_eq_of_mem_set hx with h | h
 ·exact hl x h
 ·omega
theorem yhx(X Y:List Nat)(i d:Nat):(X++Y).set (X.length+i) d=X++Y.set i d:=by
 rw [List.set_append,if_neg (by omega),Nat.add_sub_cancel_left]
theorem kcp(X Y:List Nat)(i:Nat):(X++Y)[X.length+i]?=Y[i]?:=by
 rw [List.getElem?_append_right (Nat.le_add_right _ _),Nat.add_sub_cancel_left]
theorem yp8(l:List Nat):(sum4 l).length=4:=rfl
theorem vf0{s:ByteArray}{raw out S:List Nat}{j k d:Nat}(hS:S=115 :: 1 :: (raw++sum4 out))(hj:j<4)(hk:k+(1+j)=S.length)(hd:d<256)(hne:S[k]?≠some d)(h:xpg s=S.set k d)(hp:x56 raw out)(hz:s.size<=1000000000) :
  (Tr.readAll 1 s).mean=(⟨#[]⟩,12):=by
 have e:S=(115 :: 1 :: raw)++sum4 out:=hS;have hk2:k=(115 :: 1 :: raw).length+(3 - j):=by
  rw [e,List.length_append,yp8] at hk;omega
 rw [e,hk2,kcp] at hne;rw [e,hk2,yhx] at h;have hn:=xfq (by rw [yp8];omega) hne;have hl:=vsm (i:=3 - j) (kme out) hd;obtain ⟨a,b,c,d',e4⟩:=vmx (l:=(sum4 out).set (3 - j) d) (by rw [List.length_set];rfl);rw [e4] at h hn hl;exact kxr (ksp.of h) hp hz (hl a (by simp)) (hl b (by simp)) (hl c (by simp)) (hl d' (by simp)) hn
theorem vcj{s:ByteArray}{m:Nat}{name note raw out S B:List Nat}{j k d:Nat}(M:Mem m name note raw out)(hS:S=vin m name note raw (sum4 out) (Tr.size2 out.length))(hj:j<6)(hk:k+(1+j)=S.length)(hd:d<256)(hne:S[k]?≠some d)(h:xpg s=S.set k d++B)(hz:s.size<=1000000000) :
  (Tr.readAll 2 s).mean=(⟨#[]⟩,if j<2 then 13 else 12):=by
 have s2:(Tr.size2 out.length).length=2:=rfl;by_cases h2:j<2
 ·rw [if_pos h2];have e:S=(k6d m name note++(raw++sum4 out))++Tr.size2 out.length:=by rw [hS];unfold vin;simp only [List.append_assoc]
  have hk2:k=(k6d m name note++(raw++sum4 out)).length+(1 - j):=by
   rw [e,List.length_append,s2] at hk;omega
  rw [e,hk2,kcp] at hne;rw [e,hk2,yhx] at h;have hn:=xfq (by rw [s2];omega) hne;have hl:=vsm (l:=Tr.size2 out.length) (i:=1 - j) (fun x hx=>by simp [Tr.size2] at hx;omega) hd;obtain ⟨a,b,e4⟩:=y3j (l:=(Tr.size2 out.length).set (1 - j) d) (by rw [List.length_set];rfl);rw [e4] at h hn hl;exact ksw (l:=B) M (ksp.of (by rw [h];simp only [List.append_assoc,List.cons_append,List.nil_append])) hz (hl a (by simp)) (hl b (by simp)) hn
 ·rw [if_neg h2];have e:S=(k6d m name note++raw)++(sum4 out++Tr.size2 out.length):=by rw [hS];unfold vin;simp only [List.append_assoc]
  have hk2:k=(k6d m name note++raw).length+(5 - j):=by
   have e3:(sum4 out++Tr.size2 out.length).length=6:=rfl;rw [e,List.length_append,e3] at hk;omega
  have hi:5 - j<(sum4 out).length:=by rw [yp8];omega
  rw [e,hk2,kcp,List.getElem?_append_left hi] at hne;rw [e,hk2,yhx,List.set_append_left _ _ hi] at h;have hn:=xfq hi hne;have hl:=vsm (i:=5 - j) (kme out) hd;obtain ⟨a,b,c,d',e4⟩:=vmx (l:=(sum4 out).set (5 - j) d) (by rw [List.length_set];rfl);rw [e4] at h hn hl;exact kig (l:=Tr.size2 out.length++B) M (ksp.of (by rw [h];simp only [List.append_assoc,List.cons_append,List.nil_append])) hz (hl a (by simp)) (hl b (by simp)) (hl c (by simp)) (hl d' (by simp)) hn
theorem ydw{s:ByteArray}{raw out S:List Nat}(hS:S=115 :: 1 :: (raw++sum4 out))(h:xpg s=S.take (S.length - 1))(hp:x56 raw out)(hz:s.size<=1000000000):(Tr.readAll 1 s).mean=(⟨#[]⟩,15):=by
 obtain ⟨a,b,c,d,e4⟩:=vmx (yp8 out);have hl:=kme out;rw [e4] at hS hl;have e:S.take (S.length - 1)=115 :: 1 :: (raw++[a,b,c]):=by
  have e2:S=(115 :: 1 :: (raw++[a,b,c]))++[d]:=by rw [hS];simp
  rw [e2,List.length_append];exact List.take_left' (by simp)
 rw [e] at h;exact jsd (ksp.of h) hp hz (hl a (by simp)) (hl b (by simp)) (hl c (by simp))
theorem zfo{s:ByteArray}{m m2:Nat}{name note raw out name2 note2 raw2 out2 A B:List Nat}(M:Mem m name note raw out)(M2:Mem m2 name2 note2 raw2 out2)(hA:A=vin m name note raw (sum4 out) (Tr.size2 out.length))(hB:B=vin m2 name2 note2 raw2 (sum4 out2) (Tr.size2 out2.length))
  (h:xpg s=A++B.take (B.length - 1)) (hz:s.size<=1000000000):(Tr.readAll 2 s).mean=(⟨#[]⟩,15):=by
 have e:B.take (B.length - 1)=k6d m2 name2 note2++(raw2++(sum4 out2++[out2.length%256])):=by
  have e2:B=(k6d m2 name2 note2++(raw2++(sum4 out2++[out2.length%256])))++[out2.length / 256%256]:=by rw [hB];simp [vin,Tr.size2]
  rw [e2,List.length_append];exact List.take_left' (by simp)
 rw [e,hA] at h;exact jcb M M2 (ksp.of h) hz (by omega)
def upB(s:ByteArray):List Nat:=(xpg s).take (upL (xpg s))
theorem j3q:∀ {l:List Nat} {x:Nat},x∈l.take (upL l)->x≠0:=by
 intro l;induction l with
 | nil=>intro x h;cases h
 | cons y ys ih=>
  intro x h;unfold upL at h;split at h
  ·simp at h
  ·rename_i hy
   rw [List.take_succ_cons] at h;rcases List.mem_cons.1 h with rfl | h
   ·exact hy
   ·exact ih h
theorem k0t(s:ByteArray):∀ x∈upB s,x<256∧x≠0:=fun x hx=>⟨jn7 s x (List.mem_of_mem_take hx),j3q hx⟩
theorem vyo(s:ByteArray)(n:Nat)(h:n<=s.size):xpg (s.extract 0 n)=(xpg s).take n:=by
 simp [xpg,ByteArray.data_extract]
theorem xc2(s:ByteArray):xpg (s.extract 0 (upL (xpg s)))=upB s:=by
 refine vyo s _ ?_;have:=yel (xpg s);rw [kev] at this;exact this
theorem zk0(s:ByteArray):(upB s).length<=s.size:=by
 unfold upB;rw [List.length_take,kev];omega
theorem zsz(W:World)(a:Nat):(convert 34 9 (.slice (some ⟨W.heap.size,0,none⟩) 1 1)).run Tryz.prog (W.alloc (.cells #[.int .u8 a] 5))= .ok (.string (xu6 [a])) (W.alloc (.cells #[.int .u8 a] 5)):=by
 have hx:(W.alloc (.cells #[.int .u8 a] 5)).heap[W.heap.size]?=some (.cells #[.int .u8 a] 5 (0,0)):=heap_alloc_new W _;refine run_convert_bytes_arg _ 34 5 Tryz.underlying34 Tryz.underlying5 W.heap.size 0 1 1 [(a:Int)] rfl ?_ 9 Tryz.underlying9;intro i hi;obtain rfl:i=0:=by omega
 rw [cell_of_row _ _ _ _ _ _ hx];rfl
theorem xpp{W:World}{g:Nat}(a b:Nat)(h:W.heap[g]?=some (.cells #[.int .u8 a, .int .u8 b] 5 (0,0))):(convert 34 9 (.slice (some ⟨g,0,none⟩) 2 2)).run Tryz.prog W= .ok (.string (xu6 [a,b])) W:=by
 refine run_convert_bytes_arg _ 34 5 Tryz.underlying34 Tryz.underlying5 g 0 2 2 [(a:Int),b] rfl ?_ 9 Tryz.underlying9;intro i hi;have:i=0∨i=1:=by omega
 rcases this with rfl | rfl <;> (rw [cell_of_row _ _ _ _ _ _ h];rfl)
theorem yq5(l:List Nat)(h:∀ x∈l,x<256)(s:ByteArray):xpg (s++xu6 l)=xpg s++l:=by
 rw [krw,y7p h]
theorem v4b(l:List Nat)(x:Nat):jxp 0 (l++[x])=(jxp 0 l+x)%256:=by
 rw [Tr.sumM_append];rfl
theorem kp8{l:List Nat}{k x:Nat}(h:l[k]?=some x):l.take (k+1)=l.take k++[x]:=by
 have hk:k<l.length:=(List.getElem?_eq_some_iff.1 h).1;rw [List.take_succ_eq_append_getElem hk];have:=(List.getElem?_eq_some_iff.1 h).2;rw [this]
theorem zru(s:ByteArray)(w:World)(hs:s.size<=1048576):Calls Tryz.prog 44 #[.string s] w fun e w'=>∃ t,e= .returned (.string t)∧w'=w∧xpg t=upB s∧t.size<=s.size:=by
 refine (zkw s w (by unfold maxLen;omega)).mono ?_;rintro e w' ⟨rfl,rfl⟩;have h1:=xc2 s;refine ⟨_,rfl,rfl,h1,?_⟩;have h2:=zk0 s;rw [← h1,kev] at h2;exact h2
theorem x2f(s t:ByteArray):xpg (s++t++⟨#[0]⟩)=xpg s++(xpg t++[0]):=by
 rw [krw,krw,List.append_assoc];rfl
theorem yrr(n:Int)(h₀:0<=n)(h₁:n<256):IntKind.u8.wrap n=n:=by
 have h:IntKind.u8.wrap n=n%256:=by simp [IntKind.wrap,IntKind.signed,IntKind.bits]
 rw [h];omega
structure MbE(w:World)(m n:Nat)(name note:ByteArray)(s o:ByteArray)(w':World):Prop where
 ex:∃ raw,Mem m (upB name) (upB note) raw (xpg o)∧xpg s=vin m (upB name) (upB note) raw (sum4 (xpg o)) (Tr.size2 (xpg o).length)
 small:s.size<=875*n+name.size+note.size+60∧o.size<=66*n
 bel:Below w.heap.size w w'
theorem vp7{ad:Option Addr}(cap:Nat)(parts:List PtD)(name note:ByteArray)(m:Nat)(w:World)(hP:PartsO w ad parts)(hW:wts parts<=1048576)(hm:m<8)(hn:name.size<=1048576)(hnt:note.size<=1048576) :
  Calls Tryz.prog 16 #[.slice ad parts.length cap, .string name, .string note, .int .i64 m] w fun e w'=>∃ s o,e= .returned (.tuple #[.string s, .string o])∧MbE w m (wts parts) name note s o w':=by
 have HP:Hid (PartsO w ad parts∧wts parts<=1048576):=⟨hP,hW⟩
 clear hP hW;have hm8:(m:Int)%256=m:=by omega
 obtain ⟨W1,hW1⟩:∃ W1,W1=w.alloc (.cells #[.int .u8 m] 5):=⟨_,rfl⟩
 have B1:Hid (Below w.heap.size w W1):=by rw [hW1];exact (Below.refl _ _).alloc (Nat.le_refl _) _
 have hcv:=zsz w m;obtain ⟨h0,hh0⟩:∃ h0:ByteArray,h0=⟨#[76,2]⟩++xu6 [m]:=⟨_,rfl⟩
 have H0:Hid (xpg h0=[76,2,m]):=by show _=_;rw [hh0,yq5 [m] (fun x hx=>by simp at hx;omega)];rfl
 go_enter Tryz.func16,Tryz.ntmps16
 go_upto_region 2 with fail
 rw [← hW1,← hh0];clear hW1 hcv hh0;go_upto_if 22 with fail
 have hz0:h0.size=3:=by rw [← kev,H0.out];rfl
 go_cut [10,22] (fun s10 _ wx=>∃ hd:ByteArray,s10= .string hd∧wx=W1∧hd.size<=name.size+4∧Hid (xpg hd=[76,2,m]++(if m%2=1 then upB name++[0] else [])))
 case first=>
  by_cases h1:m%2=1
  ·have hb:((m:Int)%2==1)=true:=by simp;omega
   have HU:=zru name W1 (by omega);go_wp2_with (go_at_call 44;refine HU.mono ?_;rintro e w1 ⟨t,rfl,rfl,ht,hts⟩;have HT:Hid (xpg t=upB name):=ht;clear ht)
   go_meet
   refine ⟨_,rfl,rfl,?_,?_⟩
   ·rw [ByteArray.size_append,ByteArray.size_append];show h0.size+t.size+1<=_;omega
   ·show _=_;rw [x2f,H0.out,HT.out,if_pos h1]
  ·have hb:((m:Int)%2==1)=false:=by simp;omega
   go_wp2_with fail
   go_meet
   refine ⟨h0,rfl,rfl,by omega,?_⟩;show _=_;rw [H0.out,if_neg h1];rfl
 case rest=>
 obtain ⟨hd1,rfl,rfl,hz1,H1⟩:=hcut;clear H0 hz0 h0;go_upto_if 31 with fail
 go_cut [10,31] (fun s10 _ wx=>∃ hd:ByteArray,s10= .string hd∧wx=wc∧hd.size<=name.size+note.size+5∧Hid (xpg hd=z7c m (upB name) (upB note)))
 case first=>
  by_cases h1:m / 2%2=1
  ·have hb:((m:Int) / 2%2==1)=true:=by simp;omega
   have HU:=zru note wc (by omega);go_wp2_with (go_at_call 44;refine HU.mono ?_;rintro e w1 ⟨t,rfl,rfl,ht,hts⟩;have HT:Hid (xpg t=upB note):=ht;clear ht)
   go_meet
   refine ⟨_,rfl,rfl,?_,?_⟩
   ·rw [ByteArray.size_append,ByteArray.size_append];show hd1.size+t.size+1<=_;omega
   ·show _=_;rw [x2f,H1.out,HT.out];unfold z7c;rw [if_pos h1,List.append_assoc]
  ·have hb:((m:Int) / 2%2==1)=false:=by simp;omega
   go_wp2_with fail
   go_meet
   refine ⟨hd1,rfl,rfl,by omega,?_⟩;show _=_;rw [H1.out];unfold z7c;rw [if_neg h1,List.append_nil]
 case rest=>
 obtain ⟨hd2,rfl,rfl,hz2,H2⟩:=hcut;clear H1 hz1 hd1;go_wp2_with fail
 have hbL:=fun k (h:k<hd2.size)=>y58 hd2 k h
 have HBL:Hid (∀ k (h:k<hd2.size),(xpg hd2)[k]?=some (hd2[k]).toNat):=hbL;clear hbL;go_loopw [11,12] (fun n i wr=>∃ k:Nat,k<=hd2.size∧n= .int .i64 (jxp 0 ((xpg hd2).take k):Nat)∧i= .int .i64 k∧wr=wc) (fun _ i _=>hd2.size - (intOf i).toNat)
 case atStart=>exact ⟨0,Nat.zero_le _,rfl,rfl,rfl⟩
 case round=>
  obtain ⟨k,hk,rfl,rfl,rfl⟩:=hrel;have hlt256:=zg9 ((xpg hd2).take k) (h:=0) (by decide);by_cases hlt:k<hd2.size
  ·have HN:Hid (jxp 0 ((xpg hd2).take (k+1))=(jxp 0 ((xpg hd2).take k)+(hd2[k]).toNat)%256):=by
    show _=_;rw [kp8 (HBL.out k hlt),v4b]
   have h255:(hd2[k]).toNat<256:=(hd2[k]).toNat_lt;generalize jxp 0 ((xpg hd2).take k)=N at *;obtain ⟨X,hX⟩:∃ X:Nat,(hd2[k]).toNat=X:=⟨_,rfl⟩
   have hXi:((hd2[k]).toNat:Int)=X:=by rw [hX]
   rw [hX] at HN h255;clear hX;go_wp2_with fail
   go_roundw
   case rel=>
    refine ⟨k+1,by omega,?_,by go_num,by trivial⟩;rw [HN.out];show Value.int .i64 _=Value.int .i64 _;simp
   case measure=>simp [intOf];omega
  ·obtain rfl:k=hd2.size:=by omega
   have eN:Hid ((xpg hd2).take hd2.size=xpg hd2):=List.take_of_length_le (by rw [kev];exact Nat.le_refl _);rw [eN.out] at hlt256 ⊢;rw [H2.out] at hlt256 ⊢;generalize hNN:jxp 0 (z7c m (upB name) (upB note))=N at *;have HN:Hid (jxp 0 (z7c m (upB name) (upB note))=N):=hNN;clear hNN eN hlt HBL hk;go_upto_if 52 with fail
   have hcv:=zsz wr N;obtain ⟨t1,ht1⟩:∃ t1,t1=xu6 [N]:=⟨_,rfl⟩
   have hz1:t1.size=1:=by rw [ht1,x8r];rfl
   have HT1:Hid (xpg t1=[N]):=by show _=_;rw [ht1,y7p (fun x hx=>by simp at hx;omega)]
   rw [← ht1] at hcv;clear ht1;have hN8:(N:Int)%256=N:=by omega
   go_cut [10,52] (fun s10 _ wx=>∃ hd:ByteArray,s10= .string hd∧Hid (Below w.heap.size w wx)∧hd.size<=name.size+note.size+6∧Hid (xpg hd=k6d m (upB name) (upB note)))
   case first=>
    by_cases h1:m / 4=1
    ·have hb:((m:Int) / 4==1)=true:=by simp;omega
     go_wp2_with fail
     go_meet
     refine ⟨_,rfl,(B1.out.alloc B1.out.size _),?_,?_⟩
     ·rw [ByteArray.size_append];omega
     ·show _=_;rw [krw,HT1.out,H2.out];unfold k6d;rw [if_pos h1,HN.out]
    ·have hb:((m:Int) / 4==1)=false:=by simp;omega
     go_wp2_with fail
     go_meet
     refine ⟨hd2,rfl,B1.out,by omega,?_⟩;show _=_;rw [H2.out];unfold k6d;rw [if_neg h1,List.append_nil]
   case rest=>
   obtain ⟨hd3,rfl,B2,hz3,H3⟩:=hcut;clear hcv B1 H2 HN hz2 hN8 hlt256 hz1 HT1 t1;go_upto_region 14 with (go_at_call 14;refine (v3p cap parts _ (HP.out.1.below B2.out) HP.out.2).mono ?_;rintro e w2 ⟨s0,o0,rfl,hp0,⟨hs0,ho0⟩,b2⟩)
   have HP2:Hid (x56 (xpg s0) (xpg o0)∧Below w.heap.size w w2):=⟨hp0,B2.out.trans (b2.mono B2.out.size)⟩
   have hwt:=HP.out.2;have hs1:s0.size<=917504020:=by omega
   have ho1:o0.size<=69206016:=by omega
   have HSZ:Hid (s0.size<=875*wts parts+20∧o0.size<=66*wts parts):=⟨hs0,ho0⟩
   clear hp0 b2 B2 HP hs0 ho0 hwt;obtain ⟨t4,ht4⟩:∃ t4,t4=xu6 (sum4 (xpg o0)):=⟨_,rfl⟩
   have hz4:t4.size=4:=by rw [ht4,x8r];rfl
   have HT4:Hid (xpg t4=sum4 (xpg o0)):=by show _=_;rw [ht4,y7p (kme _)]
   have HS:Hid (∀ V:World,Calls Tryz.prog 15 #[.string o0] V fun e w'=>e= .returned (.string t4)∧Below V.heap.size V w'):=by
    intro V;rw [ht4];exact xpa o0 V (by unfold maxLen;omega)
   clear ht4;obtain ⟨za,hza⟩:∃ za:Nat,o0.size%256=za:=⟨_,rfl⟩
   obtain ⟨zb,hzb⟩:∃ zb:Nat,o0.size / 256%256=zb:=⟨_,rfl⟩
   have hzai:(o0.size:Int)%256=za:=by omega
   have hzbi:(o0.size:Int) / 256%256=zb:=by omega
   have hza2:(za:Int)%256=za:=by omega
   have hzb2:(zb:Int)%256=zb:=by omega
   have hw0:IntKind.i64.wrap ((o0.size:Int) / 256)=(o0.size:Int) / 256:=by rw [IntWalk.i64_left,IntWalk.wrap64_in _ ⟨by omega,by omega⟩]
   have hw1:IntKind.u8.wrap ((o0.size:Int).tmod 256)=za:=by rw [Int.tmod_eq_emod_of_nonneg (by omega),hzai];exact yrr _ (by omega) (by omega)
   have hw2:IntKind.u8.wrap (((o0.size:Int) / 256).tmod 256)=zb:=by rw [Int.tmod_eq_emod_of_nonneg (by omega),hzbi];exact yrr _ (by omega) (by omega)
   obtain ⟨t2,ht2⟩:∃ t2,t2=xu6 [za,zb]:=⟨_,rfl⟩
   have hz2:t2.size=2:=by rw [ht2,x8r];rfl
   have HT2:Hid (xpg t2=Tr.size2 (xpg o0).length):=by
    show _=_;rw [ht2,y7p (fun x hx=>by simp at hx;omega),kev];unfold Tr.size2;rw [hza,hzb]
   have HC2:Hid (∀ (V:World) (g:Nat),V.heap[g]?=some (.cells #[.int .u8 za, .int .u8 zb] 5 (0,0))->(convert 34 9 (.slice (some ⟨g,0,none⟩) 2 2)).run Tryz.prog V= .ok (.string t2) V):=fun V g h=>by rw [ht2];exact xpp za zb h
   clear ht2 hza hzb;have hcA:∀ V:World,(convert 34 9 (.slice (some ⟨V.heap.size,0,none⟩) 2 2)).run Tryz.prog (V.alloc (.cells #[.int .u8 za, .int .u8 zb] 5))= .ok (.string t2) (V.alloc (.cells #[.int .u8 za, .int .u8 zb] 5)):=fun V=>HC2.out _ _ (heap_alloc_new V _)
   have hcC:(convert 34 9 (.slice (some ⟨w2.heap.size,0,none⟩) 2 2)).run Tryz.prog (w2.alloc (.cells #[.int .u8 za, .int .u8 zb] 5)).drew= .ok (.string t2) (w2.alloc (.cells #[.int .u8 za, .int .u8 zb] 5)).drew:=HC2.out _ _ (heap_alloc_new w2 _);have HE:Hid (∀ W,Below w2.heap.size w2 W->MbE w m (wts parts) name note (hd3++s0++t4++t2) o0 W):=fun W hb=>by
    refine ⟨⟨xpg s0,⟨hm,k0t name,k0t note,HP2.out.1⟩,?_⟩,?_,HP2.out.2.trans (hb.mono HP2.out.2.size)⟩
    ·rw [krw,krw,krw,H3.out,HT4.out,HT2.out];unfold vin;simp only [List.append_assoc]
    ·obtain ⟨q1,q2⟩:=HSZ.out;rw [ByteArray.size_append,ByteArray.size_append,ByteArray.size_append];exact ⟨by omega,q2⟩
   go_region_with
    (first
     | (go_at_call 15;refine (HS.out (w2.alloc (.cells #[.int .u8 za, .int .u8 zb] 5)).drew).mono ?_;rintro e w3 ⟨rfl,b3⟩;have hcB:=HC2.out w3 w2.heap.size (by rw [b3.block w2.heap.size (by simp)];exact heap_alloc_new w2 _);have B3:Hid (Below w2.heap.size w2 w3):=(((Below.refl w2.heap.size w2).alloc (Nat.le_refl _) _).drew).trans (b3.mono (by simp));clear b3)
     | (go_at_call 15;refine (HS.out w2.drew).mono ?_;rintro e w3 ⟨rfl,b3⟩;have hcB:=HC2.out (w3.alloc (.cells #[.int .u8 za, .int .u8 zb] 5)) w3.heap.size (heap_alloc_new w3 _);have B3:Hid (Below w2.heap.size w2 w3):=((Below.refl w2.heap.size w2).drew).trans b3;clear b3))
   all_goals
    go_wp2_with fail
    go_ret2
    exact ⟨hd3++s0++t4++t2,o0,rfl,HE.out _ (by first | exact B3.out | exact B3.out.alloc B3.out.size _)⟩
end Go.Proofs.YtbcjmakpempkiaaGreatDoor
