import Derived.Lib.Builder
import Derived.Lib.UnsafeStr
import Derived.Maps.AppendAt
import Derived.Shelf.RegionOpenPlain
import Derived.Test.YtbcjmakpempkiaaGreatDoorX09
set_option maxRecDepth 100000
set_option maxHeartbeats 8000000
set_option linter.all false
namespace Go.Proofs.YtbcjmakpempkiaaGreatDoor
open Go.RowKit
def MS.fresh(fm ou ra sl me he sp:Nat):MS:={ fm:=fm,ou:=ou,ra:=ra,sl:=sl,me:=me,he:=he,sp:=sp,st:=0,er:=0,tk:=0,pu:=0,mb:=0,held:=0,count:=0,marks:=0,head:=0,hsum:=0,sx:=0,sy:=0,size:=0,last:=false,left:=0,nl:=0,nd:=0,told:=0,hlen:=0,hbef:=false,hleast:=0,hbits:=0,lit:=0,least:=0,bits:=0,dist:=0,rest:=[],qa:=[],qc:=[],hl:=[],row:=[],hs:=[],la:=[],lb:=[] }
theorem yys(cs:Array Value)(h:cs.size=7):(Tryz.prog.info? 42).map (·.size)=some cs.size:=by rw [h];kernel_rfl
theorem kec(n:Int)(w:World):Calls Tryz.prog 49 #[.int .i64 n] w fun e w'=>e= .returned (Cfg.val ⟨n,9223372036854775807,0,9223372036854775807,9223372036854775807,9223372036854775807,9223372036854775807⟩)∧Below w.heap.size w w':=by
 unfold Cfg.val;go_enter Tryz.func49,Tryz.ntmps49
 go_wp2_with fail
 refine bodyPost_ret (v:= .agg #[.int .i64 n, .int .i64 9223372036854775807, .int .i64 0, .int .i64 9223372036854775807, .int .i64 9223372036854775807, .int .i64 9223372036854775807, .int .i64 9223372036854775807]) ?_ rfl ?_
 ·exact results_cell_row Tryz.results49 _ _ _ 42 _ _ _ rfl (heap_alloc_new _ _) Tryz.underlying42 rfl (yys _ rfl)
 ·exact ⟨rfl,(Below.refl _ _).alloc (Nat.le_refl _) _⟩
structure CfgB(w W:World)(G fm ou ra sl me he sp:Nat):Prop where
 cs:W.cell? ⟨G,0,none⟩=some (.int .i64 fm)∧W.cell? ⟨G,1,none⟩=some (.int .i64 ou)∧W.cell? ⟨G,2,none⟩=some (.int .i64 ra)∧W.cell? ⟨G,3,none⟩=some (.int .i64 sl)∧W.cell? ⟨G,4,none⟩=some (.int .i64 me)∧W.cell? ⟨G,5,none⟩=some (.int .i64 he)∧W.cell? ⟨G,6,none⟩=some (.int .i64 sp)
 bel:Below w.heap.size w W
 lt:G<W.heap.size
theorem CfgB.step{w W W':World}{G fm ou ra sl me he sp:Nat}(h:CfgB w W G fm ou ra sl me he sp)(f:Below W.heap.size W W'):CfgB w W' G fm ou ra sl me he sp:=by
 obtain ⟨⟨c0,c1,c2,c3,c4,c5,c6⟩,b,l⟩:=h;have k:∀ i,W'.cell? ⟨G,i,none⟩=W.cell? ⟨G,i,none⟩:=fun i=>f.cell l
 exact ⟨⟨by rw [k];exact c0,by rw [k];exact c1,by rw [k];exact c2,by rw [k];exact c3,by rw [k];exact c4,by rw [k];exact c5,by rw [k];exact c6⟩,b.trans (f.mono b.size),Nat.lt_of_lt_of_le l f.size⟩
theorem CfgB.made(w:World)(fm ou ra sl me he sp:Nat):CfgB w (w.alloc (.cells #[.int .i64 fm, .int .i64 ou, .int .i64 ra, .int .i64 sl, .int .i64 me, .int .i64 he, .int .i64 sp] 42)) w.heap.size fm ou ra sl me he sp:=by
 have h:=heap_alloc_new w (.cells #[.int .i64 fm, .int .i64 ou, .int .i64 ra, .int .i64 sl, .int .i64 me, .int .i64 he, .int .i64 sp] 42);refine ⟨⟨?_,?_,?_,?_,?_,?_,?_⟩,(Below.refl _ _).alloc (Nat.le_refl _) _,by simp⟩ <;> (rw [cell_of_row _ _ _ _ _ _ h];rfl)
theorem RgI.below'{w w':World}{r c N o:Nat}{f:Nat->Nat}{q:List Nat}(h:RgI w r c N o f q)(b:Below w.heap.size w w'):RgI w' r c N o f q:=h.kp (R:=fun _=>False) (ρ:=fun _=>0) (Kp.of_below b) (fun e=>e) (fun e=>e)
theorem xi1{w:World}{g i:Nat}(h:g<w.heap.size)(o:Obj):(w.alloc o).cell? ⟨g,i,none⟩=w.cell? ⟨g,i,none⟩:=by
 unfold World.cell?;rw [Go.heap_alloc_old _ _ h]
theorem jmy{w w2:World}{fm ou ra sl me he sp a b c d:Nat}(hs:w.heap.size<=a∧w.heap.size<=b)(h2:a<c∧a<d∧b<c∧b<d)(h3:a<w2.heap.size∧b<w2.heap.size∧c<w2.heap.size∧d<w2.heap.size)(I1:RgI w2 a b 64 0 (fun _=>0) [])(I2:RgI w2 c d 256 0 (fun _=>0) [])(hb:Below w.heap.size w w2) :
  ∃ ρ,MQ ρ (w2.alloc (.cells (k7n (MS.fresh fm ou ra sl me he sp) ⟨a,b,c,d, .slice none 0 0,0, .slice none 0 0, .pointer none, .slice none 0 0, .pointer none, .pointer none⟩).toArray 132)) w2.heap.size (MS.fresh fm ou ra sl me he sp)∧(∀ k,ρ k≠0->w.heap.size<=k):=by
 have n1:=I1.ne;have n2:=I2.ne;obtain ⟨ρ,hρ⟩:∃ ρ:Nat->Nat,ρ=fun k=>if k=w2.heap.size then 1 else if k=a then 2 else if k=b then 3 else if k=c then 4 else if k=d then 5 else 0:=⟨_,rfl⟩
 have e0:ρ w2.heap.size=1:=by rw [hρ];simp
 have e1:ρ a=2:=by rw [hρ];simp;omega
 have e2:ρ b=3:=by
  rw [hρ];show (if b=w2.heap.size then 1 else if b=a then 2 else if b=b then 3 else _)=3;rw [if_neg (by omega),if_neg (Ne.symm n1),if_pos rfl]
 have e3:ρ c=4:=by
  rw [hρ];show (if c=w2.heap.size then 1 else if c=a then 2 else if c=b then 3 else if c=c then 4 else _)=4;rw [if_neg (by omega),if_neg (by omega),if_neg (by omega),if_pos rfl]
 have e4:ρ d=5:=by
  rw [hρ];show (if d=w2.heap.size then 1 else if d=a then 2 else if d=b then 3 else if d=c then 4 else if d=d then 5 else 0)=5;rw [if_neg (by omega),if_neg (by omega),if_neg (by omega),if_neg (Ne.symm n2),if_pos rfl]
 have hz:∀ k,ρ k≠0->k=w2.heap.size∨k=a∨k=b∨k=c∨k=d:=fun k hk=>by
  apply Classical.byContradiction;intro hn;apply hk;rw [hρ];show (if k=w2.heap.size then 1 else if k=a then 2 else if k=b then 3 else if k=c then 4 else if k=d then 5 else 0)=0;rw [if_neg (by omega),if_neg (by omega),if_neg (by omega),if_neg (by omega),if_neg (by omega)]
 have ba:∀ o,Below w2.heap.size w2 (w2.alloc o):=fun o=>(Below.refl _ _).alloc (Nat.le_refl _) o
 have hsz:=hb.size;refine ⟨ρ,⟨⟨a,b,c,d, .slice none 0 0,0, .slice none 0 0, .pointer none, .slice none 0 0, .pointer none, .pointer none⟩,⟨?_,⟨0,_,I1.below' (ba _)⟩,⟨0,_,I2.below' (ba _)⟩,e0,e1,e2,e3,e4⟩,⟨SupI.nil_ _ _,⟨OI.nil _ _,fun g hg=>by cases hg⟩,⟨OI.nil _ _,fun g hg=>by cases hg⟩,Or.inl rfl,Or.inl rfl,Or.inl rfl,fun k hk=>?_⟩,rfl,rfl⟩,fun k hk=>?_⟩
 ·refine World.rowIs_alloc w2 _ 132 _ fun i hi=>?_
  have hi':i<(k7n (MS.fresh fm ou ra sl me he sp) ⟨a,b,c,d, .slice none 0 0,0, .slice none 0 0, .pointer none, .slice none 0 0, .pointer none, .pointer none⟩).length:=by simpa using hi
  unfold lrow;rw [List.getElem?_toArray,List.getD_eq_getElem?_getD,List.getElem?_eq_getElem hi'];rfl
 ·have:=hz k hk;simp;omega
 ·have:=hz k hk;omega
theorem j54(fm ou ra sl me he sp:Nat)(w:World):Calls Tryz.prog 46 #[Cfg.val ⟨fm,ou,ra,sl,me,he,sp⟩] w fun e w'=>∃ p ρ,e= .returned (.pointer (some ⟨p,0,none⟩))∧MQ ρ w' p (MS.fresh fm ou ra sl me he sp)∧(∀ k,ρ k≠0->w.heap.size<=k)∧Below w.heap.size w w':=by
 unfold Cfg.val;go_enter Tryz.func46,Tryz.ntmps46
 go_wp2_with fail
 have HT:Hid (CfgB w (w.alloc (.cells #[.int .i64 fm, .int .i64 ou, .int .i64 ra, .int .i64 sl, .int .i64 me, .int .i64 he, .int .i64 sp] 42)) w.heap.size fm ou ra sl me he sp):=CfgB.made w fm ou ra sl me he sp;generalize (w.alloc (.cells #[.int .i64 fm, .int .i64 ou, .int .i64 ra, .int .i64 sl, .int .i64 me, .int .i64 he, .int .i64 sp] 42))=W at *;obtain ⟨G,hG⟩:∃ G,G=w.heap.size:=⟨_,rfl⟩
 rw [← hG] at HT ⊢;have HG:Hid (G=w.heap.size):=hG;clear hG;obtain ⟨c0,c1,c2,c3,c4,c5,c6⟩:=HT.out.cs;go_region_held3 (fun wv=>wv.cell? ⟨G,0,none⟩=some (.int .i64 fm)∧wv.cell? ⟨G,1,none⟩=some (.int .i64 ou)∧wv.cell? ⟨G,2,none⟩=some (.int .i64 ra)∧wv.cell? ⟨G,3,none⟩=some (.int .i64 sl)∧wv.cell? ⟨G,4,none⟩=some (.int .i64 me)∧wv.cell? ⟨G,5,none⟩=some (.int .i64 he)∧wv.cell? ⟨G,6,none⟩=some (.int .i64 sp)) (first | exact ⟨c0,c1,c2,c3,c4,c5,c6⟩ | exact ⟨d0,d1,d2,d3,d4,d5,d6⟩ | exact ⟨f0,f1,f2,f3,f4,f5,f6⟩ | exact ⟨(xi1 hGl _).trans f0,(xi1 hGl _).trans f1,(xi1 hGl _).trans f2,(xi1 hGl _).trans f3,(xi1 hGl _).trans f4,(xi1 hGl _).trans f5,(xi1 hGl _).trans f6⟩)
  (first
   | (go_at_call 74;refine (joa 64 _ (by decide) (by decide)).mono ?_;rintro e w1 ⟨r1,q1,rfl,I1,a1,b1,k1⟩;have H1:Hid (CfgB w w1 G fm ou ra sl me he sp∧RgI w1 r1 q1 64 0 (fun _=>0) []∧W.heap.size<=r1∧W.heap.size<=q1∧W.heap.size<=w1.heap.size):=⟨HT.out.step ⟨k1.os,k1.tape,k1.output,k1.size,k1.block⟩,I1,a1,b1,k1.size⟩;obtain ⟨d0,d1,d2,d3,d4,d5,d6⟩:=H1.out.1.cs;clear I1 a1 b1 k1)
   | (go_at_call 74;refine (joa 256 _ (by decide) (by decide)).mono ?_;rintro e w2 ⟨r2,q2,rfl,I2,a2,b2,k2⟩;have H2:Hid (CfgB w w2 G fm ou ra sl me he sp∧RgI w2 r2 q2 256 0 (fun _=>0) []∧w1.heap.size<=r2∧w1.heap.size<=q2∧Below w1.heap.size w1 w2):=⟨H1.out.1.step k2,I2,a2,b2,k2⟩;obtain ⟨f0,f1,f2,f3,f4,f5,f6⟩:=H2.out.1.cs;have hGl:=H2.out.1.lt;clear I2 a2 b2 k2))
 all_goals
  go_wp2_with fail
  go_ret
  have g1:=H1.out;have g2:=H2.out;have hl1:=g1.2.1.row.lt;have hl2:=g1.2.1.cells.lt;have hl3:=g2.2.1.row.lt;have hl4:=g2.2.1.cells.lt;have hsz:=g2.2.2.2.2.size;have hWl:=HT.out.lt;have hGw:=HG.out;obtain ⟨ρ,M,hk⟩:=jmy (w:=w) (w2:=w2) (fm:=fm) (ou:=ou) (ra:=ra) (sl:=sl) (me:=me) (he:=he) (sp:=sp) (a:=r1) (b:=q1) (c:=r2) (d:=q2) ⟨by omega,by omega⟩ ⟨by omega,by omega,by omega,by omega⟩ ⟨by omega,by omega,by omega,by omega⟩ (g1.2.1.below' g2.2.2.2.2) g2.2.1 g2.1.bel;exact ⟨_,ρ,rfl,M,hk,g2.1.bel.alloc (by have:=g2.1.bel.size;omega) _⟩
structure BlI(B b:Nat)(p v:Value)(l:List Nat)(w:World):Prop where
 le:B<=b
 at_:w.rowIs b 106 2 (lrow [p,v])
 own:w.ownsRow B 5 1 v l.length (keg l)
 ne:v.ownBlock≠some b
 self:p= .pointer none∨p= .pointer (some ⟨b,0,none⟩)
theorem BlI.lt{B b:Nat}{p v:Value}{l:List Nat}{w:World}(h:BlI B b p v l w):b<w.heap.size:=h.at_.lt
theorem BlI.cell0{B b:Nat}{p v:Value}{l:List Nat}{w:World}(h:BlI B b p v l w):w.cell? ⟨b,0,none⟩=some p:=h.at_.cell (i:=0) (by omega)
theorem BlI.cell1{B b:Nat}{p v:Value}{l:List Nat}{w:World}(h:BlI B b p v l w):w.cell? ⟨b,1,none⟩=some v:=h.at_.cell (i:=1) (by omega)
theorem BlI.frozen{B b:Nat}{p v:Value}{l:List Nat}{w:World}(h:BlI B b p v l w)(i:Nat):w.frozen? ⟨b,i,none⟩=false:=h.at_.frozen i
theorem vp1:(Tryz.prog.info? 106).map (·.size)=some 2:=by kernel_rfl
theorem jex:liesAt Tryz.prog Tryz.prog.depth 106 (2 / Tryz.prog.cellsOf 106) 0 106 1=true:=by kernel_rfl
theorem yuq:Tryz.prog.cellsOf 5=1:=by kernel_rfl
theorem BlI.shape{B b:Nat}{p v:Value}{l:List Nat}{w:World}(h:BlI B b p v l w):w.shape? b=some (106,2):=by
 obtain ⟨cs,h1,h2,_⟩:=h.at_;simp [World.shape?,h1,h2]
theorem BlI.used{B b:Nat}{p v:Value}{l:List Nat}{w:World}(h:BlI B b p v l w):BlI B b (.pointer (some ⟨b,0,none⟩)) v l (w.setCell ⟨b,0,none⟩ (.pointer (some ⟨b,0,none⟩))):=by
 refine ⟨h.le,?_,?_,h.ne,Or.inr rfl⟩
 ·exact ypd h.at_ 0 _ rfl
 ·exact kcz h.own (R:=fun k=>k=b) (ρ:=fun k=>k) (Kp.of_set w ⟨b,0,none⟩ _ rfl) (fun g hg e=>h.ne (by rw [hg];exact congrArg some e))
theorem y1a{B b:Nat}{p v:Value}{l:List Nat}{w:World}(h:BlI B b p v l w):Calls Tryz.prog 77 #[.pointer (some ⟨b,0,none⟩)] w fun e w'=>e= .returned (.tuple #[])∧BlI B b (.pointer (some ⟨b,0,none⟩)) v l w'∧(w'=w∨w'=w.setCell ⟨b,0,none⟩ (.pointer (some ⟨b,0,none⟩))):=by
 obtain ⟨j,hj,hjs⟩:=Option.map_eq_some_iff.1 vp1;have c0:=h.cell0;have z0:=h.frozen 0;have hsh:=h.shape;have HB:Hid (BlI B b p v l w):=h;have hs:=h.self;clear h;rcases hs with rfl | rfl
 ·go_enter Tryz.func77,Tryz.ntmps77
  go_wp2_with fail
  rw [Lib.run_to_unsafe w ⟨b,0,none⟩ Tryz.underlying104 Tryz.underlying191 hj (by rw [hjs];decide) hsh (Nat.zero_lt_succ 1)];simp only [Result.andThen];rw [Oper.upon_value];go_wp2_with fail
  rw [run_callFunc_extern Tryz.func107 (by kernel_rfl) (by kernel_rfl) (by kernel_rfl) (e:=Extern.AbiNoEscape.same) (by kernel_rfl)];rw [Lib.run_noEscape];simp only [Result.andThen];rw [Oper.upon_value];go_wp2_with fail
  rw [Lib.run_from_unsafe w ⟨b,0,none⟩ Tryz.underlying191 Tryz.underlying104 hj hsh jex];simp only [Result.andThen];rw [Oper.upon_value];go_wp2_with fail
  go_end0
  exact ⟨rfl,HB.out.used,Or.inr rfl⟩
 ·go_enter Tryz.func77,Tryz.ntmps77
  go_wp2_with fail
  rw [Lib.run_neq_ptr_same w _ Tryz.underlying104 hj];go_wp2_with fail
  go_end0
  exact ⟨rfl,HB.out,Or.inl rfl⟩
structure BFr(b:Nat)(o:Option Nat)(w w':World):Prop where
 size:w.heap.size<=w'.heap.size
 block:∀ k,k<w.heap.size->k≠b->o≠some k->w'.heap[k]?=w.heap[k]?
 os:w'.os=w.os
 tape:w'.tape=w.tape
 output:w'.output=w.output
def WrE(B b:Nat)(v:Value)(l news:List Nat)(w:World)(e:Ending)(w':World):Prop:=
 ∃ v',e= .returned (.tuple #[.int .i64 news.length, .nilIface])∧BlI B b (.pointer (some ⟨b,0,none⟩)) v' (l++news) w'∧(v'.ownBlock=v.ownBlock∨v'.ownBlock=some w.heap.size)∧BFr b v.ownBlock w w'
theorem vt5{w:World}{g m:Nat}{news:List Nat}(h:w.rowIs g 5 m (fun j=> .int .u8 (news.getD j 0:Nat)))(hm:news.length=m):∀ j u,(keg news)[j]?=some u->w.cell? (Addr.add ⟨g,0,none⟩ j)=some u:=fun j u hu=>by
 have hj:j<m:=by have:=(List.getElem?_eq_some_iff.1 hu).1;simp [keg] at this;omega
 have e1:Addr.add ⟨g,0,none⟩ j=⟨g,j,none⟩:=by unfold Addr.add;by_cases hj0:j=0 <;> simp [hj0]
 rw [e1,h.cell hj];unfold keg at hu;rw [List.getElem?_map,List.getElem?_eq_getElem (by omega)] at hu;rw [← hu];simp [List.getD_eq_getElem?_getD,List.getElem?_eq_getElem (show j<news.length by omega)]
theorem x4f{B b:Nat}{p v:Value}{l news:List Nat}{w:World}{g m:Nat}(h:BlI B b p v l w)(hB:B<=w.heap.size)(hr:w.rowIs g 5 m (fun j=> .int .u8 (news.getD j 0:Nat)))(hm:news.length=m)(hgb:g≠b)(hlen:l.length+m<=10000000000000) :
  Calls Tryz.prog 51 #[.pointer (some ⟨b,0,none⟩), .slice (some ⟨g,0,none⟩) m m] w fun e w'=>WrE B b v l news w e w':=by
 have HB:Hid (BlI B b p v l w∧w.rowIs g 5 m (fun j=> .int .u8 (news.getD j 0:Nat))):=⟨h,hr⟩
 clear h hr;obtain ⟨i5,hi5,hx0,hx1,hx2⟩:=info_parts kh5;go_enter Tryz.func51,Tryz.ntmps51
 go_wp2_with fail
 refine (y1a HB.out.1).mono ?_;rintro e w1 ⟨rfl,I1,hw1⟩;have HF1:Hid (BFr b none w w1∧w1.rowIs g 5 m (fun j=> .int .u8 (news.getD j 0:Nat))∧w1.heap.size=w.heap.size):=by
  rcases hw1 with rfl | rfl
  ·exact ⟨⟨Nat.le_refl _,fun _ _ _ _=>rfl,rfl,rfl,rfl⟩,HB.out.2,rfl⟩
  ·exact ⟨⟨by simp,fun k _ hk _=>Below.heap_setCell _ _ _ _ hk,rfl,rfl,rfl⟩,HB.out.2.setOther (a:=⟨b,0,none⟩) hgb _,by simp⟩
 clear hw1;obtain ⟨v',w2,hrun,hown,hgrow,_,hat⟩:=run_append_own_at (P:=Tryz.prog) w1 B 34 34 5 i5 (.int .u8 0) 1 1 Tryz.underlying34 hi5 hx0 hx1 hx2 rfl (by decide) v l.length (keg l) I1.own ⟨g,0,none⟩ m m (keg news) (by simp [keg,hm]) (vt5 HF1.out.2.1 hm) (fun u hu=>by unfold keg at hu;obtain ⟨x,_,rfl⟩:=List.mem_map.1 hu;rfl) (by unfold maxLen;omega) (by omega) (by rw [HF1.out.2.2];exact hB);have c1:=I1.cell1;have hb1:=I1.lt;have hbk:w2.heap[b]?=w1.heap[b]?:=hgrow.block b hb1 (fun e=>I1.ne e.symm);have hI2:w2.rowIs b 106 2 (lrow [.pointer (some ⟨b,0,none⟩),v]):=I1.at_.of_block hbk;have hv'b:v'.ownBlock≠some b:=by
  rcases hat with e | e
  ·rw [e];exact I1.ne
  ·rw [e];intro e2;injection e2 with e2;omega
 have HN:Hid (BlI B b (.pointer (some ⟨b,0,none⟩)) v' (l++news) (w2.setCell ⟨b,1,none⟩ v')∧(v'.ownBlock=v.ownBlock∨v'.ownBlock=some w.heap.size)∧BFr b v.ownBlock w (w2.setCell ⟨b,1,none⟩ v')):=by
  refine ⟨⟨I1.le,ypd hI2 1 v' rfl,?_,hv'b,Or.inr rfl⟩,?_,?_⟩
  ·have e1:(l++news).length=l.length+m:=by rw [List.length_append,hm]
   rw [e1,show keg (l++news)=keg l++keg news by simp [keg]];exact kcz hown (R:=fun k=>k=b) (ρ:=fun k=>k) (Kp.of_set w2 ⟨b,1,none⟩ _ rfl) (fun g hg e=>hv'b (by rw [hg];exact congrArg some e))
  ·rw [← HF1.out.2.2];exact hat
  ·refine ⟨by rw [← HF1.out.2.2];simpa using hgrow.size,fun k hk hkb hkv=>?_,hgrow.os.trans HF1.out.1.os,hgrow.tape.trans HF1.out.1.tape,hgrow.output.trans HF1.out.1.output⟩;rw [Below.heap_setCell _ _ _ _ hkb,hgrow.block k (by rw [HF1.out.2.2];exact hk) (Ne.symm hkv)];exact HF1.out.1.block k hk hkb (by simp)
 have d1:w2.cell? ⟨b,1,none⟩=some v:=hI2.cell (i:=1) (by omega);have z1:w2.frozen? ⟨b,1,none⟩=false:=hI2.frozen 1;obtain ⟨ao,n',cap',rfl⟩:∃ ao n' cap,v'= .slice ao n' cap:=by
  rcases hown.2 with ⟨hv,_⟩ | ⟨g,cap,cur,hv,_⟩
  ·exact ⟨_,_,_,hv⟩
  ·exact ⟨_,_,_,hv⟩
 clear hI2 hbk I1 hat hgrow hown hv'b;go_wp2_with (at_builtin;refine Lib.wpList_append_run w1 rfl _ _ 34 34 rfl _ _ rfl rfl _ w2 hrun ?_)
 go_ret2
 exact ⟨_,by rw [hm];rfl,HN.out⟩
theorem zz2(l:List Nat):xu6 l=⟨(l.map UInt8.ofNat).toArray⟩:=by
 unfold xu6 strOfNums;simp [Function.comp_def]
theorem xcv{l:List Nat}(h:∀ x∈l,x<256):keg l=Lib.byteCells (l.map UInt8.ofNat):=by
 unfold keg Lib.byteCells;rw [List.map_map];apply List.map_congr_left;intro x hx;have:=h x hx;simp;omega
theorem vfo{B b:Nat}{p v:Value}{l:List Nat}{w:World}(h:BlI B b p v l w)(hB:B<=w.heap.size)(hl:∀ x∈l,x<256) :
  Calls Tryz.prog 54 #[.pointer (some ⟨b,0,none⟩)] w fun e w'=>e= .returned (.string (xu6 l))∧Below B w w':=by
 have mixed:Tryz.prog.follows Departure.mixedOrders=true:=by kernel_rfl
 have HB:Hid (BlI B b p v l w):=h;have c1:w.drew.cell? ⟨b,1,none⟩=some v:=h.cell1;have hown:=h.own;clear h;rcases hown.2 with ⟨rfl,h0⟩ | ⟨g,cap,cur,rfl,hbg,hg,hnc,hcm,hcs,htake⟩
 ·have hl0:l=[]:=List.eq_nil_of_length_eq_zero h0;subst hl0;have hSD:(Builtin.unsafeSliceData_ #[34] 165 #[.slice none 0 0]).run Tryz.prog w.drew= .ok (.pointer none) w.drew:=rfl;have hUS:=fun W=>Lib.run_unsafeString_none (P:=Tryz.prog) W 165 3 9 none
  clear hown;go_enter Tryz.func54,Tryz.ntmps54
  go_wp2_with fail
  go_region_o
  all_goals
   go_wp2_with fail
   go_ret
   exact ⟨rfl,Below.drew (Below.refl B w)⟩
 ·by_cases h0:l=[]
  ·subst h0;simp only [List.length_nil] at c1 HB hnc;by_cases hc0:cap=0
   ·subst hc0;have hg':w.drew.heap[g]?=some (.cells cur 5 (0,0)):=hg;have hSD:=Lib.run_unsafeSliceData_zero (P:=Tryz.prog) w.drew #[34] 165 5 Tryz.underlying165 ⟨g,0,none⟩ 0 (5,cur.size) (by simp [World.shape?,hg']);have hUS:=fun W=>Lib.run_unsafeString_none (P:=Tryz.prog) W 165 3 9 (some ⟨w.heap.size,0,none⟩)
    have hbl:=HB.out.lt;have c1w:w.cell? ⟨b,1,none⟩=some (.slice (some ⟨g,0,none⟩) 0 0):=HB.out.cell1;have c1':∀ o,(w.drew.alloc o).cell? ⟨b,1,none⟩=some (.slice (some ⟨g,0,none⟩) 0 0):=fun o=>by rw [xi1 (show b<w.drew.heap.size from hbl)];exact c1
    clear hown hg hg' htake hcs;go_enter Tryz.func54,Tryz.ntmps54
    go_wp2_with fail
    go_region_o
    all_goals
     go_wp2_with fail
     go_ret
     exact ⟨rfl,(Below.drew (Below.refl B w)).alloc hB _⟩
   ·have hSD:=Lib.run_unsafeSliceData_row (P:=Tryz.prog) w.drew #[34] 165 ⟨g,0,none⟩ 0 cap hc0;have hUS:=fun W=>Lib.run_unsafeString_none (P:=Tryz.prog) W 165 3 9 (some ⟨g,0,none⟩)
    clear hown hg htake hcs;go_enter Tryz.func54,Tryz.ntmps54
    go_wp2_with fail
    go_region_o
    all_goals
     go_wp2_with fail
     go_ret
     exact ⟨rfl,Below.drew (Below.refl B w)⟩
  ·have hll:l.length≠0:=by simpa using h0
   obtain ⟨lu,hlu⟩:∃ lu,lu=l.map UInt8.ofNat:=⟨_,rfl⟩
   have hlul:lu.length=l.length:=by rw [hlu];simp
   have hlu0:lu≠[]:=by intro e;rw [e] at hlul;simp at hlul;omega
   have hcells:∀ j x,lu[j]?=some x->w.drew.cell? (Addr.add ⟨g,0,none⟩ j)=some (.int .u8 x.toNat):=fun j x hx=>by
    refine hown.cells (g:=g) rfl j (.int .u8 x.toNat) ?_;rw [xcv hl,← hlu];simp [Lib.byteCells,hx]
   have hg':w.drew.heap[g]?=some (.cells cur 5 (0,0)):=hg;have hSD:=Lib.run_unsafeSliceData_row (P:=Tryz.prog) w.drew #[34] 165 ⟨g,0,none⟩ l.length cap (by omega);have hUS:=Lib.run_unsafeString_row (P:=Tryz.prog) w.drew 165 3 9 5 Tryz.underlying165 yuq g cur.size (by simp [World.shape?,hg']) lu hlu0 (by omega) (by unfold maxLen at hcm;omega) hcells;rw [hlul] at hUS;have HL:Hid (xu6 l=⟨lu.toArray⟩):=by show _=_;rw [zz2,hlu]
   generalize l.length=n at *;clear hown hg hg' htake hcs hcells hlu;go_enter Tryz.func54,Tryz.ntmps54
   go_wp2_with fail
   go_region_o
   all_goals
    go_wp2_with fail
    go_ret
    exact ⟨by rw [HL.out];rfl,Lib.below_freeze (Below.drew (Below.refl B w)) (p:=⟨g,0,none⟩) hbg _⟩
def MS.verdict(x:MS):Nat:=if x.er=0∧x.st≠24 then 15 else x.er
theorem z9n{ρ:Nat->Nat}{w:World}{p:Nat}{x:MS}(h:MM ρ w p x):Calls Tryz.prog 53 #[.pointer (some ⟨p,0,none⟩)] w fun e w'=>e= .returned (.int .i64 x.verdict)∧w'=w:=by
 have c7:=h.cell7.1;obtain ⟨L,B,_⟩:=h;have c8:w.cell? ⟨p,8,none⟩=some (.int .i64 x.er):=B.row.cell (i:=8) (by omega);clear B;unfold MS.verdict;by_cases h0:x.er=0
 ·by_cases h1:x.st=24
  ·rw [if_neg (fun h=>h.2 h1),h0];rw [h0] at c8;rw [h1] at c7;go_enter Tryz.func53,Tryz.ntmps53
   go_wp2_with fail
   go_ret
   exact ⟨rfl,rfl⟩
  ·rw [if_pos ⟨h0,h1⟩];rw [h0] at c8;have h1i:¬ (x.st:Int)=24:=by omega
   go_enter Tryz.func53,Tryz.ntmps53
   go_wp2_with fail
   go_ret
   exact ⟨rfl,rfl⟩
 ·rw [if_neg (fun h=>h0 h.1)];have h0i:¬ (x.er:Int)=0:=by omega
  go_enter Tryz.func53,Tryz.ntmps53
  go_wp2_with fail
  go_ret
  exact ⟨rfl,rfl⟩
theorem MQ.taken{ρ:Nat->Nat}{w:World}{p:Nat}{x:MS}(h:MQ ρ w p x)(most:Nat)(hm:most<=1000000):∃ r,w.cell? ⟨p,16,none⟩=some (.pointer (some ⟨r,0,none⟩))∧Calls Tryz.prog 52 #[.pointer (some ⟨r,0,none⟩), .int .i64 most] w fun e w'=>
  ∃ g,e= .returned (.slice (some ⟨g,0,none⟩) (min most x.qa.length) (min most x.qa.length))∧w.heap.size<=g∧w'.rowIs g 5 (min most x.qa.length) (fun j=> .int .u8 (x.qa.getD j 0:Nat))∧MQ ρ w' p { x with qa:=x.qa.drop (min most x.qa.length) }∧Fr mine ρ w w':=by
 obtain ⟨L,B,T,h1,h2⟩:=h;obtain ⟨o,f,k⟩:=B.ra;obtain ⟨r1,r2,_,_⟩:=B.rl;refine ⟨L.a,B.row.cell (i:=16) (by omega),(vv3 most k (T.lt _ (by rw [r2];decide)) hm).mono ?_⟩;rintro e w' ⟨g,rfl,hg,hrow,hI,hT⟩;have F:=Fr.five hT r1 r2 (by decide) (by decide);exact ⟨g,rfl,hg,hrow,⟨L,B.ringA hI hT,(T.fr5 F).same rfl rfl rfl rfl ⟨rfl,rfl⟩,h1,h2⟩,F.five_mine⟩
namespace St
def re(σ:St)(M L:Nat):St:={ σ with mem:=M,lim:=L }
structure Eff(σ σ':St):Prop where
 cnt:σ'.count<=σ.count
 hm:8*σ'.hmany+σ'.count<=8*σ.hmany+σ.count
 bg:σ.st≠23->σ'.begun=σ.begun∧σ'.st≠0∧(σ.st=0->σ'.count+8<=σ.count)
 bg2:σ.st=23->σ'.begun=σ.begun+1∧σ.fmt=2∧σ'.st=0∧σ'.count=σ.count
 fm:σ'.fmt=σ.fmt
end St
def Act.re(A:Act)(M L:Nat):Act:=
 match A with
 | .take=> .take
 | .put b σ=> .put b (σ.re M L)
 | .tau σ=> .tau (σ.re M L)
 | .fail e=> .fail e
namespace St
theorem eff_tau{σ σ':St}(W:Wf σ)(ha:σ.act= .tau σ'):Eff σ σ':=by
 rcases cases24 W.st with h | h | h | h | h | h | h | h | h | h | h | h | h | h | h | h | h | h | h | h | h | h | h | h
 all_goals
  rw [act_at h] at ha;simp only [actAt,need,headByte,text,kind,endBlock,rowNumber,endRow,symbol,literal] at ha;(repeat' split at ha)
  all_goals first
   | (cases ha;done)
   | (injection ha with ha;subst ha;exact ⟨by simp [crown,rd] <;> omega,by simp [crown,rd] <;> omega,fun h23=>by first | (exfalso;exact h23 h) | exact ⟨rfl,by simp [crown,rd,h] <;> (try split) <;> omega,fun h0=>by simp [crown,rd] <;> omega⟩,fun h23=>by first | (exfalso;omega) | exact ⟨rfl,by omega,rfl,rfl⟩,rfl⟩)
theorem eff_put{σ σ':St}{b:Nat}(W:Wf σ)(ha:σ.act= .put b σ'):Eff σ σ':=by
 rcases cases24 W.st with h | h | h | h | h | h | h | h | h | h | h | h | h | h | h | h | h | h | h | h | h | h | h | h
 all_goals
  rw [act_at h] at ha;simp only [actAt,need,headByte,text,kind,endBlock,rowNumber,endRow,symbol,literal] at ha;(repeat' split at ha)
  all_goals first
   | (cases ha;done)
   | (injection ha with _ ha;subst ha;exact ⟨by simp [crown,rd] <;> omega,by simp [crown,rd] <;> omega,fun h23=>⟨rfl,by simp [crown,rd,h],fun h0=>by omega⟩,fun h23=>by omega,rfl⟩)
theorem re_if{M L:Nat}{c c':Prop}[Decidable c][Decidable c']{A B A' B':Act}(hc:c'↔c)(ha:A'=A.re M L)(hb:B'=B.re M L):(if c' then A' else B')=(if c then A else B).re M L:=by
 by_cases h:c
 ·rw [if_pos h,if_pos (hc.2 h)];exact ha
 ·rw [if_neg h,if_neg (fun x=>h (hc.1 x))];exact hb
theorem re_need{M L:Nat}{σ:St}{k:Nat}{A A':Act}(h:A'=A.re M L):(σ.re M L).need k A'=(σ.need k A).re M L:=re_if Iff.rfl rfl h
theorem re_headByte{M L:Nat}{σ:St}{a b:Nat}(h:L<=σ.hmany↔σ.lim<=σ.hmany):(σ.re M L).headByte a b=(σ.headByte a b).re M L:=re_if h rfl (re_if Iff.rfl rfl rfl)
theorem re_text{M L:Nat}{σ:St}{a:Nat}(h:L<=σ.hmany↔σ.lim<=σ.hmany):(σ.re M L).text a=(σ.text a).re M L:=re_if h rfl rfl
theorem re_endBlock{M L:Nat}{σ:St}:(σ.re M L).endBlock=σ.endBlock.re M L:=re_if Iff.rfl (re_if Iff.rfl rfl rfl) rfl
theorem re_kind{M L:Nat}{σ:St}:(σ.re M L).kind=σ.kind.re M L:=re_if Iff.rfl (re_if Iff.rfl rfl rfl) (re_if Iff.rfl rfl (re_if Iff.rfl rfl rfl))
theorem re_endRow{M L:Nat}{σ:St}:(σ.re M L).endRow=σ.endRow.re M L:=re_if Iff.rfl rfl rfl
theorem re_rowNumber{M L:Nat}{σ:St}:(σ.re M L).rowNumber=σ.rowNumber.re M L:=re_if Iff.rfl rfl (re_if Iff.rfl rfl (re_if Iff.rfl (re_endRow (σ:={ σ.rd (hbits σ.hk) with row:=σ.row++List.replicate (hleast σ.hk+σ.num (hbits σ.hk)) (hval σ.hk σ.row),st:=13 }) (M:=M) (L:=L)) rfl))
theorem re_literal{M L:Nat}{σ:St}{k:Nat}:(σ.re M L).literal k=(σ.literal k).re M L:=by
 unfold literal;by_cases h1:k<256
 ·rw [if_pos h1,if_pos h1];rfl
 ·rw [if_neg h1,if_neg h1];by_cases h2:k=256
  ·rw [if_pos h2,if_pos h2];exact re_endBlock
  ·rw [if_neg h2,if_neg h2];rfl
theorem re_symbol{M L:Nat}{σ:St}{l:List Int}{f f':St->Nat->Act}(h:∀ τ k,f' (St.re τ M L) k=(f τ k).re M L):(σ.re M L).symbol l f'=(σ.symbol l f).re M L:=by
 show (match jcs l σ.held σ.count with | .hit k m=>f' ((σ.rd m).re M L) k | .more=>Act.take | .none=> .fail 11)=(match jcs l σ.held σ.count with | .hit k m=>f (σ.rd m) k | .more=>Act.take | .none=> .fail 11).re M L;cases jcs l σ.held σ.count with
 | hit k m=>exact h _ _
 | more=>rfl
 | none=>rfl
theorem act_re0{σ:St}(W:Wf σ){M L:Nat}(hL:σ.st<=5->(L<=σ.hmany↔σ.lim<=σ.hmany))(hM:σ.st=23->(M<=σ.begun↔σ.mem<=σ.begun)):(σ.re M L).act=σ.act.re M L:=by
 rcases cases24 W.st with h | h | h | h | h | h | h | h | h | h | h | h | h | h | h | h | h | h | h | h | h | h | h | h
 ·rw [act_at h,act_at (show (σ.re M L).st=0 from h)];exact re_need (re_headByte (hL (by omega)))
 ·rw [act_at h,act_at (show (σ.re M L).st=1 from h)];exact re_need (re_headByte (hL (by omega)))
 ·rw [act_at h,act_at (show (σ.re M L).st=2 from h)];exact re_if Iff.rfl (re_need (re_if (hL (by omega)) rfl (re_if Iff.rfl rfl rfl))) rfl
 ·rw [act_at h,act_at (show (σ.re M L).st=3 from h)];exact re_if Iff.rfl (re_need (re_text (hL (by omega)))) rfl
 ·rw [act_at h,act_at (show (σ.re M L).st=4 from h)];exact re_if Iff.rfl (re_need (re_text (hL (by omega)))) rfl
 ·rw [act_at h,act_at (show (σ.re M L).st=5 from h)];exact re_if Iff.rfl (re_need (re_headByte (hL (by omega)))) rfl
 ·rw [act_at h,act_at (show (σ.re M L).st=6 from h)];exact re_need re_kind
 ·rw [act_at h,act_at (show (σ.re M L).st=7 from h)];exact re_need (re_if Iff.rfl rfl rfl)
 ·rw [act_at h,act_at (show (σ.re M L).st=8 from h)];exact re_if Iff.rfl re_endBlock (re_need rfl)
 ·rw [act_at h,act_at (show (σ.re M L).st=9 from h)];exact re_need (re_if Iff.rfl rfl rfl)
 ·rw [act_at h,act_at (show (σ.re M L).st=10 from h)];exact re_need rfl
 ·rw [act_at h,act_at (show (σ.re M L).st=11 from h)];exact re_need (re_if Iff.rfl rfl rfl)
 ·rw [act_at h,act_at (show (σ.re M L).st=12 from h)];exact re_if Iff.rfl (re_need rfl) (re_if Iff.rfl rfl rfl)
 ·rw [act_at h,act_at (show (σ.re M L).st=13 from h)];show (σ.re M L).symbol σ.hs (fun τ k=> .tau { τ with hk:=k,st:=14 })=(σ.symbol σ.hs (fun τ k=> .tau { τ with hk:=k,st:=14 })).re M L;refine re_symbol ?_;intro τ k;rfl
 ·rw [act_at h,act_at (show (σ.re M L).st=14 from h)];exact re_need re_rowNumber
 ·rw [act_at h,act_at (show (σ.re M L).st=15 from h)];exact rfl
 ·rw [act_at h,act_at (show (σ.re M L).st=16 from h)];refine re_symbol ?_;intro τ k;exact re_literal
 ·rw [act_at h,act_at (show (σ.re M L).st=17 from h)];exact re_need rfl
 ·rw [act_at h,act_at (show (σ.re M L).st=18 from h)];show (σ.re M L).symbol σ.lb (fun τ k=> .tau { τ with least:=Tr.spanLeast 1 k,bits:=Tr.spanBits k,st:=19 })=(σ.symbol σ.lb (fun τ k=> .tau { τ with least:=Tr.spanLeast 1 k,bits:=Tr.spanBits k,st:=19 })).re M L;refine re_symbol ?_;intro τ k;rfl
 ·rw [act_at h,act_at (show (σ.re M L).st=19 from h)];exact re_need (re_if Iff.rfl rfl rfl)
 ·rw [act_at h,act_at (show (σ.re M L).st=20 from h)];exact re_if Iff.rfl rfl rfl
 ·rw [act_at h,act_at (show (σ.re M L).st=21 from h)];exact re_if Iff.rfl rfl (re_need (re_if Iff.rfl rfl rfl))
 ·rw [act_at h,act_at (show (σ.re M L).st=22 from h)];exact re_if Iff.rfl (re_need (re_if Iff.rfl rfl rfl)) rfl
 ·rw [act_at h,act_at (show (σ.re M L).st=23 from h)];exact re_need (re_if Iff.rfl rfl (re_if (hM h) rfl rfl))
theorem act_re{σ:St}(W:Wf σ){M L:Nat}(h1:¬ σ.lim<=σ.hmany)(h1':¬ L<=σ.hmany)(h2:¬ σ.mem<=σ.begun)(h2':¬ M<=σ.begun):(σ.re M L).act=σ.act.re M L:=
 act_re0 W (fun _=>⟨fun h=>absurd h h1',fun h=>absurd h h1⟩) (fun _=>⟨fun h=>absurd h h2',fun h=>absurd h h2⟩)
structure Cnt(c:Cf):Prop where
 hm:8*c.σ.hmany+c.σ.count<=8*c.pre.length
 bg:8*c.σ.begun+c.σ.count<=8*c.pre.length+8∨(c.σ.fmt≠2∧c.σ.begun=1)
 bg2:c.σ.st≠0->c.σ.fmt=2->8*c.σ.begun+c.σ.count<=8*c.pre.length
end St
theorem Cnt.begin(fm mem lim:Nat):St.Cnt (Cf.begin fm mem lim):=by
 refine ⟨by show 8*0+0<=8*0;omega,Or.inl (by show 8*1+0<=8*0+8;omega),fun h h2=>?_⟩;exfalso
 have h2':fm=2:=h2;apply h;show (if fm=0 then 6 else 0)=0;rw [if_neg (by omega)]
theorem Cnt.step{q:Quo}{D:Nat}{s:ByteArray}{c c':Cf}(W:St.Wf c.σ)(h:St.Cnt c)(st:j3w q D s c c'):St.Cnt c':=by
 obtain ⟨a1,a2,a3⟩:=h;have key:∀ σ',St.Eff c.σ σ'->(8*σ'.hmany+σ'.count<=8*c.pre.length)∧(8*σ'.begun+σ'.count<=8*c.pre.length+8∨(σ'.fmt≠2∧σ'.begun=1))∧(σ'.st≠0->σ'.fmt=2->8*σ'.begun+σ'.count<=8*c.pre.length):=fun σ' E=>by
  obtain ⟨e1,e2,e3,e4,e5⟩:=E;refine ⟨by omega,?_,fun g1 g2=>?_⟩
  ·by_cases h23:c.σ.st=23
   ·obtain ⟨f1,f2,f3,f4⟩:=e4 h23;have:=a3 (by omega) f2;left;omega
   ·obtain ⟨f1,f2,f3⟩:=e3 h23;rcases a2 with a2 | ⟨a2,a2'⟩
    ·left;omega
    ·right;exact ⟨by rw [e5];exact a2,by omega⟩
  ·by_cases h23:c.σ.st=23
   ·exact absurd (e4 h23).2.2.1 g1
   ·obtain ⟨f1,f2,f3⟩:=e3 h23;by_cases h0:c.σ.st=0
    ·have:=f3 h0;rcases a2 with a2 | ⟨a2,_⟩
     ·omega
     ·exact absurd (e5.symm.trans g2) a2
    ·have:=a3 h0 (by rw [← e5];exact g2);omega
 cases st with
 | take h1 h2 h3=>
  refine ⟨?_,?_,fun g1 g2=>?_⟩
  ·show 8*c.σ.hmany+(c.σ.count+8)<=8*(c.pre++[_]).length;rw [List.length_append,List.length_singleton];omega
  ·show 8*c.σ.begun+(c.σ.count+8)<=8*(c.pre++[_]).length+8∨(c.σ.fmt≠2∧c.σ.begun=1);rw [List.length_append,List.length_singleton];rcases a2 with a2 | a2
   ·left;omega
   ·right;exact a2
  ·show 8*c.σ.begun+(c.σ.count+8)<=8*(c.pre++[_]).length;rw [List.length_append,List.length_singleton];have:=a3 g1 g2;omega
 | put b σ' h1 h2 h3=>obtain ⟨k1,k2,k3⟩:=key σ' (St.eff_put W h1);exact ⟨k1,k2,k3⟩
 | tau σ' h1=>obtain ⟨k1,k2,k3⟩:=key σ' (St.eff_tau W h1);exact ⟨k1,k2,k3⟩
def Cf.re(c:Cf)(M L:Nat):Cf:={ c with σ:=c.σ.re M L }
structure Far(s:ByteArray)(c:Cf)(M L:Nat):Prop where
 m:s.size+1<c.σ.mem∧s.size+1<M
 l:s.size<c.σ.lim∧s.size<L
theorem Cnt.act_re{s:ByteArray}{c:Cf}{M L:Nat}(W:St.Wf c.σ)(h:St.Cnt c)(hl:c.pre.length<=s.size)(F:Far s c M L):(c.σ.re M L).act=c.σ.act.re M L:=by
 have h1:=h.hm;have h2:=h.bg;obtain ⟨f1,f2⟩:=F;refine St.act_re W (by omega) (by omega) ?_ ?_
 ·rcases h2 with h2 | h2 <;> omega
 ·rcases h2 with h2 | h2 <;> omega
theorem v44.re{q:Quo}{D:Nat}{s:ByteArray}{a b:Cf}{M L:Nat}(h:v44 q D s a b):St.Wf a.σ->St.Cnt a->a.pre.length<=s.size->Far s a M L->v44 q D s (a.re M L) (b.re M L)∧St.Cnt b∧b.pre.length<=s.size∧Far s b M L∧St.Wf b.σ:=by
 induction h with
 | refl c=>exact fun W C hl F=>⟨.refl _,C,hl,F,W⟩
 | step a b c h1 _ ih=>
  intro W C hl F;have N:=St.next W;have ha:=Cnt.act_re W C hl F;have C1:=Cnt.step W C h1;have key:j3w q D s (a.re M L) (b.re M L)∧St.Wf b.σ∧b.pre.length<=s.size∧b.σ.mem=a.σ.mem∧b.σ.lim=a.σ.lim:=by
   cases h1 with
   | take g1 g2 g3=>
    rw [g1] at ha N;refine ⟨j3w.take (a.re M L) ha g2 g3,N _ (z5g _ _),?_,rfl,rfl⟩;show (a.pre++[_]).length<=s.size;rw [List.length_append,List.length_singleton];omega
   | put y σ' g1 g2 g3=>
    rw [g1] at ha N;exact ⟨j3w.put (a.re M L) y (σ'.re M L) ha g2 g3,N.1,hl,N.2.2.2.2.1,N.2.2.2.2.2⟩
   | tau σ' g1=>
    rw [g1] at ha N;exact ⟨j3w.tau (a.re M L) (σ'.re M L) ha,N.1,hl,N.2.2.2.1,N.2.2.2.2.1⟩
  obtain ⟨k1,k2,k3,k4,k5⟩:=key;obtain ⟨i1,i2⟩:=ih k2 C1 k3 ⟨by rw [k4];exact F.m,by rw [k5];exact F.l⟩;exact ⟨.step _ _ _ k1 i1,i2⟩
namespace Tr
theorem mean_obs{t:Tr}{o a:List Nat}{i:Nat}{s:List Nat}{e:Nat}{n:Bool}(h:obs t=⟨o,a,i,s,e,n⟩):t.mean=if e≠0 then (⟨#[]⟩,e) else if n then (⟨#[]⟩,15) else (xu6 o,0):=by
 unfold obs at h;injection h with h1 h2 h3 h4 h5 h6
 unfold Tr.mean;rw [h1,h5,h6]
end Tr
theorem Sm.drain{q:Quo}{D:Nat}{s:ByteArray}{x:MS}{c:Cf}(h:Sm q D s x c)(k:Nat)(hk:D+k<=c.outs.length):Sm q (D+k) s { x with qa:=x.qa.drop k } c:=
 { h with
  qa:=by show x.qa.drop k=c.outs.drop (D+k);rw [h.qa,List.drop_drop]
  dle:=⟨hk,by have:=h.dle.2;omega⟩ }
theorem yvw.drain{q:Quo}{D:Nat}{s:ByteArray}{x:MS}{c:Cf}(h:yvw q D s x c)(k:Nat)(hk:D+k<=c.outs.length):yvw q (D+k) s { x with qa:=x.qa.drop k } c:=by
 cases h with
 | run h=>exact .run ⟨h.sm.drain k hk,h.st,h.mb,h.pre⟩
 | fresh h a b e=>exact .fresh (h.drain k hk) a b e
 | between h a b e f g i=>exact .between (h.drain k hk) a b e f g i
theorem Sm.feed{q:Quo}{D:Nat}{s:ByteArray}{x:MS}{c:Cf}(h:Sm q D s x c)(s':ByteArray)(hs:c.pre.length<=s'.size):Sm q D s' { x with rest:=jlo s' c.pre.length } c:=
 { h with
  rest:=rfl
  le:=hs }
theorem yvw.feed{q:Quo}{D:Nat}{s:ByteArray}{x:MS}{c:Cf}(h:yvw q D s x c)(s':ByteArray)(hs:c.pre.length<=s'.size):yvw q D s' { x with rest:=jlo s' c.pre.length } c:=by
 cases h with
 | run h=>exact .run ⟨h.sm.feed s' hs,h.st,h.mb,h.pre⟩
 | fresh h a b e=>exact .fresh (h.feed s' hs) a b e
 | between h a b e f g i=>exact .between (h.feed s' hs) a b e f g i
theorem yvw.first{q:Quo}{fm mem lim:Nat}(hfm:fm<3)(hm:1<=mem)(s:ByteArray):yvw q 0 s { MS.fresh fm q.out q.ratio q.slack mem lim q.steps with rest:=jlo s 0 } (Cf.begin fm mem lim):=by
 refine .fresh ?_ rfl rfl rfl;have hst:(Cf.begin fm mem lim).σ.st=if fm=0 then 6 else 0:=rfl;have h14:¬ 10<=(Cf.begin fm mem lim).σ.st:=by rw [hst];split <;> omega
 exact {
   wf:=St.begin_wf hfm
   fm:=rfl
   me:=rfl
   he:=rfl
   ou:=rfl
   ra:=rfl
   sl:=rfl
   sp:=rfl
   er:=rfl
   tk:=rfl
   pu:=rfl
   rest:=rfl
   le:=Nat.zero_le _
   held:=rfl
   count:=rfl
   qa:=rfl
   dle:=⟨Nat.zero_le _,Nat.zero_le _⟩
   qc:=by show ([]:List Nat)=List.drop _ [];rw [List.drop_nil]
   marks:=rfl
   head:=⟨rfl,Nat.zero_le _⟩
   hsum:=rfl
   sum:=fun h=>absurd rfl h
   sumle:=⟨Nat.zero_le _,Nat.zero_le _⟩
   stp:=Nat.zero_le _
   size:=rfl
   last:=rfl
   left:=rfl
   nl:=fun h=>absurd h.1 h14
   nd:=fun h=>absurd (Nat.le_trans (by decide) h.1) h14
   told:=fun h=>absurd (Nat.le_trans (by decide) h.1) h14
   hl:=rfl
   row:=rfl
   hs:=fun h=>absurd (Nat.le_trans (by decide) h.1) h14
   hk:=fun h=>absurd (by rw [h];decide) h14
   la:=fun h=>absurd (Nat.le_trans (by decide) h.1) h14
   lit:=rfl
   span:=⟨rfl,rfl⟩
   dist:=rfl
   mb:=⟨rfl,hm⟩ }
theorem j3w.outMu{q:Quo}{D:Nat}{s:ByteArray}{a b:Cf}(W:St.Wf a.σ)(h:j3w q D s a b):b.outs.length+muC s b<=a.outs.length+muC s a:=by
 have m:=(h.mu W).2;cases h with
 | take h1 h2 h3=>show a.outs.length+_<=_;omega
 | put y σ' h1 h2 h3=>
  show (a.outs++[y]).length+_<=_;rw [List.length_append,List.length_singleton];omega
 | tau σ' h1=>show a.outs.length+_<=_;omega
theorem v44.outMu{q:Quo}{D:Nat}{s:ByteArray}{a b:Cf}(h:v44 q D s a b):St.Wf a.σ->b.outs.length+muC s b<=a.outs.length+muC s a:=by
 induction h with
 | refl=>exact fun _=>Nat.le_refl _
 | step a b c h1 _ ih=>
  intro W;have:=h1.outMu W;have:=ih (h1.mu W).1;omega
theorem v44.bytes{q:Quo}{D:Nat}{s:ByteArray}{a b:Cf}(h:v44 q D s a b):St.Wf a.σ->(∀ y∈a.outs,y<256)->∀ y∈b.outs,y<256:=by
 induction h with
 | refl=>exact fun _ h=>h
 | step a b c h1 _ ih=>
  intro W hb;refine ih (h1.mu W).1 ?_;cases h1 with
  | take=>exact hb
  | put z σ' g1 g2 g3=>
   have N:=St.next W;rw [g1] at N;intro y hy;rcases List.mem_append.1 hy with hy | hy
   ·exact hb y hy
   ·rw [List.mem_singleton.1 hy];exact N.2.1
  | tau=>exact hb
inductive x0d(s:ByteArray):Nat->MS->List Nat->ByteArray×Nat->Prop
 | go (k n:Nat) (x:MS) (l:List Nat) (r:MS×Nat) (res:ByteArray×Nat):x.tk<=s.size->vgc n { x with rest:=jlo s x.tk } r->r.2=2->r.1.qa.length<=64->(∀ y∈l++r.1.qa,y<256)->l.length+64<=10000000000000->x0d s k { r.1 with rest:=[],qa:=[] } (l++r.1.qa) res->x0d s (k+1) x l res
 | stop (n:Nat) (x:MS) (l:List Nat) (r:MS×Nat):x.tk<=s.size->vgc n { x with rest:=jlo s x.tk } r->r.2≠2->r.1.qa.length<=64->(∀ y∈l++r.1.qa,y<256)->l.length+64<=10000000000000->x0d s 0 x l (if MS.verdict r.1≠0 then (⟨#[]⟩,MS.verdict r.1) else (xu6 (l++r.1.qa),0))
def kor:Quo:=⟨9223372036854775807,0,9223372036854775807,9223372036854775807⟩
theorem x3k:Lim kor 9223372036854775807 9223372036854775807:=⟨Nat.le_refl _,by show 0*9223372036854775807+9223372036854775807<=9223372036854775807;omega,Nat.le_refl _,Nat.le_refl _,Nat.le_refl _⟩
theorem Halt.cases{q:Quo}{D:Nat}{s:ByteArray}{c:Cf}{e:Nat}(h:Halt q D s false c e none):(e=0)∨(q.steps<=c.pre.length+c.outs.length)∨(∃ b σ',c.σ.act= .put b σ'∧vcn q c.pre.length c.outs.length=e∧e≠0)∨c.σ.act= .fail e:=by
 generalize hn:(none:Option Bool)=a at h;cases h with
 | hungry h1 h2=>left;rw [if_neg (fun h=>by cases h.1)]
 | steps h1 h2 h3=>right;left;exact h3
 | full b σ' h1 h2=>left;rfl
 | quota b σ' h1 h2 h3=>right;right;left;exact ⟨b,σ',h1,rfl,h3⟩
 | fail _ h1=>right;right;right;exact h1
theorem zjb(s:ByteArray)(fm mem lim:Nat)(h:fm<3):muC s (Cf.begin fm mem lim)<=1000*s.size+100:=by
 have:=St.loc_lt (St.begin_wf (mem:=mem) (lim:=lim) h);unfold muC St.phi;show 1000*(s.size - 0)+(100*0+_)<=_;have e:(Cf.begin fm mem lim).σ=St.begin fm mem lim:=rfl;rw [e];omega
structure Came(fm:Nat)(s:ByteArray)(c:Cf):Prop where
 path:v44 kor c.outs.length s (Cf.begin fm 9223372036854775807 9223372036854775807) c
theorem Came.begin(fm:Nat)(s:ByteArray):Came fm s (Cf.begin fm 9223372036854775807 9223372036854775807):=⟨.refl _⟩
theorem Came.facts{fm:Nat}{s:ByteArray}{c:Cf}(h:Came fm s c)(hfm:fm<3)(hs:s.size<=1000000000) :
  zi6 fm 9223372036854775807 9223372036854775807 c∧zik c.pre s∧c.outs.length<=1000*s.size+100∧(∀ y∈c.outs,y<256)∧GI fm 1152921504606846976 1152921504606846976 (c.re 1152921504606846976 1152921504606846976)∧(c.σ.re 1152921504606846976 1152921504606846976).act=c.σ.act.re 1152921504606846976 1152921504606846976:=by
 obtain ⟨G,T⟩:=zi6.steps h.path (zi6.begin hfm (by decide)) (zik.nil s);have W0:=St.begin_wf (mem:=9223372036854775807) (lim:=9223372036854775807) hfm;have h1:=h.path.outMu W0;have h2:=zjb s fm 9223372036854775807 9223372036854775807 hfm;have h3:(Cf.begin fm 9223372036854775807 9223372036854775807).outs.length=0:=rfl;have R:=v44.re (M:=1152921504606846976) (L:=1152921504606846976) h.path W0 (Cnt.begin _ _ _) (Nat.zero_le _) ⟨⟨by show s.size+1<9223372036854775807;omega,by omega⟩,⟨by show s.size<9223372036854775807;omega,by omega⟩⟩;obtain ⟨R1,R2,R3,R4,R5⟩:=R;have G':=(zi6.steps R1 (zi6.begin (fm:=fm) (mem:=1152921504606846976) (lim:=1152921504606846976) hfm (by decide)) (zik.nil s)).1;exact ⟨G,T,by omega,h.path.bytes W0 (fun y hy=>by cases hy),G'.gi,Cnt.act_re R5 R2 R3 R4⟩
theorem Came.go{fm:Nat}{s:ByteArray}{c c':Cf}(h:Came fm s c)(hfm:fm<3)(st:v44 kor c.outs.length s c c'):Came fm s c':=by
 have T:=(zi6.steps (h.path.trans st) (zi6.begin hfm (by decide)) (zik.nil s)).2;obtain ⟨k,hk⟩:=st.grows.outs;exact ⟨(h.path.trans st).mono (by rw [hk,List.length_append];omega) T⟩
theorem kmg{fm:Nat}{s:ByteArray}(h0:s.size=0):(Tr.readAll fm s).mean=(⟨#[]⟩,15):=by
 have hT:Tr.obs (Tr.readAll fm s)=⟨[],[],0,[],0,true⟩:=by
  unfold Tr.readAll Tr.read Tr.readRaw Tr.readShort Tr.readLong;simp only [if_pos h0];split
  ·rfl
  ·split <;> rfl
 rw [Tr.mean_obs hT,if_neg (by decide),if_pos rfl]
theorem xy1{fm:Nat}{s:ByteArray}{D:Nat}{x:MS}{c:Cf}(h:Came fm s c)(hfm:fm<3)(hs:s.size<=1000000000)(S:yvw kor D s x c)(ha:c.σ.act= .take)(hl:s.size<=c.pre.length) :
  (Tr.readAll fm s).mean=if MS.verdict x≠0 then (⟨#[]⟩,MS.verdict x) else (xu6 c.outs,0):=by
 obtain ⟨G,T,_,_,GI',hact⟩:=h.facts hfm hs;have hle:=S.sm.le;have her:=S.sm.er;have main:s.size≠0->(Tr.readAll fm s).mean=if c.σ.st<23 then (⟨#[]⟩,15) else (xu6 c.outs,0):=fun h0=>by
  have O:=GI'.hungry (show (c.σ.re _ _).act=_ by rw [hact,ha];rfl) h0 T (show s.size=c.pre.length by omega);unfold Tr.readAll;rw [Tr.mean_obs O,if_neg (by decide)];show (if decide (c.σ.st<23)=true then _ else (xu6 c.outs,0))=_;by_cases h1:c.σ.st<23
  ·rw [if_pos (by simpa using h1),if_pos h1]
  ·rw [if_neg (by simpa using h1),if_neg h1]
 cases S with
 | run N=>
  rw [main (by have:=N.pre;omega)];have hst:=N.st;have hw:=N.sm.wf.st;unfold MS.verdict;by_cases h1:c.σ.st<23
  ·rw [if_pos h1,if_pos (show x.er=0∧x.st≠24 from ⟨her,by omega⟩),if_pos (by decide)]
  ·rw [if_neg h1,if_neg (show ¬ (x.er=0∧x.st≠24) from fun h=>h.2 (by omega)),her,if_neg (by decide)]
 | fresh _ e1 _ e2=>
  have h0:c.pre.length=0:=by rw [e2];rfl
  rw [kmg (by omega)];unfold MS.verdict;rw [if_pos (show x.er=0∧x.st≠24 from ⟨her,by omega⟩),if_pos (by decide)]
 | between _ _ _ h23 _ h8 _=>
  exfalso
  rw [St.act_at h23] at ha;simp only [St.actAt,St.need] at ha;rw [if_neg (by omega)] at ha;(repeat' split at ha) <;> cases ha
theorem k0m{fm:Nat}{s:ByteArray}{D:Nat}{x:MS}{c:Cf}{e:Nat}(h:Came fm s c)(hfm:fm<3)(hs:s.size<=1000000000)(S:Dead kor x c e)(hst:Stop kor D s c e)(l:List Nat) :
  (Tr.readAll fm s).mean=if MS.verdict x≠0 then (⟨#[]⟩,MS.verdict x) else (xu6 l,0):=by
 obtain ⟨G,T,ho,_,GI',hact⟩:=h.facts hfm hs;have hT:=T.len;have hv:MS.verdict x=e:=by unfold MS.verdict;rw [if_neg (fun h=>S.ne (S.er.symm.trans h.1)),S.er]
 have hf:c.σ.act= .fail e:=by
  rcases (hst false).cases with h1 | h1 | ⟨b,σ',h1,h2,h3⟩ | h1
  ·exact absurd h1 S.ne
  ·have h2:9223372036854775807<=c.pre.length+c.outs.length:=h1;omega
  ·exfalso
   apply h3;rw [← h2];unfold vcn;show (if 9223372036854775807<=c.pre.length+c.outs.length then 16 else if 9223372036854775807<=c.outs.length then 17 else if 0*c.pre.length+9223372036854775807<=c.outs.length then 18 else 0)=0;rw [if_neg (by omega),if_neg (by omega),if_neg (by omega)]
  ·exact h1
 have h0:s.size≠0:=fun h0=>by
  have hp:c.pre=[]:=List.length_eq_zero_iff.1 (by omega);have:=(G.fs.act hp).1;rw [hf] at this;cases this
 have O:=GI'.fail (e:=e) (show (c.σ.re _ _).act=_ by rw [hact,hf];rfl) h0 T;unfold Tr.readAll;rw [Tr.mean_obs O.1,hv];rw [if_pos S.ne,if_pos S.ne]
theorem y2i{fm:Nat}{s:ByteArray}(hfm:fm<3)(hs:s.size<=1000000000)(m:Nat):∀ {x:MS} {c:Cf},muC s c<=m->yvw kor c.outs.length s { x with rest:=jlo s x.tk } c->Came fm s c->∃ k,x0d s k x c.outs (Tr.readAll fm s).mean:=by
 induction m using Nat.strongRecOn with
 | _ m ih=>
  intro x c hm S C;obtain ⟨G,T,ho,hb,_,_⟩:=C.facts hfm hs;have htk:x.tk=c.pre.length:=S.sm.tk;have hle:c.pre.length<=s.size:=S.sm.le;obtain ⟨n,r,R,E⟩:=S.runs (by rw [G.gi.memE,G.gi.limE];exact x3k);cases E with
  | full c' b σ' h1 h2 h3 h4 h5=>
   have C':=C.go hfm h1;obtain ⟨k,hk⟩:=h1.grows.outs;have hq:r.1.qa=k:=by rw [h3.sm.qa,hk,List.drop_left]
   have hd:=h3.sm.dle;have hl:k.length<=64:=by rw [hk,List.length_append] at hd;omega
   have hmu:=h1.outMu S.sm.wf;obtain ⟨_,_,_,hb',_,_⟩:=C'.facts hfm hs;have S':yvw kor c'.outs.length s { ({ r.1 with rest:=[],qa:=[] }:MS) with rest:=jlo s ({ r.1 with rest:=[],qa:=[] }:MS).tk } c':=by
    have h6:=h3.drain k.length (by rw [hk,List.length_append];exact Nat.le_refl _);have e1:c.outs.length+k.length=c'.outs.length:=by rw [hk,List.length_append]
    rw [e1,hq,List.drop_length] at h6;have h7:=h6.feed s h3.sm.le;rw [← h3.sm.tk] at h7;exact h7
   obtain ⟨j,hj⟩:=ih (muC s c') (by omega) (Nat.le_refl _) S' C';rw [hk,← hq] at hj;refine ⟨j+1, .go j n x c.outs r _ (by omega) R h2 (by rw [hq];exact hl) ?_ (by omega) hj⟩;rw [hq,← hk];exact hb'
  | hungry c' h1 h2 h3 h4 h5=>
   have C':=C.go hfm h1;obtain ⟨k,hk⟩:=h1.grows.outs;have hq:r.1.qa=k:=by rw [h3.sm.qa,hk,List.drop_left]
   have hd:=h3.sm.dle;have hl:k.length<=64:=by rw [hk,List.length_append] at hd;omega
   obtain ⟨_,_,_,hb',_,_⟩:=C'.facts hfm hs;refine ⟨0,?_⟩;rw [xy1 C' hfm hs h3 h4 h5,hk,← hq];exact .stop n x c.outs r (by omega) R (by omega) (by rw [hq];exact hl) (by rw [hq,← hk];exact hb') (by omega)
  | dead c' e h1 h2 h3 h4=>
   have C':=C.go hfm h1;refine ⟨0,?_⟩;rw [k0m C' hfm hs h3 h4 (c.outs++r.1.qa)];exact .stop n x c.outs r (by omega) R (by omega) (by rw [h3.qa];decide) (by rw [h3.qa,List.append_nil];exact hb) (by omega)
theorem y1x{fm:Nat}{s:ByteArray}(hfm:fm<3)(hs:s.size<=1000000000):∃ k,x0d s k (MS.fresh fm 9223372036854775807 0 9223372036854775807 9223372036854775807 9223372036854775807 9223372036854775807) [] (Tr.readAll fm s).mean:=
 y2i hfm hs _ (Nat.le_refl _) (c:=Cf.begin fm 9223372036854775807 9223372036854775807) (yvw.first (q:=kor) (mem:=9223372036854775807) (lim:=9223372036854775807) hfm (by decide) s) (Came.begin fm s)
theorem jaf(a b:ByteArray):strN (a++b)=strN a++strN b:=by
 unfold strN;rw [ByteArray.data_append,Array.toList_append,List.map_append]
theorem yu0(P:List ByteArray):∀ s:ByteArray,strN (P.foldl (·++·) s)=strN s++P.flatMap strN:=by
 induction P with
 | nil=>intro s;simp
 | cons x xs ih=>intro s;rw [List.foldl_cons,ih,jaf,List.flatMap_cons,List.append_assoc]
theorem y7s(P:List ByteArray)(s:ByteArray){n:Nat}(h:s.size=n):jlo (P.foldl (·++·) s) n=P.flatMap strN:=by
 unfold jlo;rw [yu0,← h,← ksn,List.drop_left]
theorem yvw.verdict{q:Quo}{D:Nat}{s:ByteArray}{x:MS}{c:Cf}(S:yvw q D s x c)(ha:c.σ.act= .take):MS.verdict x=if c.σ.st<23 then 15 else 0:=by
 have her:=S.sm.er;unfold MS.verdict;cases S with
 | run N=>
  have hst:=N.st;have hw:=N.sm.wf.st;by_cases h1:c.σ.st<23
  ·rw [if_pos h1,if_pos (show x.er=0∧x.st≠24 from ⟨her,by omega⟩)]
  ·rw [if_neg h1,if_neg (show ¬ (x.er=0∧x.st≠24) from fun h=>h.2 (by omega)),her]
 | fresh _ e1 _ e2=>
  have h6:c.σ.st<23:=by
   rw [e2];show (if c.σ.fmt=0 then 6 else 0)<23;split <;> omega
  rw [if_pos h6,if_pos (show x.er=0∧x.st≠24 from ⟨her,by omega⟩)]
 | between _ _ _ h23 _ h8 _=>
  exfalso
  rw [St.act_at h23] at ha;simp only [St.actAt,St.need] at ha;rw [if_neg (by omega)] at ha;(repeat' split at ha) <;> cases ha
theorem yvw.mbE{q:Quo}{D:Nat}{s:ByteArray}{x:MS}{c:Cf}(S:yvw q D s x c):x.mb=if c.pre.length=0 then 0 else c.starts.length:=by
 cases S with
 | run N=>rw [N.mb,if_neg (by have:=N.pre;omega)]
 | fresh _ _ e1 e2=>rw [e1,if_pos (by rw [e2];rfl)]
 | between _ _ e1 _ _ _ e2=>rw [e1,if_neg (by omega)]
theorem v44.still{q:Quo}{D:Nat}{s:ByteArray}{c c':Cf}(h:v44 q D s c c')(ha:c.σ.act= .take)(hl:s.size<=c.pre.length):c'=c:=by
 cases h with
 | refl=>rfl
 | step a b _ h1 _=>
  cases h1 with
  | take g1 g2 g3=>omega
  | put y σ' g1 _ _=>rw [g1] at ha;cases ha
  | tau σ' g1=>rw [g1] at ha;cases ha
structure PG(x:MS)(acc:Bool)(m:MG):Prop where
 live:m.err=0->∃ s,zik m.c.pre s∧s.size=m.c.pre.length∧yvw m.q m.drained s x m.c
 dead:m.err≠0->Dead m.q x m.c m.err
 accE:acc=m.acc
 acc1:m.acc=true->m.closed=true∧(m.err=0->m.c.σ.act= .take∧¬ m.c.σ.st<23)
 lim:Lim m.q m.c.σ.mem m.c.σ.lim
theorem PG.er{x:MS}{acc:Bool}{m:MG}(h:PG x acc m):x.er=m.err:=by
 by_cases h0:m.err=0
 ·obtain ⟨s,_,_,S⟩:=h.live h0;rw [S.sm.er,h0]
 ·exact (h.dead h0).er
theorem PG.tk{x:MS}{acc:Bool}{m:MG}(h:PG x acc m):x.tk=m.c.pre.length∧x.pu=m.c.outs.length∧x.mb=if m.c.pre.length=0 then 0 else m.c.starts.length:=by
 by_cases h0:m.err=0
 ·obtain ⟨s,_,_,S⟩:=h.live h0;exact ⟨S.sm.tk,S.sm.pu,S.mbE⟩
 ·have D:=h.dead h0;exact ⟨D.tk,D.pu,D.mb⟩
inductive GoOn(closed:Bool)(x:MS)(acc:Bool)(P:List ByteArray):MS->Bool->Prop
 | far (n:Nat) (r:MS×Nat):vgc n { x with rest:=P.flatMap strN } r->(r.2≠1∨closed=false)->GoOn closed x acc P { r.1 with rest:=[] } acc
 | full (n:Nat) (r:MS×Nat):vgc n { x with rest:=P.flatMap strN } r->r.2=1->closed=true->MS.verdict r.1=0->GoOn closed x acc P { r.1 with rest:=[] } true
 | short (n:Nat) (r:MS×Nat):vgc n { x with rest:=P.flatMap strN } r->r.2=1->closed=true->MS.verdict r.1≠0->GoOn closed x acc P (MS.refuse { r.1 with rest:=[] } (MS.verdict r.1)).1 acc
theorem yvw.alone{q:Quo}{D:Nat}{s:ByteArray}{x:MS}{c:Cf}(S:yvw q D s x c)(T:zik c.pre s):∃ s',zik c.pre s'∧s'.size=c.pre.length∧yvw q D s' { x with rest:=[] } c:=by
 obtain ⟨T',hz⟩:=T.cut;have S':=S.feed _ (Nat.le_of_eq hz.symm);rw [vq8 (Nat.le_of_eq hz)] at S';exact ⟨_,T',hz,S'⟩
theorem PG.goOn{x:MS}{acc:Bool}{m:MG}(h:PG x acc m)(he:m.err=0)(fm mem lim:Nat)(G:zi6 fm mem lim m.c)(P:List ByteArray)(hP:m.acc=true->P=[]) :
  ∃ s m' x' acc',zik m.c.pre s∧s.size=m.c.pre.length∧GoOn m.closed x acc P x' acc'∧Goes m (P.foldl (·++·) s) m'∧PG x' acc' m':=by
 obtain ⟨s,T,hz,S⟩:=h.live he;have T':zik m.c.pre (P.foldl (·++·) s):=zbe P T;have S':=S.feed _ T'.len;rw [y7s P s hz] at S';obtain ⟨n,r,R,E⟩:=S'.runs h.lim;have stay:m.acc=true->∀ c',v44 m.q m.drained (P.foldl (·++·) s) m.c c'->c'=m.c:=fun ha c' st=>by
  have h0:=hP ha;rw [h0] at st;exact st.still ((h.acc1 ha).2 he).1 (Nat.le_of_eq hz)
 have lims:∀ c',v44 m.q m.drained (P.foldl (·++·) s) m.c c'->Lim m.q c'.σ.mem c'.σ.lim:=fun c' st=>by
  have e:=st.lims G.gi.wf;rw [e.1,e.2.1];exact h.lim
 have T2:∀ c',v44 m.q m.drained (P.foldl (·++·) s) m.c c'->zik c'.pre (P.foldl (·++·) s):=fun c' st=>(zi6.steps st G T').2
 refine ⟨s,?_⟩;cases E with
 | full c' b σ' h1 h2 h3 h4 h5=>
  refine ⟨_,_,acc,T,hz, .far n r R (Or.inl (by omega)),⟨c',0,none,h1, .full b σ' h4 h5,rfl⟩,?_⟩;exact ⟨fun _=>h3.alone (T2 _ h1),fun h0=>absurd rfl h0,h.accE,fun ha=>by
   have e:=stay ha _ h1;have:=((h.acc1 ha).2 he).1;rw [e,this] at h4;(cases h4),lims _ h1⟩
 | dead c' e h1 h2 h3 h4=>
  refine ⟨_,_,acc,T,hz, .far n r R (Or.inl (by omega)),⟨c',e,none,h1,h4 m.closed,rfl⟩,?_⟩;exact ⟨fun h0=>absurd h0 h3.ne,fun _=>⟨h3.er,h3.ne,h3.tk,h3.pu,h3.qa,h3.mb⟩,h.accE,fun ha=>⟨(h.acc1 ha).1,fun h0=>absurd h0 h3.ne⟩,lims _ h1⟩
 | hungry c' h1 h2 h3 h4 h5=>
  have V:=h3.verdict h4;have hH:=Halt.hungry (q:=m.q) (D:=m.drained) (closed:=m.closed) h4 h5;cases hcl:m.closed with
  | false=>
   rw [hcl] at hH;rw [if_neg (fun h=>by cases h.1),if_neg (by decide)] at hH;refine ⟨_,_,acc,T,hz, .far n r R (Or.inr rfl),⟨c',0,none,h1,by rw [hcl];exact hH,rfl⟩,?_⟩;exact ⟨fun _=>h3.alone (T2 _ h1),fun h0=>absurd rfl h0,h.accE,fun ha=>by
    have:=(h.acc1 ha).1;rw [hcl] at this;(cases this),lims _ h1⟩
  | true=>
   rw [hcl] at hH;by_cases h23:c'.σ.st<23
   ·rw [if_pos ⟨rfl,h23⟩,if_pos rfl,show decide (¬ c'.σ.st<23)=false by simpa using h23] at hH;rw [if_pos h23] at V;have ha:m.acc=false:=by
     cases ha:m.acc with
     | false=>rfl
     | true=>
      have e:=stay ha _ h1;rw [e] at h23;exact absurd h23 ((h.acc1 ha).2 he).2
    refine ⟨_,_,acc,T,hz, .short n r R (by omega) rfl (by rw [V];decide),⟨c',15,some false,h1,by rw [hcl];exact hH,rfl⟩,?_⟩;rw [V];refine ⟨fun h0=>absurd (show (15:Nat)=0 from h0) (by decide),fun _=>?_,by show acc=false;rw [h.accE,ha],fun ha'=>(by cases ha'),lims _ h1⟩;obtain ⟨s2,_,_,S2⟩:=h3.alone (T2 _ h1);exact S2.sm.dead (by decide) S2.mbE
   ·rw [if_neg (fun h=>h23 h.2),if_pos rfl,show decide (¬ c'.σ.st<23)=true by simpa using h23] at hH;rw [if_neg h23] at V;refine ⟨_,_,true,T,hz, .full n r R (by omega) rfl V,⟨c',0,some true,h1,by rw [hcl];exact hH,rfl⟩,?_⟩;exact ⟨fun _=>h3.alone (T2 _ h1),fun h0=>absurd rfl h0,rfl,fun _=>⟨hcl,fun _=>⟨h4,h23⟩⟩,lims _ h1⟩
theorem PG.fresh{c:Cfg}(h:c.right=true):PG (MS.fresh c.fm.toNat c.out.toNat c.ratio.toNat c.slack.toNat c.mem.toNat c.lim.toNat c.steps.toNat) false ⟨Cf.begin c.fm.toNat c.mem.toNat c.lim.toNat,⟨c.out.toNat,c.ratio.toNat,c.slack.toNat,c.steps.toNat⟩,0,false,0,false⟩:=by
 have k:=yur.1 h;refine ⟨fun _=>⟨⟨#[]⟩,zik.nil _,rfl,?_⟩,fun h0=>absurd rfl h0,rfl,fun ha=>(by cases ha),?_⟩
 ·exact yvw.first (q:=⟨c.out.toNat,c.ratio.toNat,c.slack.toNat,c.steps.toNat⟩) (fm:=c.fm.toNat) (mem:=c.mem.toNat) (lim:=c.lim.toNat) (show c.fm.toNat<3 by omega) (show 1<=c.mem.toNat by omega) ⟨#[]⟩
 ·refine ⟨by show c.steps.toNat<=_;omega,?_,by show c.out.toNat<=_;omega,by show c.lim.toNat<=_;omega,by show c.mem.toNat<=_;omega⟩;show c.ratio.toNat*c.steps.toNat+c.slack.toNat<=_;have h1:c.ratio.toNat<=1000:=by omega
  have h2:c.steps.toNat<=1000000:=by omega
  have h3:=Nat.mul_le_mul h1 h2;omega
theorem PG.drained{x:MS}{acc:Bool}{m:MG}(h:PG x acc m)(he:m.err=0)(k:Nat)(hk:m.drained+k<=m.c.outs.length):PG { x with qa:=x.qa.drop k } acc { m with drained:=m.drained+k }:=by
 obtain ⟨s,T,hz,S⟩:=h.live he;exact ⟨fun _=>⟨s,T,hz,S.drain k hk⟩,fun h0=>absurd he h0,h.accE,h.acc1,h.lim⟩
theorem PG.shut{x:MS}{acc:Bool}{m:MG}(h:PG x acc m)(hc:m.closed=false):PG x acc { m with closed:=true }∧m.acc=false:=by
 have ha:m.acc=false:=by
  cases ha:m.acc with
  | false=>rfl
  | true=>have:=(h.acc1 ha).1;rw [hc] at this;cases this
 exact ⟨⟨h.live,h.dead,h.accE,fun h0=>(by rw [show ({ m with closed:=true }:MG).acc=m.acc from rfl,ha] at h0;cases h0),h.lim⟩,ha⟩
theorem PG.qa{x:MS}{acc:Bool}{m:MG}(h:PG x acc m):x.qa=if m.err=0 then m.c.outs.drop m.drained else []:=by
 by_cases h0:m.err=0
 ·obtain ⟨s,_,_,S⟩:=h.live h0;rw [if_pos h0];exact S.sm.qa
 ·rw [if_neg h0];exact (h.dead h0).qa
theorem MB.fr0{ρ:Nat->Nat}{w w':World}{p:Nat}{x:MS}{L:Lo}(h:MB ρ w p x L)(f:Kp (fun r=>r=0) ρ w w'):MB ρ w' p x L where
 row:=zlz h.row f (by rw [h.rp];decide)
 ra:=by obtain ⟨o,g,k⟩:=h.ra;obtain ⟨r1,r2,r3,r4⟩:=h.rl;exact ⟨o,g,k.kp f (by rw [r1];decide) (by rw [r2];decide)⟩
 rc:=by obtain ⟨o,g,k⟩:=h.rc;obtain ⟨r1,r2,r3,r4⟩:=h.rl;exact ⟨o,g,k.kp f (by rw [r3];decide) (by rw [r4];decide)⟩
 rp:=h.rp
 rl:=h.rl
theorem MQ.fr0{ρ:Nat->Nat}{w w':World}{p:Nat}{x:MS}(h:MQ ρ w p x)(f:Kp (fun r=>r=0) ρ w w'):MQ ρ w' p x:=by
 obtain ⟨L,h1,h2,h3⟩:=h;exact ⟨L,h1.fr0 f,h2.fr f (fun r e=>by omega),h3⟩
theorem MQ.lt{ρ:Nat->Nat}{w:World}{p:Nat}{x:MS}(h:MQ ρ w p x):(∀ k,ρ k≠0->k<w.heap.size)∧ρ p=1∧p<w.heap.size:=by
 obtain ⟨L,h1,h2,_⟩:=h;exact ⟨h2.lt,h1.rp,h1.row.lt⟩
theorem MQ.tk{ρ:Nat->Nat}{w:World}{p:Nat}{x:MS}(h:MQ ρ w p x):w.cell? ⟨p,9,none⟩=some (.int .i64 x.tk):=by
 obtain ⟨L,h1,_,_⟩:=h;exact h1.row.cell (i:=9) (by omega)
theorem BlI.kp{R:Nat->Prop}{ρ:Nat->Nat}{B b:Nat}{p v:Value}{l:List Nat}{w w':World}(h:BlI B b p v l w)(k:Kp R ρ w w')(h1:¬ R (ρ b))(h2:∀ g,v.ownBlock=some g->¬ R (ρ g)):BlI B b p v l w':=⟨h.le,zlz h.at_ k h1,kcz h.own k h2,h.ne,h.self⟩
theorem x2f{s:ByteArray}{i:Nat}(h:i<=s.size):strN (s.extract i s.size)=jlo s i:=by
 unfold strN jlo strN;rw [ByteArray.data_extract,Array.toList_extract,List.extract_eq_take_drop,List.map_take,List.map_drop];apply List.take_of_length_le;rw [List.length_drop,List.length_map];exact Nat.le_refl _
structure xpd(w0:World)(p b:Nat)(s:ByteArray)(res:ByteArray×Nat)(ρ:Nat->Nat)(x:MS)(pb vb:Value)(l:List Nat)(w:World):Prop where
 mq:MQ ρ w p x
 bl:BlI w0.heap.size b pb vb l w
 rb:ρ b=0
 rv:∀ g,vb.ownBlock=some g->ρ g=0
 nw:∀ k,ρ k≠0->w0.heap.size<=k
 bel:Below w0.heap.size w0 w
theorem xpd.below{w0:World}{p b:Nat}{s:ByteArray}{res:ByteArray×Nat}{ρ:Nat->Nat}{x:MS}{pb vb:Value}{l:List Nat}{w w':World}(h:xpd w0 p b s res ρ x pb vb l w)(f:Below w.heap.size w w'):xpd w0 p b s res ρ x pb vb l w':=⟨h.mq.below f,h.bl.kp (R:=fun _=>False) (ρ:=ρ) (Kp.of_below f) (fun e=>e) (fun _ _ e=>e),h.rb,h.rv,h.nw,h.bel.trans (f.mono h.bel.size)⟩
theorem x6r{w0 w w':World}{ρ:Nat->Nat}{R:Nat->Prop}(h:Below w0.heap.size w0 w)(f:Fr R ρ w w')(hR:¬ R 0)(hn:∀ k,ρ k≠0->w0.heap.size<=k):Below w0.heap.size w0 w':=by
 refine h.trans ⟨f.os,f.tape,f.output,f.kp.size,fun k hk=>?_⟩;refine f.kp.block k (Nat.lt_of_lt_of_le hk h.size) ?_;have e:ρ k=0:=Classical.byContradiction fun hc=>by have:=hn k hc;omega
 rw [e];exact hR
theorem xpd.ran{w0:World}{p b:Nat}{s:ByteArray}{res:ByteArray×Nat}{ρ:Nat->Nat}{x y:MS}{pb vb:Value}{l:List Nat}{w w':World}(h:xpd w0 p b s res ρ x pb vb l w)(A:jvh ρ w p y w'):∃ ρ',xpd w0 p b s res ρ' y pb vb l w':=by
 obtain ⟨ρ',e,m⟩:=A.ex;have hm0:¬ mine 0:=by unfold mine;omega
 have hrow:∀ g,vb.ownBlock=some g->g<w.heap.size:=fun g hg=>xmo h.bl.own hg
 refine ⟨ρ',m,h.bl.kp A.fr.kp (by rw [h.rb];exact hm0) (fun g hg=>by rw [h.rv g hg];exact hm0),by rw [e b h.bl.lt];exact h.rb,fun g hg=>by rw [e g (hrow g hg)];exact h.rv g hg,fun k hk=>?_,x6r h.bel A.fr hm0 h.nw⟩;by_cases hl:k<w.heap.size
 ·rw [e k hl] at hk;exact h.nw k hk
 ·have:=h.bel.size;omega
theorem xpd.took{w0:World}{p b:Nat}{s:ByteArray}{res:ByteArray×Nat}{ρ:Nat->Nat}{x y:MS}{pb vb:Value}{l:List Nat}{w w':World}(h:xpd w0 p b s res ρ x pb vb l w)(m:MQ ρ w' p y)(f:Fr mine ρ w w'):xpd w0 p b s res ρ y pb vb l w':=by
 have hm0:¬ mine 0:=by unfold mine;omega
 exact ⟨m,h.bl.kp f.kp (by rw [h.rb];exact hm0) (fun g hg=>by rw [h.rv g hg];exact hm0),h.rb,h.rv,h.nw,x6r h.bel f hm0 h.nw⟩
theorem xpd.wrote{w0:World}{p b:Nat}{s:ByteArray}{res:ByteArray×Nat}{ρ:Nat->Nat}{x:MS}{pb vb vb':Value}{l l':List Nat}{w w':World}(h:xpd w0 p b s res ρ x pb vb l w)(k:BlI w0.heap.size b (.pointer (some ⟨b,0,none⟩)) vb' l' w')(hv:vb'.ownBlock=vb.ownBlock∨vb'.ownBlock=some w.heap.size)(f:BFr b vb.ownBlock w w'):xpd w0 p b s res ρ x (.pointer (some ⟨b,0,none⟩)) vb' l' w':=by
 have F:Kp (fun r=>r=0) ρ w w':=⟨f.size,fun k hk hr=>f.block k hk (fun e=>hr (by rw [e];exact h.rb)) (fun e=>hr (h.rv k e))⟩
 refine ⟨h.mq.fr0 F,k,h.rb,fun g hg=>?_,h.nw,h.bel.trans ⟨f.os,f.tape,f.output,f.size,fun k hk=>f.block k (Nat.lt_of_lt_of_le hk h.bel.size) (fun e=>?_) (fun e=>?_)⟩⟩
 ·rcases hv with e | e
  ·exact h.rv g (by rw [← e];exact hg)
  ·rw [e] at hg;injection hg with hg
   exact Classical.byContradiction fun hc=>by have:=h.mq.lt.1 g hc;omega
 ·have:=h.bl.le;omega
 ·have:=(h.bl.own.lt k e).1;omega
structure GPI(B:Nat)(ρ:Nat->Nat)(w:World)(q p:Nat)(x:MS)(cl acc:Bool):Prop where
 row:w.rowIs q 100 3 (lrow [.pointer (some ⟨p,0,none⟩), .bool cl, .bool acc])
 mq:MQ ρ w p x
 rq:ρ q=0
 nw:∀ k,ρ k≠0->B<=k
 qB:B<=q
 hB:B<=w.heap.size
structure FrG(ρ:Nat->Nat)(q:Nat)(w w':World):Prop where
 size:w.heap.size<=w'.heap.size
 block:∀ k,k<w.heap.size->k≠q->¬ mine (ρ k)->w'.heap[k]?=w.heap[k]?
 os:w'.os=w.os
 tape:w'.tape=w.tape
 output:w'.output=w.output
theorem FrG.refl(ρ:Nat->Nat)(q:Nat)(w:World):FrG ρ q w w:=⟨Nat.le_refl _,fun _ _ _ _=>rfl,rfl,rfl,rfl⟩
theorem FrG.of{ρ:Nat->Nat}{q:Nat}{w w':World}(h:Fr mine ρ w w'):FrG ρ q w w':=⟨h.kp.size,fun k hk _ hr=>h.kp.block k hk hr,h.os,h.tape,h.output⟩
theorem FrG.trans{ρ ρ':Nat->Nat}{q:Nat}{a b c:World}(h:FrG ρ q a b)(k:FrG ρ' q b c)(e:Ext a.heap.size ρ ρ'):FrG ρ q a c:=⟨Nat.le_trans h.size k.size,fun i hi hq hr=>(k.block i (Nat.lt_of_lt_of_le hi h.size) hq (by rw [e i hi];exact hr)).trans (h.block i hi hq hr),k.os.trans h.os,k.tape.trans h.tape,k.output.trans h.output⟩
structure z3n(B:Nat)(ρ:Nat->Nat)(w:World)(q p:Nat)(x:MS)(cl acc:Bool)(w':World):Prop where
 ex:∃ ρ',Ext w.heap.size ρ ρ'∧GPI B ρ' w' q p x cl acc
 fr:FrG ρ q w w'
theorem z3n.refl{B:Nat}{ρ:Nat->Nat}{w:World}{q p:Nat}{x:MS}{cl acc:Bool}(h:GPI B ρ w q p x cl acc):z3n B ρ w q p x cl acc w:=⟨⟨ρ,Ext.refl _ _,h⟩,FrG.refl _ _ _⟩
theorem z3n.next{B:Nat}{ρ ρ':Nat->Nat}{w w1 w2:World}{q p:Nat}{x:MS}{cl acc:Bool}(e:Ext w.heap.size ρ ρ')(f:FrG ρ q w w1)(h:z3n B ρ' w1 q p x cl acc w2):z3n B ρ w q p x cl acc w2:=by
 obtain ⟨ρ2,e2,g⟩:=h.ex;exact ⟨⟨ρ2,e.trans e2 f.size,g⟩,f.trans h.fr e⟩
theorem GPI.drewN{B:Nat}{ρ:Nat->Nat}{w:World}{q p:Nat}{x:MS}{cl acc:Bool}(h:GPI B ρ w q p x cl acc)(n:Nat):GPI B ρ (w.drewN n) q p x cl acc:=by
 obtain ⟨L,b,t,e⟩:=h.mq;exact ⟨h.row,⟨L,b.drewN n,t.drewN n,e⟩,h.rq,h.nw,h.qB,h.hB⟩
theorem z3n.drawn{B:Nat}{ρ:Nat->Nat}{w:World}{q p:Nat}{x:MS}{cl acc:Bool}{w':World}(h:z3n B ρ w q p x cl acc w'){n:Nat}:z3n B ρ w q p x cl acc (w'.drewN n):=by
 obtain ⟨ρ1,e,g⟩:=h.ex;exact ⟨⟨ρ1,e,g.drewN n⟩,⟨h.fr.size,h.fr.block,h.fr.os,h.fr.tape,h.fr.output⟩⟩
theorem jxt:¬ mine 0:=by unfold mine;omega
theorem GPI.ran{B:Nat}{ρ:Nat->Nat}{w w':World}{q p:Nat}{x y:MS}{cl acc:Bool}(h:GPI B ρ w q p x cl acc)(A:jvh ρ w p y w'):z3n B ρ w q p y cl acc w':=by
 obtain ⟨ρ',e,m⟩:=A.ex;have hq:=h.row.lt;refine ⟨⟨ρ',e,zlz h.row A.fr.kp (by rw [h.rq];exact jxt),m,by rw [e q hq];exact h.rq,fun k hk=>?_,h.qB,Nat.le_trans h.hB A.fr.kp.size⟩,FrG.of A.fr⟩;by_cases hl:k<w.heap.size
 ·rw [e k hl] at hk;exact h.nw k hk
 ·have:=h.hB;omega
theorem GPI.took{B:Nat}{ρ:Nat->Nat}{w w':World}{q p:Nat}{x y:MS}{cl acc:Bool}(h:GPI B ρ w q p x cl acc)(m:MQ ρ w' p y)(f:Fr mine ρ w w'):z3n B ρ w q p y cl acc w':=
 h.ran ⟨⟨ρ,Ext.refl _ _,m⟩,f⟩
theorem GPI.mark{B:Nat}{ρ:Nat->Nat}{w:World}{q p:Nat}{x:MS}{cl acc cl' acc':Bool}(h:GPI B ρ w q p x cl acc)(i:Nat)(v:Value)(e:[Value.pointer (some ⟨p,0,none⟩), .bool cl, .bool acc].set i v=[Value.pointer (some ⟨p,0,none⟩), .bool cl', .bool acc']):z3n B ρ w q p x cl' acc' (w.setCell ⟨q,i,none⟩ v):=by
 have k0:Kp (fun r=>r=0) ρ w (w.setCell ⟨q,i,none⟩ v):=Kp.of_set w _ _ h.rq;refine ⟨⟨ρ,Ext.refl _ _,?_,h.mq.fr0 k0,h.rq,h.nw,h.qB,Nat.le_trans h.hB k0.size⟩,⟨k0.size,fun k _ hq _=>Below.heap_setCell _ _ _ _ hq,rfl,rfl,rfl⟩⟩;have:=ypd h.row i v rfl;rw [e] at this;exact this
theorem GPI.cells{B:Nat}{ρ:Nat->Nat}{w:World}{q p:Nat}{x:MS}{cl acc:Bool}(h:GPI B ρ w q p x cl acc):w.cell? ⟨q,0,none⟩=some (.pointer (some ⟨p,0,none⟩))∧w.cell? ⟨q,1,none⟩=some (.bool cl)∧w.cell? ⟨q,2,none⟩=some (.bool acc)∧w.cell? ⟨p,8,none⟩=some (.int .i64 x.er)∧w.cell? ⟨p,9,none⟩=some (.int .i64 x.tk)∧w.frozen? ⟨q,1,none⟩=false∧w.frozen? ⟨q,2,none⟩=false:=by
 obtain ⟨L,B',_,_⟩:=h.mq;exact ⟨h.row.cell (i:=0) (by omega),h.row.cell (i:=1) (by omega),h.row.cell (i:=2) (by omega),B'.row.cell (i:=8) (by omega),B'.row.cell (i:=9) (by omega),h.row.frozen 1,h.row.frozen 2⟩
theorem zpk{ρ:Nat->Nat}{w:World}{p:Nat}{x:MS}(e:Nat)(h:MQ ρ w p x) :
  Calls Tryz.prog 79 #[.pointer (some ⟨p,0,none⟩), .int .i64 e] w fun v w'=>v= .returned (.int .i64 (x.refuse e).2)∧MQ ρ w' p (x.refuse e).1∧Fr mine ρ w w':=by
 obtain ⟨L,B,T,hL⟩:=h;have f8:=B.row.frozen 8;have c8:w.cell? ⟨p,8,none⟩=some (.int .i64 x.er):=B.row.cell (i:=8) (by omega);have c16:w.cell? ⟨p,16,none⟩=some (.pointer (some ⟨L.a,0,none⟩)):=B.row.cell (i:=16) (by omega);have HB:Hid (MB ρ (w.setCell ⟨p,8,none⟩ (.int .i64 e)) p { x with er:=e } L∧MT ρ (w.setCell ⟨p,8,none⟩ (.int .i64 e)) x L∧Fr (fun k=>1<=k∧k<=5) ρ w (w.setCell ⟨p,8,none⟩ (.int .i64 e))):=⟨B.set 8 (.int .i64 e) rfl ⟨rfl,rfl,rfl,rfl⟩ ⟨rfl,rfl⟩,T.set B.rp 8 _,Fr.own w p 8 _ B.rp⟩
 have HL:Hid (L.sv= .slice none 0 0∧L.sa=0):=hL;clear B T hL;go_enter Tryz.func79,Tryz.ntmps79
 go_wp2_with fail
 obtain ⟨o,f,hr⟩:=HB.out.1.ra;refine (ve5 hr).mono ?_;rintro v w1 ⟨rfl,hr1,ht1⟩;have F1:=Fr.five ht1 HB.out.1.rl.1 HB.out.1.rl.2.1 (by decide) (by decide);have HR:Hid (MQ ρ w1 p (x.refuse e).1∧Fr mine ρ w w1):=⟨⟨L,HB.out.1.ringA hr1 ht1,(HB.out.2.1.fr5 F1).same rfl rfl rfl rfl ⟨rfl,rfl⟩,HL.out⟩,(HB.out.2.2.trans F1).five_mine⟩
 clear hr hr1 ht1 F1;go_wp2_with fail
 go_ret
 exact ⟨rfl,HR.out⟩
def vhx(x:MS)(cl:Bool):Nat:=if x.er=0∧cl=true then 3 else x.er
theorem yrg{B:Nat}{ρ:Nat->Nat}{w:World}{q p:Nat}{x:MS}{cl acc:Bool}(h:GPI B ρ w q p x cl acc):Calls Tryz.prog 55 #[.pointer (some ⟨q,0,none⟩)] w fun e w'=>e= .returned (.int .i64 (vhx x cl))∧w'=w:=by
 obtain ⟨c0,c1,c2,c8,_,_,_⟩:=h.cells;clear h;unfold vhx;by_cases h0:x.er=0
 ·rw [h0] at c8;cases cl with
  | false=>
   rw [if_neg (by simp),h0];go_enter Tryz.func55,Tryz.ntmps55
   go_wp2_with fail
   go_ret
   exact ⟨rfl,rfl⟩
  | true=>
   rw [if_pos ⟨h0,rfl⟩];go_enter Tryz.func55,Tryz.ntmps55
   go_wp2_with fail
   go_ret
   exact ⟨rfl,rfl⟩
 ·rw [if_neg (fun h=>h0 h.1)];have h0i:¬ (x.er:Int)=0:=by omega
  have h0b:((x.er:Int)==0)=false:=by simp;omega
  go_enter Tryz.func55,Tryz.ntmps55
  go_wp2_with fail
  go_ret
  exact ⟨rfl,rfl⟩
theorem k7i{B:Nat}{ρ:Nat->Nat}{w:World}{q p:Nat}{x x':MS}{cl acc acc':Bool}{v:Value}{P:List ByteArray}(h:GPI B ρ w q p x cl acc)(hp:Pcs ρ w v P)(hg:GoOn cl x acc P x' acc')(hO:OrdP w)(hG:ρ 0=0) :
  Calls Tryz.prog 56 #[.pointer (some ⟨q,0,none⟩),v] w fun e w'=>e= .returned (.tuple #[])∧z3n B ρ w q p x' cl acc' w':=by
 obtain ⟨c0,c1,c2,_,_,f1,f2⟩:=h.cells;have HG:Hid (GPI B ρ w q p x cl acc∧Pcs ρ w v P∧OrdP w∧ρ 0=0):=⟨h,hp,hO,hG⟩
 obtain ⟨ad,cap,rfl,_⟩:=hp.at_;clear h hp hO hG;have run:∀ {n r},vgc n { x with rest:=P.flatMap strN } r->Calls Tryz.prog 50 #[.pointer (some ⟨p,0,none⟩), .slice ad P.length cap] w fun e w'=>e= .returned (.int .i64 r.2)∧jvh ρ w p { r.1 with rest:=[] } w':=fun R=>mRun HG.out.1.mq HG.out.2.1 R HG.out.2.2.1 HG.out.2.2.2
 have HR:Hid (∀ {n r},vgc n { x with rest:=P.flatMap strN } r->Calls Tryz.prog 50 #[.pointer (some ⟨p,0,none⟩), .slice ad P.length cap] w fun e w'=>e= .returned (.int .i64 r.2)∧jvh ρ w p { r.1 with rest:=[] } w'):=run;clear run;cases hg with
 | far n r R hr=>
  have HRR:Hid (vgc n { x with rest:=P.flatMap strN } r):=R;clear R;go_enter Tryz.func56,Tryz.ntmps56
  go_wp2_with fail
  refine (HR.out HRR.out).mono ?_;rintro e w1 ⟨rfl,A⟩;have A1:=HG.out.1.ran A;have HA:Hid (z3n B ρ w q p { r.1 with rest:=[] } cl acc w1):=A1;have d1:w1.cell? ⟨q,1,none⟩=some (.bool cl):=by obtain ⟨ρ1,_,g⟩:=A1.ex;exact g.cells.2.1
  clear A A1;by_cases h1:r.2=1
  ·obtain rfl:cl=false:=hr.resolve_left (fun h=>h h1);rw [h1];go_wp2_with fail
   (try simp only [Exit.inBlock,Exit.then])
   refine bodyPost_ret (results_none rfl _ _ _) rfl ?_;exact ⟨rfl,HA.out⟩
  ·have h1i:¬ ((r.2:Nat):Int)=1:=by omega
   go_wp2_with fail
   (try simp only [Exit.inBlock,Exit.then])
   refine bodyPost_ret (results_none rfl _ _ _) rfl ?_;exact ⟨rfl,HA.out⟩
 | full n r R h1 hcl hv=>
  subst hcl;have HRR:Hid (vgc n { x with rest:=P.flatMap strN } r):=R;clear R;go_enter Tryz.func56,Tryz.ntmps56
  go_wp2_with fail
  refine (HR.out HRR.out).mono ?_;rintro e w1 ⟨rfl,A⟩;obtain ⟨⟨ρ1,e1,g1⟩,fr1⟩:=HG.out.1.ran A;have HA:Hid (Ext w.heap.size ρ ρ1∧GPI B ρ1 w1 q p { r.1 with rest:=[] } true acc∧FrG ρ q w w1):=⟨e1,g1,fr1⟩
  obtain ⟨d0,d1,d2,_,_,_,k2⟩:=g1.cells;clear A e1 g1 fr1;rw [h1];go_wp2_with fail
  refine (z9n HA.out.2.1.mq.mm).mono ?_;rintro e w2 ⟨rfl,rfl⟩;rw [show MS.verdict ({ r.1 with rest:=[] }:MS)=MS.verdict r.1 from rfl,hv];go_wp2_with fail
  go_end0
  exact ⟨rfl,z3n.next HA.out.1 HA.out.2.2 (HA.out.2.1.mark 2 (.bool true) rfl)⟩
 | short n r R h1 hcl hv=>
  subst hcl;have HRR:Hid (vgc n { x with rest:=P.flatMap strN } r):=R;clear R;go_enter Tryz.func56,Tryz.ntmps56
  go_wp2_with fail
  refine (HR.out HRR.out).mono ?_;rintro e w1 ⟨rfl,A⟩;obtain ⟨⟨ρ1,e1,g1⟩,fr1⟩:=HG.out.1.ran A;have HA:Hid (Ext w.heap.size ρ ρ1∧GPI B ρ1 w1 q p { r.1 with rest:=[] } true acc∧FrG ρ q w w1):=⟨e1,g1,fr1⟩
  obtain ⟨d0,d1,d2,_,_,_,k2⟩:=g1.cells;clear A e1 g1 fr1;rw [h1];go_wp2_with fail
  refine (z9n HA.out.2.1.mq.mm).mono ?_;rintro e w2 ⟨rfl,rfl⟩;rw [show MS.verdict ({ r.1 with rest:=[] }:MS)=MS.verdict r.1 from rfl];have hvi:¬ ((MS.verdict r.1:Nat):Int)=0:=by omega
  go_wp2_with fail
  refine (zpk (MS.verdict r.1) HA.out.2.1.mq).mono ?_;rintro e w3 ⟨rfl,m3,f3⟩;have HF:Hid (z3n B ρ w q p (MS.refuse { r.1 with rest:=[] } (MS.verdict r.1)).1 true acc w3):=z3n.next HA.out.1 HA.out.2.2 (HA.out.2.1.took m3 f3);clear m3 f3;go_wp2_with fail
  (try simp only [Exit.inBlock,Exit.then])
  refine bodyPost_ret (results_none rfl _ _ _) rfl ?_;exact ⟨rfl,HF.out⟩
theorem xa1{w:World}{r c N o:Nat}{f:Nat->Nat}{q:List Nat}(most:Nat)(h:RgI w r c N o f q)(hc:c<w.heap.size)(hm:1000000<most∧most<=9223372036854775807) :
  Calls Tryz.prog 52 #[.pointer (some ⟨r,0,none⟩), .int .i64 most] w fun x w'=>zdh w r c N o (min most q.length) f q x w':=by
 obtain ⟨m,hmm⟩:∃ m,m=min most q.length:=⟨_,rfl⟩
 have hm1:m<=q.length:=by omega
 have hqN:=h.hq;have hN:=h.small;have hmk2:=run_make_row' (P:=Tryz.prog) 34 5 (.int .u8 0) 1 Tryz.underlying34 kh5 rfl .i64 .i64 q.length (by omega) (by omega);have hmk0:∀ w:World,(Instr.makeSlice 34 (.int .i64 0) (.int .i64 0)).run Tryz.prog w= .ok (.slice (some ⟨w.heap.size,0,none⟩) 0 0) (w.alloc (.cells (madeCells #[.int .u8 0] 0) 5)):=run_make_row' (P:=Tryz.prog) 34 5 (.int .u8 0) 1 Tryz.underlying34 kh5 rfl .i64 .i64 0 (by omega) (by omega);have c2:w.cell? ⟨r,2,none⟩=some (.int .i64 q.length):=h.row.cell (i:=2) (by omega);have hr:r<w.heap.size:=h.row.lt;have HMM:Hid (m=min most q.length):=hmm;rw [← hmm];have H0:Hid (TakI w r c N o w.heap.size m f q (w.alloc (.cells (madeCells #[.int .u8 0] m) 5)) 0):=by
  refine ⟨?_,?_,Kp.of_below ((Below.refl _ _).alloc (Nat.le_refl _) _),rfl,rfl,rfl⟩
  ·rw [Nat.add_zero,Nat.mod_eq_of_lt h.ho,List.drop_zero];exact ⟨h.row.alloc _,h.cells.alloc _,h.pos,h.small,h.ho,h.hq,h.at_,h.ne⟩
  ·refine (World.rowIs_made w (.int .u8 0) m 5).congr fun i _=>?_
   rw [if_neg (by omega)];rfl
 clear h hmm;go_enter Tryz.func52,Tryz.ntmps52
 go_upto_region 1 with fail
 go_cut [5] (fun s5 wx=>s5= .slice (some ⟨w.heap.size,0,none⟩) m m∧wx=w.alloc (.cells (madeCells #[.int .u8 0] m) 5))
 case first=>
  have h1:q.length<most:=by omega
  have hmq:m=q.length:=by have:=HMM.out;omega
  by_cases h2:0<q.length
  ·go_wp2_with fail
   go_meet
   rw [hmq];exact ⟨rfl,rfl⟩
  ·have HM0:Hid (m=0):=by show m=0;omega
   clear hmq;go_wp2_with fail
   go_meet
   rw [HM0.out];exact ⟨rfl,rfl⟩
 case rest=>
 obtain ⟨rfl,rfl⟩:=hcut;clear hmk0 hmk2 c2 HMM;go_wp2_with fail
 obtain ⟨g,hg⟩:∃ g,g=w.heap.size:=⟨_,rfl⟩
 rw [← hg] at H0 ⊢;have hgw:w.heap.size<=g:=by omega
 have hgr:g≠r:=by omega
 have hgc:g≠c:=by omega
 have HGE:Hid (w.heap.size<=g):=hgw;clear hg;go_loopw [17] (fun i wr=>∃ k:Nat,k<=m∧i= .int .i64 k∧Hid (TakI w r c N o g m f q wr k)) (fun i _=>m - (intOf i).toNat)
 case atStart=>exact ⟨0,Nat.zero_le _,rfl,H0⟩
 case round=>
  obtain ⟨k,hk,rfl,HH⟩:=hrel;clear H0;by_cases hlt:k<m
  ·have hkq:k<q.length:=by omega
   have c0:wr.cell? ⟨r,0,none⟩=some (.slice (some ⟨c,0,none⟩) N N):=HH.out.rg.row.cell (i:=0) (by omega);have c1:wr.cell? ⟨r,1,none⟩=some (.int .i64 ((o+k)%N:Nat)):=HH.out.rg.row.cell (i:=1) (by omega);have ho:=HH.out.rg.ho;have hv:f ((o+k)%N)=q.getD k 0:=by
    have:=HH.out.rg.at_ 0 (by simp;omega);rw [Nat.add_zero,Nat.mod_eq_of_lt ho] at this;rw [this];simp
   have cc:wr.cell? ⟨c,(o+k)%N,none⟩=some (.int .u8 (q.getD k 0:Nat)):=by rw [← hv];exact HH.out.rg.cells.cell ho
   have cg:=HH.out.out.cell hlt;have fg:=HH.out.out.frozen k;have HDQ:Hid (0<(q.drop k).length):=by show 0<_;simp;omega
   have HRG:Hid (RgI (wr.setCell ⟨g,k,none⟩ (.int .u8 (q.getD k 0:Nat))) r c N ((o+k)%N) f (q.drop k)):=by
    have h:=HH.out.rg;exact ⟨h.row.setOther (a:=⟨g,k,none⟩) (Ne.symm hgr) _,h.cells.setOther (a:=⟨g,k,none⟩) (Ne.symm hgc) _,h.pos,h.small,h.ho,h.hq,h.at_,h.ne⟩
   have HNX:Hid (∀ w1 w2,w1=wr.setCell ⟨g,k,none⟩ (.int .u8 (q.getD k 0:Nat))->RgI w2 r c N (((o+k)%N+1)%N) f (q.drop k).tail->Two r c w1 w2->TakI w r c N o g m f q w2 (k+1)):=fun w1 w2 e1 hI hT=>HH.out.next HGE.out hgr hgc hkq e1 hI hT
   clear hv;obtain ⟨a,ha⟩:∃ a,a=(o+k)%N:=⟨_,rfl⟩
   rw [← ha] at c1 ho cc HRG HNX;clear ha;have hai:(a:Int)<(N:Int):=by omega
   obtain ⟨bv,hbv⟩:∃ bv,bv=q.getD k 0:=⟨_,rfl⟩
   rw [← hbv] at cc HRG HNX;clear hbv;have hki:(k:Int)<(m:Int):=by omega
   go_wp2_with fail
   go_region
   all_goals
    go_wp2_with fail
    refine (yny (HRG.out.drewN 1) HDQ.out).mono ?_;rintro e w2 ⟨rfl,hI,hT⟩;have HN:Hid (TakI w r c N o g m f q w2 (k+1)):=HNX.out _ w2 rfl hI (((Two.refl r c _).drewN 1).trans hT);clear hI hT;go_wp2_with fail
    go_roundw
    case rel=>exact ⟨k+1,by omega,by go_num,HN⟩
    case measure=>simp [intOf];omega
  ·obtain rfl:k=m:=by omega
   go_wp2_with fail
   go_ret
   refine ⟨g,rfl,HGE.out,HH.out.out.congr fun i hi=>by rw [if_pos hi],HH.out.rg,⟨HH.out.kp,HH.out.os,HH.out.tape,HH.out.output⟩⟩
theorem ju8{w:World}{r c N o:Nat}{f:Nat->Nat}{q:List Nat}(most:Nat)(h:RgI w r c N o f q)(hc:c<w.heap.size)(hm:most<=9223372036854775807) :
  Calls Tryz.prog 52 #[.pointer (some ⟨r,0,none⟩), .int .i64 most] w fun x w'=>zdh w r c N o (min most q.length) f q x w':=by
 by_cases h1:most<=1000000
 ·exact vv3 most h hc h1
 ·exact xa1 most h hc ⟨by omega,hm⟩
theorem MQ.taken_any{ρ:Nat->Nat}{w:World}{p:Nat}{x:MS}(h:MQ ρ w p x)(most:Nat)(hm:most<=9223372036854775807):∃ r,w.cell? ⟨p,16,none⟩=some (.pointer (some ⟨r,0,none⟩))∧Calls Tryz.prog 52 #[.pointer (some ⟨r,0,none⟩), .int .i64 most] w fun e w'=>
  ∃ g,e= .returned (.slice (some ⟨g,0,none⟩) (min most x.qa.length) (min most x.qa.length))∧w.heap.size<=g∧w'.rowIs g 5 (min most x.qa.length) (fun j=> .int .u8 (x.qa.getD j 0:Nat))∧MQ ρ w' p { x with qa:=x.qa.drop (min most x.qa.length) }∧Fr mine ρ w w':=by
 obtain ⟨L,B,T,h1,h2⟩:=h;obtain ⟨o,f,k⟩:=B.ra;obtain ⟨r1,r2,_,_⟩:=B.rl;refine ⟨L.a,B.row.cell (i:=16) (by omega),(ju8 most k (T.lt _ (by rw [r2];decide)) hm).mono ?_⟩;rintro e w' ⟨g,rfl,hg,hrow,hI,hT⟩;have F:=Fr.five hT r1 r2 (by decide) (by decide);exact ⟨g,rfl,hg,hrow,⟨L,B.ringA hI hT,(T.fr5 F).same rfl rfl rfl rfl ⟨rfl,rfl⟩,h1,h2⟩,F.five_mine⟩
theorem x3n{B:Nat}{ρ:Nat->Nat}{w:World}{q p:Nat}{x:MS}{cl acc:Bool}(h:GPI B ρ w q p x cl acc)(ad:Option Addr)(n cap:Nat)(hs:vhx x cl≠0) :
  Calls Tryz.prog 26 #[.pointer (some ⟨q,0,none⟩), .slice ad n cap] w fun e w'=>e= .returned (.tuple #[.int .i64 0, .int .i64 (vhx x cl)])∧w'=w:=by
 have HG:Hid (GPI B ρ w q p x cl acc):=h;clear h;have hsi:¬ ((vhx x cl:Nat):Int)=0:=by omega
 go_enter Tryz.func26,Tryz.ntmps26
 go_wp2_with fail
 refine (yrg HG.out).mono ?_;rintro e w1 ⟨rfl,rfl⟩;go_wp2_with fail
 go_ret2
 exact ⟨rfl,rfl⟩
theorem xnq{B:Nat}{ρ:Nat->Nat}{w:World}{q p:Nat}{x x':MS}{cl acc acc':Bool}{v:Value}{P:List ByteArray}(h:GPI B ρ w q p x cl acc)(hs:vhx x cl=0)(hp:Pcs ρ w v P)(hg:GoOn cl x acc P x' acc')(hO:OrdP w)(hG:ρ 0=0)(ht:x.tk<=1000000000000∧x'.tk<=1000000000000) :
  Calls Tryz.prog 26 #[.pointer (some ⟨q,0,none⟩),v] w fun e w'=>e= .returned (.tuple #[.int .i64 ((x'.tk:Int) - x.tk), .int .i64 x'.er])∧z3n B ρ w q p x' cl acc' w':=by
 have HG:Hid (GPI B ρ w q p x cl acc∧Pcs ρ w v P∧GoOn cl x acc P x' acc'∧OrdP w∧ρ 0=0):=⟨h,hp,hg,hO,hG⟩
 obtain ⟨ad,cap,rfl,_⟩:=hp.at_;obtain ⟨c0,_,_,_,c9,_,_⟩:=h.cells;clear h hp hg hO hG;obtain ⟨h1,h2⟩:=ht;go_enter Tryz.func26,Tryz.ntmps26
 go_wp2_with fail
 refine (yrg HG.out.1).mono ?_;rintro e w1 ⟨rfl,rfl⟩;rw [hs];go_wp2_with fail
 refine (k7i HG.out.1 HG.out.2.1 HG.out.2.2.1 HG.out.2.2.2.1 HG.out.2.2.2.2).mono ?_;rintro e w2 ⟨rfl,A⟩;have HA:Hid (z3n B ρ w1 q p x' cl acc' w2):=A;obtain ⟨d0,d8,d9⟩:w2.cell? ⟨q,0,none⟩=some (.pointer (some ⟨p,0,none⟩))∧w2.cell? ⟨p,8,none⟩=some (.int .i64 x'.er)∧w2.cell? ⟨p,9,none⟩=some (.int .i64 x'.tk):=by
  obtain ⟨ρ2,_,g⟩:=A.ex;exact ⟨g.cells.1,g.cells.2.2.2.1,g.cells.2.2.2.2.1⟩
 clear A;go_wp2_with fail
 go_quiet (fail)
 go_wp2_with fail
 go_ret2
 exact ⟨rfl,HA.out.drawn⟩
theorem jtj{w:World}{g m:Nat}{l:List Nat}(h:w.rowIs g 5 m (fun j=> .int .u8 (l.getD j 0:Nat)))(hm:m<=l.length):(convert 34 9 (.slice (some ⟨g,0,none⟩) m m)).run Tryz.prog w= .ok (.string (xu6 (l.take m))) w:=by
 refine run_convert_bytes_arg w 34 5 Tryz.underlying34 Tryz.underlying5 g 0 m m ((l.take m).map fun (n:Nat)=>(n:Int)) (by simp;omega) ?_ 9 Tryz.underlying9;intro i hi;rw [Nat.zero_add,h.cell hi];have hil:i<l.length:=by omega
 simp [hi,hil,List.getD_eq_getElem?_getD]
theorem ju7{B:Nat}{ρ:Nat->Nat}{w:World}{q p:Nat}{x:MS}{cl acc:Bool}(h:GPI B ρ w q p x cl acc)(n:Int)(hs:x.er≠0) :
  Calls Tryz.prog 30 #[.pointer (some ⟨q,0,none⟩), .int .i64 n] w fun e w'=>e= .returned (.tuple #[.string ⟨#[]⟩, .int .i64 x.er])∧z3n B ρ w q p x cl acc w':=by
 have HG:Hid (GPI B ρ w q p x cl acc):=h;obtain ⟨c0,_,_,c8,_,_,_⟩:=h.cells;clear h;have hsi:¬ ((x.er:Nat):Int)=0:=by omega
 go_enter Tryz.func30,Tryz.ntmps30
 go_wp2_with fail
 go_quiet (fail)
 go_wp2_with fail
 go_ret2
 exact ⟨rfl,(z3n.refl HG.out).drawn⟩
theorem zn4{B:Nat}{ρ:Nat->Nat}{w:World}{q p:Nat}{x:MS}{cl acc:Bool}(h:GPI B ρ w q p x cl acc)(n:Int)(hs:x.er=0)(hn:n<0) :
  Calls Tryz.prog 30 #[.pointer (some ⟨q,0,none⟩), .int .i64 n] w fun e w'=>e= .returned (.tuple #[.string ⟨#[]⟩, .int .i64 2])∧z3n B ρ w q p x cl acc w':=by
 have HG:Hid (GPI B ρ w q p x cl acc):=h;obtain ⟨c0,_,_,c8,_,_,_⟩:=h.cells;rw [hs] at c8;clear h;have hd:decide (n<0)=true:=by simpa using hn
 go_enter Tryz.func30,Tryz.ntmps30
 go_wp2_with fail
 go_ret2
 exact ⟨rfl,z3n.refl HG.out⟩
theorem kj6{B:Nat}{ρ:Nat->Nat}{w:World}{q p:Nat}{x x':MS}{cl acc acc':Bool}(h:GPI B ρ w q p x cl acc)(n:Nat)(hs:x.er=0)(hn:n<=9223372036854775807)(hg:GoOn cl { x with qa:=x.qa.drop (min n x.qa.length) } acc [] x' acc')(hO:OrdP w)(hG:ρ 0=0) :
  Calls Tryz.prog 30 #[.pointer (some ⟨q,0,none⟩), .int .i64 n] w fun e w'=>e= .returned (.tuple #[.string (xu6 (x.qa.take (min n x.qa.length))), .int .i64 0])∧z3n B ρ w q p x' cl acc' w':=by
 have HG:Hid (GPI B ρ w q p x cl acc∧GoOn cl { x with qa:=x.qa.drop (min n x.qa.length) } acc [] x' acc'∧OrdP w∧ρ 0=0):=⟨h,hg,hO,hG⟩
 obtain ⟨c0,_,_,c8,_,_,_⟩:=h.cells;rw [hs] at c8;obtain ⟨rr,c16,TK⟩:=h.mq.taken_any n hn;have HTK:Hid _:=TK;clear h hg hO hG TK;have hd:decide ((n:Int)<0)=false:=by simp
 go_enter Tryz.func30,Tryz.ntmps30
 go_wp2_with fail
 refine Calls.mono HTK.out ?_;rintro e w4 ⟨g,rfl,hgl,hrow,M4,F4⟩;have A4:=HG.out.1.took M4 F4;have hconv:=jtj hrow (Nat.min_le_right _ _);have HA4:Hid (z3n B ρ w q p { x with qa:=x.qa.drop (min n x.qa.length) } cl acc w4∧OrdP w4):=⟨A4,HG.out.2.2.1.fr F4 HG.out.2.2.2⟩
 clear A4 M4 F4 hrow HTK c16;go_wp2_with fail
 obtain ⟨ρ4,e4,g4⟩:=HA4.out.1.ex;have hG4:ρ4 0=0:=by rw [e4 _ HG.out.2.2.1.lt];exact HG.out.2.2.2
 refine (k7i g4 (Pcs.nil_ ρ4 w4) HG.out.2.1 HA4.out.2 hG4).mono ?_;rintro e w5 ⟨rfl,A5⟩;have HA5:Hid (z3n B ρ w q p x' cl acc' w5):=z3n.next e4 HA4.out.1.fr A5;clear A5 g4 e4 hG4;go_wp2_with fail
 go_ret2
 exact ⟨rfl,HA5.out⟩
theorem vo4{B:Nat}{ρ:Nat->Nat}{w:World}{q p:Nat}{x:MS}{cl acc:Bool}(h:GPI B ρ w q p x cl acc)(hs:vhx x cl≠0) :
  Calls Tryz.prog 31 #[.pointer (some ⟨q,0,none⟩)] w fun e w'=>e= .returned (.int .i64 (vhx x cl))∧w'=w:=by
 have HG:Hid (GPI B ρ w q p x cl acc):=h;clear h;have hsi:¬ ((vhx x cl:Nat):Int)=0:=by omega
 go_enter Tryz.func31,Tryz.ntmps31
 go_wp2_with fail
 refine (yrg HG.out).mono ?_;rintro e w1 ⟨rfl,rfl⟩;go_wp2_with fail
 go_ret
 exact ⟨rfl,rfl⟩
theorem yhi{B:Nat}{ρ:Nat->Nat}{w:World}{q p:Nat}{x x':MS}{cl acc acc':Bool}(h:GPI B ρ w q p x cl acc)(hs:vhx x cl=0)(hg:GoOn true x acc [] x' acc')(hO:OrdP w)(hG:ρ 0=0)(hGq:q≠0) :
  Calls Tryz.prog 31 #[.pointer (some ⟨q,0,none⟩)] w fun e w'=>e= .returned (.int .i64 x'.er)∧z3n B ρ w q p x' true acc' w':=by
 have HG:Hid (GPI B ρ w q p x cl acc∧GoOn true x acc [] x' acc'∧OrdP w∧ρ 0=0):=⟨h,hg,hO,hG⟩
 obtain ⟨c0,c1,_,_,_,f1,_⟩:=h.cells;clear h hg hO hG;go_enter Tryz.func31,Tryz.ntmps31
 go_wp2_with fail
 refine (yrg HG.out.1).mono ?_;rintro e w1 ⟨rfl,rfl⟩;rw [hs];have A1:=HG.out.1.mark 1 (.bool true) (cl':=true) (acc':=acc) rfl;have hO1:OrdP (w1.setCell ⟨q,1,none⟩ (.bool true)):=by
  obtain ⟨fr,h⟩:=HG.out.2.2.1;exact ⟨fr,by rw [Below.heap_setCell _ _ _ _ (Ne.symm hGq)];exact h⟩
 have HA1:Hid (z3n B ρ w1 q p x true acc (w1.setCell ⟨q,1,none⟩ (.bool true))∧OrdP (w1.setCell ⟨q,1,none⟩ (.bool true))):=⟨A1,hO1⟩
 clear A1 hO1;go_wp2_with fail
 obtain ⟨ρ2,e2,g2⟩:=HA1.out.1.ex;have hG2:ρ2 0=0:=by rw [e2 _ HG.out.2.2.1.lt];exact HG.out.2.2.2
 refine (k7i g2 (Pcs.nil_ ρ2 _) HG.out.2.1 HA1.out.2 hG2).mono ?_;rintro e w3 ⟨rfl,A3⟩;have HA3:Hid (z3n B ρ w1 q p x' true acc' w3):=z3n.next e2 HA1.out.1.fr A3;obtain ⟨d0,d8⟩:w3.cell? ⟨q,0,none⟩=some (.pointer (some ⟨p,0,none⟩))∧w3.cell? ⟨p,8,none⟩=some (.int .i64 x'.er):=by
  obtain ⟨ρ3,_,g⟩:=A3.ex;exact ⟨g.cells.1,g.cells.2.2.2.1⟩
 clear A3 g2 e2 hG2;go_wp2_with fail
 go_ret
 exact ⟨rfl,HA3.out⟩
theorem jr0{P:Program}{ops:Array Oper}{o:Oper}{a:Go.Act}{w:World}{K:Go.Act->World->Prop}{Q:Exit->Go.Act->World->Prop}{E:Prop}(hg:o.guard=none)
  (f:FuncId) (args:Array Value) (hrun:(execOp a.eval o).run P w= .ok (.enter f args) w) (v:Value) (w':World)
  (hc:Calls P f args w fun e w''=>e= .returned v∧w''=w') (h:K (a.put o.dst v) w') :
  if Region.wanted o (yielded ops a.tmps)=true then Oper.wp P o a w K Q else E:=by
 have hw:Region.wanted o (yielded ops a.tmps)=true:=by simp [Region.wanted,hg]
 rw [if_pos hw];unfold Oper.wp;rw [hrun,Oper.upon_enter];refine hc.mono fun e w'' hh=>?_
 obtain ⟨rfl,rfl⟩:=hh;exact h
structure Few(k:Nat)(s:kuu):Prop where
 ln:s.lens.length<=k+18
 wt:s.waits.length<=2*k+36
 mm:s.mks+s.waits.length<=3*k+54
 bk:s.books.length+s.waits.length<=3*k+54
 tx:s.vtx= .slice none 0 0∧s.vrn= .slice none 0 0
theorem vtc{w:World}{r n:Nat}(c2:w.cell? ⟨r,2,none⟩=some (.int .i64 n)):Calls Tryz.prog 57 #[.pointer (some ⟨r,0,none⟩)] w fun x w'=>x= .returned (.int .i64 n)∧w=w':=by
 go_enter Tryz.func57,Tryz.ntmps57
 go_wp2_with fail
 go_ret
 exact ⟨rfl,rfl⟩
theorem zuo(tk pu mb:Nat)(w:World)(h:tk+pu<=9223372036854775807) :
  Calls Tryz.prog 58 #[.agg #[.int .i64 tk, .int .i64 pu, .int .i64 mb]] w fun x w'=>x= .returned (.int .i64 (tk+pu:Nat))∧w'=w.alloc (.cells #[.int .i64 tk, .int .i64 pu, .int .i64 mb] 110):=by
 go_enter Tryz.func58,Tryz.ntmps58
 go_wp2_with fail
 go_ret
 refine ⟨?_,rfl⟩;show Ending.returned (Value.int .i64 _)=_;simp
def MS.stateV(x:MS)(acc:Bool):Value:= .agg #[.int .i64 x.tk, .int .i64 x.pu, .int .i64 x.qa.length, .int .i64 x.mb, .int .i64 (x.tk+x.pu:Nat), .bool acc, .int .i64 x.er]
theorem ytu{P:Nat->Prop}(h0:P 0)(h1:P 1)(h2:P 2)(h3:P 3)(h4:P 4)(h5:P 5)(h6:P 6)(i:Nat)(hi:i<7):P i:=by
 have:i=0∨i=1∨i=2∨i=3∨i=4∨i=5∨i=6:=by omega
 rcases this with rfl | rfl | rfl | rfl | rfl | rfl | rfl <;> assumption
theorem xue{B b:Nat}(hb:B<=b):∀ (vs:List Value) (o:Nat) {w w':World},Below B w w'->Below B w (w'.setCells b o vs)
 | [],_,_,_,h=>h
 | v :: vs,o,w,w',h=>xue hb vs (o+1) (h.setCell (p:=⟨b,o,none⟩) hb v)
theorem za0{w:World}{b o n:Nat}(h:w.there b o n)(ob:Obj):(w.alloc ob).there b o n:=fun j hj=>by
 obtain ⟨h1,h2⟩:=h j hj;obtain ⟨u,hu⟩:=Option.isSome_iff_exists.1 h1;have hl:=World.block_lt_of_cell? w _ hu;exact ⟨by rw [World.cell?_alloc_some _ _ _ h1];exact h1,by rw [World.frozen?_of_block (Below.heap_alloc w ob b hl)];exact h2⟩
theorem zmr:(Tryz.prog.info? 50).map (·.size)=some 7:=by kernel_rfl
theorem k9r{B:Nat}{ρ:Nat->Nat}{w:World}{q p:Nat}{x:MS}{cl acc:Bool}(h:GPI B ρ w q p x cl acc)(hs:x.tk+x.pu<=9223372036854775807) :
  Calls Tryz.prog 27 #[.pointer (some ⟨q,0,none⟩)] w fun e w'=>e= .returned (x.stateV acc)∧Below w.heap.size w w':=by
 obtain ⟨c0,_,c2,c8,c9,_,_⟩:=h.cells;have hql:=h.row.lt;obtain ⟨L,MB',_,_⟩:=h.mq;have hpl:=MB'.row.lt;have c10:w.cell? ⟨p,10,none⟩=some (.int .i64 x.pu):=MB'.row.cell (i:=10) (by omega);have c11:w.cell? ⟨p,11,none⟩=some (.int .i64 x.mb):=MB'.row.cell (i:=11) (by omega);have c16:w.cell? ⟨p,16,none⟩=some (.pointer (some ⟨L.a,0,none⟩)):=MB'.row.cell (i:=16) (by omega);obtain ⟨o,f,RG0⟩:=MB'.ra;have hrl:=RG0.row.lt;have cr:w.cell? ⟨L.a,2,none⟩=some (.int .i64 x.qa.length):=RG0.row.cell (i:=2) (by omega);generalize L.a=r at *;clear h MB' RG0;have HF:Hid (∀ V:World,Below w.heap.size w V->V.cell? ⟨p,9,none⟩=some (.int .i64 x.tk)∧V.cell? ⟨p,10,none⟩=some (.int .i64 x.pu)∧V.cell? ⟨p,11,none⟩=some (.int .i64 x.mb)∧V.cell? ⟨p,8,none⟩=some (.int .i64 x.er)∧V.cell? ⟨p,16,none⟩=some (.pointer (some ⟨r,0,none⟩))∧V.cell? ⟨q,2,none⟩=some (.bool acc)∧V.cell? ⟨r,2,none⟩=some (.int .i64 x.qa.length)):=fun V b=>⟨(b.cell (p:=⟨p,9,none⟩) hpl).trans c9,(b.cell (p:=⟨p,10,none⟩) hpl).trans c10,(b.cell (p:=⟨p,11,none⟩) hpl).trans c11,(b.cell (p:=⟨p,8,none⟩) hpl).trans c8,(b.cell (p:=⟨p,16,none⟩) hpl).trans c16,(b.cell (p:=⟨q,2,none⟩) hql).trans c2,(b.cell (p:=⟨r,2,none⟩) hrl).trans cr⟩
 have HS:Hid (∀ V:World,Calls Tryz.prog 58 #[.agg #[.int .i64 x.tk, .int .i64 x.pu, .int .i64 x.mb]] V fun e w'=>e= .returned (.int .i64 (x.tk+x.pu:Nat))∧w'=V.alloc (.cells #[.int .i64 x.tk, .int .i64 x.pu, .int .i64 x.mb] 110)):=fun V=>zuo x.tk x.pu x.mb V hs
 have HL:Hid (∀ V:World,V.cell? ⟨r,2,none⟩=some (.int .i64 x.qa.length)->Calls Tryz.prog 57 #[.pointer (some ⟨r,0,none⟩)] V fun e w'=>e= .returned (.int .i64 x.qa.length)∧w'=V):=fun V h=>(vtc h).mono fun _ _ ⟨a,b⟩=>⟨a,b.symm⟩
 obtain ⟨W0,hW0⟩:∃ W0,W0=w.alloc (.cells #[.int .i64 0, .int .i64 0, .int .i64 0, .int .i64 0, .int .i64 0, .bool false, .int .i64 0] 50):=⟨_,rfl⟩
 have b0:Below w.heap.size w W0:=by rw [hW0];exact (Below.refl _ _).alloc (Nat.le_refl _) _
 have g0:W0.rowIs w.heap.size 50 7 (lrow [.int .i64 0, .int .i64 0, .int .i64 0, .int .i64 0, .int .i64 0, .bool false, .int .i64 0]):=by rw [hW0];exact World.rowIs_alloc w #[.int .i64 0, .int .i64 0, .int .i64 0, .int .i64 0, .int .i64 0, .bool false, .int .i64 0] _ _ (ytu rfl rfl rfl rfl rfl rfl rfl)
 have e0:W0.cell? ⟨q,0,none⟩=some (.pointer (some ⟨p,0,none⟩)):=(b0.cell (p:=⟨q,0,none⟩) hql).trans c0;have HB:Hid (Below w.heap.size w W0∧W0.rowIs w.heap.size 50 7 (lrow [.int .i64 0, .int .i64 0, .int .i64 0, .int .i64 0, .int .i64 0, .bool false, .int .i64 0])):=⟨b0,g0⟩
 clear c0 c2 c8 c9 c10 c11 c16 cr b0 g0;go_enter Tryz.func27,Tryz.ntmps27
 go_upto_region 1 with fail
 rw [← hW0];clear hW0;go_upto_region 2 with fail
 clear e0;refine wp_region_held_drew (S:=fun wv=>Below w.heap.size w wv∧wv.there w.heap.size 0 7) (by kernel_rfl) ⟨HB.out.1.drew,fun j hj=>⟨by rw [Nat.zero_add];exact Option.isSome_iff_exists.2 ⟨_,HB.out.2.cell hj⟩,HB.out.2.frozen _⟩⟩ (fun hHeld=>?_);refine wpAnyH_take (i:=0) (v:=?v0) rfl (by kernel_rfl) (by kernel_rfl) (by kernel_rfl) (fun _ _ _ h=>h) (Or.inl ⟨by rfl,?y0⟩) hHeld ?r0
 case y0=>(intro wv hS;go_simp;try (with_reducible rfl))
 case r0=>
 simp only [Go.Act.put,List.getElem_toArray,List.getElem_cons_succ,List.getElem_cons_zero,List.setIfInBounds_toArray,List.set_cons_zero,List.set_cons_succ];refine wpAnyH_take (i:=1) (v:=?v1) rfl (by kernel_rfl) (by kernel_rfl) (by kernel_rfl) (fun _ _ _ h=>h) (Or.inl ⟨by rfl,?y1⟩) hHeld ?r1
 case y1=>(intro wv hS;go_simp;try (with_reducible rfl))
 case r1=>
 simp only [Go.Act.put,List.getElem_toArray,List.getElem_cons_succ,List.getElem_cons_zero,List.setIfInBounds_toArray,List.set_cons_zero,List.set_cons_succ];refine wpAnyH_take (i:=2) (v:=?v2) rfl (by kernel_rfl) (by kernel_rfl) (by kernel_rfl) (fun _ _ _ h=>h) (Or.inl ⟨by rfl,?y2⟩) hHeld ?r2
 case y2=>(intro wv hS;go_simp;try (with_reducible rfl))
 case r2=>
 simp only [Go.Act.put,List.getElem_toArray,List.getElem_cons_succ,List.getElem_cons_zero,List.setIfInBounds_toArray,List.set_cons_zero,List.set_cons_succ];refine wpAnyH_take (i:=3) (v:=?v3) rfl (by kernel_rfl) (by kernel_rfl) (by kernel_rfl) (fun _ _ _ h=>h) (Or.inl ⟨by rfl,?y3⟩) hHeld ?r3
 case y3=>(intro wv hS;go_simp;try (with_reducible rfl))
 case r3=>
 simp only [Go.Act.put,List.getElem_toArray,List.getElem_cons_succ,List.getElem_cons_zero,List.setIfInBounds_toArray,List.set_cons_zero,List.set_cons_succ];refine wpAnyH_take (i:=4) (v:=?v4) rfl (by kernel_rfl) (by kernel_rfl) (by kernel_rfl) (fun _ _ _ h=>h) (Or.inl ⟨by rfl,?y4⟩) hHeld ?r4
 case y4=>(intro wv hS;obtain ⟨d9,d10,d11,d8,d16,d2,d5⟩:=HF.out wv hS.1;go_simp;try (with_reducible rfl))
 case r4=>
 simp only [Go.Act.put,List.getElem_toArray,List.getElem_cons_succ,List.getElem_cons_zero,List.setIfInBounds_toArray,List.set_cons_zero,List.set_cons_succ];refine wpAnyH_take (i:=5) (v:=?v5) rfl (by kernel_rfl) (by kernel_rfl) (by kernel_rfl) (fun _ _ _ h=>h) (Or.inl ⟨by rfl,?y5⟩) hHeld ?r5
 case y5=>(intro wv hS;go_simp;try (with_reducible rfl))
 case r5=>
 simp only [Go.Act.put,List.getElem_toArray,List.getElem_cons_succ,List.getElem_cons_zero,List.setIfInBounds_toArray,List.set_cons_zero,List.set_cons_succ];refine wpAnyH_take (i:=6) (v:=?v6) rfl (by kernel_rfl) (by kernel_rfl) (by kernel_rfl) (fun _ _ _ h=>h) (Or.inl ⟨by rfl,?y6⟩) hHeld ?r6
 case y6=>(intro wv hS;go_simp;try (with_reducible rfl))
 case r6=>
 simp only [Go.Act.put,List.getElem_toArray,List.getElem_cons_succ,List.getElem_cons_zero,List.setIfInBounds_toArray,List.set_cons_zero,List.set_cons_succ];refine wpAnyH_take (i:=7) (v:=?v7) rfl (by kernel_rfl) (by kernel_rfl) (by kernel_rfl) (fun _ _ _ h=>h) (Or.inl ⟨by rfl,?y7⟩) hHeld ?r7
 case y7=>(intro wv hS;go_simp;try (with_reducible rfl))
 case r7=>
 simp only [Go.Act.put,List.getElem_toArray,List.getElem_cons_succ,List.getElem_cons_zero,List.setIfInBounds_toArray,List.set_cons_zero,List.set_cons_succ];refine wpAnyH_take (i:=8) (v:=?v8) rfl (by kernel_rfl) (by kernel_rfl) (by kernel_rfl) (fun _ _ _ h=>h) (Or.inl ⟨by rfl,?y8⟩) hHeld ?r8
 case y8=>(intro wv hS;go_simp;try (with_reducible rfl))
 case r8=>
 simp only [Go.Act.put,List.getElem_toArray,List.getElem_cons_succ,List.getElem_cons_zero,List.setIfInBounds_toArray,List.set_cons_zero,List.set_cons_succ];refine wpAnyH_take (i:=9) (v:=?v9) rfl (by kernel_rfl) (by kernel_rfl) (by kernel_rfl) (fun _ _ _ h=>h) (Or.inl ⟨by rfl,?y9⟩) hHeld ?r9
 case y9=>(intro wv hS;obtain ⟨d9,d10,d11,d8,d16,d2,d5⟩:=HF.out wv hS.1;go_simp;try (with_reducible rfl))
 case r9=>
 simp only [Go.Act.put,List.getElem_toArray,List.getElem_cons_succ,List.getElem_cons_zero,List.setIfInBounds_toArray,List.set_cons_zero,List.set_cons_succ];refine wpAnyH_take (i:=10) (v:=?v10) rfl (by kernel_rfl) (by kernel_rfl) (by kernel_rfl) (fun _ _ _ h=>h) (Or.inl ⟨by rfl,?y10⟩) hHeld ?r10
 case y10=>(intro wv hS;go_simp;try (with_reducible rfl))
 case r10=>
 simp only [Go.Act.put,List.getElem_toArray,List.getElem_cons_succ,List.getElem_cons_zero,List.setIfInBounds_toArray,List.set_cons_zero,List.set_cons_succ];refine wpAnyH_take (i:=11) (v:=?v11) rfl (by kernel_rfl) (by kernel_rfl) (by kernel_rfl) (fun _ _ _ h=>h) (Or.inl ⟨by rfl,?y11⟩) hHeld ?r11
 case y11=>(intro wv hS;go_simp;try (with_reducible rfl))
 case r11=>
 simp only [Go.Act.put,List.getElem_toArray,List.getElem_cons_succ,List.getElem_cons_zero,List.setIfInBounds_toArray,List.set_cons_zero,List.set_cons_succ];refine wpAnyH_take (i:=12) (v:=?v12) rfl (by kernel_rfl) (by kernel_rfl) (by kernel_rfl) (fun _ _ _ h=>h) (Or.inl ⟨by rfl,?y12⟩) hHeld ?r12
 case y12=>(intro wv hS;go_simp;try (with_reducible rfl))
 case r12=>
 simp only [Go.Act.put,List.getElem_toArray,List.getElem_cons_succ,List.getElem_cons_zero,List.setIfInBounds_toArray,List.set_cons_zero,List.set_cons_succ];refine wpAnyH_take (i:=13) (v:=?v13) rfl (by kernel_rfl) (by kernel_rfl) (by kernel_rfl) (fun _ _ _ h=>h) (Or.inl ⟨by rfl,?y13⟩) hHeld ?r13
 case y13=>(intro wv hS;obtain ⟨d9,d10,d11,d8,d16,d2,d5⟩:=HF.out wv hS.1;go_simp;try (with_reducible rfl))
 case r13=>
 simp only [Go.Act.put,List.getElem_toArray,List.getElem_cons_succ,List.getElem_cons_zero,List.setIfInBounds_toArray,List.set_cons_zero,List.set_cons_succ];refine wpAnyH_take (i:=15) (v:=?v15) rfl (by kernel_rfl) (by kernel_rfl) (by kernel_rfl) (fun _ _ _ h=>h) (Or.inl ⟨by rfl,?y15⟩) hHeld ?r15
 case y15=>(intro wv hS;go_simp;try (with_reducible rfl))
 case r15=>
 simp only [Go.Act.put,List.getElem_toArray,List.getElem_cons_succ,List.getElem_cons_zero,List.setIfInBounds_toArray,List.set_cons_zero,List.set_cons_succ];refine wpAnyH_take (i:=16) (v:=?v16) rfl (by kernel_rfl) (by kernel_rfl) (by kernel_rfl) (fun _ _ _ h=>h) (Or.inl ⟨by rfl,?y16⟩) hHeld ?r16
 case y16=>(intro wv hS;go_simp;try (with_reducible rfl))
 case r16=>
 simp only [Go.Act.put,List.getElem_toArray,List.getElem_cons_succ,List.getElem_cons_zero,List.setIfInBounds_toArray,List.set_cons_zero,List.set_cons_succ];refine wpAnyH_take (i:=17) (v:=?v17) rfl (by kernel_rfl) (by kernel_rfl) (by kernel_rfl) (fun _ _ _ h=>h) (Or.inl ⟨by rfl,?y17⟩) hHeld ?r17
 case y17=>(intro wv hS;go_simp;try (with_reducible rfl))
 case r17=>
 simp only [Go.Act.put,List.getElem_toArray,List.getElem_cons_succ,List.getElem_cons_zero,List.setIfInBounds_toArray,List.set_cons_zero,List.set_cons_succ];refine wpAnyH_take (i:=18) (v:=?v18) rfl (by kernel_rfl) (by kernel_rfl) (by kernel_rfl) (fun _ _ _ h=>h) (Or.inl ⟨by rfl,?y18⟩) hHeld ?r18
 case y18=>(intro wv hS;go_simp;try (with_reducible rfl))
 case r18=>
 simp only [Go.Act.put,List.getElem_toArray,List.getElem_cons_succ,List.getElem_cons_zero,List.setIfInBounds_toArray,List.set_cons_zero,List.set_cons_succ];refine wpAnyH_take (i:=19) (v:=?v19) rfl (by kernel_rfl) (by kernel_rfl) (by kernel_rfl) (fun _ _ _ h=>h) (Or.inl ⟨by rfl,?y19⟩) hHeld ?r19
 case y19=>(intro wv hS;obtain ⟨d9,d10,d11,d8,d16,d2,d5⟩:=HF.out wv hS.1;go_simp;try (with_reducible rfl))
 case r19=>
 simp only [Go.Act.put,List.getElem_toArray,List.getElem_cons_succ,List.getElem_cons_zero,List.setIfInBounds_toArray,List.set_cons_zero,List.set_cons_succ];refine wpAnyH_take (i:=20) (v:=?v20) rfl (by kernel_rfl) (by kernel_rfl) (by kernel_rfl) (fun _ _ _ h=>h) (Or.inl ⟨by rfl,?y20⟩) hHeld ?r20
 case y20=>(intro wv hS;go_simp;try (with_reducible rfl))
 case r20=>
 simp only [Go.Act.put,List.getElem_toArray,List.getElem_cons_succ,List.getElem_cons_zero,List.setIfInBounds_toArray,List.set_cons_zero,List.set_cons_succ];refine wpAnyH_take (i:=21) (v:=?v21) rfl (by kernel_rfl) (by kernel_rfl) (by kernel_rfl) (fun _ _ _ h=>h) (Or.inl ⟨by rfl,?y21⟩) hHeld ?r21
 case y21=>(intro wv hS;go_simp;try (with_reducible rfl))
 case r21=>
 simp only [Go.Act.put,List.getElem_toArray,List.getElem_cons_succ,List.getElem_cons_zero,List.setIfInBounds_toArray,List.set_cons_zero,List.set_cons_succ];refine wpAnyH_take (i:=22) (v:=?v22) rfl (by kernel_rfl) (by kernel_rfl) (by kernel_rfl) (fun _ _ _ h=>h) (Or.inl ⟨by rfl,?y22⟩) hHeld ?r22
 case y22=>(intro wv hS;go_simp;try (with_reducible rfl))
 case r22=>
 simp only [Go.Act.put,List.getElem_toArray,List.getElem_cons_succ,List.getElem_cons_zero,List.setIfInBounds_toArray,List.set_cons_zero,List.set_cons_succ];refine wpAnyH_take (i:=23) (v:=?v23) rfl (by kernel_rfl) (by kernel_rfl) (by kernel_rfl) (fun _ _ _ h=>h) (Or.inl ⟨by rfl,?y23⟩) hHeld ?r23
 case y23=>(intro wv hS;obtain ⟨d9,d10,d11,d8,d16,d2,d5⟩:=HF.out wv hS.1;go_simp;try (with_reducible rfl))
 case r23=>
 simp only [Go.Act.put,List.getElem_toArray,List.getElem_cons_succ,List.getElem_cons_zero,List.setIfInBounds_toArray,List.set_cons_zero,List.set_cons_succ];refine wpAnyH_take (i:=25) (v:=?v25) rfl (by kernel_rfl) (by kernel_rfl) (by kernel_rfl) (fun _ _ _ h=>h) (Or.inl ⟨by rfl,?y25⟩) hHeld ?r25
 case y25=>(intro wv hS;go_simp;try (with_reducible rfl))
 case r25=>
 simp only [Go.Act.put,List.getElem_toArray,List.getElem_cons_succ,List.getElem_cons_zero,List.setIfInBounds_toArray,List.set_cons_zero,List.set_cons_succ];refine wpAnyH_take (i:=26) (v:=?v26) rfl (by kernel_rfl) (by kernel_rfl) (by kernel_rfl) (fun _ _ _ h=>h) (Or.inl ⟨by rfl,?y26⟩) hHeld ?r26
 case y26=>(intro wv hS;go_simp;try (with_reducible rfl))
 case r26=>
 simp only [Go.Act.put,List.getElem_toArray,List.getElem_cons_succ,List.getElem_cons_zero,List.setIfInBounds_toArray,List.set_cons_zero,List.set_cons_succ];refine wpAnyH_take (i:=27) (v:=?v27) rfl (by kernel_rfl) (by kernel_rfl) (by kernel_rfl) (fun _ _ _ h=>h) (Or.inl ⟨by rfl,?y27⟩) hHeld ?r27
 case y27=>(intro wv hS;go_simp;try (with_reducible rfl))
 case r27=>
 simp only [Go.Act.put,List.getElem_toArray,List.getElem_cons_succ,List.getElem_cons_zero,List.setIfInBounds_toArray,List.set_cons_zero,List.set_cons_succ];refine wpAnyH_take (i:=28) (v:=?v28) rfl (by kernel_rfl) (by kernel_rfl) (by kernel_rfl) (fun _ _ _ h=>h) (Or.inl ⟨by rfl,?y28⟩) hHeld ?r28
 case y28=>(intro wv hS;obtain ⟨d9,d10,d11,d8,d16,d2,d5⟩:=HF.out wv hS.1;go_simp;try (with_reducible rfl))
 case r28=>
 simp only [Go.Act.put,List.getElem_toArray,List.getElem_cons_succ,List.getElem_cons_zero,List.setIfInBounds_toArray,List.set_cons_zero,List.set_cons_succ];refine wpAnyH_take (i:=29) (v:=?v29) rfl (by kernel_rfl) (by kernel_rfl) (by kernel_rfl) (fun _ _ _ h=>h) (Or.inl ⟨by rfl,?y29⟩) hHeld ?r29
 case y29=>(intro wv hS;go_simp;try (with_reducible rfl))
 case r29=>
 simp only [Go.Act.put,List.getElem_toArray,List.getElem_cons_succ,List.getElem_cons_zero,List.setIfInBounds_toArray,List.set_cons_zero,List.set_cons_succ];refine wpAnyH_take (i:=30) (v:=?v30) rfl (by kernel_rfl) (by kernel_rfl) (by kernel_rfl) (fun _ _ _ h=>h) (Or.inl ⟨by rfl,?y30⟩) hHeld ?r30
 case y30=>(intro wv hS;go_simp;try (with_reducible rfl))
 case r30=>
 simp only [Go.Act.put,List.getElem_toArray,List.getElem_cons_succ,List.getElem_cons_zero,List.setIfInBounds_toArray,List.set_cons_zero,List.set_cons_succ];refine wpAnyH_take (i:=31) (v:=?v31) rfl (by kernel_rfl) (by kernel_rfl) (by kernel_rfl) (fun _ _ _ h=>h) (Or.inl ⟨by rfl,?y31⟩) hHeld ?r31
 case y31=>(intro wv hS;go_simp;try (with_reducible rfl))
 case r31=>
 simp only [Go.Act.put,List.getElem_toArray,List.getElem_cons_succ,List.getElem_cons_zero,List.setIfInBounds_toArray,List.set_cons_zero,List.set_cons_succ];refine wpAnyH_take (i:=32) (v:=?v32) rfl (by kernel_rfl) (by kernel_rfl) (by kernel_rfl) (fun _ _ _ h=>h) (Or.inl ⟨by rfl,?y32⟩) hHeld ?r32
 case y32=>(intro wv hS;obtain ⟨d9,d10,d11,d8,d16,d2,d5⟩:=HF.out wv hS.1;go_simp;try (with_reducible rfl))
 case r32=>
 simp only [Go.Act.put,List.getElem_toArray,List.getElem_cons_succ,List.getElem_cons_zero,List.setIfInBounds_toArray,List.set_cons_zero,List.set_cons_succ];refine wpAnyH_ready (rs:=[14]) (by kernel_rfl) (by simp) ?_;refine AllReadyH.cons rfl (fun K hK=>?_) AllReadyH.nil;refine jr0 (by rfl) 57 _ (by kernel_rfl) _ _ (HL.out _ (HF.out _ hHeld.1).2.2.2.2.2.2) ?_;refine hK.out _ _ hHeld (fun hHeld=>?_);simp only [Go.Act.put,List.getElem_toArray,List.getElem_cons_succ,List.getElem_cons_zero,List.setIfInBounds_toArray,List.set_cons_zero,List.set_cons_succ];refine wpAnyH_ready (rs:=[24]) (by kernel_rfl) (by simp) ?_;refine AllReadyH.cons rfl (fun K hK=>?_) AllReadyH.nil;refine jr0 (by rfl) 58 _ (by kernel_rfl) _ _ (HS.out _) ?_;refine hK.out _ _ ⟨hHeld.1.alloc hHeld.1.size _,za0 hHeld.2 _⟩ (fun hHeld=>?_);simp only [Go.Act.put,List.getElem_toArray,List.getElem_cons_succ,List.getElem_cons_zero,List.setIfInBounds_toArray,List.set_cons_zero,List.set_cons_succ];refine wpAnyH_take (i:=33) (v:=?v33) rfl (by kernel_rfl) (by kernel_rfl) (by kernel_rfl) (fun _ _ _ h=>h) (Or.inl ⟨by rfl,?y33⟩) hHeld ?r33
 case y33=>(intro wv hS;go_simp;try (with_reducible rfl))
 case r33=>
 simp only [Go.Act.put,List.getElem_toArray,List.getElem_cons_succ,List.getElem_cons_zero,List.setIfInBounds_toArray,List.set_cons_zero,List.set_cons_succ];refine wpAnyH_ready (rs:=[34]) (by kernel_rfl) (by simp) ?_;refine AllReadyH.cons rfl (fun K hK=>?_) AllReadyH.nil;rw [if_pos (by rfl)];refine wp_store_mid 50 (.tmp 2) (.tmp 41) (by rfl) w.heap.size 0 #[.int .i64 x.tk, .int .i64 x.pu, .int .i64 x.qa.length, .int .i64 x.mb, .int .i64 (x.tk+x.pu:Nat), .bool acc, .int .i64 x.er] (by rfl) (by rfl) hHeld.2 zmr (all_oneCell_toArray (by simp [Value.oneCell'])) ?_;have HZ:Hid (Below w.heap.size w (World.setCells _ w.heap.size 0 [.int .i64 x.tk, .int .i64 x.pu, .int .i64 x.qa.length, .int .i64 x.mb, .int .i64 (x.tk+x.pu:Nat), .bool acc, .int .i64 x.er])):=xue (Nat.le_refl _) _ _ hHeld.1;have hin:=World.cell?_setCells_in w.heap.size [.int .i64 x.tk, .int .i64 x.pu, .int .i64 x.qa.length, .int .i64 x.mb, .int .i64 (x.tk+x.pu:Nat), .bool acc, .int .i64 x.er] 0 _ (fun j hj=>(hHeld.2 j hj).1);refine hK.out _ _ ⟨xue (Nat.le_refl _) _ _ hHeld.1,World.there_setCells hHeld.2 _ _ _⟩ (fun _=>?_);refine wpAnyH_done (by kernel_rfl) ?_ _;have s0:=hin 0 (by simp);have s1:=hin 1 (by simp);have s2:=hin 2 (by simp);have s3:=hin 3 (by simp);have s4:=hin 4 (by simp);have s5:=hin 5 (by simp);have s6:=hin 6 (by simp);clear hin hHeld hK K;generalize World.setCells _ w.heap.size 0 _=W9 at *;simp only [Nat.zero_add,List.getElem_cons_zero,List.getElem_cons_succ] at s0 s1 s2 s3 s4 s5 s6;simp only [Go.Act.put,List.getElem_toArray,List.getElem_cons_succ,List.getElem_cons_zero,List.setIfInBounds_toArray,List.set_cons_zero,List.set_cons_succ];go_wp2_with fail
 refine bodyPost_ret (v:= .agg #[.int .i64 x.tk, .int .i64 x.pu, .int .i64 x.qa.length, .int .i64 x.mb, .int .i64 (x.tk+x.pu:Nat), .bool acc, .int .i64 x.er]) (by simp [results,Tryz.results27,go_sem, *]) rfl ⟨rfl,HZ.out⟩
theorem zs8(c:Cfg)(w:World)(h:c.right=false):Calls Tryz.prog 21 #[c.val] w fun e w'=>e= .returned (.tuple #[.pointer none, .int .i64 1])∧Below w.heap.size w w':=by
 have HM:Hid (∀ V:World,Calls Tryz.prog 45 #[.agg #[.int .i64 c.fm, .int .i64 c.out, .int .i64 c.ratio, .int .i64 c.slack, .int .i64 c.mem, .int .i64 c.lim, .int .i64 c.steps]] V fun e w'=>e= .returned (.bool c.right)∧Below V.heap.size V w'):=fun V=>z8l c V
 unfold Cfg.val;have B0:Hid (Below w.heap.size w (w.alloc (.cells #[.int .i64 c.fm, .int .i64 c.out, .int .i64 c.ratio, .int .i64 c.slack, .int .i64 c.mem, .int .i64 c.lim, .int .i64 c.steps] 42))):=(Below.refl _ _).alloc (Nat.le_refl _) _;go_enter Tryz.func21,Tryz.ntmps21
 go_wp2_with fail
 refine (HM.out _).mono ?_;rintro e w1 ⟨rfl,b1⟩;have H1:Hid (Below w.heap.size w w1):=y6y B0.out b1;clear b1;rw [h];go_wp2_with fail
 go_ret2
 exact ⟨rfl,H1.out⟩
theorem Cfg.nat{c:Cfg}(h:c.right=true):c=⟨(c.fm.toNat:Int),(c.out.toNat:Int),(c.ratio.toNat:Int),(c.slack.toNat:Int),(c.mem.toNat:Int),(c.lim.toNat:Int),(c.steps.toNat:Int)⟩:=by
 obtain ⟨h1,h2,h3,h4,h5,h6,h7⟩:=vh2 h;cases c
 simp only at h1 h2 h3 h4 h5 h6 h7 ⊢;rw [← h1,← h2,← h3,← h4,← h5,← h6,← h7]
theorem vo5(fm ou ra sl me he sp:Nat)(w:World)(h:(Cfg.mk fm ou ra sl me he sp).right=true) :
  Calls Tryz.prog 21 #[(Cfg.mk fm ou ra sl me he sp).val] w fun e w'=>∃ q p ρ,e= .returned (.tuple #[.pointer (some ⟨q,0,none⟩), .int .i64 0])∧GPI w.heap.size ρ w' q p (MS.fresh fm ou ra sl me he sp) false false∧Below w.heap.size w w':=by
 have HM:Hid (∀ V:World,Calls Tryz.prog 45 #[.agg #[.int .i64 fm, .int .i64 ou, .int .i64 ra, .int .i64 sl, .int .i64 me, .int .i64 he, .int .i64 sp]] V fun e w'=>e= .returned (.bool (Cfg.mk fm ou ra sl me he sp).right)∧Below V.heap.size V w'):=fun V=>z8l (Cfg.mk fm ou ra sl me he sp) V
 have HN:Hid (∀ V:World,Calls Tryz.prog 46 #[.agg #[.int .i64 fm, .int .i64 ou, .int .i64 ra, .int .i64 sl, .int .i64 me, .int .i64 he, .int .i64 sp]] V fun e w'=>∃ p ρ,e= .returned (.pointer (some ⟨p,0,none⟩))∧MQ ρ w' p (MS.fresh fm ou ra sl me he sp)∧(∀ k,ρ k≠0->V.heap.size<=k)∧Below V.heap.size V w'):=fun V=>j54 fm ou ra sl me he sp V
 unfold Cfg.val;have B0:Hid (CfgB w (w.alloc (.cells #[.int .i64 fm, .int .i64 ou, .int .i64 ra, .int .i64 sl, .int .i64 me, .int .i64 he, .int .i64 sp] 42)) w.heap.size fm ou ra sl me he sp):=CfgB.made w fm ou ra sl me he sp;go_enter Tryz.func21,Tryz.ntmps21
 go_wp2_with fail
 refine (HM.out _).mono ?_;rintro e w1 ⟨rfl,b1⟩;have H1:Hid (CfgB w w1 w.heap.size fm ou ra sl me he sp):=B0.out.step b1;clear b1;rw [h];obtain ⟨d0,d1,d2,d3,d4,d5,d6⟩:=H1.out.cs;go_wp2_with fail
 refine (HN.out _).mono ?_;rintro e w2 ⟨p,ρ,rfl,M,hk,b2⟩;have H2:Hid (MQ ρ w2 p (MS.fresh fm ou ra sl me he sp)∧(∀ k,ρ k≠0->w1.heap.size<=k)∧Below w.heap.size w w2∧w1.heap.size<=w2.heap.size):=⟨M,hk,H1.out.bel.trans (b2.mono H1.out.bel.size),b2.size⟩
 clear M hk b2 d0 d1 d2 d3 d4 d5 d6;go_wp2_with fail
 go_ret2
 obtain ⟨M,hk,b2,hsz⟩:=H2.out;have al:Below w2.heap.size w2 (w2.alloc (.cells #[.pointer (some ⟨p,0,none⟩), .bool false, .bool false] 100)):=(Below.refl _ _).alloc (Nat.le_refl _) _;have hw1:=H1.out.bel.size;refine ⟨w2.heap.size,p,ρ,rfl,⟨?_,M.below al,?_,fun k h0=>Nat.le_trans hw1 (hk k h0),by omega,by simp;omega⟩,b2.trans (al.mono b2.size)⟩
 ·exact World.rowIs_alloc w2 _ _ _ (fun i hi=>by
   simp at hi;have:i=0∨i=1∨i=2:=by omega
   rcases this with rfl | rfl | rfl <;> rfl)
 ·exact Classical.byContradiction fun hc=>by have:=M.lt.1 _ hc;omega
theorem yuf(c:Cfg)(w:World)(h:c.right=true) :
  Calls Tryz.prog 21 #[c.val] w fun e w'=>∃ q p ρ,e= .returned (.tuple #[.pointer (some ⟨q,0,none⟩), .int .i64 0])∧GPI w.heap.size ρ w' q p (MS.fresh c.fm.toNat c.out.toNat c.ratio.toNat c.slack.toNat c.mem.toNat c.lim.toNat c.steps.toNat) false false∧Below w.heap.size w w':=by
 have e:=Cfg.nat h;have h':=h;rw [e] at h';have:=vo5 c.fm.toNat c.out.toNat c.ratio.toNat c.slack.toNat c.mem.toNat c.lim.toNat c.steps.toNat w h';rw [← e] at this;exact this
end Go.Proofs.YtbcjmakpempkiaaGreatDoor
