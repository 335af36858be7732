import Derived.Test.YtbcjmakpempkiaaGreatDoorX21
set_option maxRecDepth 100000
set_option maxHeartbeats 8000000
set_option linter.all false
namespace Go.Proofs.YtbcjmakpempkiaaGreatDoor
open Go.RowKit
namespace HelperT
theorem four(k:Nat):∃ (v1:Int) (v2:Bool) (v3 v4:Int),v3q k=#[.int .i64 v1, .bool v2, .int .i64 v3, .int .i64 v4]:=by
 unfold v3q;(repeat' split) <;> exact ⟨_,_,_,_,rfl⟩
def newW(wr:World)(p n:Nat)(l:List Int):World:=
 (((wr.setCell ⟨p,37,none⟩ (.slice (some ⟨wr.heap.size,0,none⟩) n n)).alloc (.cells (madeCells #[.int .i64 0, .bool false, .int .i64 0, .int .i64 0] (n*4)) 127)).alloc (.cells (arr (fun _=>0)) 197)).setRow (wr.heap.size+1) (arr (bsum l))
def zero4(j:Nat):Value:=if j%4=1 then .bool false else .int .i64 0
theorem made4(w:World)(n:Nat)(t:TypeId):(w.alloc (.cells (madeCells #[.int .i64 0, .bool false, .int .i64 0, .int .i64 0] (n*4)) t)).rowIs w.heap.size t (n*4) zero4:=by
 have:=World.rowIs_alloc w (madeCells #[.int .i64 0, .bool false, .int .i64 0, .int .i64 0] (n*4)) t zero4 (fun i hi=>by
  have h2:i<n*4:=by simpa [size_madeCells] using hi
  have h3:i%4=0∨i%4=1∨i%4=2∨i%4=3:=by omega
  rcases h3 with h3 | h3 | h3 | h3 <;> simp [madeCells,zero4,h2,h3])
 rwa [size_madeCells] at this
theorem newW_at(wr:World)(p n:Nat):((((wr.setCell ⟨p,37,none⟩ (.slice (some ⟨wr.heap.size,0,none⟩) n n)).alloc (.cells (madeCells #[.int .i64 0, .bool false, .int .i64 0, .int .i64 0] (n*4)) 127)).alloc (.cells (arr (fun _=>0)) 197)).heap[wr.heap.size+1]?)=some (.cells (arr (fun _=>0)) 197):=by
 have:=heap_alloc2_new (wr.setCell ⟨p,37,none⟩ (.slice (some ⟨wr.heap.size,0,none⟩) n n)) (.cells (madeCells #[.int .i64 0, .bool false, .int .i64 0, .int .i64 0] (n*4)) 127) (.cells (arr (fun _=>0)) 197);simpa using this
theorem newW_facts{w wr:World}{p n:Nat}{l:List Int}{cnt fst:Nat->Int}{lg:Nat}(h:wr.rowIs p 265 38 (bfv cnt fst (bgTo l 12) lg (.slice none 0 0)))(hb:Below w.heap.size w wr)(hp:w.heap.size<=p) :
  (newW wr p n l).rowIs p 265 38 (bfv cnt fst (bgTo l 12) lg (.slice (some ⟨wr.heap.size,0,none⟩) n n))∧(newW wr p n l).rowIs wr.heap.size 127 (n*4) zero4∧
  (newW wr p n l).rowIs (wr.heap.size+1) 197 12 (fun j=> .int .i64 (bsum l j))∧Below w.heap.size w (newW wr p n l):=by
 have hl:=h.lt;have hz:(wr.setCell ⟨p,37,none⟩ (.slice (some ⟨wr.heap.size,0,none⟩) n n)).heap.size=wr.heap.size:=by simp
 have hs:=hb.size;refine ⟨?_,?_,?_,?_⟩
 ·exact (((jb3 _ h).alloc _).alloc _).of_block (setRow_other _ _ _ _ (by omega))
 ·have:=(made4 (wr.setCell ⟨p,37,none⟩ (.slice (some ⟨wr.heap.size,0,none⟩) n n)) n 127).alloc (.cells (arr (fun _=>0)) 197);rw [hz] at this;exact this.of_block (setRow_other _ _ _ _ (by omega))
 ·exact ⟨arr (bsum l),setRow_heap _ _ _ _ _ _ (newW_at wr p n),rfl,fun i hi=>zge _ _ hi⟩
 ·exact below_setRow (((hb.setCell (p:=⟨p,37,none⟩) hp _).alloc (by rw [hz];exact hs) _).alloc (by simp;omega) _) (by omega) _
def Filled(l:List Int)(f:Nat->Value)(k:Nat):Prop:=∀ i,i<k->0<l.getD i 0->#[f (pos l i*4),f (pos l i*4+1),f (pos l i*4+2),f (pos l i*4+3)]=v3q i
theorem Filled.skip{l:List Int}{f:Nat->Value}{k:Nat}(h:Filled l f k)(e0:l.getD k 0=0):Filled l f (k+1):=fun i hi h0=>by
 by_cases e:i=k
 ·subst e;omega
 ·exact h i (by omega) h0
theorem Filled.step{l:List Int}{f:Nat->Value}{k x:Nat}{v1 v2 v3 v4:Value}(h:Filled l f k)(hl:l.length<=269)(hr:inRange l=true)(hk:k<l.length)(hx:l[k]=(x:Int))(h0:0<x)(h12:x<12)(hv:v3q k=#[v1,v2,v3,v4]) :
  Filled l (fun j=>if j=pos l k*4+3 then v4 else if j=pos l k*4+2 then v3 else if j=pos l k*4+1 then v2 else if j=pos l k*4 then v1 else f j) (k+1):=fun i hi hp=>by
 by_cases e:i=k
 ·subst e;simp [hv]
 ·have hi':i<k:=by omega
  have hil:i<l.length:=by omega
  obtain ⟨y,hy,hy12⟩:∃ y:Nat,l[i]=(y:Int)∧y<12:=by
   have:=(vto l).1 hr l[i] (List.getElem_mem hil);exact ⟨l[i].toNat,by omega,by omega⟩
  have hg:l.getD i 0=(y:Int):=by simp [hil,hy]
  have ne:=z4t hi' hk hil hy hx hl (by omega) hy12 h0 h12;have hh:=h i hi' hp;rw [← hh];have q:∀ j,pos l i*4<=j->j<pos l i*4+4->(if j=pos l k*4+3 then v4 else if j=pos l k*4+2 then v3 else if j=pos l k*4+1 then v2 else if j=pos l k*4 then v1 else f j)=f j:=fun j h1 h2=>by
   rw [if_neg (by omega),if_neg (by omega),if_neg (by omega),if_neg (by omega)]
  have c4:∀ a b c d a' b' c' d':Value,a=a'->b=b'->c=c'->d=d'->#[a,b,c,d]=#[a',b',c',d']:=by intro a b c d a' b' c' d' h1 h2 h3 h4;rw [h1,h2,h3,h4]
  exact c4 _ _ _ _ _ _ _ _ (q _ (by omega) (by omega)) (q _ (by omega) (by omega)) (q _ (by omega) (by omega)) (q _ (by omega) (by omega))
theorem four_set_cell{w:World}{m i j k l:Nat}{v u x y:Value}{q:Addr}(h:q.block≠m):((((w.setCell ⟨m,i,none⟩ v).setCell ⟨m,j,none⟩ u).setCell ⟨m,k,none⟩ x).setCell ⟨m,l,none⟩ y).cell? q=w.cell? q:=
 (((World.cell?_setCell_far _ _ _ _ (Ne.symm h)).trans (World.cell?_setCell_far _ _ _ _ (Ne.symm h))).trans (World.cell?_setCell_far _ _ _ _ (Ne.symm h))).trans (World.cell?_setCell_far _ _ _ _ (Ne.symm h))
theorem new_round{w wr w7:World}{p m n k x P:Nat}{l:List Int}{F:Nat->Value}{f:Nat->Value}{v1 v2 v3 v4:Value}(q1:wr.rowIs p 265 38 F)(q2:wr.rowIs m 127 (n*4) f)(q4:wr.rowIs (m+1) 197 12 (fun j=> .int .i64 (bsum l j+cn (l.take k) j)))
  (q5:Below w.heap.size w wr) (hb:Below wr.heap.size wr w7) (hk:k<l.length) (hx:l[k]=(x:Int)) (h0:0<x) (_h12:x<12) (hpm:p≠m) (hpm2:p≠m+1) (_hp:w.heap.size<=p) (hm:w.heap.size<=m) (hN:bsum l x+cn (l.take k) x=(pos l k:Int)) (hP:P=pos l k) :
  (((((w7.setCell ⟨m,P*4,none⟩ v1).setCell ⟨m,P*4+1,none⟩ v2).setCell ⟨m,P*4+2,none⟩ v3).setCell ⟨m,P*4+3,none⟩ v4).setCell ⟨m+1,x,none⟩ (.int .i64 (P+1))).rowIs p 265 38 F∧
  (((((w7.setCell ⟨m,P*4,none⟩ v1).setCell ⟨m,P*4+1,none⟩ v2).setCell ⟨m,P*4+2,none⟩ v3).setCell ⟨m,P*4+3,none⟩ v4).setCell ⟨m+1,x,none⟩ (.int .i64 (P+1))).rowIs m 127 (n*4) (fun j=>if j=P*4+3 then v4 else if j=P*4+2 then v3 else if j=P*4+1 then v2 else if j=P*4 then v1 else f j)∧
  (((((w7.setCell ⟨m,P*4,none⟩ v1).setCell ⟨m,P*4+1,none⟩ v2).setCell ⟨m,P*4+2,none⟩ v3).setCell ⟨m,P*4+3,none⟩ v4).setCell ⟨m+1,x,none⟩ (.int .i64 (P+1))).rowIs (m+1) 197 12 (fun j=> .int .i64 (bsum l j+cn (l.take (k+1)) j))∧
  Below w.heap.size w (((((w7.setCell ⟨m,P*4,none⟩ v1).setCell ⟨m,P*4+1,none⟩ v2).setCell ⟨m,P*4+2,none⟩ v3).setCell ⟨m,P*4+3,none⟩ v4).setCell ⟨m+1,x,none⟩ (.int .i64 (P+1))):=by
 have e:(P:Int)+1=bsum l x+cn (l.take k) x+1:=by omega
 refine ⟨?_,?_,?_,?_⟩
 ·exact (((((j96 q1 hb q1.lt).setOther (a:=⟨m,P*4,none⟩) hpm _).setOther (a:=⟨m,P*4+1,none⟩) hpm _).setOther (a:=⟨m,P*4+2,none⟩) hpm _).setOther (a:=⟨m,P*4+3,none⟩) hpm _).setOther (a:=⟨m+1,x,none⟩) hpm2 _
 ·exact (((((j96 q2 hb q2.lt).set (P*4) _).set (P*4+1) _).set (P*4+2) _).set (P*4+3) _).setOther (a:=⟨m+1,x,none⟩) (by simp) _
 ·rw [e];exact jr9 hk hx h0 (((((j96 q4 hb q4.lt).setOther (a:=⟨m,P*4,none⟩) (by simp) _).setOther (a:=⟨m,P*4+1,none⟩) (by simp) _).setOther (a:=⟨m,P*4+2,none⟩) (by simp) _).setOther (a:=⟨m,P*4+3,none⟩) (by simp) _)
 ·exact (((((q5.trans (hb.mono q5.size)).setCell (p:=⟨m,P*4,none⟩) hm _).setCell (p:=⟨m,P*4+1,none⟩) hm _).setCell (p:=⟨m,P*4+2,none⟩) hm _).setCell (p:=⟨m,P*4+3,none⟩) hm _).setCell (p:=⟨m+1,x,none⟩) (by show w.heap.size<=m+1;omega) _
theorem info':(Tryz.prog.info? 127).map (fun i=>(i.zero,i.size,i.bytes))=some (some (.agg #[.int .i64 0, .bool false, .int .i64 0, .int .i64 0]),4,32):=by kernel_rfl
theorem make(n:Nat)(hn:n<=12000000)(w:World):(Instr.makeSlice 263 (.int .i64 (n:Int)) (.int .i64 (n:Int))).run Tryz.prog w= .ok (.slice (some ⟨w.heap.size,0,none⟩) n n) (w.alloc (.cells (madeCells #[.int .i64 0, .bool false, .int .i64 0, .int .i64 0] (n*4)) 127)):=by
 obtain ⟨i,hi,hz⟩:=Option.map_eq_some_iff.1 info';simp only [Prod.mk.injEq] at hz;have hr:=run_make (P:=Tryz.prog) w 263 127 i _ Tryz.underlying263 hi hz.1 .i64 .i64 n n (by omega) (Int.le_refl _) (by rw [hz.2.2];omega) (by omega);simp only [Int.toNat_natCast,hz.2.1] at hr;exact hr
theorem tab_build(f g:Nat->Int)(w:World):(Instr.build 265 #[(0, .agg (arr f)),(1, .agg (arr g))]).run Tryz.prog w= .ok (.agg (tab0 f g)) w:=by kernel_rfl
theorem tab_box(f g:Nat->Int)(w:World):(Instr.box 265 (.agg (tab0 f g))).run Tryz.prog w= .ok (.pointer (some ⟨w.heap.size,0,none⟩)) (w.alloc (.cells (tab0 f g) 265)):=by kernel_rfl
theorem newTable(ad:Option Addr)(cap:Nat)(l:List Int)(w:World)(hl16:l.length<=269)(hc:xin w ad l)(hr:inRange l=true) :
  Calls Tryz.prog 168 #[.slice ad l.length cap, .func (.func 169) #[] #[]] w fun e w'=>∃ (p m n:Nat) (f:Nat->Value),e= .returned (.pointer (some ⟨p,0,none⟩))∧bsum l 12=n∧
   TabI w' 265 4 p m n (cn l) (fc (cn l)) (bgTo l 12) (lgTo l 12) (fun j=>[f (j*4),f (j*4+1),f (j*4+2),f (j*4+3)])∧Filled l f l.length∧w.heap.size<=p∧w.heap.size<=m∧Below w.heap.size w w':=by
 have hl:l.length<=269:=by omega
 have HC:Hid (xin w ad l):=hc;have HB:Hid (∀ j,j<12->0<=cn l j∧cn l j<=1000000):=z7r hl;go_enter Tryz.func168,Tryz.ntmps168
 go_wp2_with fail
 refine (v5q ad cap l _ (by omega) hc hr).mono ?_;rintro e w1 ⟨rfl,hb1⟩;have HG1:Hid (Below w.heap.size w w1):=hb1;clear hb1 hc;go_wp2_with (first | (refine wpList_store_row rfl 199 _ _ rfl _ _ rfl rfl 199 _ (heap_alloc_new _ _) (zvc _) rfl (yui _) ?_;rw [World.setRow_alloc_new]))
 have hW:(w1.alloc (.cells (arr (cn l)) 199)).heap[w1.heap.size]?=some (.cells (arr (cn l)) 199):=heap_alloc_new _ _;have HW:Hid (Below w.heap.size w (w1.alloc (.cells (arr (cn l)) 199))):=HG1.out.alloc HG1.out.size _;have hWs:w1.heap.size<(w1.alloc (.cells (arr (cn l)) 199)).heap.size:=by simp
 generalize w1.alloc (.cells (arr (cn l)) 199)=W at *;have hbd:=tab_build (cn l) (fc (cn l));have hbx:=tab_box (cn l) (fc (cn l));unfold arr at hbd;generalize hg:w1.heap.size=g at *;clear hg;go_region_held3 (fun wv=>wv.cell? ⟨g,0,none⟩=some (.int .i64 (cn l 0))∧wv.cell? ⟨g,1,none⟩=some (.int .i64 (cn l 1))∧wv.cell? ⟨g,2,none⟩=some (.int .i64 (cn l 2))∧wv.cell? ⟨g,3,none⟩=some (.int .i64 (cn l 3))∧wv.cell? ⟨g,4,none⟩=some (.int .i64 (cn l 4))∧wv.cell? ⟨g,5,none⟩=some (.int .i64 (cn l 5))∧wv.cell? ⟨g,6,none⟩=some (.int .i64 (cn l 6))∧wv.cell? ⟨g,7,none⟩=some (.int .i64 (cn l 7))∧wv.cell? ⟨g,8,none⟩=some (.int .i64 (cn l 8))∧wv.cell? ⟨g,9,none⟩=some (.int .i64 (cn l 9))∧wv.cell? ⟨g,10,none⟩=some (.int .i64 (cn l 10))∧wv.cell? ⟨g,11,none⟩=some (.int .i64 (cn l 11))) (first | exact xwb (w:=W.drew) hW | exact xwb hh3 | exact xwb ((Go.heap_alloc_old _ _ hg3).trans hh3))
  (first | (go_at_call 151;refine (jgl (cn l) _ HB.out).mono ?_;rintro e w3 ⟨rfl,hb3⟩;have hh3:=(hb3.block _ hWs).trans hW;have hg3:g<w3.heap.size:=Nat.lt_of_lt_of_le hWs hb3.size;unfold arr))
 have HG4:Hid (Below w.heap.size w w3):=HW.out.drew.trans (hb3.mono HW.out.size);have HS3:Hid (w3.heap[g]?=some (.cells (arr (cn l)) 199)):=hh3;clear hb3 hh3 hW hbd hbx HW HG1;have hp3:(w3.alloc (.cells (tab0 (cn l) (fc (cn l))) 265)).rowIs w3.heap.size 265 38 (bfv (cn l) (fc (cn l)) (bgTo l 0) (lgTo l 0) (.slice none 0 0)):=jnz _ _ _;have h4g:(w3.alloc (.cells (tab0 (cn l) (fc (cn l))) 265)).heap[g]?=some (.cells (arr (cn l)) 199):=(Go.heap_alloc_old _ _ hg3).trans HS3.out;have HG5:Hid (Below w.heap.size w (w3.alloc (.cells (tab0 (cn l) (fc (cn l))) 265))):=HG4.out.alloc HG4.out.size _;have hpW:w.heap.size<=w3.heap.size:=HG4.out.size;have hi:=idx (cn l);unfold tab0 at *;generalize w3.alloc _=w4 at *;generalize w3.heap.size=p at *;go_wp2_with (refine wpList_load_row rfl 197 _ rfl _ rfl 199 (arr (cn l)) (0,0) _ h4g Tryz.underlying197 rfl (xz2 _) ?_)
 go_loopw [7,22] (fun t i wr=>∃ k:Nat,k<=12∧i= .int .i64 k∧t= .int .i64 (bsum l k)∧wr.rowIs p 265 38 (bfv (cn l) (fc (cn l)) (bgTo l k) (lgTo l k) (.slice none 0 0))∧Below w.heap.size w wr) (fun _ i _=>12 - (intOf i).toNat)
 case atStart=>exact ⟨0,Nat.zero_le _,rfl,rfl,hp3,HG5.out⟩
 case round=>
  obtain ⟨k,hk,rfl,rfl,hrow,hbel⟩:=hrel;by_cases hlt:k<12
  ·have hik:=hi k hlt;have ⟨b1,b2⟩:=ysr hl k hk;have ⟨b3,b4⟩:=HB.out k hlt;have g1:=hrow.cell (i:=24+k) (by omega);have g2:=hrow.frozen (24+k);have g3:=hrow.cell (i:=36) (by omega);have g4:=hrow.frozen 36;have R:=jnr k (bsum l k) hlt hrow;rw [xp6] at R;have R1:=hbel.setCell (p:=⟨p,24+k,none⟩) hpW (.int .i64 (bsum l k));by_cases hpos:0<cn l k
   ·have R2:=zta k R;have e2:lgTo l (k+1)=k:=if_pos hpos;go_wp2
    go_roundw
    case rel=>exact ⟨k+1,by omega,by go_num,rfl,by rw [e2];exact R2,R1.setCell (p:=⟨p,36,none⟩) hpW _⟩
    case measure=>simp [intOf];omega
   ·have e2:lgTo l k=lgTo l (k+1):=(if_neg hpos).symm;rw [e2] at R;go_wp2
    go_roundw
    case rel=>exact ⟨k+1,by omega,by go_num,rfl,R,R1⟩
    case measure=>simp [intOf];omega
  ·obtain rfl:k=12:=by omega
   have HR:Hid (wr.rowIs p 265 38 (bfv (cn l) (fc (cn l)) (bgTo l 12) (lgTo l 12) (.slice none 0 0))∧Below w.heap.size w wr):=⟨hrow,hbel⟩
   obtain ⟨n,hn⟩:∃ n:Nat,bsum l 12=n:=⟨(bsum l 12).toNat,by have:=(ysr hl 12 (by omega)).1;omega⟩
   have hn2:n<=12000000:=by have:=(ysr hl 12 (by omega)).2;omega
   rw [hn];have g1:=hrow.cell (i:=37) (by omega);have g2:=hrow.frozen 37;have hmk:=make n hn2;clear hi;have r5:((wr.setCell ⟨p,37,none⟩ (.slice (some ⟨wr.heap.size,0,none⟩) n n)).alloc (.cells (madeCells #[.int .i64 0, .bool false, .int .i64 0, .int .i64 0] (n*4)) 127)).rowIs p 265 38 (bfv (cn l) (fc (cn l)) (bgTo l 12) (lgTo l 12) (.slice (some ⟨wr.heap.size,0,none⟩) n n)):=(jb3 _ hrow).alloc _;have m5:=xfg r5;have hpl:=hrow.lt;have h6:=newW_at wr p n;have NF:=newW_facts (n:=n) hrow hbel hpW;unfold newW at NF;rw [show arr (fun _=>0)=#[.int .i64 0, .int .i64 0, .int .i64 0, .int .i64 0, .int .i64 0, .int .i64 0, .int .i64 0, .int .i64 0, .int .i64 0, .int .i64 0, .int .i64 0, .int .i64 0] from rfl] at NF;have HNF:Hid _:=NF;clear NF;go_wp2_with (first | (refine wpList_load_mid rfl 197 _ rfl p 24 rfl (arr (bsum l)).toList _ m5 Tryz.underlying197 rfl (xz2 (bsum l)) ?_;rw [Array.toArray_toList]) | (refine wpList_store_row rfl 197 _ _ rfl (wr.heap.size+1) (arr (bsum l)) rfl rfl 197 _ h6 (xz2 _) rfl (yui _) ?_))
   have hmW:w.heap.size<=wr.heap.size:=hbel.size;clear h6 m5 r5 g1 g2 hmk hrow h4g hbel HR;generalize (((wr.setCell ⟨p,37,none⟩ (.slice (some ⟨wr.heap.size,0,none⟩) n n)).alloc (.cells (madeCells #[.int .i64 0, .bool false, .int .i64 0, .int .i64 0] (n*4)) 127)).alloc (.cells #[.int .i64 0, .int .i64 0, .int .i64 0, .int .i64 0, .int .i64 0, .int .i64 0, .int .i64 0, .int .i64 0, .int .i64 0, .int .i64 0, .int .i64 0, .int .i64 0] 197)).setRow (wr.heap.size+1) (arr (bsum l))=w6 at *;generalize wr.heap.size=m at *;go_loopw [53] (fun i wx=>∃ (k:Nat) (f:Nat->Value),k<=l.length∧i= .int .i64 k∧wx.rowIs p 265 38 (bfv (cn l) (fc (cn l)) (bgTo l 12) (lgTo l 12) (.slice (some ⟨m,0,none⟩) n n))∧wx.rowIs m 127 (n*4) f∧Filled l f k∧wx.rowIs (m+1) 197 12 (fun j=> .int .i64 (bsum l j+cn (l.take k) j))∧Below w.heap.size w wx) (fun i _=>l.length - (intOf i).toNat)
   case atStart=>exact ⟨0,zero4,Nat.zero_le _,rfl,HNF.out.1,HNF.out.2.1,fun i hi=>absurd hi (by omega),HNF.out.2.2.1.congr fun i _=>by simp [j3h],HNF.out.2.2.2⟩
   case round=>
    obtain ⟨k,f,hk,rfl,q1,q2,q3,q4,q5⟩:=hrel;by_cases hlt:k<l.length
    ·obtain ⟨b,o,x,rfl,g,hx12,hx⟩:=(HC.out.below q5 (Nat.le_refl _)).atNat hr hlt;have HQ:Hid (wr.rowIs p 265 38 (bfv (cn l) (fc (cn l)) (bgTo l 12) (lgTo l 12) (.slice (some ⟨m,0,none⟩) n n))∧wr.rowIs m 127 (n*4) f∧wr.rowIs (m+1) 197 12 (fun j=> .int .i64 (bsum l j+cn (l.take k) j))∧Below w.heap.size w wr):=⟨q1,q2,q4,q5⟩
     have HF:Hid (Filled l f k):=q3;clear q3;by_cases hpos:0<x
     ·have e1:=k44 hlt hx.out hl (by omega);have e2:=vil hlt hx.out hl hpos (by omega);rw [hn] at e2;have hpn:pos l k<n:=by omega
      have c1:wr.cell? ⟨p,37,none⟩=some (.slice (some ⟨m,0,none⟩) n n):=q1.cell (i:=37) (by omega);have c2:wr.cell? ⟨m+1,x,none⟩=some (.int .i64 (pos l k)):=by rw [q4.cell (i:=x) (by omega),e1]
      have HN:Hid (bsum l x+cn (l.take k) x=(pos l k:Int)):=e1.symm;obtain ⟨v1,v2,v3,v4,hv⟩:=four k;have HFS:=HF.out.step hl hr hlt hx.out hpos (by omega) hv;have HFT:Hid _:=HFS;clear HFS e1;have HNX:Hid ((wr:World)=wr):=rfl;obtain ⟨P,hP⟩:∃ P,P=pos l k:=⟨_,rfl⟩
      have l1:=q1.lt;have l2:=q2.lt;have l3:=q4.lt;have hPi:(P:Int)<n:=by omega
      have hx12':(x:Int)<12:=by omega
      have k1:=q2.cell (i:=P*4) (by omega);have k2:=q2.cell (i:=P*4+1) (by omega);have k3:=q2.cell (i:=P*4+2) (by omega);have k4:=q2.cell (i:=P*4+3) (by omega);have y1:=q2.frozen (P*4);have y2:=q2.frozen (P*4+1);have y4:=q2.frozen (P*4+2);have y5:=q2.frozen (P*4+3);have HCT:Hid (∀ w:World,Calls Tryz.prog 169 #[.int .i64 k] w fun x w'=>x= .returned (.agg #[.int .i64 v1, .bool v2, .int .i64 v3, .int .i64 v4])∧Below w.heap.size w w'):=fun w=>by rw [← hv];exact yhm k w
      clear hv;rw [← hP] at c2;have HP:Hid (P=pos l k):=hP;have hpm:p≠m:=by omega
      have hpm2:p≠m+1:=by omega
      have y3:=q4.frozen x;clear q1 q2 q4 q5 hP;go_wp2_with fail
      go_region_held3 (fun wv=>wv.cell? ⟨p,37,none⟩=some (.slice (some ⟨m,0,none⟩) n n)∧wv.cell? ⟨m+1,x,none⟩=some (.int .i64 P)) (first | exact ⟨c1,c2⟩ | exact ⟨d1,d2⟩ | exact ⟨(four_set_cell (q:=⟨p,37,none⟩) hpm).trans d1,(four_set_cell (q:=⟨m+1,x,none⟩) (by simp)).trans d2⟩)
       (first | (go_at_call 169;refine (HCT.out _).mono ?_;rintro e w7 ⟨rfl,hb7⟩;have d1:=(hb7.cell l1).trans c1;have d2:=(hb7.cell l3).trans c2;have d3:w7.cell? ⟨m,P*4,none⟩=some (f (P*4)):=(hb7.cell l2).trans k1;have d4:w7.cell? ⟨m,P*4+1,none⟩=some (f (P*4+1)):=(hb7.cell l2).trans k2;have e3:w7.cell? ⟨m,P*4+2,none⟩=some (f (P*4+2)):=(hb7.cell l2).trans k3;have e4:w7.cell? ⟨m,P*4+3,none⟩=some (f (P*4+3)):=(hb7.cell l2).trans k4;have d5:w7.frozen? ⟨m,P*4,none⟩=false:=(hb7.frozen l2).trans y1;have d6:w7.frozen? ⟨m,P*4+1,none⟩=false:=(hb7.frozen l2).trans y2;have e5:w7.frozen? ⟨m,P*4+2,none⟩=false:=(hb7.frozen l2).trans y4;have e6:w7.frozen? ⟨m,P*4+3,none⟩=false:=(hb7.frozen l2).trans y5;have d7:w7.frozen? ⟨m+1,x,none⟩=false:=(hb7.frozen l3).trans y3;have HB7:Hid (Below wr.heap.size wr w7):=⟨hb7.os,hb7.tape,hb7.output,hb7.size,hb7.block⟩;clear hb7))
      have T:=new_round (v1:= .int .i64 v1) (v2:= .bool v2) (v3:= .int .i64 v3) (v4:= .int .i64 v4) HQ.out.1 HQ.out.2.1 HQ.out.2.2.1 HQ.out.2.2.2 HB7.out hlt hx.out hpos (by omega) hpm hpm2 hpW hmW HN.out HP.out;have HT:Hid _:=T;clear T k1 k2 k3 k4 y1 y2 y3 y4 y5;go_wp2
      go_roundw
      case rel=>exact ⟨k+1,_,by omega,by go_num,HT.out.1,HT.out.2.1,by rw [HP.out];exact HFT.out,HT.out.2.2.1,HT.out.2.2.2⟩
      case measure=>simp [intOf];omega
     ·obtain rfl:x=0:=by omega
      have R:=zlc hlt hx.out q4;have e0:l.getD k 0=0:=by have:=hx.out;simp [hlt];simpa using this
      have HF2:Hid (Filled l f (k+1)):=HF.out.skip e0;go_wp2
      go_roundw
      case rel=>exact ⟨k+1,f,by omega,by go_num,q1,q2,HF2.out,R,q5⟩
      case measure=>simp [intOf];omega
    ·obtain rfl:k=l.length:=by omega
     go_wp2
     go_ret
     refine ⟨p,m,n,f,rfl,hn,⟨q1,fun j hj=>⟨rfl,?_⟩,q1.lt,q2.lt⟩,q3,hpW,hmW,q5⟩;intro t v hv;have ht:t=0∨t=1∨t=2∨t=3:=by have:=(List.getElem?_eq_some_iff.1 hv).1;simp at this;omega
     rcases ht with rfl | rfl | rfl | rfl
     ·rw [← Option.some.inj hv];exact q2.cell (i:=j*4) (by omega)
     ·rw [← Option.some.inj hv];exact q2.cell (i:=j*4+1) (by omega)
     ·rw [← Option.some.inj hv];exact q2.cell (i:=j*4+2) (by omega)
     ·rw [← Option.some.inj hv];exact q2.cell (i:=j*4+3) (by omega)
end HelperT
theorem xdo(x:Int)(l:List Int)(k:Nat):bsum (x :: l) k=bsum l k+(if 0<x∧x<k then 1 else 0):=by
 induction k with
 | zero=>simp [bsum];omega
 | succ k ih=>
  simp only [bsum];rw [ih,zah];by_cases h1:0<x∧x<k
  ·rw [if_pos h1,if_neg (by omega),if_pos (by omega)];omega
  ·rw [if_neg h1];by_cases h2:0<x∧x=k
   ·rw [if_pos h2,if_pos (by omega)];omega
   ·rw [if_neg h2,if_neg (by omega)];omega
theorem yz8(l:List Int)(k:Nat):bsum l k<=l.length:=by
 induction l with
 | nil=>
  have:∀ k,bsum [] k=0:=fun k=>by
   induction k with
   | zero=>rfl
   | succ k ih=>simp only [bsum];rw [ih,j3h];rfl
  rw [this];simp
 | cons x l ih=>
  rw [xdo];simp only [List.length_cons];split <;> omega
theorem v0q(l:List Int)(k:Nat):0<=fc (cn l) k∧fc (cn l) k<=2^k*bsum l k:=by
 induction k with
 | zero=>simp [fc,bsum]
 | succ k ih=>
  have h1:=v4o l k;have h2:(1:Int)<=2^k:=by have:=Int.pow_pos (n:=(2:Int)) (m:=k) (by decide);omega
  have h3:cn l k<=2^k*cn l k:=by
   have:=Int.mul_le_mul_of_nonneg_right h2 h1;omega
  simp only [fc,bsum];rw [Int.pow_succ,Int.mul_add,Int.mul_assoc,Int.mul_assoc];have e1:(2:Int)^k*(2*bsum l k)=2*(2^k*bsum l k):=by rw [← Int.mul_assoc,Int.mul_comm (2^k) 2,Int.mul_assoc]
  have e2:(2:Int)^k*(2*cn l k)=2*(2^k*cn l k):=by rw [← Int.mul_assoc,Int.mul_comm (2^k) 2,Int.mul_assoc]
  rw [e1,e2];omega
theorem k04{l:List Int}(hl:l.length<=269){k:Nat}(hk:k<12):0<=fc (cn l) k∧fc (cn l) k<=1000000:=by
 have h1:=v0q l k;have h2:=yz8 l k;refine ⟨h1.1,?_⟩;have h3:(2:Int)^k<=2^11:=by
  have:2^k<=2^11:=Nat.pow_le_pow_right (by decide) (by omega);exact_mod_cast this
 have h4:(0:Int)<=2^k:=Int.le_of_lt (Int.pow_pos (by decide));have h5:(2:Int)^k*bsum l k<=2^k*269:=Int.mul_le_mul_of_nonneg_left (by omega) h4;have h6:(2:Int)^11=2048:=by decide
 omega
theorem kc4{l:List Int}(hr:inRange l=true)(hl:l.length<=269){n:Nat}(hn:0<n)(h12:n<12){c:Nat}(h:0<=find (rset l) n (c:Int)) :
  (fc (cn l) n<=c∧(c:Int) - fc (cn l) n<cn l n)∧(find (rset l) n (c:Int)).toNat<l.length∧0<l.getD (find (rset l) n (c:Int)).toNat 0∧bgTo l 12 n+((c:Int) - fc (cn l) n)=(pos l (find (rset l) n (c:Int)).toNat:Int)∧(pos l (find (rset l) n (c:Int)).toNat:Int)<bsum l 12:=by
 have hc:fc (cn l) n<=c∧(c:Int)<fc (cn l) n+cn l n:=by
  apply Classical.byContradiction;intro hc;have:=zr0 (S:=rset l) hr hn (c:=(c:Int)) (by show (c:Int)<fc (cn l) n∨fc (cn l) n+cn l n<=c;omega);omega
 obtain ⟨i,hi,h2,h3,h4⟩:=k5a (S:=rset l) hr hn hc.1 hc.2;have hi':i<l.length:=hi;have h2':l[i]=(n:Int):=h2;have e:(find (rset l) n (c:Int)).toNat=i:=by rw [h4];simp
 rw [e];refine ⟨⟨hc.1,by omega⟩,hi',by simp [hi',h2'];omega,?_,vil hi' h2' hl hn h12⟩;rw [k44 hi' h2' hl h12];have h3':cn (l.take i) n=(c:Int) - fc (cn l) n:=h3;rw [h3'];unfold bgTo;rw [if_pos h12]
theorem xzd{l:List Int}(hr:inRange l=true){n:Nat}(hn:0<n){c:Nat}(h:¬ 0<=find (rset l) n (c:Int)):¬ (fc (cn l) n<=c∧(c:Int) - fc (cn l) n<cn l n):=fun hc=>by
 obtain ⟨i,hi,h2,h3,h4⟩:=k5a (S:=rset l) hr hn hc.1 (by show (c:Int)<fc (cn l) n+cn l n;omega);rw [h4] at h;omega
theorem zgh{w:World}{g T:Nat}{f:Nat->Value}(h:w.rowIs g T 4 f):w.heap[g]?=some (.cells #[f 0,f 1,f 2,f 3] T):=by
 obtain ⟨c,hc,hn,hv⟩:=h;rw [hc];have h0:=hv 0 (by omega);have h1:=hv 1 (by omega);have h2:=hv 2 (by omega);have h3:=hv 3 (by omega);have:c=#[f 0,f 1,f 2,f 3]:=by
  apply Array.ext
  ·simpa using hn
  ·intro i h4 h5;have:i=0∨i=1∨i=2∨i=3:=by simp at h5;omega
   rcases this with rfl | rfl | rfl | rfl
   ·rw [Array.getElem?_eq_getElem h4] at h0;simpa using h0
   ·rw [Array.getElem?_eq_getElem h4] at h1;simpa using h1
   ·rw [Array.getElem?_eq_getElem h4] at h2;simpa using h2
   ·rw [Array.getElem?_eq_getElem h4] at h3;simpa using h3
 rw [this]
theorem SpanT.four(k:Nat):∃ v1 v2:Int,y5c 1 k=#[.int .i64 v1, .int .i64 v2]:=⟨_,_,rfl⟩
theorem vh0(c b:Nat)(hc:c<1000000)(hb:b<2):bits .or .i64 ((c:Int)*2) (b:Int)=((2*c+b:Nat):Int):=by
 have h1:(2:Int)^62=4611686018427387904:=by decide
 have h2:(2:Int)^1=2:=by decide
 rw [bits_join .i64 62 (by decide) veq 1 ((c:Int)*2) (b:Int) (by omega) (by rw [h2];omega) (by omega) (by omega) (by rw [h2];omega) (by omega)];omega
theorem mAt{ρ:Nat->Nat}{w:World}{p:Nat}{x:MS}(k:Nat)(h:MM ρ w p x)(ok:Ok x)(hk:k<x.count)(hc:x.count<=63) :
  Calls Tryz.prog 171 #[.pointer (some ⟨p,14,none⟩), .int .i64 k] w fun v w'=>v= .returned (.int .i64 (x.held / 2^k%2:Nat))∧MM ρ w' p x∧Fr (fun k=>1<=k∧k<=5) ρ w w':=by
 refine (yci p 14 x.held x.count k w hk hc ok.held h.cell14).mono ?_;rintro v w' ⟨rfl,n,e⟩;rw [e];exact ⟨rfl,h.drewN n,(Fr.refl _ _ _).drewN n⟩
theorem zdb{ρ:Nat->Nat}{w:World}{t:Nat}{l:List Int}(h:TabS ρ w 271 2 (fun i=>(y5c 1 i).toList) t l)(c n:Nat)(hc:c<=1000000)(hn:0<n)(h12:n<12) :
  (0<=find (rset l) n (c:Int)->Calls Tryz.prog 177 #[.pointer (some ⟨t,0,none⟩), .int .i64 c, .int .i64 n] w fun x w'=>x= .returned (.tuple #[.agg (y5c 1 (find (rset l) n (c:Int)).toNat), .bool true])∧Below w.heap.size w w')∧
  (¬ 0<=find (rset l) n (c:Int)->Calls Tryz.prog 177 #[.pointer (some ⟨t,0,none⟩), .int .i64 c, .int .i64 n] w fun x w'=>x= .returned (.tuple #[.agg #[.int .i64 0, .int .i64 0], .bool false])∧Below w.heap.size w w'):=by
 obtain ⟨m,N,mg,I,h1,h2,h3⟩:=h.tab;refine ⟨fun hf=>?_,fun hf=>x82 c n I hc h12 (k04 h.len h12) (xzd h.rng hn hf)⟩;obtain ⟨g1,g2,g3,g4,g5⟩:=kc4 h.rng h.len hn h12 hf;obtain ⟨v1,v2,hv⟩:=SpanT.four (find (rset l) n (c:Int)).toNat;have hb:=yz8 l 12;have hlen:=h.len;have:=kkr c n I hc h12 (k04 h.len h12) g1 (pos l (find (rset l) n (c:Int)).toNat) g4 (by omega) (by omega) v1 v2 (by rw [h2 _ g2 g3,hv]);rw [hv];exact this
theorem zxb{ρ:Nat->Nat}{w:World}{t:Nat}{l:List Int}(h:TabS ρ w 268 4 (fun i=>(litC i).toList) t l)(c n:Nat)(hc:c<=1000000)(hn:0<n)(h12:n<12) :
  (0<=find (rset l) n (c:Int)->Calls Tryz.prog 175 #[.pointer (some ⟨t,0,none⟩), .int .i64 c, .int .i64 n] w fun x w'=>x= .returned (.tuple #[.agg (litC (find (rset l) n (c:Int)).toNat), .bool true])∧Below w.heap.size w w')∧
  (¬ 0<=find (rset l) n (c:Int)->Calls Tryz.prog 175 #[.pointer (some ⟨t,0,none⟩), .int .i64 c, .int .i64 n] w fun x w'=>x= .returned (.tuple #[.agg #[.int .i64 0, .int .u8 0, .int .i64 0, .int .i64 0], .bool false])∧Below w.heap.size w w'):=by
 obtain ⟨m,N,mg,I,h1,h2,h3⟩:=h.tab;refine ⟨fun hf=>?_,fun hf=>vrp c n I hc h12 (k04 h.len h12) (xzd h.rng hn hf)⟩;obtain ⟨g1,g2,g3,g4,g5⟩:=kc4 h.rng h.len hn h12 hf;obtain ⟨v1,v2,v3,v4,hv⟩:=LiteralT.four (find (rset l) n (c:Int)).toNat;have hb:=yz8 l 12;have hlen:=h.len;have:=j98 c n I hc h12 (k04 h.len h12) g1 (pos l (find (rset l) n (c:Int)).toNat) g4 (by omega) (by omega) v1 v2 v3 v4 (by rw [h2 _ g2 g3,hv]);rw [hv];exact this
theorem jr4{ρ:Nat->Nat}{w:World}{t:Nat}{l:List Int}(h:TabS ρ w 265 4 (fun i=>(v3q i).toList) t l)(c n:Nat)(hc:c<=1000000)(hn:0<n)(h12:n<12) :
  (0<=find (rset l) n (c:Int)->Calls Tryz.prog 172 #[.pointer (some ⟨t,0,none⟩), .int .i64 c, .int .i64 n] w fun x w'=>x= .returned (.tuple #[.agg (v3q (find (rset l) n (c:Int)).toNat), .bool true])∧Below w.heap.size w w')∧
  (¬ 0<=find (rset l) n (c:Int)->Calls Tryz.prog 172 #[.pointer (some ⟨t,0,none⟩), .int .i64 c, .int .i64 n] w fun x w'=>x= .returned (.tuple #[.agg #[.int .i64 0, .bool false, .int .i64 0, .int .i64 0], .bool false])∧Below w.heap.size w w'):=by
 obtain ⟨m,N,mg,I,h1,h2,h3⟩:=h.tab;refine ⟨fun hf=>?_,fun hf=>j90 c n I hc h12 (k04 h.len h12) (xzd h.rng hn hf)⟩;obtain ⟨g1,g2,g3,g4,g5⟩:=kc4 h.rng h.len hn h12 hf;obtain ⟨v1,v2,v3,v4,hv⟩:=HelperT.four (find (rset l) n (c:Int)).toNat;have hb:=yz8 l 12;have hlen:=h.len;have:=vsr c n I hc h12 (k04 h.len h12) g1 (pos l (find (rset l) n (c:Int)).toNat) g4 (by omega) (by omega) v1 v2 v3 v4 (by rw [h2 _ g2 g3,hv]);rw [hv];exact this
end Go.Proofs.YtbcjmakpempkiaaGreatDoor
