import Derived.Laws.OwnMore
import Derived.Test.YtbcjmakpempkiaaGreatDoorX04
set_option maxRecDepth 100000
set_option maxHeartbeats 8000000
set_option linter.all false
namespace Go.Proofs.YtbcjmakpempkiaaGreatDoor
open Go.RowKit
namespace LiteralT
theorem four(k:Nat):∃ (v1:Int) (v2:Int) (v3 v4:Int),litC k=#[.int .i64 v1, .int .u8 v2, .int .i64 v3, .int .i64 v4]:=by
 unfold litC;(repeat' split) <;> exact ⟨_,_,_,_,rfl⟩
def newW(wr:World)(p n:Nat)(l:List Int):World:=
 (((wr.setCell ⟨p,37,none⟩ (.slice (some ⟨wr.heap.size,0,none⟩) n n)).alloc (.cells (madeCells #[.int .i64 0, .int .u8 0, .int .i64 0, .int .i64 0] (n*4)) 218)).alloc (.cells (arr (fun _=>0)) 197)).setRow (wr.heap.size+1) (arr (bsum l))
def zero4(j:Nat):Value:=if j%4=1 then .int .u8 0 else .int .i64 0
theorem made4(w:World)(n:Nat)(t:TypeId):(w.alloc (.cells (madeCells #[.int .i64 0, .int .u8 0, .int .i64 0, .int .i64 0] (n*4)) t)).rowIs w.heap.size t (n*4) zero4:=by
 have:=World.rowIs_alloc w (madeCells #[.int .i64 0, .int .u8 0, .int .i64 0, .int .i64 0] (n*4)) t zero4 (fun i hi=>by
  have h2:i<n*4:=by simpa [size_madeCells] using hi
  have h3:i%4=0∨i%4=1∨i%4=2∨i%4=3:=by omega
  rcases h3 with h3 | h3 | h3 | h3 <;> simp [madeCells,zero4,h2,h3])
 rwa [size_madeCells] at this
theorem newW_at(wr:World)(p n:Nat):((((wr.setCell ⟨p,37,none⟩ (.slice (some ⟨wr.heap.size,0,none⟩) n n)).alloc (.cells (madeCells #[.int .i64 0, .int .u8 0, .int .i64 0, .int .i64 0] (n*4)) 218)).alloc (.cells (arr (fun _=>0)) 197)).heap[wr.heap.size+1]?)=some (.cells (arr (fun _=>0)) 197):=by
 have:=heap_alloc2_new (wr.setCell ⟨p,37,none⟩ (.slice (some ⟨wr.heap.size,0,none⟩) n n)) (.cells (madeCells #[.int .i64 0, .int .u8 0, .int .i64 0, .int .i64 0] (n*4)) 218) (.cells (arr (fun _=>0)) 197);simpa using this
theorem newW_facts{w wr:World}{p n:Nat}{l:List Int}{cnt fst:Nat->Int}{lg:Nat}(h:wr.rowIs p 268 38 (bfv cnt fst (bgTo l 12) lg (.slice none 0 0)))(hb:Below w.heap.size w wr)(hp:w.heap.size<=p) :
  (newW wr p n l).rowIs p 268 38 (bfv cnt fst (bgTo l 12) lg (.slice (some ⟨wr.heap.size,0,none⟩) n n))∧(newW wr p n l).rowIs wr.heap.size 218 (n*4) zero4∧
  (newW wr p n l).rowIs (wr.heap.size+1) 197 12 (fun j=> .int .i64 (bsum l j))∧Below w.heap.size w (newW wr p n l):=by
 have hl:=h.lt;have hz:(wr.setCell ⟨p,37,none⟩ (.slice (some ⟨wr.heap.size,0,none⟩) n n)).heap.size=wr.heap.size:=by simp
 have hs:=hb.size;refine ⟨?_,?_,?_,?_⟩
 ·exact (((jb3 _ h).alloc _).alloc _).of_block (setRow_other _ _ _ _ (by omega))
 ·have:=(made4 (wr.setCell ⟨p,37,none⟩ (.slice (some ⟨wr.heap.size,0,none⟩) n n)) n 218).alloc (.cells (arr (fun _=>0)) 197);rw [hz] at this;exact this.of_block (setRow_other _ _ _ _ (by omega))
 ·exact ⟨arr (bsum l),setRow_heap _ _ _ _ _ _ (newW_at wr p n),rfl,fun i hi=>zge _ _ hi⟩
 ·exact below_setRow (((hb.setCell (p:=⟨p,37,none⟩) hp _).alloc (by rw [hz];exact hs) _).alloc (by simp;omega) _) (by omega) _
def Filled(l:List Int)(f:Nat->Value)(k:Nat):Prop:=∀ i,i<k->0<l.getD i 0->#[f (pos l i*4),f (pos l i*4+1),f (pos l i*4+2),f (pos l i*4+3)]=litC i
theorem Filled.skip{l:List Int}{f:Nat->Value}{k:Nat}(h:Filled l f k)(e0:l.getD k 0=0):Filled l f (k+1):=fun i hi h0=>by
 by_cases e:i=k
 ·subst e;omega
 ·exact h i (by omega) h0
theorem Filled.step{l:List Int}{f:Nat->Value}{k x:Nat}{v1 v2 v3 v4:Value}(h:Filled l f k)(hl:l.length<=269)(hr:inRange l=true)(hk:k<l.length)(hx:l[k]=(x:Int))(h0:0<x)(h12:x<12)(hv:litC k=#[v1,v2,v3,v4]) :
  Filled l (fun j=>if j=pos l k*4+3 then v4 else if j=pos l k*4+2 then v3 else if j=pos l k*4+1 then v2 else if j=pos l k*4 then v1 else f j) (k+1):=fun i hi hp=>by
 by_cases e:i=k
 ·subst e;simp [hv]
 ·have hi':i<k:=by omega
  have hil:i<l.length:=by omega
  obtain ⟨y,hy,hy12⟩:∃ y:Nat,l[i]=(y:Int)∧y<12:=by
   have:=(vto l).1 hr l[i] (List.getElem_mem hil);exact ⟨l[i].toNat,by omega,by omega⟩
  have hg:l.getD i 0=(y:Int):=by simp [hil,hy]
  have ne:=z4t hi' hk hil hy hx hl (by omega) hy12 h0 h12;have hh:=h i hi' hp;rw [← hh];have q:∀ j,pos l i*4<=j->j<pos l i*4+4->(if j=pos l k*4+3 then v4 else if j=pos l k*4+2 then v3 else if j=pos l k*4+1 then v2 else if j=pos l k*4 then v1 else f j)=f j:=fun j h1 h2=>by
   rw [if_neg (by omega),if_neg (by omega),if_neg (by omega),if_neg (by omega)]
  have c4:∀ a b c d a' b' c' d':Value,a=a'->b=b'->c=c'->d=d'->#[a,b,c,d]=#[a',b',c',d']:=by intro a b c d a' b' c' d' h1 h2 h3 h4;rw [h1,h2,h3,h4]
  exact c4 _ _ _ _ _ _ _ _ (q _ (by omega) (by omega)) (q _ (by omega) (by omega)) (q _ (by omega) (by omega)) (q _ (by omega) (by omega))
theorem four_set_cell{w:World}{m i j k l:Nat}{v u x y:Value}{q:Addr}(h:q.block≠m):((((w.setCell ⟨m,i,none⟩ v).setCell ⟨m,j,none⟩ u).setCell ⟨m,k,none⟩ x).setCell ⟨m,l,none⟩ y).cell? q=w.cell? q:=
 (((World.cell?_setCell_far _ _ _ _ (Ne.symm h)).trans (World.cell?_setCell_far _ _ _ _ (Ne.symm h))).trans (World.cell?_setCell_far _ _ _ _ (Ne.symm h))).trans (World.cell?_setCell_far _ _ _ _ (Ne.symm h))
theorem new_round{w wr w7:World}{p m n k x P:Nat}{l:List Int}{F:Nat->Value}{f:Nat->Value}{v1 v2 v3 v4:Value}(q1:wr.rowIs p 268 38 F)(q2:wr.rowIs m 218 (n*4) f)(q4:wr.rowIs (m+1) 197 12 (fun j=> .int .i64 (bsum l j+cn (l.take k) j)))
  (q5:Below w.heap.size w wr) (hb:Below wr.heap.size wr w7) (hk:k<l.length) (hx:l[k]=(x:Int)) (h0:0<x) (_h12:x<12) (hpm:p≠m) (hpm2:p≠m+1) (_hp:w.heap.size<=p) (hm:w.heap.size<=m) (hN:bsum l x+cn (l.take k) x=(pos l k:Int)) (hP:P=pos l k) :
  (((((w7.setCell ⟨m,P*4,none⟩ v1).setCell ⟨m,P*4+1,none⟩ v2).setCell ⟨m,P*4+2,none⟩ v3).setCell ⟨m,P*4+3,none⟩ v4).setCell ⟨m+1,x,none⟩ (.int .i64 (P+1))).rowIs p 268 38 F∧
  (((((w7.setCell ⟨m,P*4,none⟩ v1).setCell ⟨m,P*4+1,none⟩ v2).setCell ⟨m,P*4+2,none⟩ v3).setCell ⟨m,P*4+3,none⟩ v4).setCell ⟨m+1,x,none⟩ (.int .i64 (P+1))).rowIs m 218 (n*4) (fun j=>if j=P*4+3 then v4 else if j=P*4+2 then v3 else if j=P*4+1 then v2 else if j=P*4 then v1 else f j)∧
  (((((w7.setCell ⟨m,P*4,none⟩ v1).setCell ⟨m,P*4+1,none⟩ v2).setCell ⟨m,P*4+2,none⟩ v3).setCell ⟨m,P*4+3,none⟩ v4).setCell ⟨m+1,x,none⟩ (.int .i64 (P+1))).rowIs (m+1) 197 12 (fun j=> .int .i64 (bsum l j+cn (l.take (k+1)) j))∧
  Below w.heap.size w (((((w7.setCell ⟨m,P*4,none⟩ v1).setCell ⟨m,P*4+1,none⟩ v2).setCell ⟨m,P*4+2,none⟩ v3).setCell ⟨m,P*4+3,none⟩ v4).setCell ⟨m+1,x,none⟩ (.int .i64 (P+1))):=by
 have e:(P:Int)+1=bsum l x+cn (l.take k) x+1:=by omega
 refine ⟨?_,?_,?_,?_⟩
 ·exact (((((j96 q1 hb q1.lt).setOther (a:=⟨m,P*4,none⟩) hpm _).setOther (a:=⟨m,P*4+1,none⟩) hpm _).setOther (a:=⟨m,P*4+2,none⟩) hpm _).setOther (a:=⟨m,P*4+3,none⟩) hpm _).setOther (a:=⟨m+1,x,none⟩) hpm2 _
 ·exact (((((j96 q2 hb q2.lt).set (P*4) _).set (P*4+1) _).set (P*4+2) _).set (P*4+3) _).setOther (a:=⟨m+1,x,none⟩) (by simp) _
 ·rw [e];exact jr9 hk hx h0 (((((j96 q4 hb q4.lt).setOther (a:=⟨m,P*4,none⟩) (by simp) _).setOther (a:=⟨m,P*4+1,none⟩) (by simp) _).setOther (a:=⟨m,P*4+2,none⟩) (by simp) _).setOther (a:=⟨m,P*4+3,none⟩) (by simp) _)
 ·exact (((((q5.trans (hb.mono q5.size)).setCell (p:=⟨m,P*4,none⟩) hm _).setCell (p:=⟨m,P*4+1,none⟩) hm _).setCell (p:=⟨m,P*4+2,none⟩) hm _).setCell (p:=⟨m,P*4+3,none⟩) hm _).setCell (p:=⟨m+1,x,none⟩) (by show w.heap.size<=m+1;omega) _
theorem info':(Tryz.prog.info? 218).map (fun i=>(i.zero,i.size,i.bytes))=some (some (.agg #[.int .i64 0, .int .u8 0, .int .i64 0, .int .i64 0]),4,32):=by kernel_rfl
theorem make(n:Nat)(hn:n<=12000000)(w:World):(Instr.makeSlice 266 (.int .i64 (n:Int)) (.int .i64 (n:Int))).run Tryz.prog w= .ok (.slice (some ⟨w.heap.size,0,none⟩) n n) (w.alloc (.cells (madeCells #[.int .i64 0, .int .u8 0, .int .i64 0, .int .i64 0] (n*4)) 218)):=by
 obtain ⟨i,hi,hz⟩:=Option.map_eq_some_iff.1 info';simp only [Prod.mk.injEq] at hz;have hr:=run_make (P:=Tryz.prog) w 266 218 i _ Tryz.underlying266 hi hz.1 .i64 .i64 n n (by omega) (Int.le_refl _) (by rw [hz.2.2];omega) (by omega);simp only [Int.toNat_natCast,hz.2.1] at hr;exact hr
theorem tab_build(f g:Nat->Int)(w:World):(Instr.build 268 #[(0, .agg (arr f)),(1, .agg (arr g))]).run Tryz.prog w= .ok (.agg (tab0 f g)) w:=by kernel_rfl
theorem tab_box(f g:Nat->Int)(w:World):(Instr.box 268 (.agg (tab0 f g))).run Tryz.prog w= .ok (.pointer (some ⟨w.heap.size,0,none⟩)) (w.alloc (.cells (tab0 f g) 268)):=by kernel_rfl
theorem newTable(ad:Option Addr)(cap:Nat)(l:List Int)(w:World)(hl16:l.length<=269)(hc:xin w ad l)(hr:inRange l=true) :
  Calls Tryz.prog 191 #[.slice ad l.length cap, .func (.func 192) #[] #[]] w fun e w'=>∃ (p m n:Nat) (f:Nat->Value),e= .returned (.pointer (some ⟨p,0,none⟩))∧bsum l 12=n∧
   TabI w' 268 4 p m n (cn l) (fc (cn l)) (bgTo l 12) (lgTo l 12) (fun j=>[f (j*4),f (j*4+1),f (j*4+2),f (j*4+3)])∧Filled l f l.length∧w.heap.size<=p∧w.heap.size<=m∧Below w.heap.size w w':=by
 have hl:l.length<=269:=by omega
 have HC:Hid (xin w ad l):=hc;have HB:Hid (∀ j,j<12->0<=cn l j∧cn l j<=1000000):=z7r hl;go_enter Tryz.func191,Tryz.ntmps191
 go_wp2_with fail
 refine (v5q ad cap l _ (by omega) hc hr).mono ?_;rintro e w1 ⟨rfl,hb1⟩;have HG1:Hid (Below w.heap.size w w1):=hb1;clear hb1 hc;go_wp2_with (first | (refine wpList_store_row rfl 199 _ _ rfl _ _ rfl rfl 199 _ (heap_alloc_new _ _) (zvc _) rfl (yui _) ?_;rw [World.setRow_alloc_new]))
 have hW:(w1.alloc (.cells (arr (cn l)) 199)).heap[w1.heap.size]?=some (.cells (arr (cn l)) 199):=heap_alloc_new _ _;have HW:Hid (Below w.heap.size w (w1.alloc (.cells (arr (cn l)) 199))):=HG1.out.alloc HG1.out.size _;have hWs:w1.heap.size<(w1.alloc (.cells (arr (cn l)) 199)).heap.size:=by simp
 generalize w1.alloc (.cells (arr (cn l)) 199)=W at *;have hbd:=tab_build (cn l) (fc (cn l));have hbx:=tab_box (cn l) (fc (cn l));unfold arr at hbd;generalize hg:w1.heap.size=g at *;clear hg;go_region_held3 (fun wv=>wv.cell? ⟨g,0,none⟩=some (.int .i64 (cn l 0))∧wv.cell? ⟨g,1,none⟩=some (.int .i64 (cn l 1))∧wv.cell? ⟨g,2,none⟩=some (.int .i64 (cn l 2))∧wv.cell? ⟨g,3,none⟩=some (.int .i64 (cn l 3))∧wv.cell? ⟨g,4,none⟩=some (.int .i64 (cn l 4))∧wv.cell? ⟨g,5,none⟩=some (.int .i64 (cn l 5))∧wv.cell? ⟨g,6,none⟩=some (.int .i64 (cn l 6))∧wv.cell? ⟨g,7,none⟩=some (.int .i64 (cn l 7))∧wv.cell? ⟨g,8,none⟩=some (.int .i64 (cn l 8))∧wv.cell? ⟨g,9,none⟩=some (.int .i64 (cn l 9))∧wv.cell? ⟨g,10,none⟩=some (.int .i64 (cn l 10))∧wv.cell? ⟨g,11,none⟩=some (.int .i64 (cn l 11))) (first | exact xwb (w:=W.drew) hW | exact xwb hh3 | exact xwb ((Go.heap_alloc_old _ _ hg3).trans hh3))
  (first | (go_at_call 151;refine (jgl (cn l) _ HB.out).mono ?_;rintro e w3 ⟨rfl,hb3⟩;have hh3:=(hb3.block _ hWs).trans hW;have hg3:g<w3.heap.size:=Nat.lt_of_lt_of_le hWs hb3.size;unfold arr))
 have HG4:Hid (Below w.heap.size w w3):=HW.out.drew.trans (hb3.mono HW.out.size);have HS3:Hid (w3.heap[g]?=some (.cells (arr (cn l)) 199)):=hh3;clear hb3 hh3 hW hbd hbx HW HG1;have hp3:(w3.alloc (.cells (tab0 (cn l) (fc (cn l))) 268)).rowIs w3.heap.size 268 38 (bfv (cn l) (fc (cn l)) (bgTo l 0) (lgTo l 0) (.slice none 0 0)):=jnz _ _ _;have h4g:(w3.alloc (.cells (tab0 (cn l) (fc (cn l))) 268)).heap[g]?=some (.cells (arr (cn l)) 199):=(Go.heap_alloc_old _ _ hg3).trans HS3.out;have HG5:Hid (Below w.heap.size w (w3.alloc (.cells (tab0 (cn l) (fc (cn l))) 268))):=HG4.out.alloc HG4.out.size _;have hpW:w.heap.size<=w3.heap.size:=HG4.out.size;have hi:=idx (cn l);unfold tab0 at *;generalize w3.alloc _=w4 at *;generalize w3.heap.size=p at *;go_wp2_with (refine wpList_load_row rfl 197 _ rfl _ rfl 199 (arr (cn l)) (0,0) _ h4g Tryz.underlying197 rfl (xz2 _) ?_)
 go_loopw [7,22] (fun t i wr=>∃ k:Nat,k<=12∧i= .int .i64 k∧t= .int .i64 (bsum l k)∧wr.rowIs p 268 38 (bfv (cn l) (fc (cn l)) (bgTo l k) (lgTo l k) (.slice none 0 0))∧Below w.heap.size w wr) (fun _ i _=>12 - (intOf i).toNat)
 case atStart=>exact ⟨0,Nat.zero_le _,rfl,rfl,hp3,HG5.out⟩
 case round=>
  obtain ⟨k,hk,rfl,rfl,hrow,hbel⟩:=hrel;by_cases hlt:k<12
  ·have hik:=hi k hlt;have ⟨b1,b2⟩:=ysr hl k hk;have ⟨b3,b4⟩:=HB.out k hlt;have g1:=hrow.cell (i:=24+k) (by omega);have g2:=hrow.frozen (24+k);have g3:=hrow.cell (i:=36) (by omega);have g4:=hrow.frozen 36;have R:=jnr k (bsum l k) hlt hrow;rw [xp6] at R;have R1:=hbel.setCell (p:=⟨p,24+k,none⟩) hpW (.int .i64 (bsum l k));by_cases hpos:0<cn l k
   ·have R2:=zta k R;have e2:lgTo l (k+1)=k:=if_pos hpos;go_wp2
    go_roundw
    case rel=>exact ⟨k+1,by omega,by go_num,rfl,by rw [e2];exact R2,R1.setCell (p:=⟨p,36,none⟩) hpW _⟩
    case measure=>simp [intOf];omega
   ·have e2:lgTo l k=lgTo l (k+1):=(if_neg hpos).symm;rw [e2] at R;go_wp2
    go_roundw
    case rel=>exact ⟨k+1,by omega,by go_num,rfl,R,R1⟩
    case measure=>simp [intOf];omega
  ·obtain rfl:k=12:=by omega
   have HR:Hid (wr.rowIs p 268 38 (bfv (cn l) (fc (cn l)) (bgTo l 12) (lgTo l 12) (.slice none 0 0))∧Below w.heap.size w wr):=⟨hrow,hbel⟩
   obtain ⟨n,hn⟩:∃ n:Nat,bsum l 12=n:=⟨(bsum l 12).toNat,by have:=(ysr hl 12 (by omega)).1;omega⟩
   have hn2:n<=12000000:=by have:=(ysr hl 12 (by omega)).2;omega
   rw [hn];have g1:=hrow.cell (i:=37) (by omega);have g2:=hrow.frozen 37;have hmk:=make n hn2;clear hi;have r5:((wr.setCell ⟨p,37,none⟩ (.slice (some ⟨wr.heap.size,0,none⟩) n n)).alloc (.cells (madeCells #[.int .i64 0, .int .u8 0, .int .i64 0, .int .i64 0] (n*4)) 218)).rowIs p 268 38 (bfv (cn l) (fc (cn l)) (bgTo l 12) (lgTo l 12) (.slice (some ⟨wr.heap.size,0,none⟩) n n)):=(jb3 _ hrow).alloc _;have m5:=xfg r5;have hpl:=hrow.lt;have h6:=newW_at wr p n;have NF:=newW_facts (n:=n) hrow hbel hpW;unfold newW at NF;rw [show arr (fun _=>0)=#[.int .i64 0, .int .i64 0, .int .i64 0, .int .i64 0, .int .i64 0, .int .i64 0, .int .i64 0, .int .i64 0, .int .i64 0, .int .i64 0, .int .i64 0, .int .i64 0] from rfl] at NF;have HNF:Hid _:=NF;clear NF;go_wp2_with (first | (refine wpList_load_mid rfl 197 _ rfl p 24 rfl (arr (bsum l)).toList _ m5 Tryz.underlying197 rfl (xz2 (bsum l)) ?_;rw [Array.toArray_toList]) | (refine wpList_store_row rfl 197 _ _ rfl (wr.heap.size+1) (arr (bsum l)) rfl rfl 197 _ h6 (xz2 _) rfl (yui _) ?_))
   have hmW:w.heap.size<=wr.heap.size:=hbel.size;clear h6 m5 r5 g1 g2 hmk hrow h4g hbel HR;generalize (((wr.setCell ⟨p,37,none⟩ (.slice (some ⟨wr.heap.size,0,none⟩) n n)).alloc (.cells (madeCells #[.int .i64 0, .int .u8 0, .int .i64 0, .int .i64 0] (n*4)) 218)).alloc (.cells #[.int .i64 0, .int .i64 0, .int .i64 0, .int .i64 0, .int .i64 0, .int .i64 0, .int .i64 0, .int .i64 0, .int .i64 0, .int .i64 0, .int .i64 0, .int .i64 0] 197)).setRow (wr.heap.size+1) (arr (bsum l))=w6 at *;generalize wr.heap.size=m at *;go_loopw [53] (fun i wx=>∃ (k:Nat) (f:Nat->Value),k<=l.length∧i= .int .i64 k∧wx.rowIs p 268 38 (bfv (cn l) (fc (cn l)) (bgTo l 12) (lgTo l 12) (.slice (some ⟨m,0,none⟩) n n))∧wx.rowIs m 218 (n*4) f∧Filled l f k∧wx.rowIs (m+1) 197 12 (fun j=> .int .i64 (bsum l j+cn (l.take k) j))∧Below w.heap.size w wx) (fun i _=>l.length - (intOf i).toNat)
   case atStart=>exact ⟨0,zero4,Nat.zero_le _,rfl,HNF.out.1,HNF.out.2.1,fun i hi=>absurd hi (by omega),HNF.out.2.2.1.congr fun i _=>by simp [j3h],HNF.out.2.2.2⟩
   case round=>
    obtain ⟨k,f,hk,rfl,q1,q2,q3,q4,q5⟩:=hrel;by_cases hlt:k<l.length
    ·obtain ⟨b,o,x,rfl,g,hx12,hx⟩:=(HC.out.below q5 (Nat.le_refl _)).atNat hr hlt;have HQ:Hid (wr.rowIs p 268 38 (bfv (cn l) (fc (cn l)) (bgTo l 12) (lgTo l 12) (.slice (some ⟨m,0,none⟩) n n))∧wr.rowIs m 218 (n*4) f∧wr.rowIs (m+1) 197 12 (fun j=> .int .i64 (bsum l j+cn (l.take k) j))∧Below w.heap.size w wr):=⟨q1,q2,q4,q5⟩
     have HF:Hid (Filled l f k):=q3;clear q3;by_cases hpos:0<x
     ·have e1:=k44 hlt hx.out hl (by omega);have e2:=vil hlt hx.out hl hpos (by omega);rw [hn] at e2;have hpn:pos l k<n:=by omega
      have c1:wr.cell? ⟨p,37,none⟩=some (.slice (some ⟨m,0,none⟩) n n):=q1.cell (i:=37) (by omega);have c2:wr.cell? ⟨m+1,x,none⟩=some (.int .i64 (pos l k)):=by rw [q4.cell (i:=x) (by omega),e1]
      have HN:Hid (bsum l x+cn (l.take k) x=(pos l k:Int)):=e1.symm;obtain ⟨v1,v2,v3,v4,hv⟩:=four k;have HFS:=HF.out.step hl hr hlt hx.out hpos (by omega) hv;have HFT:Hid _:=HFS;clear HFS e1;have HNX:Hid ((wr:World)=wr):=rfl;obtain ⟨P,hP⟩:∃ P,P=pos l k:=⟨_,rfl⟩
      have l1:=q1.lt;have l2:=q2.lt;have l3:=q4.lt;have hPi:(P:Int)<n:=by omega
      have hx12':(x:Int)<12:=by omega
      have k1:=q2.cell (i:=P*4) (by omega);have k2:=q2.cell (i:=P*4+1) (by omega);have k3:=q2.cell (i:=P*4+2) (by omega);have k4:=q2.cell (i:=P*4+3) (by omega);have y1:=q2.frozen (P*4);have y2:=q2.frozen (P*4+1);have y4:=q2.frozen (P*4+2);have y5:=q2.frozen (P*4+3);have HCT:Hid (∀ w:World,Calls Tryz.prog 192 #[.int .i64 k] w fun x w'=>x= .returned (.agg #[.int .i64 v1, .int .u8 v2, .int .i64 v3, .int .i64 v4])∧Below w.heap.size w w'):=fun w=>by rw [← hv];exact k82 k w (by omega)
      clear hv;rw [← hP] at c2;have HP:Hid (P=pos l k):=hP;have hpm:p≠m:=by omega
      have hpm2:p≠m+1:=by omega
      have y3:=q4.frozen x;clear q1 q2 q4 q5 hP;go_wp2_with fail
      go_region_held3 (fun wv=>wv.cell? ⟨p,37,none⟩=some (.slice (some ⟨m,0,none⟩) n n)∧wv.cell? ⟨m+1,x,none⟩=some (.int .i64 P)) (first | exact ⟨c1,c2⟩ | exact ⟨d1,d2⟩ | exact ⟨(four_set_cell (q:=⟨p,37,none⟩) hpm).trans d1,(four_set_cell (q:=⟨m+1,x,none⟩) (by simp)).trans d2⟩)
       (first | (go_at_call 192;refine (HCT.out _).mono ?_;rintro e w7 ⟨rfl,hb7⟩;have d1:=(hb7.cell l1).trans c1;have d2:=(hb7.cell l3).trans c2;have d3:w7.cell? ⟨m,P*4,none⟩=some (f (P*4)):=(hb7.cell l2).trans k1;have d4:w7.cell? ⟨m,P*4+1,none⟩=some (f (P*4+1)):=(hb7.cell l2).trans k2;have e3:w7.cell? ⟨m,P*4+2,none⟩=some (f (P*4+2)):=(hb7.cell l2).trans k3;have e4:w7.cell? ⟨m,P*4+3,none⟩=some (f (P*4+3)):=(hb7.cell l2).trans k4;have d5:w7.frozen? ⟨m,P*4,none⟩=false:=(hb7.frozen l2).trans y1;have d6:w7.frozen? ⟨m,P*4+1,none⟩=false:=(hb7.frozen l2).trans y2;have e5:w7.frozen? ⟨m,P*4+2,none⟩=false:=(hb7.frozen l2).trans y4;have e6:w7.frozen? ⟨m,P*4+3,none⟩=false:=(hb7.frozen l2).trans y5;have d7:w7.frozen? ⟨m+1,x,none⟩=false:=(hb7.frozen l3).trans y3;have HB7:Hid (Below wr.heap.size wr w7):=⟨hb7.os,hb7.tape,hb7.output,hb7.size,hb7.block⟩;clear hb7))
      have T:=new_round (v1:= .int .i64 v1) (v2:= .int .u8 v2) (v3:= .int .i64 v3) (v4:= .int .i64 v4) HQ.out.1 HQ.out.2.1 HQ.out.2.2.1 HQ.out.2.2.2 HB7.out hlt hx.out hpos (by omega) hpm hpm2 hpW hmW HN.out HP.out;have HT:Hid _:=T;clear T k1 k2 k3 k4 y1 y2 y3 y4 y5;go_wp2
      go_roundw
      case rel=>exact ⟨k+1,_,by omega,by go_num,HT.out.1,HT.out.2.1,by rw [HP.out];exact HFT.out,HT.out.2.2.1,HT.out.2.2.2⟩
      case measure=>simp [intOf];omega
     ·obtain rfl:x=0:=by omega
      have R:=zlc hlt hx.out q4;have e0:l.getD k 0=0:=by have:=hx.out;simp [hlt];simpa using this
      have HF2:Hid (Filled l f (k+1)):=HF.out.skip e0;go_wp2
      go_roundw
      case rel=>exact ⟨k+1,f,by omega,by go_num,q1,q2,HF2.out,R,q5⟩
      case measure=>simp [intOf];omega
    ·obtain rfl:k=l.length:=by omega
     go_wp2
     go_ret
     refine ⟨p,m,n,f,rfl,hn,⟨q1,fun j hj=>⟨rfl,?_⟩,q1.lt,q2.lt⟩,q3,hpW,hmW,q5⟩;intro t v hv;have ht:t=0∨t=1∨t=2∨t=3:=by have:=(List.getElem?_eq_some_iff.1 hv).1;simp at this;omega
     rcases ht with rfl | rfl | rfl | rfl
     ·rw [← Option.some.inj hv];exact q2.cell (i:=j*4) (by omega)
     ·rw [← Option.some.inj hv];exact q2.cell (i:=j*4+1) (by omega)
     ·rw [← Option.some.inj hv];exact q2.cell (i:=j*4+2) (by omega)
     ·rw [← Option.some.inj hv];exact q2.cell (i:=j*4+3) (by omega)
end LiteralT
namespace HelperT
theorem four(k:Nat):∃ (v1:Int) (v2:Bool) (v3 v4:Int),v3q k=#[.int .i64 v1, .bool v2, .int .i64 v3, .int .i64 v4]:=by
 unfold v3q;(repeat' split) <;> exact ⟨_,_,_,_,rfl⟩
def newW(wr:World)(p n:Nat)(l:List Int):World:=
 (((wr.setCell ⟨p,37,none⟩ (.slice (some ⟨wr.heap.size,0,none⟩) n n)).alloc (.cells (madeCells #[.int .i64 0, .bool false, .int .i64 0, .int .i64 0] (n*4)) 127)).alloc (.cells (arr (fun _=>0)) 197)).setRow (wr.heap.size+1) (arr (bsum l))
def zero4(j:Nat):Value:=if j%4=1 then .bool false else .int .i64 0
theorem made4(w:World)(n:Nat)(t:TypeId):(w.alloc (.cells (madeCells #[.int .i64 0, .bool false, .int .i64 0, .int .i64 0] (n*4)) t)).rowIs w.heap.size t (n*4) zero4:=by
 have:=World.rowIs_alloc w (madeCells #[.int .i64 0, .bool false, .int .i64 0, .int .i64 0] (n*4)) t zero4 (fun i hi=>by
  have h2:i<n*4:=by simpa [size_madeCells] using hi
  have h3:i%4=0∨i%4=1∨i%4=2∨i%4=3:=by omega
  rcases h3 with h3 | h3 | h3 | h3 <;> simp [madeCells,zero4,h2,h3])
 rwa [size_madeCells] at this
theorem newW_at(wr:World)(p n:Nat):((((wr.setCell ⟨p,37,none⟩ (.slice (some ⟨wr.heap.size,0,none⟩) n n)).alloc (.cells (madeCells #[.int .i64 0, .bool false, .int .i64 0, .int .i64 0] (n*4)) 127)).alloc (.cells (arr (fun _=>0)) 197)).heap[wr.heap.size+1]?)=some (.cells (arr (fun _=>0)) 197):=by
 have:=heap_alloc2_new (wr.setCell ⟨p,37,none⟩ (.slice (some ⟨wr.heap.size,0,none⟩) n n)) (.cells (madeCells #[.int .i64 0, .bool false, .int .i64 0, .int .i64 0] (n*4)) 127) (.cells (arr (fun _=>0)) 197);simpa using this
theorem newW_facts{w wr:World}{p n:Nat}{l:List Int}{cnt fst:Nat->Int}{lg:Nat}(h:wr.rowIs p 265 38 (bfv cnt fst (bgTo l 12) lg (.slice none 0 0)))(hb:Below w.heap.size w wr)(hp:w.heap.size<=p) :
  (newW wr p n l).rowIs p 265 38 (bfv cnt fst (bgTo l 12) lg (.slice (some ⟨wr.heap.size,0,none⟩) n n))∧(newW wr p n l).rowIs wr.heap.size 127 (n*4) zero4∧
  (newW wr p n l).rowIs (wr.heap.size+1) 197 12 (fun j=> .int .i64 (bsum l j))∧Below w.heap.size w (newW wr p n l):=by
 have hl:=h.lt;have hz:(wr.setCell ⟨p,37,none⟩ (.slice (some ⟨wr.heap.size,0,none⟩) n n)).heap.size=wr.heap.size:=by simp
 have hs:=hb.size;refine ⟨?_,?_,?_,?_⟩
 ·exact (((jb3 _ h).alloc _).alloc _).of_block (setRow_other _ _ _ _ (by omega))
 ·have:=(made4 (wr.setCell ⟨p,37,none⟩ (.slice (some ⟨wr.heap.size,0,none⟩) n n)) n 127).alloc (.cells (arr (fun _=>0)) 197);rw [hz] at this;exact this.of_block (setRow_other _ _ _ _ (by omega))
 ·exact ⟨arr (bsum l),setRow_heap _ _ _ _ _ _ (newW_at wr p n),rfl,fun i hi=>zge _ _ hi⟩
 ·exact below_setRow (((hb.setCell (p:=⟨p,37,none⟩) hp _).alloc (by rw [hz];exact hs) _).alloc (by simp;omega) _) (by omega) _
def Filled(l:List Int)(f:Nat->Value)(k:Nat):Prop:=∀ i,i<k->0<l.getD i 0->#[f (pos l i*4),f (pos l i*4+1),f (pos l i*4+2),f (pos l i*4+3)]=v3q i
theorem Filled.skip{l:List Int}{f:Nat->Value}{k:Nat}(h:Filled l f k)(e0:l.getD k 0=0):Filled l f (k+1):=fun i hi h0=>by
 by_cases e:i=k
 ·subst e;omega
 ·exact h i (by omega) h0
theorem Filled.step{l:List Int}{f:Nat->Value}{k x:Nat}{v1 v2 v3 v4:Value}(h:Filled l f k)(hl:l.length<=269)(hr:inRange l=true)(hk:k<l.length)(hx:l[k]=(x:Int))(h0:0<x)(h12:x<12)(hv:v3q k=#[v1,v2,v3,v4]) :
  Filled l (fun j=>if j=pos l k*4+3 then v4 else if j=pos l k*4+2 then v3 else if j=pos l k*4+1 then v2 else if j=pos l k*4 then v1 else f j) (k+1):=fun i hi hp=>by
 by_cases e:i=k
 ·subst e;simp [hv]
 ·have hi':i<k:=by omega
  have hil:i<l.length:=by omega
  obtain ⟨y,hy,hy12⟩:∃ y:Nat,l[i]=(y:Int)∧y<12:=by
   have:=(vto l).1 hr l[i] (List.getElem_mem hil);exact ⟨l[i].toNat,by omega,by omega⟩
  have hg:l.getD i 0=(y:Int):=by simp [hil,hy]
  have ne:=z4t hi' hk hil hy hx hl (by omega) hy12 h0 h12;have hh:=h i hi' hp;rw [← hh];have q:∀ j,pos l i*4<=j->j<pos l i*4+4->(if j=pos l k*4+3 then v4 else if j=pos l k*4+2 then v3 else if j=pos l k*4+1 then v2 else if j=pos l k*4 then v1 else f j)=f j:=fun j h1 h2=>by
   rw [if_neg (by omega),if_neg (by omega),if_neg (by omega),if_neg (by omega)]
  have c4:∀ a b c d a' b' c' d':Value,a=a'->b=b'->c=c'->d=d'->#[a,b,c,d]=#[a',b',c',d']:=by intro a b c d a' b' c' d' h1 h2 h3 h4;rw [h1,h2,h3,h4]
  exact c4 _ _ _ _ _ _ _ _ (q _ (by omega) (by omega)) (q _ (by omega) (by omega)) (q _ (by omega) (by omega)) (q _ (by omega) (by omega))
theorem four_set_cell{w:World}{m i j k l:Nat}{v u x y:Value}{q:Addr}(h:q.block≠m):((((w.setCell ⟨m,i,none⟩ v).setCell ⟨m,j,none⟩ u).setCell ⟨m,k,none⟩ x).setCell ⟨m,l,none⟩ y).cell? q=w.cell? q:=
 (((World.cell?_setCell_far _ _ _ _ (Ne.symm h)).trans (World.cell?_setCell_far _ _ _ _ (Ne.symm h))).trans (World.cell?_setCell_far _ _ _ _ (Ne.symm h))).trans (World.cell?_setCell_far _ _ _ _ (Ne.symm h))
theorem new_round{w wr w7:World}{p m n k x P:Nat}{l:List Int}{F:Nat->Value}{f:Nat->Value}{v1 v2 v3 v4:Value}(q1:wr.rowIs p 265 38 F)(q2:wr.rowIs m 127 (n*4) f)(q4:wr.rowIs (m+1) 197 12 (fun j=> .int .i64 (bsum l j+cn (l.take k) j)))
  (q5:Below w.heap.size w wr) (hb:Below wr.heap.size wr w7) (hk:k<l.length) (hx:l[k]=(x:Int)) (h0:0<x) (_h12:x<12) (hpm:p≠m) (hpm2:p≠m+1) (_hp:w.heap.size<=p) (hm:w.heap.size<=m) (hN:bsum l x+cn (l.take k) x=(pos l k:Int)) (hP:P=pos l k) :
  (((((w7.setCell ⟨m,P*4,none⟩ v1).setCell ⟨m,P*4+1,none⟩ v2).setCell ⟨m,P*4+2,none⟩ v3).setCell ⟨m,P*4+3,none⟩ v4).setCell ⟨m+1,x,none⟩ (.int .i64 (P+1))).rowIs p 265 38 F∧
  (((((w7.setCell ⟨m,P*4,none⟩ v1).setCell ⟨m,P*4+1,none⟩ v2).setCell ⟨m,P*4+2,none⟩ v3).setCell ⟨m,P*4+3,none⟩ v4).setCell ⟨m+1,x,none⟩ (.int .i64 (P+1))).rowIs m 127 (n*4) (fun j=>if j=P*4+3 then v4 else if j=P*4+2 then v3 else if j=P*4+1 then v2 else if j=P*4 then v1 else f j)∧
  (((((w7.setCell ⟨m,P*4,none⟩ v1).setCell ⟨m,P*4+1,none⟩ v2).setCell ⟨m,P*4+2,none⟩ v3).setCell ⟨m,P*4+3,none⟩ v4).setCell ⟨m+1,x,none⟩ (.int .i64 (P+1))).rowIs (m+1) 197 12 (fun j=> .int .i64 (bsum l j+cn (l.take (k+1)) j))∧
  Below w.heap.size w (((((w7.setCell ⟨m,P*4,none⟩ v1).setCell ⟨m,P*4+1,none⟩ v2).setCell ⟨m,P*4+2,none⟩ v3).setCell ⟨m,P*4+3,none⟩ v4).setCell ⟨m+1,x,none⟩ (.int .i64 (P+1))):=by
 have e:(P:Int)+1=bsum l x+cn (l.take k) x+1:=by omega
 refine ⟨?_,?_,?_,?_⟩
 ·exact (((((j96 q1 hb q1.lt).setOther (a:=⟨m,P*4,none⟩) hpm _).setOther (a:=⟨m,P*4+1,none⟩) hpm _).setOther (a:=⟨m,P*4+2,none⟩) hpm _).setOther (a:=⟨m,P*4+3,none⟩) hpm _).setOther (a:=⟨m+1,x,none⟩) hpm2 _
 ·exact (((((j96 q2 hb q2.lt).set (P*4) _).set (P*4+1) _).set (P*4+2) _).set (P*4+3) _).setOther (a:=⟨m+1,x,none⟩) (by simp) _
 ·rw [e];exact jr9 hk hx h0 (((((j96 q4 hb q4.lt).setOther (a:=⟨m,P*4,none⟩) (by simp) _).setOther (a:=⟨m,P*4+1,none⟩) (by simp) _).setOther (a:=⟨m,P*4+2,none⟩) (by simp) _).setOther (a:=⟨m,P*4+3,none⟩) (by simp) _)
 ·exact (((((q5.trans (hb.mono q5.size)).setCell (p:=⟨m,P*4,none⟩) hm _).setCell (p:=⟨m,P*4+1,none⟩) hm _).setCell (p:=⟨m,P*4+2,none⟩) hm _).setCell (p:=⟨m,P*4+3,none⟩) hm _).setCell (p:=⟨m+1,x,none⟩) (by show w.heap.size<=m+1;omega) _
theorem info':(Tryz.prog.info? 127).map (fun i=>(i.zero,i.size,i.bytes))=some (some (.agg #[.int .i64 0, .bool false, .int .i64 0, .int .i64 0]),4,32):=by kernel_rfl
theorem make(n:Nat)(hn:n<=12000000)(w:World):(Instr.makeSlice 263 (.int .i64 (n:Int)) (.int .i64 (n:Int))).run Tryz.prog w= .ok (.slice (some ⟨w.heap.size,0,none⟩) n n) (w.alloc (.cells (madeCells #[.int .i64 0, .bool false, .int .i64 0, .int .i64 0] (n*4)) 127)):=by
 obtain ⟨i,hi,hz⟩:=Option.map_eq_some_iff.1 info';simp only [Prod.mk.injEq] at hz;have hr:=run_make (P:=Tryz.prog) w 263 127 i _ Tryz.underlying263 hi hz.1 .i64 .i64 n n (by omega) (Int.le_refl _) (by rw [hz.2.2];omega) (by omega);simp only [Int.toNat_natCast,hz.2.1] at hr;exact hr
theorem tab_build(f g:Nat->Int)(w:World):(Instr.build 265 #[(0, .agg (arr f)),(1, .agg (arr g))]).run Tryz.prog w= .ok (.agg (tab0 f g)) w:=by kernel_rfl
theorem tab_box(f g:Nat->Int)(w:World):(Instr.box 265 (.agg (tab0 f g))).run Tryz.prog w= .ok (.pointer (some ⟨w.heap.size,0,none⟩)) (w.alloc (.cells (tab0 f g) 265)):=by kernel_rfl
theorem newTable(ad:Option Addr)(cap:Nat)(l:List Int)(w:World)(hl16:l.length<=269)(hc:xin w ad l)(hr:inRange l=true) :
  Calls Tryz.prog 168 #[.slice ad l.length cap, .func (.func 169) #[] #[]] w fun e w'=>∃ (p m n:Nat) (f:Nat->Value),e= .returned (.pointer (some ⟨p,0,none⟩))∧bsum l 12=n∧
   TabI w' 265 4 p m n (cn l) (fc (cn l)) (bgTo l 12) (lgTo l 12) (fun j=>[f (j*4),f (j*4+1),f (j*4+2),f (j*4+3)])∧Filled l f l.length∧w.heap.size<=p∧w.heap.size<=m∧Below w.heap.size w w':=by
 have hl:l.length<=269:=by omega
 have HC:Hid (xin w ad l):=hc;have HB:Hid (∀ j,j<12->0<=cn l j∧cn l j<=1000000):=z7r hl;go_enter Tryz.func168,Tryz.ntmps168
 go_wp2_with fail
 refine (v5q ad cap l _ (by omega) hc hr).mono ?_;rintro e w1 ⟨rfl,hb1⟩;have HG1:Hid (Below w.heap.size w w1):=hb1;clear hb1 hc;go_wp2_with (first | (refine wpList_store_row rfl 199 _ _ rfl _ _ rfl rfl 199 _ (heap_alloc_new _ _) (zvc _) rfl (yui _) ?_;rw [World.setRow_alloc_new]))
 have hW:(w1.alloc (.cells (arr (cn l)) 199)).heap[w1.heap.size]?=some (.cells (arr (cn l)) 199):=heap_alloc_new _ _;have HW:Hid (Below w.heap.size w (w1.alloc (.cells (arr (cn l)) 199))):=HG1.out.alloc HG1.out.size _;have hWs:w1.heap.size<(w1.alloc (.cells (arr (cn l)) 199)).heap.size:=by simp
 generalize w1.alloc (.cells (arr (cn l)) 199)=W at *;have hbd:=tab_build (cn l) (fc (cn l));have hbx:=tab_box (cn l) (fc (cn l));unfold arr at hbd;generalize hg:w1.heap.size=g at *;clear hg;go_region_held3 (fun wv=>wv.cell? ⟨g,0,none⟩=some (.int .i64 (cn l 0))∧wv.cell? ⟨g,1,none⟩=some (.int .i64 (cn l 1))∧wv.cell? ⟨g,2,none⟩=some (.int .i64 (cn l 2))∧wv.cell? ⟨g,3,none⟩=some (.int .i64 (cn l 3))∧wv.cell? ⟨g,4,none⟩=some (.int .i64 (cn l 4))∧wv.cell? ⟨g,5,none⟩=some (.int .i64 (cn l 5))∧wv.cell? ⟨g,6,none⟩=some (.int .i64 (cn l 6))∧wv.cell? ⟨g,7,none⟩=some (.int .i64 (cn l 7))∧wv.cell? ⟨g,8,none⟩=some (.int .i64 (cn l 8))∧wv.cell? ⟨g,9,none⟩=some (.int .i64 (cn l 9))∧wv.cell? ⟨g,10,none⟩=some (.int .i64 (cn l 10))∧wv.cell? ⟨g,11,none⟩=some (.int .i64 (cn l 11))) (first | exact xwb (w:=W.drew) hW | exact xwb hh3 | exact xwb ((Go.heap_alloc_old _ _ hg3).trans hh3))
  (first | (go_at_call 151;refine (jgl (cn l) _ HB.out).mono ?_;rintro e w3 ⟨rfl,hb3⟩;have hh3:=(hb3.block _ hWs).trans hW;have hg3:g<w3.heap.size:=Nat.lt_of_lt_of_le hWs hb3.size;unfold arr))
 have HG4:Hid (Below w.heap.size w w3):=HW.out.drew.trans (hb3.mono HW.out.size);have HS3:Hid (w3.heap[g]?=some (.cells (arr (cn l)) 199)):=hh3;clear hb3 hh3 hW hbd hbx HW HG1;have hp3:(w3.alloc (.cells (tab0 (cn l) (fc (cn l))) 265)).rowIs w3.heap.size 265 38 (bfv (cn l) (fc (cn l)) (bgTo l 0) (lgTo l 0) (.slice none 0 0)):=jnz _ _ _;have h4g:(w3.alloc (.cells (tab0 (cn l) (fc (cn l))) 265)).heap[g]?=some (.cells (arr (cn l)) 199):=(Go.heap_alloc_old _ _ hg3).trans HS3.out;have HG5:Hid (Below w.heap.size w (w3.alloc (.cells (tab0 (cn l) (fc (cn l))) 265))):=HG4.out.alloc HG4.out.size _;have hpW:w.heap.size<=w3.heap.size:=HG4.out.size;have hi:=idx (cn l);unfold tab0 at *;generalize w3.alloc _=w4 at *;generalize w3.heap.size=p at *;go_wp2_with (refine wpList_load_row rfl 197 _ rfl _ rfl 199 (arr (cn l)) (0,0) _ h4g Tryz.underlying197 rfl (xz2 _) ?_)
 go_loopw [7,22] (fun t i wr=>∃ k:Nat,k<=12∧i= .int .i64 k∧t= .int .i64 (bsum l k)∧wr.rowIs p 265 38 (bfv (cn l) (fc (cn l)) (bgTo l k) (lgTo l k) (.slice none 0 0))∧Below w.heap.size w wr) (fun _ i _=>12 - (intOf i).toNat)
 case atStart=>exact ⟨0,Nat.zero_le _,rfl,rfl,hp3,HG5.out⟩
 case round=>
  obtain ⟨k,hk,rfl,rfl,hrow,hbel⟩:=hrel;by_cases hlt:k<12
  ·have hik:=hi k hlt;have ⟨b1,b2⟩:=ysr hl k hk;have ⟨b3,b4⟩:=HB.out k hlt;have g1:=hrow.cell (i:=24+k) (by omega);have g2:=hrow.frozen (24+k);have g3:=hrow.cell (i:=36) (by omega);have g4:=hrow.frozen 36;have R:=jnr k (bsum l k) hlt hrow;rw [xp6] at R;have R1:=hbel.setCell (p:=⟨p,24+k,none⟩) hpW (.int .i64 (bsum l k));by_cases hpos:0<cn l k
   ·have R2:=zta k R;have e2:lgTo l (k+1)=k:=if_pos hpos;go_wp2
    go_roundw
    case rel=>exact ⟨k+1,by omega,by go_num,rfl,by rw [e2];exact R2,R1.setCell (p:=⟨p,36,none⟩) hpW _⟩
    case measure=>simp [intOf];omega
   ·have e2:lgTo l k=lgTo l (k+1):=(if_neg hpos).symm;rw [e2] at R;go_wp2
    go_roundw
    case rel=>exact ⟨k+1,by omega,by go_num,rfl,R,R1⟩
    case measure=>simp [intOf];omega
  ·obtain rfl:k=12:=by omega
   have HR:Hid (wr.rowIs p 265 38 (bfv (cn l) (fc (cn l)) (bgTo l 12) (lgTo l 12) (.slice none 0 0))∧Below w.heap.size w wr):=⟨hrow,hbel⟩
   obtain ⟨n,hn⟩:∃ n:Nat,bsum l 12=n:=⟨(bsum l 12).toNat,by have:=(ysr hl 12 (by omega)).1;omega⟩
   have hn2:n<=12000000:=by have:=(ysr hl 12 (by omega)).2;omega
   rw [hn];have g1:=hrow.cell (i:=37) (by omega);have g2:=hrow.frozen 37;have hmk:=make n hn2;clear hi;have r5:((wr.setCell ⟨p,37,none⟩ (.slice (some ⟨wr.heap.size,0,none⟩) n n)).alloc (.cells (madeCells #[.int .i64 0, .bool false, .int .i64 0, .int .i64 0] (n*4)) 127)).rowIs p 265 38 (bfv (cn l) (fc (cn l)) (bgTo l 12) (lgTo l 12) (.slice (some ⟨wr.heap.size,0,none⟩) n n)):=(jb3 _ hrow).alloc _;have m5:=xfg r5;have hpl:=hrow.lt;have h6:=newW_at wr p n;have NF:=newW_facts (n:=n) hrow hbel hpW;unfold newW at NF;rw [show arr (fun _=>0)=#[.int .i64 0, .int .i64 0, .int .i64 0, .int .i64 0, .int .i64 0, .int .i64 0, .int .i64 0, .int .i64 0, .int .i64 0, .int .i64 0, .int .i64 0, .int .i64 0] from rfl] at NF;have HNF:Hid _:=NF;clear NF;go_wp2_with (first | (refine wpList_load_mid rfl 197 _ rfl p 24 rfl (arr (bsum l)).toList _ m5 Tryz.underlying197 rfl (xz2 (bsum l)) ?_;rw [Array.toArray_toList]) | (refine wpList_store_row rfl 197 _ _ rfl (wr.heap.size+1) (arr (bsum l)) rfl rfl 197 _ h6 (xz2 _) rfl (yui _) ?_))
   have hmW:w.heap.size<=wr.heap.size:=hbel.size;clear h6 m5 r5 g1 g2 hmk hrow h4g hbel HR;generalize (((wr.setCell ⟨p,37,none⟩ (.slice (some ⟨wr.heap.size,0,none⟩) n n)).alloc (.cells (madeCells #[.int .i64 0, .bool false, .int .i64 0, .int .i64 0] (n*4)) 127)).alloc (.cells #[.int .i64 0, .int .i64 0, .int .i64 0, .int .i64 0, .int .i64 0, .int .i64 0, .int .i64 0, .int .i64 0, .int .i64 0, .int .i64 0, .int .i64 0, .int .i64 0] 197)).setRow (wr.heap.size+1) (arr (bsum l))=w6 at *;generalize wr.heap.size=m at *;go_loopw [53] (fun i wx=>∃ (k:Nat) (f:Nat->Value),k<=l.length∧i= .int .i64 k∧wx.rowIs p 265 38 (bfv (cn l) (fc (cn l)) (bgTo l 12) (lgTo l 12) (.slice (some ⟨m,0,none⟩) n n))∧wx.rowIs m 127 (n*4) f∧Filled l f k∧wx.rowIs (m+1) 197 12 (fun j=> .int .i64 (bsum l j+cn (l.take k) j))∧Below w.heap.size w wx) (fun i _=>l.length - (intOf i).toNat)
   case atStart=>exact ⟨0,zero4,Nat.zero_le _,rfl,HNF.out.1,HNF.out.2.1,fun i hi=>absurd hi (by omega),HNF.out.2.2.1.congr fun i _=>by simp [j3h],HNF.out.2.2.2⟩
   case round=>
    obtain ⟨k,f,hk,rfl,q1,q2,q3,q4,q5⟩:=hrel;by_cases hlt:k<l.length
    ·obtain ⟨b,o,x,rfl,g,hx12,hx⟩:=(HC.out.below q5 (Nat.le_refl _)).atNat hr hlt;have HQ:Hid (wr.rowIs p 265 38 (bfv (cn l) (fc (cn l)) (bgTo l 12) (lgTo l 12) (.slice (some ⟨m,0,none⟩) n n))∧wr.rowIs m 127 (n*4) f∧wr.rowIs (m+1) 197 12 (fun j=> .int .i64 (bsum l j+cn (l.take k) j))∧Below w.heap.size w wr):=⟨q1,q2,q4,q5⟩
     have HF:Hid (Filled l f k):=q3;clear q3;by_cases hpos:0<x
     ·have e1:=k44 hlt hx.out hl (by omega);have e2:=vil hlt hx.out hl hpos (by omega);rw [hn] at e2;have hpn:pos l k<n:=by omega
      have c1:wr.cell? ⟨p,37,none⟩=some (.slice (some ⟨m,0,none⟩) n n):=q1.cell (i:=37) (by omega);have c2:wr.cell? ⟨m+1,x,none⟩=some (.int .i64 (pos l k)):=by rw [q4.cell (i:=x) (by omega),e1]
      have HN:Hid (bsum l x+cn (l.take k) x=(pos l k:Int)):=e1.symm;obtain ⟨v1,v2,v3,v4,hv⟩:=four k;have HFS:=HF.out.step hl hr hlt hx.out hpos (by omega) hv;have HFT:Hid _:=HFS;clear HFS e1;have HNX:Hid ((wr:World)=wr):=rfl;obtain ⟨P,hP⟩:∃ P,P=pos l k:=⟨_,rfl⟩
      have l1:=q1.lt;have l2:=q2.lt;have l3:=q4.lt;have hPi:(P:Int)<n:=by omega
      have hx12':(x:Int)<12:=by omega
      have k1:=q2.cell (i:=P*4) (by omega);have k2:=q2.cell (i:=P*4+1) (by omega);have k3:=q2.cell (i:=P*4+2) (by omega);have k4:=q2.cell (i:=P*4+3) (by omega);have y1:=q2.frozen (P*4);have y2:=q2.frozen (P*4+1);have y4:=q2.frozen (P*4+2);have y5:=q2.frozen (P*4+3);have HCT:Hid (∀ w:World,Calls Tryz.prog 169 #[.int .i64 k] w fun x w'=>x= .returned (.agg #[.int .i64 v1, .bool v2, .int .i64 v3, .int .i64 v4])∧Below w.heap.size w w'):=fun w=>by rw [← hv];exact yhm k w
      clear hv;rw [← hP] at c2;have HP:Hid (P=pos l k):=hP;have hpm:p≠m:=by omega
      have hpm2:p≠m+1:=by omega
      have y3:=q4.frozen x;clear q1 q2 q4 q5 hP;go_wp2_with fail
      go_region_held3 (fun wv=>wv.cell? ⟨p,37,none⟩=some (.slice (some ⟨m,0,none⟩) n n)∧wv.cell? ⟨m+1,x,none⟩=some (.int .i64 P)) (first | exact ⟨c1,c2⟩ | exact ⟨d1,d2⟩ | exact ⟨(four_set_cell (q:=⟨p,37,none⟩) hpm).trans d1,(four_set_cell (q:=⟨m+1,x,none⟩) (by simp)).trans d2⟩)
       (first | (go_at_call 169;refine (HCT.out _).mono ?_;rintro e w7 ⟨rfl,hb7⟩;have d1:=(hb7.cell l1).trans c1;have d2:=(hb7.cell l3).trans c2;have d3:w7.cell? ⟨m,P*4,none⟩=some (f (P*4)):=(hb7.cell l2).trans k1;have d4:w7.cell? ⟨m,P*4+1,none⟩=some (f (P*4+1)):=(hb7.cell l2).trans k2;have e3:w7.cell? ⟨m,P*4+2,none⟩=some (f (P*4+2)):=(hb7.cell l2).trans k3;have e4:w7.cell? ⟨m,P*4+3,none⟩=some (f (P*4+3)):=(hb7.cell l2).trans k4;have d5:w7.frozen? ⟨m,P*4,none⟩=false:=(hb7.frozen l2).trans y1;have d6:w7.frozen? ⟨m,P*4+1,none⟩=false:=(hb7.frozen l2).trans y2;have e5:w7.frozen? ⟨m,P*4+2,none⟩=false:=(hb7.frozen l2).trans y4;have e6:w7.frozen? ⟨m,P*4+3,none⟩=false:=(hb7.frozen l2).trans y5;have d7:w7.frozen? ⟨m+1,x,none⟩=false:=(hb7.frozen l3).trans y3;have HB7:Hid (Below wr.heap.size wr w7):=⟨hb7.os,hb7.tape,hb7.output,hb7.size,hb7.block⟩;clear hb7))
      have T:=new_round (v1:= .int .i64 v1) (v2:= .bool v2) (v3:= .int .i64 v3) (v4:= .int .i64 v4) HQ.out.1 HQ.out.2.1 HQ.out.2.2.1 HQ.out.2.2.2 HB7.out hlt hx.out hpos (by omega) hpm hpm2 hpW hmW HN.out HP.out;have HT:Hid _:=T;clear T k1 k2 k3 k4 y1 y2 y3 y4 y5;go_wp2
      go_roundw
      case rel=>exact ⟨k+1,_,by omega,by go_num,HT.out.1,HT.out.2.1,by rw [HP.out];exact HFT.out,HT.out.2.2.1,HT.out.2.2.2⟩
      case measure=>simp [intOf];omega
     ·obtain rfl:x=0:=by omega
      have R:=zlc hlt hx.out q4;have e0:l.getD k 0=0:=by have:=hx.out;simp [hlt];simpa using this
      have HF2:Hid (Filled l f (k+1)):=HF.out.skip e0;go_wp2
      go_roundw
      case rel=>exact ⟨k+1,f,by omega,by go_num,q1,q2,HF2.out,R,q5⟩
      case measure=>simp [intOf];omega
    ·obtain rfl:k=l.length:=by omega
     go_wp2
     go_ret
     refine ⟨p,m,n,f,rfl,hn,⟨q1,fun j hj=>⟨rfl,?_⟩,q1.lt,q2.lt⟩,q3,hpW,hmW,q5⟩;intro t v hv;have ht:t=0∨t=1∨t=2∨t=3:=by have:=(List.getElem?_eq_some_iff.1 hv).1;simp at this;omega
     rcases ht with rfl | rfl | rfl | rfl
     ·rw [← Option.some.inj hv];exact q2.cell (i:=j*4) (by omega)
     ·rw [← Option.some.inj hv];exact q2.cell (i:=j*4+1) (by omega)
     ·rw [← Option.some.inj hv];exact q2.cell (i:=j*4+2) (by omega)
     ·rw [← Option.some.inj hv];exact q2.cell (i:=j*4+3) (by omega)
end HelperT
theorem xdo(x:Int)(l:List Int)(k:Nat):bsum (x :: l) k=bsum l k+(if 0<x∧x<k then 1 else 0):=by
 induction k with
 | zero=>simp [bsum];omega
 | succ k ih=>
  simp only [bsum];rw [ih,zah];by_cases h1:0<x∧x<k
  ·rw [if_pos h1,if_neg (by omega),if_pos (by omega)];omega
  ·rw [if_neg h1];by_cases h2:0<x∧x=k
   ·rw [if_pos h2,if_pos (by omega)];omega
   ·rw [if_neg h2,if_neg (by omega)];omega
theorem yz8(l:List Int)(k:Nat):bsum l k<=l.length:=by
 induction l with
 | nil=>
  have:∀ k,bsum [] k=0:=fun k=>by
   induction k with
   | zero=>rfl
   | succ k ih=>simp only [bsum];rw [ih,j3h];rfl
  rw [this];simp
 | cons x l ih=>
  rw [xdo];simp only [List.length_cons];split <;> omega
theorem v0q(l:List Int)(k:Nat):0<=fc (cn l) k∧fc (cn l) k<=2^k*bsum l k:=by
 induction k with
 | zero=>simp [fc,bsum]
 | succ k ih=>
  have h1:=v4o l k;have h2:(1:Int)<=2^k:=by have:=Int.pow_pos (n:=(2:Int)) (m:=k) (by decide);omega
  have h3:cn l k<=2^k*cn l k:=by
   have:=Int.mul_le_mul_of_nonneg_right h2 h1;omega
  simp only [fc,bsum];rw [Int.pow_succ,Int.mul_add,Int.mul_assoc,Int.mul_assoc];have e1:(2:Int)^k*(2*bsum l k)=2*(2^k*bsum l k):=by rw [← Int.mul_assoc,Int.mul_comm (2^k) 2,Int.mul_assoc]
  have e2:(2:Int)^k*(2*cn l k)=2*(2^k*cn l k):=by rw [← Int.mul_assoc,Int.mul_comm (2^k) 2,Int.mul_assoc]
  rw [e1,e2];omega
theorem k04{l:List Int}(hl:l.length<=269){k:Nat}(hk:k<12):0<=fc (cn l) k∧fc (cn l) k<=1000000:=by
 have h1:=v0q l k;have h2:=yz8 l k;refine ⟨h1.1,?_⟩;have h3:(2:Int)^k<=2^11:=by
  have:2^k<=2^11:=Nat.pow_le_pow_right (by decide) (by omega);exact_mod_cast this
 have h4:(0:Int)<=2^k:=Int.le_of_lt (Int.pow_pos (by decide));have h5:(2:Int)^k*bsum l k<=2^k*269:=Int.mul_le_mul_of_nonneg_left (by omega) h4;have h6:(2:Int)^11=2048:=by decide
 omega
theorem kc4{l:List Int}(hr:inRange l=true)(hl:l.length<=269){n:Nat}(hn:0<n)(h12:n<12){c:Nat}(h:0<=find (rset l) n (c:Int)) :
  (fc (cn l) n<=c∧(c:Int) - fc (cn l) n<cn l n)∧(find (rset l) n (c:Int)).toNat<l.length∧0<l.getD (find (rset l) n (c:Int)).toNat 0∧bgTo l 12 n+((c:Int) - fc (cn l) n)=(pos l (find (rset l) n (c:Int)).toNat:Int)∧(pos l (find (rset l) n (c:Int)).toNat:Int)<bsum l 12:=by
 have hc:fc (cn l) n<=c∧(c:Int)<fc (cn l) n+cn l n:=by
  apply Classical.byContradiction;intro hc;have:=zr0 (S:=rset l) hr hn (c:=(c:Int)) (by show (c:Int)<fc (cn l) n∨fc (cn l) n+cn l n<=c;omega);omega
 obtain ⟨i,hi,h2,h3,h4⟩:=k5a (S:=rset l) hr hn hc.1 hc.2;have hi':i<l.length:=hi;have h2':l[i]=(n:Int):=h2;have e:(find (rset l) n (c:Int)).toNat=i:=by rw [h4];simp
 rw [e];refine ⟨⟨hc.1,by omega⟩,hi',by simp [hi',h2'];omega,?_,vil hi' h2' hl hn h12⟩;rw [k44 hi' h2' hl h12];have h3':cn (l.take i) n=(c:Int) - fc (cn l) n:=h3;rw [h3'];unfold bgTo;rw [if_pos h12]
theorem xzd{l:List Int}(hr:inRange l=true){n:Nat}(hn:0<n){c:Nat}(h:¬ 0<=find (rset l) n (c:Int)):¬ (fc (cn l) n<=c∧(c:Int) - fc (cn l) n<cn l n):=fun hc=>by
 obtain ⟨i,hi,h2,h3,h4⟩:=k5a (S:=rset l) hr hn hc.1 (by show (c:Int)<fc (cn l) n+cn l n;omega);rw [h4] at h;omega
theorem zgh{w:World}{g T:Nat}{f:Nat->Value}(h:w.rowIs g T 4 f):w.heap[g]?=some (.cells #[f 0,f 1,f 2,f 3] T):=by
 obtain ⟨c,hc,hn,hv⟩:=h;rw [hc];have h0:=hv 0 (by omega);have h1:=hv 1 (by omega);have h2:=hv 2 (by omega);have h3:=hv 3 (by omega);have:c=#[f 0,f 1,f 2,f 3]:=by
  apply Array.ext
  ·simpa using hn
  ·intro i h4 h5;have:i=0∨i=1∨i=2∨i=3:=by simp at h5;omega
   rcases this with rfl | rfl | rfl | rfl
   ·rw [Array.getElem?_eq_getElem h4] at h0;simpa using h0
   ·rw [Array.getElem?_eq_getElem h4] at h1;simpa using h1
   ·rw [Array.getElem?_eq_getElem h4] at h2;simpa using h2
   ·rw [Array.getElem?_eq_getElem h4] at h3;simpa using h3
 rw [this]
theorem SpanT.four(k:Nat):∃ v1 v2:Int,vtb 1 k=#[.int .i64 v1, .int .i64 v2]:=⟨_,_,rfl⟩
theorem vh0(c b:Nat)(hc:c<1000000)(hb:b<2):bits .or .i64 ((c:Int)*2) (b:Int)=((2*c+b:Nat):Int):=by
 have h1:(2:Int)^62=4611686018427387904:=by decide
 have h2:(2:Int)^1=2:=by decide
 rw [bits_join .i64 62 (by decide) veq 1 ((c:Int)*2) (b:Int) (by omega) (by rw [h2];omega) (by omega) (by omega) (by rw [h2];omega) (by omega)];omega
theorem mAt{ρ:Nat->Nat}{w:World}{p:Nat}{x:MS}(k:Nat)(h:MM ρ w p x)(ok:Ok x)(hk:k<x.count)(hc:x.count<=63) :
  Calls Tryz.prog 171 #[.pointer (some ⟨p,14,none⟩), .int .i64 k] w fun v w'=>v= .returned (.int .i64 (x.held / 2^k%2:Nat))∧MM ρ w' p x∧Fr (fun k=>1<=k∧k<=5) ρ w w':=by
 refine (yci p 14 x.held x.count k w hk hc ok.held h.cell14).mono ?_;rintro v w' ⟨rfl,n,e⟩;rw [e];exact ⟨rfl,h.drewN n,(Fr.refl _ _ _).drewN n⟩
theorem zdb{ρ:Nat->Nat}{w:World}{t:Nat}{l:List Int}(h:TabS ρ w 271 2 (fun i=>(vtb 1 i).toList) t l)(c n:Nat)(hc:c<=1000000)(hn:0<n)(h12:n<12) :
  (0<=find (rset l) n (c:Int)->Calls Tryz.prog 177 #[.pointer (some ⟨t,0,none⟩), .int .i64 c, .int .i64 n] w fun x w'=>x= .returned (.tuple #[.agg (vtb 1 (find (rset l) n (c:Int)).toNat), .bool true])∧Below w.heap.size w w')∧
  (¬ 0<=find (rset l) n (c:Int)->Calls Tryz.prog 177 #[.pointer (some ⟨t,0,none⟩), .int .i64 c, .int .i64 n] w fun x w'=>x= .returned (.tuple #[.agg #[.int .i64 0, .int .i64 0], .bool false])∧Below w.heap.size w w'):=by
 obtain ⟨m,N,mg,I,h1,h2,h3⟩:=h.tab;refine ⟨fun hf=>?_,fun hf=>x82 c n I hc h12 (k04 h.len h12) (xzd h.rng hn hf)⟩;obtain ⟨g1,g2,g3,g4,g5⟩:=kc4 h.rng h.len hn h12 hf;obtain ⟨v1,v2,hv⟩:=SpanT.four (find (rset l) n (c:Int)).toNat;have hb:=yz8 l 12;have hlen:=h.len;have:=kkr c n I hc h12 (k04 h.len h12) g1 (pos l (find (rset l) n (c:Int)).toNat) g4 (by omega) (by omega) v1 v2 (by rw [h2 _ g2 g3,hv]);rw [hv];exact this
theorem zxb{ρ:Nat->Nat}{w:World}{t:Nat}{l:List Int}(h:TabS ρ w 268 4 (fun i=>(litC i).toList) t l)(c n:Nat)(hc:c<=1000000)(hn:0<n)(h12:n<12) :
  (0<=find (rset l) n (c:Int)->Calls Tryz.prog 175 #[.pointer (some ⟨t,0,none⟩), .int .i64 c, .int .i64 n] w fun x w'=>x= .returned (.tuple #[.agg (litC (find (rset l) n (c:Int)).toNat), .bool true])∧Below w.heap.size w w')∧
  (¬ 0<=find (rset l) n (c:Int)->Calls Tryz.prog 175 #[.pointer (some ⟨t,0,none⟩), .int .i64 c, .int .i64 n] w fun x w'=>x= .returned (.tuple #[.agg #[.int .i64 0, .int .u8 0, .int .i64 0, .int .i64 0], .bool false])∧Below w.heap.size w w'):=by
 obtain ⟨m,N,mg,I,h1,h2,h3⟩:=h.tab;refine ⟨fun hf=>?_,fun hf=>vrp c n I hc h12 (k04 h.len h12) (xzd h.rng hn hf)⟩;obtain ⟨g1,g2,g3,g4,g5⟩:=kc4 h.rng h.len hn h12 hf;obtain ⟨v1,v2,v3,v4,hv⟩:=LiteralT.four (find (rset l) n (c:Int)).toNat;have hb:=yz8 l 12;have hlen:=h.len;have:=j98 c n I hc h12 (k04 h.len h12) g1 (pos l (find (rset l) n (c:Int)).toNat) g4 (by omega) (by omega) v1 v2 v3 v4 (by rw [h2 _ g2 g3,hv]);rw [hv];exact this
theorem jr4{ρ:Nat->Nat}{w:World}{t:Nat}{l:List Int}(h:TabS ρ w 265 4 (fun i=>(v3q i).toList) t l)(c n:Nat)(hc:c<=1000000)(hn:0<n)(h12:n<12) :
  (0<=find (rset l) n (c:Int)->Calls Tryz.prog 172 #[.pointer (some ⟨t,0,none⟩), .int .i64 c, .int .i64 n] w fun x w'=>x= .returned (.tuple #[.agg (v3q (find (rset l) n (c:Int)).toNat), .bool true])∧Below w.heap.size w w')∧
  (¬ 0<=find (rset l) n (c:Int)->Calls Tryz.prog 172 #[.pointer (some ⟨t,0,none⟩), .int .i64 c, .int .i64 n] w fun x w'=>x= .returned (.tuple #[.agg #[.int .i64 0, .bool false, .int .i64 0, .int .i64 0], .bool false])∧Below w.heap.size w w'):=by
 obtain ⟨m,N,mg,I,h1,h2,h3⟩:=h.tab;refine ⟨fun hf=>?_,fun hf=>j90 c n I hc h12 (k04 h.len h12) (xzd h.rng hn hf)⟩;obtain ⟨g1,g2,g3,g4,g5⟩:=kc4 h.rng h.len hn h12 hf;obtain ⟨v1,v2,v3,v4,hv⟩:=HelperT.four (find (rset l) n (c:Int)).toNat;have hb:=yz8 l 12;have hlen:=h.len;have:=vsr c n I hc h12 (k04 h.len h12) g1 (pos l (find (rset l) n (c:Int)).toNat) g4 (by omega) (by omega) v1 v2 v3 v4 (by rw [h2 _ g2 g3,hv]);rw [hv];exact this
theorem vux(l:List Int)(k:Nat):lgTo l k=lng l k:=by
 induction k with
 | zero=>rfl
 | succ k ih=>rw [lgTo,lng,ih]
theorem j6p(l:List Int):lgTo l 12<=11:=by rw [vux];exact y4h l 11
def SymE(ρ:Nat->Nat)(w:World)(p:Nat)(mean:Nat->Array Value)(zero:Array Value)(r:MS×Nat×Nat)(e:Ending)(w':World):Prop:=e= .returned (.tuple #[.agg (if r.2.1=0 then mean r.2.2 else zero), .int .i64 r.2.1])∧MM ρ w' p r.1∧Fr (fun k=>1<=k∧k<=5) ρ w w'
structure Sw(ρ:Nat->Nat)(w:World)(p:Nat)(T TT:TypeId)(k:Nat)(z:Nat->Value)(mean:Nat->List Value)(t:Nat)(l:List Int)(R:MS×Nat×Nat)(code n r:Nat)(y:MS)(wr:World):Prop where
 mm:MM ρ wr p y
 ok:Ok y
 cnt:y.count<=40
 eq:MS.symL l r n code y=R
 n1:1<=n
 nr:n+r=lgTo l 12+1
 code:code<2^(n - 1)
 b4:wr.rowIs w.heap.size T k z
 b6:wr.rowIs (w.heap.size+1) T k z
 tab:TabS ρ wr TT k mean t l
 r4:ρ w.heap.size=0
 r6:ρ (w.heap.size+1)=0
 fr:Fr (fun k=>1<=k∧k<=5) ρ w wr
structure Sk(ρ:Nat->Nat)(w:World)(p:Nat)(T TT:TypeId)(k:Nat)(z:Nat->Value)(mean:Nat->List Value)(t:Nat)(l:List Int)(y:MS)(wr:World):Prop where
 mm:MM ρ wr p y
 ok:Ok y
 b4:wr.rowIs w.heap.size T k z
 b6:wr.rowIs (w.heap.size+1) T k z
 tab:TabS ρ wr TT k mean t l
 r4:ρ w.heap.size=0
 r6:ρ (w.heap.size+1)=0
 fr:Fr (fun k=>1<=k∧k<=5) ρ w wr
theorem Sw.sk{ρ:Nat->Nat}{w:World}{p:Nat}{T TT:TypeId}{k:Nat}{z:Nat->Value}{mean:Nat->List Value}{t:Nat}{l:List Int}{R:MS×Nat×Nat}{code n r:Nat}{y:MS}{wr:World}(h:Sw ρ w p T TT k z mean t l R code n r y wr):Sk ρ w p T TT k z mean t l y wr:=⟨h.mm,h.ok,h.b4,h.b6,h.tab,h.r4,h.r6,h.fr⟩
theorem Sk.next{ρ:Nat->Nat}{w:World}{p:Nat}{T TT:TypeId}{k:Nat}{z:Nat->Value}{mean:Nat->List Value}{t:Nat}{l:List Int}{y y':MS}{wr w2:World}(h:Sk ρ w p T TT k z mean t l y wr)(m:MM ρ w2 p y')(o:Ok y')(f:Fr (fun k=>1<=k∧k<=5) ρ wr w2):Sk ρ w p T TT k z mean t l y' w2:=⟨m,o,zlz h.b4 f.kp (by rw [h.r4];exact no0),zlz h.b6 f.kp (by rw [h.r6];exact no0),h.tab.fr f.kp (by decide),h.r4,h.r6,h.fr.trans f⟩
theorem Sk.below{ρ:Nat->Nat}{w:World}{p:Nat}{T TT:TypeId}{k:Nat}{z:Nat->Value}{mean:Nat->List Value}{t:Nat}{l:List Int}{y:MS}{wr w2:World}(h:Sk ρ w p T TT k z mean t l y wr)(b:Below wr.heap.size wr w2):Sk ρ w p T TT k z mean t l y w2:=h.next (h.mm.below b) h.ok (Fr.below b)
theorem Sk.drewN{ρ:Nat->Nat}{w:World}{p:Nat}{T TT:TypeId}{k:Nat}{z:Nat->Value}{mean:Nat->List Value}{t:Nat}{l:List Int}{y:MS}{wr:World}(h:Sk ρ w p T TT k z mean t l y wr)(n:Nat):Sk ρ w p T TT k z mean t l y (wr.drewN n):=h.next (h.mm.drewN n) h.ok ((Fr.refl _ _ _).drewN n)
theorem MM.fr0{ρ:Nat->Nat}{w w':World}{p:Nat}{x:MS}(h:MM ρ w p x)(f:Kp (fun r=>r=0) ρ w w'):MM ρ w' p x:=by
 obtain ⟨L,B,T⟩:=h;obtain ⟨o,g,k⟩:=B.ra;obtain ⟨o2,g2,k2⟩:=B.rc;obtain ⟨r1,r2,r3,r4⟩:=B.rl;exact ⟨L,⟨zlz B.row f (by rw [B.rp];decide),⟨o,g,k.kp f (by rw [r1];decide) (by rw [r2];decide)⟩,⟨o2,g2,k2.kp f (by rw [r3];decide) (by rw [r4];decide)⟩,B.rp,B.rl⟩,T.fr f (fun r e=>by omega)⟩
theorem MM.setNew{ρ:Nat->Nat}{w:World}{p:Nat}{x:MS}(h:MM ρ w p x)(g i:Nat)(v:Value)(hg:ρ g=0):MM ρ (w.setCell ⟨g,i,none⟩ v) p x:=h.fr0 (Kp.of_set w _ _ hg)
theorem Fr.setNew{R:Nat->Prop}{ρ:Nat->Nat}{w w':World}(h:Fr R ρ w w')(g i:Nat)(v:Value)(hg:w.heap.size<=g):Fr R ρ w (w'.setCell ⟨g,i,none⟩ v):=⟨⟨by simpa [World.setCell] using h.kp.size,fun k hk hr=>by rw [Below.heap_setCell _ _ _ _ (by show k≠g;omega)];exact h.kp.block k hk hr⟩,h.os,h.tape,h.output⟩
theorem v2g{c n b:Nat}(hn:1<=n)(hc:c<2^(n - 1))(hb:b<2):2*c+b<2^(n+1 - 1):=by
 rw [show n+1 - 1=(n - 1)+1 by omega,Nat.pow_succ];omega
theorem kdd{ρ:Nat->Nat}{w:World}{p t:Nat}{x:MS}{l:List Int}(h:MM ρ w p x)(ok:Ok x)(hx:x.count<=40)(ht:TabS ρ w 271 2 (fun i=>(vtb 1 i).toList) t l) :
  Calls Tryz.prog 149 #[.pointer (some ⟨p,0,none⟩), .pointer (some ⟨t,0,none⟩)] w fun v w'=>SymE ρ w p (vtb 1) #[.int .i64 0, .int .i64 0] (x.sym l) v w':=by
 obtain ⟨R,hR⟩:∃ R,R=x.sym l:=⟨_,rfl⟩
 have hlg:=j6p l;have b0:Below w.heap.size w ((w.alloc (.cells #[.int .i64 0, .int .i64 0] 125)).alloc (.cells #[.int .i64 0, .int .i64 0] 125)):=((Below.refl _ _).alloc (Nat.le_refl _) _).alloc (by simp) _;have H0:Hid (∃ r,Sw ρ w p 125 271 2 (lrow [.int .i64 0, .int .i64 0]) (fun i=>(vtb 1 i).toList) t l R 0 1 r x ((w.alloc (.cells #[.int .i64 0, .int .i64 0] 125)).alloc (.cells #[.int .i64 0, .int .i64 0] 125))):=by
  refine ⟨lgTo l 12,h.below b0,ok,hx,hR.symm,Nat.le_refl _,by omega,by decide,?_,?_,ht.fr (R:=fun _=>False) (Kp.of_below b0) (fun e=>e),h.new _ (Nat.le_refl _),h.new _ (by omega),Fr.below b0⟩
  ·exact (World.rowIs_alloc w #[.int .i64 0, .int .i64 0] 125 (lrow [.int .i64 0, .int .i64 0]) (fun i hi=>by
    have:i=0∨i=1:=by have:i<2:=hi;omega
    rcases this with rfl | rfl <;> rfl)).alloc _
  ·have:=World.rowIs_alloc (w.alloc (.cells #[.int .i64 0, .int .i64 0] 125)) #[.int .i64 0, .int .i64 0] 125 (lrow [.int .i64 0, .int .i64 0]) (fun i hi=>by
    have:i=0∨i=1:=by have:i<2:=hi;omega
    rcases this with rfl | rfl <;> rfl)
   simpa using this
 rw [← hR];clear h ok hx ht hR b0;go_enter Tryz.func149,Tryz.ntmps149
 go_wp2_with fail
 go_loopw [7,8] (fun c n wr=>∃ (code len:Nat),c= .int .i64 code∧n= .int .i64 len∧Hid (∃ r y,Sw ρ w p 125 271 2 (lrow [.int .i64 0, .int .i64 0]) (fun i=>(vtb 1 i).toList) t l R code len r y wr)) (fun _ n _=>13 - (intOf n).toNat)
 case atStart=>exact ⟨0,1,rfl,rfl,by obtain ⟨r,h⟩:=H0.out;exact ⟨r,x,h⟩⟩
 case round=>
  clear H0;obtain ⟨code,len,rfl,rfl,HH⟩:=hrel;obtain ⟨r,y,Y⟩:=HH.out;have hn1:=Y.n1;have hnr:=Y.nr;have hcd:=Y.code;have hcnt:=Y.cnt;have HK:Hid (Sk ρ w p 125 271 2 (lrow [.int .i64 0, .int .i64 0]) (fun i=>(vtb 1 i).toList) t l y wr):=Y.sk;have HEQ:Hid (MS.symL l r len code y=R):=Y.eq;have HLG:Hid (Calls Tryz.prog 176 #[.pointer (some ⟨t,0,none⟩)] wr fun x w'=>x= .returned (.int .i64 (lgTo l 12))∧wr=w'):=by
   obtain ⟨m,N,mg,I,_,_,_⟩:=Y.tab.tab;exact ysa I
  clear Y HH;obtain ⟨lg,hlgE⟩:∃ lg,lg=lgTo l 12:=⟨_,rfl⟩
  rw [← hlgE] at HLG hnr hlg;have HLGE:Hid (lg=lgTo l 12):=hlgE;clear hlgE;go_wp2_with fail
  refine HLG.out.mono ?_;rintro e w' ⟨rfl,rfl⟩;by_cases hlt:len<=lg
  ·obtain ⟨r,rfl⟩:∃ q,r=q+1:=⟨r - 1,by omega⟩
   have hlti:(len:Int)<=lg:=by omega
   have hcode:code<2048:=by
    have:2^(len - 1)<=2^11:=Nat.pow_le_pow_right (by decide) (by omega);have e:2^11=2048:=by decide
    omega
   have HST:Hid (R=if (MS.need len y).2≠0 then ((MS.need len y).1,(MS.need len y).2,0) else if 0<=find (rset l) len ((2*code+(MS.need len y).1.held / 2^(len - 1)%2:Nat):Int) then ((MS.need len y).1.rd len,0,(find (rset l) len ((2*code+(MS.need len y).1.held / 2^(len - 1)%2:Nat):Int)).toNat) else MS.symL l r (len+1) (2*code+(MS.need len y).1.held / 2^(len - 1)%2) (MS.need len y).1):=HEQ.out.symm;clear HEQ;go_wp2_with fail
   refine (zvo len HK.out.mm HK.out.ok (by omega) (by omega)).mono ?_;rintro v w1 ⟨rfl,g1,g2⟩;by_cases h0:(MS.need len y).2=0
   ·have k1:=MS.need_cnt HK.out.ok h0;have k3:=MS.need_ok (k:=len) HK.out.ok;rw [h0];rw [if_neg (by rw [h0];simp)] at HST;obtain ⟨z,hz⟩:∃ z,z=(MS.need len y).1:=⟨_,rfl⟩
    rw [← hz] at g1 HST k1 k3;have HZ:Hid (Sk ρ w p 125 271 2 (lrow [.int .i64 0, .int .i64 0]) (fun i=>(vtb 1 i).toList) t l z w1):=HK.out.next g1 k3 g2;clear g1 g2 hz h0 k3;obtain ⟨d,hd⟩:∃ d,d=len - 1:=⟨_,rfl⟩
    have hdi:(len:Int) - 1=(d:Int):=by omega
    have hdl:d<z.count:=by omega
    rw [← hd] at HST;have HD:Hid (d=len - 1):=hd;clear hd;have hb2:z.held / 2^d%2<2:=Nat.mod_lt _ (by decide);have HAT:Hid (Calls Tryz.prog 171 #[.pointer (some ⟨p,14,none⟩), .int .i64 d] w1 fun v w'=>v= .returned (.int .i64 (z.held / 2^d%2:Nat))∧MM ρ w' p z∧Fr (fun k=>1<=k∧k<=5) ρ w1 w'):=mAt d HZ.out.mm HZ.out.ok hdl (by omega);obtain ⟨b,hb⟩:∃ b,b=z.held / 2^d%2:=⟨_,rfl⟩
    rw [← hb] at HST hb2 HAT;clear hb;obtain ⟨c2,hc2⟩:∃ c2,c2=2*code+b:=⟨_,rfl⟩
    have hor:bits .or .i64 ((code:Int)*2) (b:Int)=(c2:Int):=by rw [hc2];exact vh0 code b (by omega) hb2
    have hpw:c2<2^(len+1 - 1):=by rw [hc2];exact v2g hn1 hcd hb2
    have hc2b:c2<=1000000:=by omega
    rw [← hc2] at HST;clear hc2;go_wp2_with fail
    refine HAT.out.mono ?_;rintro v w2 ⟨rfl,g1,g2⟩;have H2:Hid (Sk ρ w p 125 271 2 (lrow [.int .i64 0, .int .i64 0]) (fun i=>(vtb 1 i).toList) t l z w2):=HZ.out.next g1 HZ.out.ok g2;have TF:=zdb H2.out.tab c2 len hc2b (by omega) (by omega);have HPW:Hid (c2<2^(len+1 - 1)):=hpw;clear g1 g2 HAT HZ hpw;by_cases hf:0<=find (rset l) len (c2:Int)
    ·rw [if_pos hf] at HST;obtain ⟨i,hi⟩:∃ i,i=(find (rset l) len (c2:Int)).toNat:=⟨_,rfl⟩
     have HF:=TF.1 hf;rw [← hi] at HST HF;obtain ⟨v1,v2,hv⟩:=SpanT.four i;have HV:Hid (vtb 1 i=#[.int .i64 v1, .int .i64 v2]):=hv;rw [hv] at HF;have HFF:Hid (Calls Tryz.prog 177 #[.pointer (some ⟨t,0,none⟩), .int .i64 c2, .int .i64 len] w2 fun x w'=>x= .returned (.tuple #[.agg #[.int .i64 v1, .int .i64 v2], .bool true])∧Below w2.heap.size w2 w'):=HF;clear HF TF hf hi hv;go_wp2_with fail
     refine HFF.out.mono ?_;rintro e w3 ⟨rfl,b3⟩;have H3:Hid (Sk ρ w p 125 271 2 (lrow [.int .i64 0, .int .i64 0]) (fun i=>(vtb 1 i).toList) t l z w3):=H2.out.below b3;have b4:Below w3.heap.size w3 (w3.alloc (.cells #[.int .i64 v1, .int .i64 v2] 125)):=(Below.refl _ _).alloc (Nat.le_refl _) _;have H4:Hid (Sk ρ w p 125 271 2 (lrow [.int .i64 0, .int .i64 0]) (fun i=>(vtb 1 i).toList) t l z (w3.alloc (.cells #[.int .i64 v1, .int .i64 v2] 125))):=H3.out.below b4;have q0:(w3.alloc (.cells #[.int .i64 v1, .int .i64 v2] 125)).cell? ⟨w3.heap.size,0,none⟩=some (.int .i64 v1):=by simp
     have q1:(w3.alloc (.cells #[.int .i64 v1, .int .i64 v2] 125)).cell? ⟨w3.heap.size,1,none⟩=some (.int .i64 v2):=by simp
     have hq:w3.heap.size<(w3.alloc (.cells #[.int .i64 v1, .int .i64 v2] 125)).heap.size:=by simp
     have rq:ρ w3.heap.size=0:=H3.out.mm.new _ (Nat.le_refl _);have hgq:w3.heap.size≠w.heap.size:=by have:=H3.out.b4.lt;omega
     clear b3 b4 H2;go_wp2_with fail
     generalize w3.alloc (.cells #[.int .i64 v1, .int .i64 v2] 125)=W3 at *;refine (zw3 len H4.out.mm H4.out.ok k1.1 (by omega)).mono ?_;rintro e w5 ⟨rfl,g1,g2⟩;have s0:=g2.cell q0 hq (by rw [rq];exact no0);have s1:=g2.cell q1 hq (by rw [rq];exact no0);have H5:Hid (Sk ρ w p 125 271 2 (lrow [.int .i64 0, .int .i64 0]) (fun i=>(vtb 1 i).toList) t l (z.rd len) w5):=H4.out.next g1 (H4.out.ok.rd k1.1) g2;have u0:w5.cell? ⟨w.heap.size,0,none⟩=some (.int .i64 0):=H5.out.b4.cell (i:=0) (by omega);have u1:w5.cell? ⟨w.heap.size,1,none⟩=some (.int .i64 0):=H5.out.b4.cell (i:=1) (by omega);have x0:=H5.out.b4.frozen 0;have x1:=H5.out.b4.frozen 1;have HFIN:Hid ((((w5.setCell ⟨w.heap.size,0,none⟩ (.int .i64 v1)).setCell ⟨w.heap.size,1,none⟩ (.int .i64 v2)).heap[w.heap.size]?=some (.cells #[.int .i64 v1, .int .i64 v2] 125))∧MM ρ ((w5.setCell ⟨w.heap.size,0,none⟩ (.int .i64 v1)).setCell ⟨w.heap.size,1,none⟩ (.int .i64 v2)) p (z.rd len)∧Fr (fun k=>1<=k∧k<=5) ρ w ((w5.setCell ⟨w.heap.size,0,none⟩ (.int .i64 v1)).setCell ⟨w.heap.size,1,none⟩ (.int .i64 v2))):=by
      refine ⟨xch (((H5.out.b4).set 0 (.int .i64 v1)).set 1 (.int .i64 v2)),((H5.out.mm).setNew w.heap.size 0 (.int .i64 v1) H5.out.r4).setNew w.heap.size 1 (.int .i64 v2) H5.out.r4,((H5.out.fr).setNew w.heap.size 0 (.int .i64 v1) (Nat.le_refl _)).setNew w.heap.size 1 (.int .i64 v2) (Nat.le_refl _)⟩
     clear g1 g2;go_wp2_with fail
     refine bodyPost_ret (v7f Tryz.results149 _ _ _ _ _ _ _ rfl HFIN.out.1 Tryz.underlying125 rfl (xtd _ rfl)) rfl ?_;unfold SymE;rw [HST.out];exact ⟨by rw [← HV.out];rfl,HFIN.out.2⟩
    ·rw [if_neg hf] at HST;have HFF:Hid (Calls Tryz.prog 177 #[.pointer (some ⟨t,0,none⟩), .int .i64 c2, .int .i64 len] w2 fun x w'=>x= .returned (.tuple #[.agg #[.int .i64 0, .int .i64 0], .bool false])∧Below w2.heap.size w2 w'):=TF.2 hf;clear TF hf;go_wp2_with fail
     refine HFF.out.mono ?_;rintro e w3 ⟨rfl,b3⟩;have H3:Hid (Sk ρ w p 125 271 2 (lrow [.int .i64 0, .int .i64 0]) (fun i=>(vtb 1 i).toList) t l z w3):=H2.out.below b3;have b4:Below w3.heap.size w3 (w3.alloc (.cells #[.int .i64 0, .int .i64 0] 125)):=(Below.refl _ _).alloc (Nat.le_refl _) _;have H4:Hid (Sk ρ w p 125 271 2 (lrow [.int .i64 0, .int .i64 0]) (fun i=>(vtb 1 i).toList) t l z (w3.alloc (.cells #[.int .i64 0, .int .i64 0] 125))):=H3.out.below b4;clear b3 b4 H2;have HN:Hid (∃ r y,Sw ρ w p 125 271 2 (lrow [.int .i64 0, .int .i64 0]) (fun i=>(vtb 1 i).toList) t l R c2 (len+1) r y (w3.alloc (.cells #[.int .i64 0, .int .i64 0] 125))):=⟨r,z,H4.out.mm,H4.out.ok,by omega,HST.out.symm,by omega,by have:=HLGE.out;omega,HPW.out,H4.out.b4,H4.out.b6,H4.out.tab,H4.out.r4,H4.out.r6,H4.out.fr⟩
     go_wp2_with fail
     go_roundw
     case rel=>exact ⟨c2,len+1,rfl,by go_num,HN⟩
     case measure=>simp [intOf];omega
   ·rw [if_pos h0] at HST;obtain ⟨e,he⟩:∃ e,e=(MS.need len y).2:=⟨_,rfl⟩
    have HZ:Hid (Sk ρ w p 125 271 2 (lrow [.int .i64 0, .int .i64 0]) (fun i=>(vtb 1 i).toList) t l (MS.need len y).1 w1):=HK.out.next g1 (MS.need_ok HK.out.ok) g2;rw [← he] at h0 HST ⊢;have h0':((e:Int)==0)=false:=by simp;exact h0
    clear g1 g2 he;have u0:w1.cell? ⟨w.heap.size,0,none⟩=some (.int .i64 0):=HZ.out.b4.cell (i:=0) (by omega);have u1:w1.cell? ⟨w.heap.size,1,none⟩=some (.int .i64 0):=HZ.out.b4.cell (i:=1) (by omega);have x0:=HZ.out.b4.frozen 0;have x1:=HZ.out.b4.frozen 1;have s0:w1.cell? ⟨w.heap.size+1,0,none⟩=some (.int .i64 0):=HZ.out.b6.cell (i:=0) (by omega);have s1:w1.cell? ⟨w.heap.size+1,1,none⟩=some (.int .i64 0):=HZ.out.b6.cell (i:=1) (by omega);have HFIN:Hid ((((w1.setCell ⟨w.heap.size,0,none⟩ (.int .i64 0)).setCell ⟨w.heap.size,1,none⟩ (.int .i64 0)).heap[w.heap.size]?=some (.cells #[.int .i64 0, .int .i64 0] 125))∧MM ρ ((w1.setCell ⟨w.heap.size,0,none⟩ (.int .i64 0)).setCell ⟨w.heap.size,1,none⟩ (.int .i64 0)) p (MS.need len y).1∧Fr (fun k=>1<=k∧k<=5) ρ w ((w1.setCell ⟨w.heap.size,0,none⟩ (.int .i64 0)).setCell ⟨w.heap.size,1,none⟩ (.int .i64 0))):=by
     refine ⟨xch (((HZ.out.b4).set 0 (.int .i64 0)).set 1 (.int .i64 0)),((HZ.out.mm).setNew w.heap.size 0 (.int .i64 0) HZ.out.r4).setNew w.heap.size 1 (.int .i64 0) HZ.out.r4,((HZ.out.fr).setNew w.heap.size 0 (.int .i64 0) (Nat.le_refl _)).setNew w.heap.size 1 (.int .i64 0) (Nat.le_refl _)⟩
    go_wp2_with fail
    refine bodyPost_ret (v7f Tryz.results149 _ _ _ _ _ _ _ rfl HFIN.out.1 Tryz.underlying125 rfl (xtd _ rfl)) rfl ?_;unfold SymE;rw [HST.out];exact ⟨by rw [if_neg h0];rfl,HFIN.out.2⟩
  ·obtain rfl:r=0:=by omega
   have hlti:¬ (len:Int)<=lg:=by omega
   have HST:Hid (R=((y.refuse 11).1,3,0)):=HEQ.out.symm;clear HEQ;have s0:wr.cell? ⟨w.heap.size+1,0,none⟩=some (.int .i64 0):=HK.out.b6.cell (i:=0) (by omega);have s1:wr.cell? ⟨w.heap.size+1,1,none⟩=some (.int .i64 0):=HK.out.b6.cell (i:=1) (by omega);go_wp2_with fail
   go_region_held3 (fun wv=>wv.cell? ⟨w.heap.size+1,0,none⟩=some (.int .i64 0)∧wv.cell? ⟨w.heap.size+1,1,none⟩=some (.int .i64 0)) (first | exact ⟨s0,s1⟩ | exact ⟨a0,a1⟩ | exact ⟨(jq1 (q:=⟨w.heap.size+1,0,none⟩) (by simp)).trans a0,(jq1 (q:=⟨w.heap.size+1,1,none⟩) (by simp)).trans a1⟩)
    (first | (go_at_call 79;refine (kv8 11 (HK.out.mm.drewN 1)).mono ?_;rintro e w2 ⟨rfl,g1,g2⟩;have H2:Hid (Sk ρ w p 125 271 2 (lrow [.int .i64 0, .int .i64 0]) (fun i=>(vtb 1 i).toList) t l (y.refuse 11).1 w2):=(HK.out.drewN 1).next g1 (HK.out.ok.refuse 11) g2;have a0:w2.cell? ⟨w.heap.size+1,0,none⟩=some (.int .i64 0):=H2.out.b6.cell (i:=0) (by omega);have u0:w2.cell? ⟨w.heap.size,0,none⟩=some (.int .i64 0):=H2.out.b4.cell (i:=0) (by omega);have x0:=H2.out.b4.frozen 0;have a1:w2.cell? ⟨w.heap.size+1,1,none⟩=some (.int .i64 0):=H2.out.b6.cell (i:=1) (by omega);have u1:w2.cell? ⟨w.heap.size,1,none⟩=some (.int .i64 0):=H2.out.b4.cell (i:=1) (by omega);have x1:=H2.out.b4.frozen 1;clear g1 g2))
   all_goals
    have HFIN:Hid ((((w2.setCell ⟨w.heap.size,0,none⟩ (.int .i64 0)).setCell ⟨w.heap.size,1,none⟩ (.int .i64 0)).heap[w.heap.size]?=some (.cells #[.int .i64 0, .int .i64 0] 125))∧MM ρ ((w2.setCell ⟨w.heap.size,0,none⟩ (.int .i64 0)).setCell ⟨w.heap.size,1,none⟩ (.int .i64 0)) p (y.refuse 11).1∧Fr (fun k=>1<=k∧k<=5) ρ w ((w2.setCell ⟨w.heap.size,0,none⟩ (.int .i64 0)).setCell ⟨w.heap.size,1,none⟩ (.int .i64 0))):=by
     refine ⟨xch (((H2.out.b4).set 0 (.int .i64 0)).set 1 (.int .i64 0)),((H2.out.mm).setNew w.heap.size 0 (.int .i64 0) H2.out.r4).setNew w.heap.size 1 (.int .i64 0) H2.out.r4,((H2.out.fr).setNew w.heap.size 0 (.int .i64 0) (Nat.le_refl _)).setNew w.heap.size 1 (.int .i64 0) (Nat.le_refl _)⟩
    go_wp2_with fail
    refine bodyPost_ret (v7f Tryz.results149 _ _ _ _ _ _ _ rfl HFIN.out.1 Tryz.underlying125 rfl (xtd _ rfl)) rfl ?_;unfold SymE;rw [HST.out];exact ⟨rfl,HFIN.out.2⟩
theorem zh1{ρ:Nat->Nat}{w:World}{p t:Nat}{x:MS}{l:List Int}(h:MM ρ w p x)(ok:Ok x)(hx:x.count<=40)(ht:TabS ρ w 265 4 (fun i=>(v3q i).toList) t l) :
  Calls Tryz.prog 140 #[.pointer (some ⟨p,0,none⟩), .pointer (some ⟨t,0,none⟩)] w fun v w'=>SymE ρ w p (v3q) #[.int .i64 0, .bool false, .int .i64 0, .int .i64 0] (x.sym l) v w':=by
 obtain ⟨R,hR⟩:∃ R,R=x.sym l:=⟨_,rfl⟩
 have hlg:=j6p l;have b0:Below w.heap.size w ((w.alloc (.cells #[.int .i64 0, .bool false, .int .i64 0, .int .i64 0] 127)).alloc (.cells #[.int .i64 0, .bool false, .int .i64 0, .int .i64 0] 127)):=((Below.refl _ _).alloc (Nat.le_refl _) _).alloc (by simp) _;have H0:Hid (∃ r,Sw ρ w p 127 265 4 (lrow [.int .i64 0, .bool false, .int .i64 0, .int .i64 0]) (fun i=>(v3q i).toList) t l R 0 1 r x ((w.alloc (.cells #[.int .i64 0, .bool false, .int .i64 0, .int .i64 0] 127)).alloc (.cells #[.int .i64 0, .bool false, .int .i64 0, .int .i64 0] 127))):=by
  refine ⟨lgTo l 12,h.below b0,ok,hx,hR.symm,Nat.le_refl _,by omega,by decide,?_,?_,ht.fr (R:=fun _=>False) (Kp.of_below b0) (fun e=>e),h.new _ (Nat.le_refl _),h.new _ (by omega),Fr.below b0⟩
  ·exact (World.rowIs_alloc w #[.int .i64 0, .bool false, .int .i64 0, .int .i64 0] 127 (lrow [.int .i64 0, .bool false, .int .i64 0, .int .i64 0]) (fun i hi=>by
    have:i=0∨i=1∨i=2∨i=3:=by have:i<4:=hi;omega
    rcases this with rfl | rfl | rfl | rfl <;> rfl)).alloc _
  ·have:=World.rowIs_alloc (w.alloc (.cells #[.int .i64 0, .bool false, .int .i64 0, .int .i64 0] 127)) #[.int .i64 0, .bool false, .int .i64 0, .int .i64 0] 127 (lrow [.int .i64 0, .bool false, .int .i64 0, .int .i64 0]) (fun i hi=>by
    have:i=0∨i=1∨i=2∨i=3:=by have:i<4:=hi;omega
    rcases this with rfl | rfl | rfl | rfl <;> rfl)
   simpa using this
 rw [← hR];clear h ok hx ht hR b0;go_enter Tryz.func140,Tryz.ntmps140
 go_wp2_with fail
 go_loopw [7,8] (fun c n wr=>∃ (code len:Nat),c= .int .i64 code∧n= .int .i64 len∧Hid (∃ r y,Sw ρ w p 127 265 4 (lrow [.int .i64 0, .bool false, .int .i64 0, .int .i64 0]) (fun i=>(v3q i).toList) t l R code len r y wr)) (fun _ n _=>13 - (intOf n).toNat)
 case atStart=>exact ⟨0,1,rfl,rfl,by obtain ⟨r,h⟩:=H0.out;exact ⟨r,x,h⟩⟩
 case round=>
  clear H0;obtain ⟨code,len,rfl,rfl,HH⟩:=hrel;obtain ⟨r,y,Y⟩:=HH.out;have hn1:=Y.n1;have hnr:=Y.nr;have hcd:=Y.code;have hcnt:=Y.cnt;have HK:Hid (Sk ρ w p 127 265 4 (lrow [.int .i64 0, .bool false, .int .i64 0, .int .i64 0]) (fun i=>(v3q i).toList) t l y wr):=Y.sk;have HEQ:Hid (MS.symL l r len code y=R):=Y.eq;have HLG:Hid (Calls Tryz.prog 170 #[.pointer (some ⟨t,0,none⟩)] wr fun x w'=>x= .returned (.int .i64 (lgTo l 12))∧wr=w'):=by
   obtain ⟨m,N,mg,I,_,_,_⟩:=Y.tab.tab;exact kta I
  clear Y HH;obtain ⟨lg,hlgE⟩:∃ lg,lg=lgTo l 12:=⟨_,rfl⟩
  rw [← hlgE] at HLG hnr hlg;have HLGE:Hid (lg=lgTo l 12):=hlgE;clear hlgE;go_wp2_with fail
  refine HLG.out.mono ?_;rintro e w' ⟨rfl,rfl⟩;by_cases hlt:len<=lg
  ·obtain ⟨r,rfl⟩:∃ q,r=q+1:=⟨r - 1,by omega⟩
   have hlti:(len:Int)<=lg:=by omega
   have hcode:code<2048:=by
    have:2^(len - 1)<=2^11:=Nat.pow_le_pow_right (by decide) (by omega);have e:2^11=2048:=by decide
    omega
   have HST:Hid (R=if (MS.need len y).2≠0 then ((MS.need len y).1,(MS.need len y).2,0) else if 0<=find (rset l) len ((2*code+(MS.need len y).1.held / 2^(len - 1)%2:Nat):Int) then ((MS.need len y).1.rd len,0,(find (rset l) len ((2*code+(MS.need len y).1.held / 2^(len - 1)%2:Nat):Int)).toNat) else MS.symL l r (len+1) (2*code+(MS.need len y).1.held / 2^(len - 1)%2) (MS.need len y).1):=HEQ.out.symm;clear HEQ;go_wp2_with fail
   refine (zvo len HK.out.mm HK.out.ok (by omega) (by omega)).mono ?_;rintro v w1 ⟨rfl,g1,g2⟩;by_cases h0:(MS.need len y).2=0
   ·have k1:=MS.need_cnt HK.out.ok h0;have k3:=MS.need_ok (k:=len) HK.out.ok;rw [h0];rw [if_neg (by rw [h0];simp)] at HST;obtain ⟨z,hz⟩:∃ z,z=(MS.need len y).1:=⟨_,rfl⟩
    rw [← hz] at g1 HST k1 k3;have HZ:Hid (Sk ρ w p 127 265 4 (lrow [.int .i64 0, .bool false, .int .i64 0, .int .i64 0]) (fun i=>(v3q i).toList) t l z w1):=HK.out.next g1 k3 g2;clear g1 g2 hz h0 k3;obtain ⟨d,hd⟩:∃ d,d=len - 1:=⟨_,rfl⟩
    have hdi:(len:Int) - 1=(d:Int):=by omega
    have hdl:d<z.count:=by omega
    rw [← hd] at HST;have HD:Hid (d=len - 1):=hd;clear hd;have hb2:z.held / 2^d%2<2:=Nat.mod_lt _ (by decide);have HAT:Hid (Calls Tryz.prog 171 #[.pointer (some ⟨p,14,none⟩), .int .i64 d] w1 fun v w'=>v= .returned (.int .i64 (z.held / 2^d%2:Nat))∧MM ρ w' p z∧Fr (fun k=>1<=k∧k<=5) ρ w1 w'):=mAt d HZ.out.mm HZ.out.ok hdl (by omega);obtain ⟨b,hb⟩:∃ b,b=z.held / 2^d%2:=⟨_,rfl⟩
    rw [← hb] at HST hb2 HAT;clear hb;obtain ⟨c2,hc2⟩:∃ c2,c2=2*code+b:=⟨_,rfl⟩
    have hor:bits .or .i64 ((code:Int)*2) (b:Int)=(c2:Int):=by rw [hc2];exact vh0 code b (by omega) hb2
    have hpw:c2<2^(len+1 - 1):=by rw [hc2];exact v2g hn1 hcd hb2
    have hc2b:c2<=1000000:=by omega
    rw [← hc2] at HST;clear hc2;go_wp2_with fail
    refine HAT.out.mono ?_;rintro v w2 ⟨rfl,g1,g2⟩;have H2:Hid (Sk ρ w p 127 265 4 (lrow [.int .i64 0, .bool false, .int .i64 0, .int .i64 0]) (fun i=>(v3q i).toList) t l z w2):=HZ.out.next g1 HZ.out.ok g2;have TF:=jr4 H2.out.tab c2 len hc2b (by omega) (by omega);have HPW:Hid (c2<2^(len+1 - 1)):=hpw;clear g1 g2 HAT HZ hpw;by_cases hf:0<=find (rset l) len (c2:Int)
    ·rw [if_pos hf] at HST;obtain ⟨i,hi⟩:∃ i,i=(find (rset l) len (c2:Int)).toNat:=⟨_,rfl⟩
     have HF:=TF.1 hf;rw [← hi] at HST HF;obtain ⟨v1,v2,v3,v4,hv⟩:=HelperT.four i;have HV:Hid (v3q i=#[.int .i64 v1, .bool v2, .int .i64 v3, .int .i64 v4]):=hv;rw [hv] at HF;have HFF:Hid (Calls Tryz.prog 172 #[.pointer (some ⟨t,0,none⟩), .int .i64 c2, .int .i64 len] w2 fun x w'=>x= .returned (.tuple #[.agg #[.int .i64 v1, .bool v2, .int .i64 v3, .int .i64 v4], .bool true])∧Below w2.heap.size w2 w'):=HF;clear HF TF hf hi hv;go_wp2_with fail
     refine HFF.out.mono ?_;rintro e w3 ⟨rfl,b3⟩;have H3:Hid (Sk ρ w p 127 265 4 (lrow [.int .i64 0, .bool false, .int .i64 0, .int .i64 0]) (fun i=>(v3q i).toList) t l z w3):=H2.out.below b3;have b4:Below w3.heap.size w3 (w3.alloc (.cells #[.int .i64 v1, .bool v2, .int .i64 v3, .int .i64 v4] 127)):=(Below.refl _ _).alloc (Nat.le_refl _) _;have H4:Hid (Sk ρ w p 127 265 4 (lrow [.int .i64 0, .bool false, .int .i64 0, .int .i64 0]) (fun i=>(v3q i).toList) t l z (w3.alloc (.cells #[.int .i64 v1, .bool v2, .int .i64 v3, .int .i64 v4] 127))):=H3.out.below b4;have q0:(w3.alloc (.cells #[.int .i64 v1, .bool v2, .int .i64 v3, .int .i64 v4] 127)).cell? ⟨w3.heap.size,0,none⟩=some (.int .i64 v1):=by simp
     have q1:(w3.alloc (.cells #[.int .i64 v1, .bool v2, .int .i64 v3, .int .i64 v4] 127)).cell? ⟨w3.heap.size,1,none⟩=some (.bool v2):=by simp
     have q2:(w3.alloc (.cells #[.int .i64 v1, .bool v2, .int .i64 v3, .int .i64 v4] 127)).cell? ⟨w3.heap.size,2,none⟩=some (.int .i64 v3):=by simp
     have q3:(w3.alloc (.cells #[.int .i64 v1, .bool v2, .int .i64 v3, .int .i64 v4] 127)).cell? ⟨w3.heap.size,3,none⟩=some (.int .i64 v4):=by simp
     have hq:w3.heap.size<(w3.alloc (.cells #[.int .i64 v1, .bool v2, .int .i64 v3, .int .i64 v4] 127)).heap.size:=by simp
     have rq:ρ w3.heap.size=0:=H3.out.mm.new _ (Nat.le_refl _);have hgq:w3.heap.size≠w.heap.size:=by have:=H3.out.b4.lt;omega
     clear b3 b4 H2;go_wp2_with fail
     generalize w3.alloc (.cells #[.int .i64 v1, .bool v2, .int .i64 v3, .int .i64 v4] 127)=W3 at *;refine (zw3 len H4.out.mm H4.out.ok k1.1 (by omega)).mono ?_;rintro e w5 ⟨rfl,g1,g2⟩;have s0:=g2.cell q0 hq (by rw [rq];exact no0);have s1:=g2.cell q1 hq (by rw [rq];exact no0);have s2:=g2.cell q2 hq (by rw [rq];exact no0);have s3:=g2.cell q3 hq (by rw [rq];exact no0);have H5:Hid (Sk ρ w p 127 265 4 (lrow [.int .i64 0, .bool false, .int .i64 0, .int .i64 0]) (fun i=>(v3q i).toList) t l (z.rd len) w5):=H4.out.next g1 (H4.out.ok.rd k1.1) g2;have u0:w5.cell? ⟨w.heap.size,0,none⟩=some (.int .i64 0):=H5.out.b4.cell (i:=0) (by omega);have u1:w5.cell? ⟨w.heap.size,1,none⟩=some (.bool false):=H5.out.b4.cell (i:=1) (by omega);have u2:w5.cell? ⟨w.heap.size,2,none⟩=some (.int .i64 0):=H5.out.b4.cell (i:=2) (by omega);have u3:w5.cell? ⟨w.heap.size,3,none⟩=some (.int .i64 0):=H5.out.b4.cell (i:=3) (by omega);have x0:=H5.out.b4.frozen 0;have x1:=H5.out.b4.frozen 1;have x2:=H5.out.b4.frozen 2;have x3:=H5.out.b4.frozen 3;have HFIN:Hid ((((((w5.setCell ⟨w.heap.size,0,none⟩ (.int .i64 v1)).setCell ⟨w.heap.size,1,none⟩ (.bool v2)).setCell ⟨w.heap.size,2,none⟩ (.int .i64 v3)).setCell ⟨w.heap.size,3,none⟩ (.int .i64 v4)).heap[w.heap.size]?=some (.cells #[.int .i64 v1, .bool v2, .int .i64 v3, .int .i64 v4] 127))∧MM ρ ((((w5.setCell ⟨w.heap.size,0,none⟩ (.int .i64 v1)).setCell ⟨w.heap.size,1,none⟩ (.bool v2)).setCell ⟨w.heap.size,2,none⟩ (.int .i64 v3)).setCell ⟨w.heap.size,3,none⟩ (.int .i64 v4)) p (z.rd len)∧Fr (fun k=>1<=k∧k<=5) ρ w ((((w5.setCell ⟨w.heap.size,0,none⟩ (.int .i64 v1)).setCell ⟨w.heap.size,1,none⟩ (.bool v2)).setCell ⟨w.heap.size,2,none⟩ (.int .i64 v3)).setCell ⟨w.heap.size,3,none⟩ (.int .i64 v4))):=by
      refine ⟨zgh (((((H5.out.b4).set 0 (.int .i64 v1)).set 1 (.bool v2)).set 2 (.int .i64 v3)).set 3 (.int .i64 v4)),((((H5.out.mm).setNew w.heap.size 0 (.int .i64 v1) H5.out.r4).setNew w.heap.size 1 (.bool v2) H5.out.r4).setNew w.heap.size 2 (.int .i64 v3) H5.out.r4).setNew w.heap.size 3 (.int .i64 v4) H5.out.r4,((((H5.out.fr).setNew w.heap.size 0 (.int .i64 v1) (Nat.le_refl _)).setNew w.heap.size 1 (.bool v2) (Nat.le_refl _)).setNew w.heap.size 2 (.int .i64 v3) (Nat.le_refl _)).setNew w.heap.size 3 (.int .i64 v4) (Nat.le_refl _)⟩
     clear g1 g2;go_wp2_with fail
     refine bodyPost_ret (v7f Tryz.results140 _ _ _ _ _ _ _ rfl HFIN.out.1 Tryz.underlying127 rfl (yfc _ rfl)) rfl ?_;unfold SymE;rw [HST.out];exact ⟨by rw [← HV.out];rfl,HFIN.out.2⟩
    ·rw [if_neg hf] at HST;have HFF:Hid (Calls Tryz.prog 172 #[.pointer (some ⟨t,0,none⟩), .int .i64 c2, .int .i64 len] w2 fun x w'=>x= .returned (.tuple #[.agg #[.int .i64 0, .bool false, .int .i64 0, .int .i64 0], .bool false])∧Below w2.heap.size w2 w'):=TF.2 hf;clear TF hf;go_wp2_with fail
     refine HFF.out.mono ?_;rintro e w3 ⟨rfl,b3⟩;have H3:Hid (Sk ρ w p 127 265 4 (lrow [.int .i64 0, .bool false, .int .i64 0, .int .i64 0]) (fun i=>(v3q i).toList) t l z w3):=H2.out.below b3;have b4:Below w3.heap.size w3 (w3.alloc (.cells #[.int .i64 0, .bool false, .int .i64 0, .int .i64 0] 127)):=(Below.refl _ _).alloc (Nat.le_refl _) _;have H4:Hid (Sk ρ w p 127 265 4 (lrow [.int .i64 0, .bool false, .int .i64 0, .int .i64 0]) (fun i=>(v3q i).toList) t l z (w3.alloc (.cells #[.int .i64 0, .bool false, .int .i64 0, .int .i64 0] 127))):=H3.out.below b4;clear b3 b4 H2;have HN:Hid (∃ r y,Sw ρ w p 127 265 4 (lrow [.int .i64 0, .bool false, .int .i64 0, .int .i64 0]) (fun i=>(v3q i).toList) t l R c2 (len+1) r y (w3.alloc (.cells #[.int .i64 0, .bool false, .int .i64 0, .int .i64 0] 127))):=⟨r,z,H4.out.mm,H4.out.ok,by omega,HST.out.symm,by omega,by have:=HLGE.out;omega,HPW.out,H4.out.b4,H4.out.b6,H4.out.tab,H4.out.r4,H4.out.r6,H4.out.fr⟩
     go_wp2_with fail
     go_roundw
     case rel=>exact ⟨c2,len+1,rfl,by go_num,HN⟩
     case measure=>simp [intOf];omega
   ·rw [if_pos h0] at HST;obtain ⟨e,he⟩:∃ e,e=(MS.need len y).2:=⟨_,rfl⟩
    have HZ:Hid (Sk ρ w p 127 265 4 (lrow [.int .i64 0, .bool false, .int .i64 0, .int .i64 0]) (fun i=>(v3q i).toList) t l (MS.need len y).1 w1):=HK.out.next g1 (MS.need_ok HK.out.ok) g2;rw [← he] at h0 HST ⊢;have h0':((e:Int)==0)=false:=by simp;exact h0
    clear g1 g2 he;have u0:w1.cell? ⟨w.heap.size,0,none⟩=some (.int .i64 0):=HZ.out.b4.cell (i:=0) (by omega);have u1:w1.cell? ⟨w.heap.size,1,none⟩=some (.bool false):=HZ.out.b4.cell (i:=1) (by omega);have u2:w1.cell? ⟨w.heap.size,2,none⟩=some (.int .i64 0):=HZ.out.b4.cell (i:=2) (by omega);have u3:w1.cell? ⟨w.heap.size,3,none⟩=some (.int .i64 0):=HZ.out.b4.cell (i:=3) (by omega);have x0:=HZ.out.b4.frozen 0;have x1:=HZ.out.b4.frozen 1;have x2:=HZ.out.b4.frozen 2;have x3:=HZ.out.b4.frozen 3;have s0:w1.cell? ⟨w.heap.size+1,0,none⟩=some (.int .i64 0):=HZ.out.b6.cell (i:=0) (by omega);have s1:w1.cell? ⟨w.heap.size+1,1,none⟩=some (.bool false):=HZ.out.b6.cell (i:=1) (by omega);have s2:w1.cell? ⟨w.heap.size+1,2,none⟩=some (.int .i64 0):=HZ.out.b6.cell (i:=2) (by omega);have s3:w1.cell? ⟨w.heap.size+1,3,none⟩=some (.int .i64 0):=HZ.out.b6.cell (i:=3) (by omega);have HFIN:Hid ((((((w1.setCell ⟨w.heap.size,0,none⟩ (.int .i64 0)).setCell ⟨w.heap.size,1,none⟩ (.bool false)).setCell ⟨w.heap.size,2,none⟩ (.int .i64 0)).setCell ⟨w.heap.size,3,none⟩ (.int .i64 0)).heap[w.heap.size]?=some (.cells #[.int .i64 0, .bool false, .int .i64 0, .int .i64 0] 127))∧MM ρ ((((w1.setCell ⟨w.heap.size,0,none⟩ (.int .i64 0)).setCell ⟨w.heap.size,1,none⟩ (.bool false)).setCell ⟨w.heap.size,2,none⟩ (.int .i64 0)).setCell ⟨w.heap.size,3,none⟩ (.int .i64 0)) p (MS.need len y).1∧Fr (fun k=>1<=k∧k<=5) ρ w ((((w1.setCell ⟨w.heap.size,0,none⟩ (.int .i64 0)).setCell ⟨w.heap.size,1,none⟩ (.bool false)).setCell ⟨w.heap.size,2,none⟩ (.int .i64 0)).setCell ⟨w.heap.size,3,none⟩ (.int .i64 0))):=by
     refine ⟨zgh (((((HZ.out.b4).set 0 (.int .i64 0)).set 1 (.bool false)).set 2 (.int .i64 0)).set 3 (.int .i64 0)),((((HZ.out.mm).setNew w.heap.size 0 (.int .i64 0) HZ.out.r4).setNew w.heap.size 1 (.bool false) HZ.out.r4).setNew w.heap.size 2 (.int .i64 0) HZ.out.r4).setNew w.heap.size 3 (.int .i64 0) HZ.out.r4,((((HZ.out.fr).setNew w.heap.size 0 (.int .i64 0) (Nat.le_refl _)).setNew w.heap.size 1 (.bool false) (Nat.le_refl _)).setNew w.heap.size 2 (.int .i64 0) (Nat.le_refl _)).setNew w.heap.size 3 (.int .i64 0) (Nat.le_refl _)⟩
    go_wp2_with fail
    refine bodyPost_ret (v7f Tryz.results140 _ _ _ _ _ _ _ rfl HFIN.out.1 Tryz.underlying127 rfl (yfc _ rfl)) rfl ?_;unfold SymE;rw [HST.out];exact ⟨by rw [if_neg h0];rfl,HFIN.out.2⟩
  ·obtain rfl:r=0:=by omega
   have hlti:¬ (len:Int)<=lg:=by omega
   have HST:Hid (R=((y.refuse 11).1,3,0)):=HEQ.out.symm;clear HEQ;have s0:wr.cell? ⟨w.heap.size+1,0,none⟩=some (.int .i64 0):=HK.out.b6.cell (i:=0) (by omega);have s1:wr.cell? ⟨w.heap.size+1,1,none⟩=some (.bool false):=HK.out.b6.cell (i:=1) (by omega);have s2:wr.cell? ⟨w.heap.size+1,2,none⟩=some (.int .i64 0):=HK.out.b6.cell (i:=2) (by omega);have s3:wr.cell? ⟨w.heap.size+1,3,none⟩=some (.int .i64 0):=HK.out.b6.cell (i:=3) (by omega);go_wp2_with fail
   go_region_held3 (fun wv=>wv.cell? ⟨w.heap.size+1,0,none⟩=some (.int .i64 0)∧wv.cell? ⟨w.heap.size+1,1,none⟩=some (.bool false)∧wv.cell? ⟨w.heap.size+1,2,none⟩=some (.int .i64 0)∧wv.cell? ⟨w.heap.size+1,3,none⟩=some (.int .i64 0)) (first | exact ⟨s0,s1,s2,s3⟩ | exact ⟨a0,a1,a2,a3⟩ | exact ⟨(HelperT.four_set_cell (q:=⟨w.heap.size+1,0,none⟩) (by simp)).trans a0,(HelperT.four_set_cell (q:=⟨w.heap.size+1,1,none⟩) (by simp)).trans a1,(HelperT.four_set_cell (q:=⟨w.heap.size+1,2,none⟩) (by simp)).trans a2,(HelperT.four_set_cell (q:=⟨w.heap.size+1,3,none⟩) (by simp)).trans a3⟩)
    (first | (go_at_call 79;refine (kv8 11 (HK.out.mm.drewN 1)).mono ?_;rintro e w2 ⟨rfl,g1,g2⟩;have H2:Hid (Sk ρ w p 127 265 4 (lrow [.int .i64 0, .bool false, .int .i64 0, .int .i64 0]) (fun i=>(v3q i).toList) t l (y.refuse 11).1 w2):=(HK.out.drewN 1).next g1 (HK.out.ok.refuse 11) g2;have a0:w2.cell? ⟨w.heap.size+1,0,none⟩=some (.int .i64 0):=H2.out.b6.cell (i:=0) (by omega);have u0:w2.cell? ⟨w.heap.size,0,none⟩=some (.int .i64 0):=H2.out.b4.cell (i:=0) (by omega);have x0:=H2.out.b4.frozen 0;have a1:w2.cell? ⟨w.heap.size+1,1,none⟩=some (.bool false):=H2.out.b6.cell (i:=1) (by omega);have u1:w2.cell? ⟨w.heap.size,1,none⟩=some (.bool false):=H2.out.b4.cell (i:=1) (by omega);have x1:=H2.out.b4.frozen 1;have a2:w2.cell? ⟨w.heap.size+1,2,none⟩=some (.int .i64 0):=H2.out.b6.cell (i:=2) (by omega);have u2:w2.cell? ⟨w.heap.size,2,none⟩=some (.int .i64 0):=H2.out.b4.cell (i:=2) (by omega);have x2:=H2.out.b4.frozen 2;have a3:w2.cell? ⟨w.heap.size+1,3,none⟩=some (.int .i64 0):=H2.out.b6.cell (i:=3) (by omega);have u3:w2.cell? ⟨w.heap.size,3,none⟩=some (.int .i64 0):=H2.out.b4.cell (i:=3) (by omega);have x3:=H2.out.b4.frozen 3;clear g1 g2))
   all_goals
    have HFIN:Hid ((((((w2.setCell ⟨w.heap.size,0,none⟩ (.int .i64 0)).setCell ⟨w.heap.size,1,none⟩ (.bool false)).setCell ⟨w.heap.size,2,none⟩ (.int .i64 0)).setCell ⟨w.heap.size,3,none⟩ (.int .i64 0)).heap[w.heap.size]?=some (.cells #[.int .i64 0, .bool false, .int .i64 0, .int .i64 0] 127))∧MM ρ ((((w2.setCell ⟨w.heap.size,0,none⟩ (.int .i64 0)).setCell ⟨w.heap.size,1,none⟩ (.bool false)).setCell ⟨w.heap.size,2,none⟩ (.int .i64 0)).setCell ⟨w.heap.size,3,none⟩ (.int .i64 0)) p (y.refuse 11).1∧Fr (fun k=>1<=k∧k<=5) ρ w ((((w2.setCell ⟨w.heap.size,0,none⟩ (.int .i64 0)).setCell ⟨w.heap.size,1,none⟩ (.bool false)).setCell ⟨w.heap.size,2,none⟩ (.int .i64 0)).setCell ⟨w.heap.size,3,none⟩ (.int .i64 0))):=by
     refine ⟨zgh (((((H2.out.b4).set 0 (.int .i64 0)).set 1 (.bool false)).set 2 (.int .i64 0)).set 3 (.int .i64 0)),((((H2.out.mm).setNew w.heap.size 0 (.int .i64 0) H2.out.r4).setNew w.heap.size 1 (.bool false) H2.out.r4).setNew w.heap.size 2 (.int .i64 0) H2.out.r4).setNew w.heap.size 3 (.int .i64 0) H2.out.r4,((((H2.out.fr).setNew w.heap.size 0 (.int .i64 0) (Nat.le_refl _)).setNew w.heap.size 1 (.bool false) (Nat.le_refl _)).setNew w.heap.size 2 (.int .i64 0) (Nat.le_refl _)).setNew w.heap.size 3 (.int .i64 0) (Nat.le_refl _)⟩
    go_wp2_with fail
    refine bodyPost_ret (v7f Tryz.results140 _ _ _ _ _ _ _ rfl HFIN.out.1 Tryz.underlying127 rfl (yfc _ rfl)) rfl ?_;unfold SymE;rw [HST.out];exact ⟨rfl,HFIN.out.2⟩
def mine(k:Nat):Prop:=k≠0∧k≠9
def Ext(B:Nat)(ρ ρ':Nat->Nat):Prop:=∀ k,k<B->ρ' k=ρ k
theorem Ext.refl(B:Nat)(ρ:Nat->Nat):Ext B ρ ρ:=fun _ _=>rfl
theorem Ext.trans{B B':Nat}{a b c:Nat->Nat}(h:Ext B a b)(k:Ext B' b c)(hB:B<=B'):Ext B a c:=fun i hi=>(k i (by omega)).trans (h i hi)
theorem Fr.five_mine{ρ:Nat->Nat}{w w':World}(h:Fr (fun k=>1<=k∧k<=5) ρ w w'):Fr mine ρ w w':=h.mono (fun k hk=>⟨by omega,by omega⟩)
theorem Fr.ext{ρ ρ':Nat->Nat}{a b c:World}(h:Fr mine ρ a b)(k:Fr mine ρ' b c)(e:Ext a.heap.size ρ ρ'):Fr mine ρ a c:=⟨⟨Nat.le_trans h.kp.size k.kp.size,fun i hi hr=>by
  rw [k.kp.block i (Nat.lt_of_lt_of_le hi h.kp.size) (by rw [e i hi];exact hr)];exact h.kp.block i hi hr⟩,k.os.trans h.os,k.tape.trans h.tape,k.output.trans h.output⟩
structure ym0(ρ:Nat->Nat)(w:World)(p:Nat)(y:MS)(w':World):Prop where
 ex:∃ ρ',Ext w.heap.size ρ ρ'∧MM ρ' w' p y
 fr:Fr mine ρ w w'
def xxu(ρ:Nat->Nat)(w:World)(p:Nat)(r:MS×Nat)(e:Ending)(w':World):Prop:=e= .returned (.int .i64 r.2)∧ym0 ρ w p r.1 w'
theorem y0y.x{ρ:Nat->Nat}{w:World}{p:Nat}{r:MS×Nat}{e:Ending}{w':World}(h:y0y ρ w p r e w'):xxu ρ w p r e w':=⟨h.1,⟨ρ,Ext.refl _ _,h.2.1⟩,h.2.2.five_mine⟩
theorem ym0.refl{ρ:Nat->Nat}{w:World}{p:Nat}{y:MS}(h:MM ρ w p y):ym0 ρ w p y w:=⟨⟨ρ,Ext.refl _ _,h⟩,Fr.refl _ _ _⟩
theorem ym0.next{ρ ρ':Nat->Nat}{w w1 w2:World}{p:Nat}{z:MS}(e:Ext w.heap.size ρ ρ')(f:Fr mine ρ w w1)(h:ym0 ρ' w1 p z w2):ym0 ρ w p z w2:=by
 obtain ⟨ρ'',e2,m⟩:=h.ex;exact ⟨⟨ρ'',e.trans e2 f.kp.size,m⟩,f.ext h.fr e⟩
theorem TabS.rho{ρ ρ':Nat->Nat}{w:World}{T:TypeId}{k:Nat}{mean:Nat->List Value}{t:Nat}{l:List Int}(h:TabS ρ w T k mean t l)(e:∀ k,ρ k≠0->ρ' k=ρ k):TabS ρ' w T k mean t l:=by
 obtain ⟨m,n,mg,I,h1,h2,h3⟩:=h.tab;exact ⟨⟨m,n,mg,I,h1,h2,by rw [e m (by rw [h3];decide)];exact h3⟩,by rw [e t (by rw [h.role];decide)];exact h.role,h.rng,h.len⟩
theorem yoe.rho{ρ ρ':Nat->Nat}{w:World}{g:Nat}{la lb:List Int}(h:yoe ρ w g la lb)(e:∀ k,ρ k≠0->ρ' k=ρ k):yoe ρ' w g la lb:=by
 obtain ⟨t,u,h1,h2,h3,h4⟩:=h;exact ⟨t,u,h1,by rw [e g (by rw [h2];decide)];exact h2,h3.rho e,h4.rho e⟩
theorem MT.rho{ρ ρ':Nat->Nat}{w:World}{x:MS}{L:Lo}(T:MT ρ w x L)(e:∀ k,ρ k≠0->ρ' k=ρ k)(l:∀ k,ρ' k≠0->k<w.heap.size):MT ρ' w x L where
 sup:=by
  obtain ⟨ad,P,cap,h1,h2,h3,h4,h5,h6,h7,h8⟩:=T.sup.at_;exact ⟨ad,P,cap,h1,h2,h3,h4,h5,h6,h7,fun b o hb=>by rw [e b (by rw [h8 b o hb];decide)];exact h8 b o hb⟩
 hl:=⟨T.hl.1,fun g hg=>by rw [e g (by rw [T.hl.2 g hg];decide)];exact T.hl.2 g hg⟩
 rw:=⟨T.rw.1,fun g hg=>by rw [e g (by rw [T.rw.2 g hg];decide)];exact T.rw.2 g hg⟩
 hp:=T.hp.imp id fun ⟨t,a,b⟩=>⟨t,a,b.rho e⟩
 sets:=T.sets.imp id fun ⟨t,a,b⟩=>⟨t,a,b.rho e⟩
 fx:=T.fx.imp id fun ⟨t,a,b⟩=>⟨t,a,b.rho e⟩
 lt:=l
theorem MB.rho{ρ ρ':Nat->Nat}{w:World}{p:Nat}{x:MS}{L:Lo}(B:MB ρ w p x L)(e:∀ k,ρ k≠0->ρ' k=ρ k):MB ρ' w p x L:=by
 obtain ⟨r1,r2,r3,r4⟩:=B.rl;exact ⟨B.row,B.ra,B.rc,by rw [e p (by rw [B.rp];decide)];exact B.rp,by rw [e _ (by rw [r1];decide)];exact r1,by rw [e _ (by rw [r2];decide)];exact r2,by rw [e _ (by rw [r3];decide)];exact r3,by rw [e _ (by rw [r4];decide)];exact r4⟩
def give(ρ:Nat->Nat)(g r:Nat):Nat->Nat:=fun k=>if k=g then r else ρ k
theorem v07(ρ:Nat->Nat)(g r:Nat):give ρ g r g=r:=if_pos rfl
theorem z5c{ρ:Nat->Nat}{g r:Nat}(h:ρ g=0∨ρ g=r)(k:Nat)(hk:ρ k≠0):give ρ g r k=ρ k:=by
 unfold give;by_cases e:k=g
 ·subst e;rw [if_pos rfl];rcases h with h | h
  ·exact absurd h hk
  ·exact h.symm
 ·rw [if_neg e]
theorem jpj{ρ:Nat->Nat}{w w1:World}{p:Nat}{x:MS}{L:Lo}{g cap:Nat}{a:Int}{o:Obj}(B:MB ρ w p x L)(T:MT ρ w x L)
  (hown:w1.ownsRow 0 3 1 (.slice (some ⟨g,0,none⟩) (x.row.length+1) cap) (x.row.length+1) (k2f x.row++[.int .i64 a])) (hg:(w.alloc o).grownBy w1 L.rv.ownBlock) (hat:L.rv.ownBlock=some g∨g=w.heap.size+1) (hlt:g<w1.heap.size) :
  MM (give ρ g 7) (w1.setCell ⟨p,35,none⟩ (.slice (some ⟨g,0,none⟩) (x.row.length+1) cap)) p { x with row:=x.row++[a] }∧Ext w.heap.size ρ (give ρ g 7)∧Fr mine ρ w (w1.setCell ⟨p,35,none⟩ (.slice (some ⟨g,0,none⟩) (x.row.length+1) cap)):=by
 have hgr:ρ g=0∨ρ g=7:=by
  rcases hat with h | h
  ·exact Or.inr (T.rw.2 g h)
  ·left
   apply Classical.byContradiction;intro hn;have:=T.lt g hn;omega
 have kp:Kp (fun r=>r=7) ρ w w1:=⟨by have:=hg.size;simp at this;omega,fun k hk hr=>by
  rw [hg.block k (by simp;omega) (fun e=>hr (T.rw.2 k e.symm))];exact Go.heap_alloc_old _ _ hk⟩
 have keep:=z5c (ρ:=ρ) (g:=g) (r:=7) hgr;obtain ⟨o1,f1,k1⟩:=B.ra;obtain ⟨o2,f2,k2⟩:=B.rc;obtain ⟨r1,r2,r3,r4⟩:=B.rl;have B1:MB ρ w1 p x L:=⟨zlz B.row kp (by rw [B.rp];decide),⟨o1,f1,k1.kp kp (by rw [r1];decide) (by rw [r2];decide)⟩,⟨o2,f2,k2.kp kp (by rw [r3];decide) (by rw [r4];decide)⟩,B.rp,B.rl⟩
 have hpg:p≠g:=by
  rcases hgr with h | h
  ·exact x1n B.rp h (by decide)
  ·exact x1n B.rp h (by decide)
 have ext:Ext w.heap.size ρ (give ρ g 7):=fun k hk=>by
  unfold give;by_cases e:k=g
  ·subst e;rw [if_pos rfl];rcases hat with h | h
   ·exact (T.rw.2 k h).symm
   ·omega
  ·rw [if_neg e]
 refine ⟨⟨{ L with rv:= .slice (some ⟨g,0,none⟩) (x.row.length+1) cap },(B1.rho keep).set 35 _ rfl ⟨rfl,rfl,rfl,rfl⟩ ⟨rfl,rfl⟩,?_⟩,ext,?_⟩
 ·have keep2:MT (give ρ g 7) w1 { x with row:=x.row++[a] } { L with rv:= .slice (some ⟨g,0,none⟩) (x.row.length+1) cap }:=by
   have T':MT ρ w1 { x with row:=[] } { L with rv:= .slice none 0 0 }:=⟨T.sup.fr kp (by decide),⟨kcz T.hl.1 kp (fun b hb e=>by rw [T.hl.2 b hb] at e;cases e),T.hl.2⟩,⟨OI.nil _ _,fun b hb=>by cases hb⟩,T.hp.imp id fun ⟨t,a,b⟩=>⟨t,a,b.fr kp (by decide)⟩,T.sets.imp id fun ⟨t,a,b⟩=>⟨t,a,b.fr kp (by decide)⟩,T.fx.imp id fun ⟨t,a,b⟩=>⟨t,a,b.fr kp (by decide)⟩,fun k hk=>Nat.lt_of_lt_of_le (T.lt k hk) kp.size⟩
   have T2:=T'.rho keep (fun k hk=>by
    unfold give at hk;by_cases e:k=g
    ·subst e;exact hlt
    ·rw [if_neg e] at hk;exact T'.lt k hk)
   refine ⟨T2.sup,T2.hl,⟨?_,fun b hb=>?_⟩,T2.hp,T2.sets,T2.fx,T2.lt⟩
   ·show w1.ownsRow 0 3 1 (.slice (some ⟨g,0,none⟩) (x.row.length+1) cap) (x.row++[a]).length (k2f (x.row++[a]));have e1:(x.row++[a]).length=x.row.length+1:=by simp
    have e2:k2f (x.row++[a])=k2f x.row++[.int .i64 a]:=by unfold k2f;simp
    rw [e1,e2];exact hown
   ·have:b=g:=by have h:some g=some b:=hb;injection h with h;exact h.symm
    rw [this];exact v07 _ _ _
  exact keep2.fr (R:=fun r=>r=1) (Kp.of_set w1 _ _ (by show give ρ g 7 p=1;unfold give;rw [if_neg hpg];exact B.rp)) (fun r e=>by omega)
 ·have f1:Fr mine ρ w w1:=⟨kp.mono (fun r e=>⟨by omega,by omega⟩),by rw [hg.os];rfl,by rw [hg.tape];rfl,by rw [hg.output];rfl⟩
  exact f1.trans (Fr.set _ p 35 _ (by rw [B.rp];exact ⟨by decide,by decide⟩))
theorem MM.own{ρ:Nat->Nat}{w:World}{p:Nat}{x:MS}(h:MM ρ w p x):w.cell? ⟨p,26,none⟩=some (.int .i64 x.nl)∧w.cell? ⟨p,27,none⟩=some (.int .i64 x.nd)∧w.cell? ⟨p,28,none⟩=some (.int .i64 x.told)∧w.cell? ⟨p,31,none⟩=some (.int .i64 x.hlen)∧w.cell? ⟨p,32,none⟩=some (.bool x.hbef)∧w.cell? ⟨p,33,none⟩=some (.int .i64 x.hleast)∧w.cell? ⟨p,34,none⟩=some (.int .i64 x.hbits)∧(∃ ad cap,w.cell? ⟨p,35,none⟩=some (.slice ad x.row.length cap)∧xin w ad x.row)∧w.frozen? ⟨p,35,none⟩=false:=by
 obtain ⟨L,B,T⟩:=h;obtain ⟨ad,cap,e,hc⟩:=T.rw.1.cells;exact ⟨B.row.cell (i:=26) (by omega),B.row.cell (i:=27) (by omega),B.row.cell (i:=28) (by omega),B.row.cell (i:=31) (by omega),B.row.cell (i:=32) (by omega),B.row.cell (i:=33) (by omega),B.row.cell (i:=34) (by omega),⟨ad,cap,by rw [← e];exact B.row.cell (i:=35) (by omega),hc⟩,B.row.frozen 35⟩
theorem ksc{ρ:Nat->Nat}{w:World}{p:Nat}{x:MS}(h:MM ρ w p x)(h1:x.nl<=1000000)(h2:x.nd<=1000000)(h3:x.row.length<=1000000) :
  Calls Tryz.prog 143 #[.pointer (some ⟨p,26,none⟩)] w fun v w'=>v= .returned (.bool (decide (x.row.length=x.nl+x.nd)))∧∃ n,w'=w.drewN n:=by
 obtain ⟨c26,c27,_,_,_,_,_,⟨ad,cap,c35,_⟩,_⟩:=h.own;clear h;go_enter Tryz.func143,Tryz.ntmps143
 go_wp2_with fail
 go_quiet (fail)
 go_wp2_with fail
 go_ret
 refine ⟨?_,_,rfl⟩;by_cases e:x.row.length=x.nl+x.nd
 ·simp [e]
 ·simp [e];omega
theorem xr0(l:List Int)(a:Int)(k:Nat):l++List.replicate (k+1) a=(l++List.replicate k a)++[a]:=by
 rw [List.replicate_succ',List.append_assoc]
def ExtE(ρ:Nat->Nat)(w:World)(p:Nat)(x:MS)(times:Nat)(e:Ending)(w':World):Prop:=
 if (x.hbef=true∧x.row.length=0)∨x.nl+x.nd<x.row.length+times then e= .returned (.bool false)∧ym0 ρ w p x w'
 else e= .returned (.bool true)∧ym0 ρ w p { x with row:=x.row++List.replicate times x.rowLen } w'
theorem juf{ρ:Nat->Nat}{w:World}{p:Nat}{x:MS}(times:Nat)(h:MM ρ w p x)(h1:x.nl<=1000)(h2:x.nd<=1000)(h3:x.row.length<=2000)(ht:times<=1000)(hh:x.hlen<=1000) :
  Calls Tryz.prog 142 #[.pointer (some ⟨p,26,none⟩), .int .i64 times] w fun v w'=>ExtE ρ w p x times v w':=by
 have HM:Hid (MM ρ w p x):=h;obtain ⟨c26,c27,_,c31,c32,_,_,⟨ad,cap,c35,HCO⟩,z35⟩:=h.own;have HC:Hid (xin w ad x.row):=HCO;obtain ⟨i3,hi3,hy0,hy1,hy2⟩:=info_parts ve2;clear h HCO;go_enter Tryz.func142,Tryz.ntmps142
 cases hb:x.hbef with
 | false=>
  rw [hb] at c32;have HBF:Hid (x.hbef=false):=hb;clear hb;by_cases hs:x.nl+x.nd<x.row.length+times
  ·have hsi:(x.nl:Int)+x.nd<x.row.length+times:=by omega
   have HF:Hid ((x.hbef=true∧x.row.length=0)∨x.nl+x.nd<x.row.length+times):=Or.inr hs;clear hs;go_wp2_with fail
   go_quiet (fail)
   go_wp2_with fail
   go_ret
   unfold ExtE;rw [if_pos HF.out];exact ⟨rfl,⟨ρ,Ext.refl _ _,HM.out.fr ⟨Nat.le_refl _,fun _ _ _=>rfl⟩⟩,⟨⟨Nat.le_refl _,fun _ _ _=>rfl⟩,rfl,rfl,rfl⟩⟩
  ·have hsi:¬ (x.nl:Int)+x.nd<x.row.length+times:=by omega
   have HF:Hid (¬ ((x.hbef=true∧x.row.length=0)∨x.nl+x.nd<x.row.length+times)):=by
    intro hq;rcases hq with hq | hq
    ·exact by have:=hq.1;rw [HBF.out] at this;cases this
    ·exact hs hq
   clear hs;go_wp2_with fail
   go_quiet (fail)
   go_wp2_with fail
   have H0:Hid (∀ w',w'.heap=w.heap->w'.os=w.os->w'.tape=w.tape->w'.output=w.output->ym0 ρ w p { x with row:=x.row++List.replicate 0 ((x.hlen:Int)) } w'):=by
    have e:({ x with row:=x.row++List.replicate 0 ((x.hlen:Int)) }:MS)=x:=by simp
    rw [e];exact fun w' h1 h2 h3 h4=>⟨⟨ρ,Ext.refl _ _,HM.out.fr ⟨by rw [h1];exact Nat.le_refl _,fun _ _ _=>by rw [h1]⟩⟩,⟨⟨by rw [h1];exact Nat.le_refl _,fun _ _ _=>by rw [h1]⟩,h2,h3,h4⟩⟩
   clear c26 c27 c31 c32 c35 HC z35;generalize decide (x.nl+x.nd<x.row.length+times)=dd;go_loopw [52] (fun i wr=>∃ k:Nat,k<=times∧i= .int .i64 k∧Hid (ym0 ρ w p { x with row:=x.row++List.replicate k ((x.hlen:Int)) } wr)) (fun i _=>times - (intOf i).toNat)
   case atStart=>exact ⟨0,Nat.zero_le _,rfl,H0.out _ rfl rfl rfl rfl⟩
   case round=>
    clear H0;obtain ⟨k,hk,rfl,HH⟩:=hrel;by_cases hlt:k<times
    ·obtain ⟨ρ',ex,L,B,T⟩:=HH.out.ex;have hown:=T.rw.1;have hrl:(x.row++List.replicate k ((x.hlen:Int))).length=x.row.length+k:=by simp
     obtain ⟨ad2,cap2,hv2,_⟩:=T.rw.1.cells;have d35:wr.cell? ⟨p,35,none⟩=some L.rv:=B.row.cell (i:=35) (by omega);have y35:=B.row.frozen 35;have hpl:=B.row.lt;have HB:Hid (MB ρ' wr p { x with row:=x.row++List.replicate k ((x.hlen:Int)) } L∧MT ρ' wr { x with row:=x.row++List.replicate k ((x.hlen:Int)) } L∧Ext w.heap.size ρ ρ'∧Fr mine ρ w wr):=⟨B,T,ex,HH.out.fr⟩
     have hown':wr.ownsRow 0 3 1 L.rv (x.row.length+k) (k2f (x.row++List.replicate k ((x.hlen:Int)))):=by
      have:=hown;unfold OI at this;rw [show ({ x with row:=x.row++List.replicate k ((x.hlen:Int)) }:MS).row.length=x.row.length+k from hrl] at this;exact this
     have hpo:L.rv.ownBlock≠some p:=fun e=>by
      have a1:=T.rw.2 p e;have a2:=B.rp;omega
     obtain ⟨lv,hlv⟩:∃ lv,lv=L.rv:=⟨_,rfl⟩
     rw [← hlv] at d35 hown' hpo;have HLV:Hid (lv=L.rv):=hlv;clear hown hlv hv2 B T ex;go_wp2_with (at_builtin;refine wpList_append_lies _ rfl _ _ 69 rfl 0 3 i3 (.int .i64 0) 1 8 Tryz.underlying69 hi3 hy0 hy1 hy2 rfl (by decide) _ (x.row.length+k) (k2f (x.row++List.replicate k ((x.hlen:Int)))) rfl (hown'.alloc _) ⟨wr.heap.size,0,none⟩ 1 1 [.int .i64 ((x.hlen:Int))] rfl rfl (cell_one_new _ _ _) (by simp [Value.oneCell']) (by omega) (by unfold maxLen;omega) (by omega) (Nat.zero_le _) (wr.heap.size+1) (by simp) ?_;intro g2 p2 w5 hown2 hgrow2 hat2 hlt2;have d35':=x7a (a:=⟨p,35,none⟩) hgrow2 hpl hpo d35;have y35':=jk1 (a:=⟨p,35,none⟩) hgrow2 hpl hpo y35)
     have HG:Hid (ym0 ρ w p { x with row:=x.row++List.replicate (k+1) ((x.hlen:Int)) } (w5.setCell ⟨p,35,none⟩ (.slice (some ⟨g2,0,none⟩) (x.row.length+k+1) p2))):=by
      have hl2:({ x with row:=x.row++List.replicate k ((x.hlen:Int)) }:MS).row.length=x.row.length+k:=hrl;have G:=jpj (g:=g2) (cap:=p2) (a:=(x.hlen:Int)) HB.out.1 HB.out.2.1 (by rw [hl2];exact hown2) (by rw [← HLV.out];exact hgrow2) (by rw [← HLV.out];exact hat2) hlt2;rw [hl2] at G;have e:({ ({ x with row:=x.row++List.replicate k ((x.hlen:Int)) }:MS) with row:=({ x with row:=x.row++List.replicate k ((x.hlen:Int)) }:MS).row++[(x.hlen:Int)] }:MS)={ x with row:=x.row++List.replicate (k+1) ((x.hlen:Int)) }:=by rw [xr0]
      rw [e] at G;exact ⟨⟨_,HB.out.2.2.1.trans G.2.1 HB.out.2.2.2.kp.size,G.1⟩,HB.out.2.2.2.ext G.2.2 HB.out.2.2.1⟩
     clear hown2 hgrow2 hat2 hlt2 d35' y35';go_roundw
     case rel=>exact ⟨k+1,by omega,by go_num,HG⟩
     case measure=>simp [intOf];omega
    ·obtain rfl:k=times:=by omega
     go_wp2_with fail
     go_ret
     unfold ExtE;rw [if_neg HF.out];have e:x.rowLen=(x.hlen:Int):=by unfold MS.rowLen;rw [HBF.out];rfl
     rw [e];exact ⟨rfl,HH.out⟩
 | true=>
  rw [hb] at c32;have HBF:Hid (x.hbef=true):=hb;clear hb;by_cases hz:x.row.length=0
  ·have hzd:((x.row.length:Int)==0)=true:=by simp [hz]
   have HF:Hid ((x.hbef=true∧x.row.length=0)∨x.nl+x.nd<x.row.length+times):=Or.inl ⟨HBF.out,hz⟩;clear hz;go_wp2_with fail
   go_ret
   unfold ExtE;rw [if_pos HF.out];exact ⟨rfl,ym0.refl HM.out⟩
  ·have hzd:((x.row.length:Int)==0)=false:=beq_eq_false_iff_ne.2 (by omega);obtain ⟨q,hq⟩:∃ q,q=x.row.length - 1:=⟨_,rfl⟩
   have hlq:q<x.row.length:=by omega
   obtain ⟨b,o,rfl,hbl,hcell⟩:=HC.out q hlq;have hqi:IntKind.i64.wrap ((x.row.length:Int) - 1)=(q:Int):=by rw [IntWalk.i64_left,IntWalk.wrap64_in _ ⟨by omega,by omega⟩];omega
   have hqi2:(x.row.length:Int) - 1=(q:Int):=by omega
   have hql:(q:Int)<x.row.length:=by omega
   have HQ:Hid (q=x.row.length - 1):=hq;have HVV:Hid (x.row.getD (x.row.length - 1) 0=x.row.getD q 0):=by show _=_;rw [← hq]
   clear hq;obtain ⟨vv,hvv⟩:∃ vv,vv=x.row.getD q 0:=⟨_,rfl⟩
   rw [← hvv] at hcell HVV;clear hvv;go_wp2_with fail
   go_quiet (fail)
   go_wp2_with fail
   by_cases hs:x.nl+x.nd<x.row.length+times
   ·have hsi:(x.nl:Int)+x.nd<x.row.length+times:=by omega
    have HF:Hid ((x.hbef=true∧x.row.length=0)∨x.nl+x.nd<x.row.length+times):=Or.inr hs;clear hs;go_wp2_with fail
    go_quiet (fail)
    go_wp2_with fail
    go_ret
    unfold ExtE;rw [if_pos HF.out];exact ⟨rfl,⟨ρ,Ext.refl _ _,HM.out.fr ⟨Nat.le_refl _,fun _ _ _=>rfl⟩⟩,⟨⟨Nat.le_refl _,fun _ _ _=>rfl⟩,rfl,rfl,rfl⟩⟩
   ·have hsi:¬ (x.nl:Int)+x.nd<x.row.length+times:=by omega
    have HF:Hid (¬ ((x.hbef=true∧x.row.length=0)∨x.nl+x.nd<x.row.length+times)):=by
     intro hq;rcases hq with hq | hq
     ·exact hz hq.2
     ·exact hs hq
    clear hs;go_wp2_with fail
    go_quiet (fail)
    go_wp2_with fail
    have H0:Hid (∀ w',w'.heap=w.heap->w'.os=w.os->w'.tape=w.tape->w'.output=w.output->ym0 ρ w p { x with row:=x.row++List.replicate 0 (vv) } w'):=by
     have e:({ x with row:=x.row++List.replicate 0 (vv) }:MS)=x:=by simp
     rw [e];exact fun w' h1 h2 h3 h4=>⟨⟨ρ,Ext.refl _ _,HM.out.fr ⟨by rw [h1];exact Nat.le_refl _,fun _ _ _=>by rw [h1]⟩⟩,⟨⟨by rw [h1];exact Nat.le_refl _,fun _ _ _=>by rw [h1]⟩,h2,h3,h4⟩⟩
    clear c26 c27 c31 c32 c35 HC z35;generalize decide (x.nl+x.nd<x.row.length+times)=dd;go_loopw [52] (fun i wr=>∃ k:Nat,k<=times∧i= .int .i64 k∧Hid (ym0 ρ w p { x with row:=x.row++List.replicate k (vv) } wr)) (fun i _=>times - (intOf i).toNat)
    case atStart=>exact ⟨0,Nat.zero_le _,rfl,H0.out _ rfl rfl rfl rfl⟩
    case round=>
     clear H0;obtain ⟨k,hk,rfl,HH⟩:=hrel;by_cases hlt:k<times
     ·obtain ⟨ρ',ex,L,B,T⟩:=HH.out.ex;have hown:=T.rw.1;have hrl:(x.row++List.replicate k (vv)).length=x.row.length+k:=by simp
      obtain ⟨ad2,cap2,hv2,_⟩:=T.rw.1.cells;have d35:wr.cell? ⟨p,35,none⟩=some L.rv:=B.row.cell (i:=35) (by omega);have y35:=B.row.frozen 35;have hpl:=B.row.lt;have HB:Hid (MB ρ' wr p { x with row:=x.row++List.replicate k (vv) } L∧MT ρ' wr { x with row:=x.row++List.replicate k (vv) } L∧Ext w.heap.size ρ ρ'∧Fr mine ρ w wr):=⟨B,T,ex,HH.out.fr⟩
      have hown':wr.ownsRow 0 3 1 L.rv (x.row.length+k) (k2f (x.row++List.replicate k (vv))):=by
       have:=hown;unfold OI at this;rw [show ({ x with row:=x.row++List.replicate k (vv) }:MS).row.length=x.row.length+k from hrl] at this;exact this
      have hpo:L.rv.ownBlock≠some p:=fun e=>by
       have a1:=T.rw.2 p e;have a2:=B.rp;omega
      obtain ⟨lv,hlv⟩:∃ lv,lv=L.rv:=⟨_,rfl⟩
      rw [← hlv] at d35 hown' hpo;have HLV:Hid (lv=L.rv):=hlv;clear hown hlv hv2 B T ex;go_wp2_with (at_builtin;refine wpList_append_lies _ rfl _ _ 69 rfl 0 3 i3 (.int .i64 0) 1 8 Tryz.underlying69 hi3 hy0 hy1 hy2 rfl (by decide) _ (x.row.length+k) (k2f (x.row++List.replicate k (vv))) rfl (hown'.alloc _) ⟨wr.heap.size,0,none⟩ 1 1 [.int .i64 (vv)] rfl rfl (cell_one_new _ _ _) (by simp [Value.oneCell']) (by omega) (by unfold maxLen;omega) (by omega) (Nat.zero_le _) (wr.heap.size+1) (by simp) ?_;intro g2 p2 w5 hown2 hgrow2 hat2 hlt2;have d35':=x7a (a:=⟨p,35,none⟩) hgrow2 hpl hpo d35;have y35':=jk1 (a:=⟨p,35,none⟩) hgrow2 hpl hpo y35)
      have HG:Hid (ym0 ρ w p { x with row:=x.row++List.replicate (k+1) (vv) } (w5.setCell ⟨p,35,none⟩ (.slice (some ⟨g2,0,none⟩) (x.row.length+k+1) p2))):=by
       have hl2:({ x with row:=x.row++List.replicate k (vv) }:MS).row.length=x.row.length+k:=hrl;have G:=jpj (g:=g2) (cap:=p2) (a:=vv) HB.out.1 HB.out.2.1 (by rw [hl2];exact hown2) (by rw [← HLV.out];exact hgrow2) (by rw [← HLV.out];exact hat2) hlt2;rw [hl2] at G;have e:({ ({ x with row:=x.row++List.replicate k (vv) }:MS) with row:=({ x with row:=x.row++List.replicate k (vv) }:MS).row++[vv] }:MS)={ x with row:=x.row++List.replicate (k+1) (vv) }:=by rw [xr0]
       rw [e] at G;exact ⟨⟨_,HB.out.2.2.1.trans G.2.1 HB.out.2.2.2.kp.size,G.1⟩,HB.out.2.2.2.ext G.2.2 HB.out.2.2.1⟩
      clear hown2 hgrow2 hat2 hlt2 d35' y35';go_roundw
      case rel=>exact ⟨k+1,by omega,by go_num,HG⟩
      case measure=>simp [intOf];omega
     ·obtain rfl:k=times:=by omega
      go_wp2_with fail
      go_ret
      unfold ExtE;rw [if_neg HF.out];have e:x.rowLen=vv:=by unfold MS.rowLen;rw [HBF.out];exact HVV.out
      rw [e];exact ⟨rfl,HH.out⟩
end Go.Proofs.YtbcjmakpempkiaaGreatDoor
