import Derived.Test.YtbcjmakpempkiaaGreatDoorX02
set_option maxRecDepth 100000
set_option maxHeartbeats 8000000
set_option linter.all false
namespace Go.Proofs.YtbcjmakpempkiaaGreatDoor
open Go.RowKit
def newW(wr:World)(p n:Nat)(l:List Int):World:=
 (((wr.setCell ⟨p,37,none⟩ (.slice (some ⟨wr.heap.size,0,none⟩) n n)).alloc (.cells (madeCells #[.int .i64 0, .int .i64 0] (n*2)) 125)).alloc (.cells (arr (fun _=>0)) 197)).setRow (wr.heap.size+1) (arr (bsum l))
theorem vni(w:World)(n:Nat)(t:TypeId):(w.alloc (.cells (madeCells #[.int .i64 0, .int .i64 0] (n*2)) t)).rowIs w.heap.size t (n*2) (fun _=> .int .i64 0):=by
 have:=World.rowIs_alloc w (madeCells #[.int .i64 0, .int .i64 0] (n*2)) t (fun _=> .int .i64 0) (fun i hi=>by
  have h2:i<n*2:=by simpa [size_madeCells] using hi
  have h3:i%2=0∨i%2=1:=by omega
  rcases h3 with h3 | h3 <;> simp [madeCells,h2,h3])
 rwa [size_madeCells] at this
theorem newW_at(wr:World)(p n:Nat):((((wr.setCell ⟨p,37,none⟩ (.slice (some ⟨wr.heap.size,0,none⟩) n n)).alloc (.cells (madeCells #[.int .i64 0, .int .i64 0] (n*2)) 125)).alloc (.cells (arr (fun _=>0)) 197)).heap[wr.heap.size+1]?)=some (.cells (arr (fun _=>0)) 197):=by
 have:=heap_alloc2_new (wr.setCell ⟨p,37,none⟩ (.slice (some ⟨wr.heap.size,0,none⟩) n n)) (.cells (madeCells #[.int .i64 0, .int .i64 0] (n*2)) 125) (.cells (arr (fun _=>0)) 197);simpa using this
theorem newW_facts{w wr:World}{p n:Nat}{l:List Int}{cnt fst:Nat->Int}{lg:Nat}(h:wr.rowIs p 271 38 (bfv cnt fst (bgTo l 12) lg (.slice none 0 0)))(hb:Below w.heap.size w wr)(hp:w.heap.size<=p) :
  (newW wr p n l).rowIs p 271 38 (bfv cnt fst (bgTo l 12) lg (.slice (some ⟨wr.heap.size,0,none⟩) n n))∧(newW wr p n l).rowIs wr.heap.size 125 (n*2) (fun _=> .int .i64 0)∧
  (newW wr p n l).rowIs (wr.heap.size+1) 197 12 (fun j=> .int .i64 (bsum l j))∧Below w.heap.size w (newW wr p n l):=by
 have hl:=h.lt;have hz:(wr.setCell ⟨p,37,none⟩ (.slice (some ⟨wr.heap.size,0,none⟩) n n)).heap.size=wr.heap.size:=by simp
 have hs:=hb.size;refine ⟨?_,?_,?_,?_⟩
 ·exact (((jb3 _ h).alloc _).alloc _).of_block (setRow_other _ _ _ _ (by omega))
 ·have:=(vni (wr.setCell ⟨p,37,none⟩ (.slice (some ⟨wr.heap.size,0,none⟩) n n)) n 125).alloc (.cells (arr (fun _=>0)) 197);rw [hz] at this;exact this.of_block (setRow_other _ _ _ _ (by omega))
 ·exact ⟨arr (bsum l),setRow_heap _ _ _ _ _ _ (newW_at wr p n),rfl,fun i hi=>zge _ _ hi⟩
 ·exact below_setRow (((hb.setCell (p:=⟨p,37,none⟩) hp _).alloc (by rw [hz];exact hs) _).alloc (by simp;omega) _) (by omega) _
def Filled(l:List Int)(f:Nat->Value)(k:Nat):Prop:=∀ i,i<k->0<l.getD i 0->f (pos l i*2)= .int .i64 (Tr.spanLeast 1 i)∧f (pos l i*2+1)= .int .i64 (Tr.spanBits i)
theorem Filled.skip{l:List Int}{f:Nat->Value}{k:Nat}(h:Filled l f k)(e0:l.getD k 0=0):Filled l f (k+1):=fun i hi h0=>by
 by_cases e:i=k
 ·subst e;omega
 ·exact h i (by omega) h0
theorem Filled.step{l:List Int}{f:Nat->Value}{k x:Nat}(h:Filled l f k)(hl:l.length<=269)(hr:inRange l=true)(hk:k<l.length)(hx:l[k]=(x:Int))(h0:0<x)(h12:x<12) :
  Filled l (fun j=>if j=pos l k*2+1 then .int .i64 (Tr.spanBits k) else if j=pos l k*2 then .int .i64 (Tr.spanLeast 1 k) else f j) (k+1):=fun i hi hp=>by
 by_cases e:i=k
 ·subst e;simp
 ·have hi':i<k:=by omega
  have hil:i<l.length:=by omega
  obtain ⟨y,hy,hy12⟩:∃ y:Nat,l[i]=(y:Int)∧y<12:=by
   have:=(vto l).1 hr l[i] (List.getElem_mem hil);exact ⟨l[i].toNat,by omega,by omega⟩
  have hg:l.getD i 0=(y:Int):=by simp [hil,hy]
  have ne:=z4t hi' hk hil hy hx hl (by omega) hy12 h0 h12;have hh:=h i hi' hp;refine ⟨?_,?_⟩
  ·show (if pos l i*2=pos l k*2+1 then _ else if pos l i*2=pos l k*2 then _ else f (pos l i*2))=_;rw [if_neg (by omega),if_neg (by omega)];exact hh.1
  ·show (if pos l i*2+1=pos l k*2+1 then _ else if pos l i*2+1=pos l k*2 then _ else f (pos l i*2+1))=_;rw [if_neg (by omega),if_neg (by omega)];exact hh.2
theorem jq1{w:World}{m i j:Nat}{v u:Value}{q:Addr}(h:q.block≠m):((w.setCell ⟨m,i,none⟩ v).setCell ⟨m,j,none⟩ u).cell? q=w.cell? q:=
 (World.cell?_setCell_far _ _ _ _ (Ne.symm h)).trans (World.cell?_setCell_far _ _ _ _ (Ne.symm h))
theorem new_round{w wr w7:World}{p m n k x P:Nat}{l:List Int}{F:Nat->Value}{f:Nat->Value}{v1 v2:Value}(q1:wr.rowIs p 271 38 F)(q2:wr.rowIs m 125 (n*2) f)(q4:wr.rowIs (m+1) 197 12 (fun j=> .int .i64 (bsum l j+cn (l.take k) j)))
  (q5:Below w.heap.size w wr) (hb:Below wr.heap.size wr w7) (hk:k<l.length) (hx:l[k]=(x:Int)) (h0:0<x) (_h12:x<12) (hpm:p≠m) (hpm2:p≠m+1) (_hp:w.heap.size<=p) (hm:w.heap.size<=m) (hN:bsum l x+cn (l.take k) x=(pos l k:Int)) (hP:P=pos l k) :
  (((w7.setCell ⟨m,P*2,none⟩ v1).setCell ⟨m,P*2+1,none⟩ v2).setCell ⟨m+1,x,none⟩ (.int .i64 (P+1))).rowIs p 271 38 F∧
  (((w7.setCell ⟨m,P*2,none⟩ v1).setCell ⟨m,P*2+1,none⟩ v2).setCell ⟨m+1,x,none⟩ (.int .i64 (P+1))).rowIs m 125 (n*2) (fun j=>if j=P*2+1 then v2 else if j=P*2 then v1 else f j)∧
  (((w7.setCell ⟨m,P*2,none⟩ v1).setCell ⟨m,P*2+1,none⟩ v2).setCell ⟨m+1,x,none⟩ (.int .i64 (P+1))).rowIs (m+1) 197 12 (fun j=> .int .i64 (bsum l j+cn (l.take (k+1)) j))∧
  Below w.heap.size w (((w7.setCell ⟨m,P*2,none⟩ v1).setCell ⟨m,P*2+1,none⟩ v2).setCell ⟨m+1,x,none⟩ (.int .i64 (P+1))):=by
 have e:(P:Int)+1=bsum l x+cn (l.take k) x+1:=by omega
 refine ⟨?_,?_,?_,?_⟩
 ·exact (((j96 q1 hb q1.lt).setOther (a:=⟨m,P*2,none⟩) hpm _).setOther (a:=⟨m,P*2+1,none⟩) hpm _).setOther (a:=⟨m+1,x,none⟩) hpm2 _
 ·exact (((j96 q2 hb q2.lt).set (P*2) _).set (P*2+1) _).setOther (a:=⟨m+1,x,none⟩) (by simp) _
 ·rw [e];exact jr9 hk hx h0 (((j96 q4 hb q4.lt).setOther (a:=⟨m,P*2,none⟩) (by simp) _).setOther (a:=⟨m,P*2+1,none⟩) (by simp) _)
 ·exact (((q5.trans (hb.mono q5.size)).setCell (p:=⟨m,P*2,none⟩) hm _).setCell (p:=⟨m,P*2+1,none⟩) hm _).setCell (p:=⟨m+1,x,none⟩) (by show w.heap.size<=m+1;omega) _
theorem x7m(ad:Option Addr)(cap:Nat)(l:List Int)(w:World)(hl16:l.length<=16)(hc:xin w ad l)(hr:inRange l=true) :
  Calls Tryz.prog 193 #[.slice ad l.length cap, .func (.func 194) #[] #[]] w fun e w'=>∃ (p m n:Nat) (f:Nat->Value),e= .returned (.pointer (some ⟨p,0,none⟩))∧bsum l 12=n∧
   TabI w' 271 2 p m n (cn l) (fc (cn l)) (bgTo l 12) (lgTo l 12) (fun j=>[f (j*2),f (j*2+1)])∧(∀ i,i<l.length->0<l.getD i 0->f (pos l i*2)= .int .i64 (Tr.spanLeast 1 i)∧f (pos l i*2+1)= .int .i64 (Tr.spanBits i))∧w.heap.size<=p∧w.heap.size<=m∧Below w.heap.size w w':=by
 have hl:l.length<=269:=by omega
 have HC:Hid (xin w ad l):=hc;have HB:Hid (∀ j,j<12->0<=cn l j∧cn l j<=1000000):=z7r hl;go_enter Tryz.func193,Tryz.ntmps193
 go_wp2_with fail
 refine (v5q ad cap l _ (by omega) hc hr).mono ?_;rintro e w1 ⟨rfl,hb1⟩;have HG1:Hid (Below w.heap.size w w1):=hb1;clear hb1 hc;go_wp2_with (first | (refine wpList_store_row rfl 199 _ _ rfl _ _ rfl rfl 199 _ (heap_alloc_new _ _) (zvc _) rfl (yui _) ?_;rw [World.setRow_alloc_new]))
 have hW:(w1.alloc (.cells (arr (cn l)) 199)).heap[w1.heap.size]?=some (.cells (arr (cn l)) 199):=heap_alloc_new _ _;have HW:Hid (Below w.heap.size w (w1.alloc (.cells (arr (cn l)) 199))):=HG1.out.alloc HG1.out.size _;have hWs:w1.heap.size<(w1.alloc (.cells (arr (cn l)) 199)).heap.size:=by simp
 generalize w1.alloc (.cells (arr (cn l)) 199)=W at *;have hbd:=tab_build (cn l) (fc (cn l));have hbx:=tab_box (cn l) (fc (cn l));unfold arr at hbd;generalize hg:w1.heap.size=g at *;clear hg;go_region_held3 (fun wv=>wv.cell? ⟨g,0,none⟩=some (.int .i64 (cn l 0))∧wv.cell? ⟨g,1,none⟩=some (.int .i64 (cn l 1))∧wv.cell? ⟨g,2,none⟩=some (.int .i64 (cn l 2))∧wv.cell? ⟨g,3,none⟩=some (.int .i64 (cn l 3))∧wv.cell? ⟨g,4,none⟩=some (.int .i64 (cn l 4))∧wv.cell? ⟨g,5,none⟩=some (.int .i64 (cn l 5))∧wv.cell? ⟨g,6,none⟩=some (.int .i64 (cn l 6))∧wv.cell? ⟨g,7,none⟩=some (.int .i64 (cn l 7))∧wv.cell? ⟨g,8,none⟩=some (.int .i64 (cn l 8))∧wv.cell? ⟨g,9,none⟩=some (.int .i64 (cn l 9))∧wv.cell? ⟨g,10,none⟩=some (.int .i64 (cn l 10))∧wv.cell? ⟨g,11,none⟩=some (.int .i64 (cn l 11))) (first | exact xwb (w:=W.drew) hW | exact xwb hh3 | exact xwb ((Go.heap_alloc_old _ _ hg3).trans hh3))
  (first | (go_at_call 151;refine (jgl (cn l) _ HB.out).mono ?_;rintro e w3 ⟨rfl,hb3⟩;have hh3:=(hb3.block _ hWs).trans hW;have hg3:g<w3.heap.size:=Nat.lt_of_lt_of_le hWs hb3.size;unfold arr))
 have HG4:Hid (Below w.heap.size w w3):=HW.out.drew.trans (hb3.mono HW.out.size);have HS3:Hid (w3.heap[g]?=some (.cells (arr (cn l)) 199)):=hh3;clear hb3 hh3 hW hbd hbx HW HG1;have hp3:(w3.alloc (.cells (tab0 (cn l) (fc (cn l))) 271)).rowIs w3.heap.size 271 38 (bfv (cn l) (fc (cn l)) (bgTo l 0) (lgTo l 0) (.slice none 0 0)):=jnz _ _ _;have h4g:(w3.alloc (.cells (tab0 (cn l) (fc (cn l))) 271)).heap[g]?=some (.cells (arr (cn l)) 199):=(Go.heap_alloc_old _ _ hg3).trans HS3.out;have HG5:Hid (Below w.heap.size w (w3.alloc (.cells (tab0 (cn l) (fc (cn l))) 271))):=HG4.out.alloc HG4.out.size _;have hpW:w.heap.size<=w3.heap.size:=HG4.out.size;have hi:=idx (cn l);unfold tab0 at *;generalize w3.alloc _=w4 at *;generalize w3.heap.size=p at *;go_wp2_with (refine wpList_load_row rfl 197 _ rfl _ rfl 199 (arr (cn l)) (0,0) _ h4g Tryz.underlying197 rfl (xz2 _) ?_)
 go_loopw [7,22] (fun t i wr=>∃ k:Nat,k<=12∧i= .int .i64 k∧t= .int .i64 (bsum l k)∧wr.rowIs p 271 38 (bfv (cn l) (fc (cn l)) (bgTo l k) (lgTo l k) (.slice none 0 0))∧Below w.heap.size w wr) (fun _ i _=>12 - (intOf i).toNat)
 case atStart=>exact ⟨0,Nat.zero_le _,rfl,rfl,hp3,HG5.out⟩
 case round=>
  obtain ⟨k,hk,rfl,rfl,hrow,hbel⟩:=hrel;by_cases hlt:k<12
  ·have hik:=hi k hlt;have ⟨b1,b2⟩:=ysr hl k hk;have ⟨b3,b4⟩:=HB.out k hlt;have g1:=hrow.cell (i:=24+k) (by omega);have g2:=hrow.frozen (24+k);have g3:=hrow.cell (i:=36) (by omega);have g4:=hrow.frozen 36;have R:=jnr k (bsum l k) hlt hrow;rw [xp6] at R;have R1:=hbel.setCell (p:=⟨p,24+k,none⟩) hpW (.int .i64 (bsum l k));by_cases hpos:0<cn l k
   ·have R2:=zta k R;have e2:lgTo l (k+1)=k:=if_pos hpos;go_wp2
    go_roundw
    case rel=>exact ⟨k+1,by omega,by go_num,rfl,by rw [e2];exact R2,R1.setCell (p:=⟨p,36,none⟩) hpW _⟩
    case measure=>simp [intOf];omega
   ·have e2:lgTo l k=lgTo l (k+1):=(if_neg hpos).symm;rw [e2] at R;go_wp2
    go_roundw
    case rel=>exact ⟨k+1,by omega,by go_num,rfl,R,R1⟩
    case measure=>simp [intOf];omega
  ·obtain rfl:k=12:=by omega
   have HR:Hid (wr.rowIs p 271 38 (bfv (cn l) (fc (cn l)) (bgTo l 12) (lgTo l 12) (.slice none 0 0))∧Below w.heap.size w wr):=⟨hrow,hbel⟩
   obtain ⟨n,hn⟩:∃ n:Nat,bsum l 12=n:=⟨(bsum l 12).toNat,by have:=(ysr hl 12 (by omega)).1;omega⟩
   have hn2:n<=12000000:=by have:=(ysr hl 12 (by omega)).2;omega
   rw [hn];have g1:=hrow.cell (i:=37) (by omega);have g2:=hrow.frozen 37;have hmk:=khk n hn2;clear hi;have r5:((wr.setCell ⟨p,37,none⟩ (.slice (some ⟨wr.heap.size,0,none⟩) n n)).alloc (.cells (madeCells #[.int .i64 0, .int .i64 0] (n*2)) 125)).rowIs p 271 38 (bfv (cn l) (fc (cn l)) (bgTo l 12) (lgTo l 12) (.slice (some ⟨wr.heap.size,0,none⟩) n n)):=(jb3 _ hrow).alloc _;have m5:=xfg r5;have hpl:=hrow.lt;have h6:=newW_at wr p n;have NF:=newW_facts (n:=n) hrow hbel hpW;unfold newW at NF;rw [show arr (fun _=>0)=#[.int .i64 0, .int .i64 0, .int .i64 0, .int .i64 0, .int .i64 0, .int .i64 0, .int .i64 0, .int .i64 0, .int .i64 0, .int .i64 0, .int .i64 0, .int .i64 0] from rfl] at NF;have HNF:Hid _:=NF;clear NF;go_wp2_with (first | (refine wpList_load_mid rfl 197 _ rfl p 24 rfl (arr (bsum l)).toList _ m5 Tryz.underlying197 rfl (xz2 (bsum l)) ?_;rw [Array.toArray_toList]) | (refine wpList_store_row rfl 197 _ _ rfl (wr.heap.size+1) (arr (bsum l)) rfl rfl 197 _ h6 (xz2 _) rfl (yui _) ?_))
   have hmW:w.heap.size<=wr.heap.size:=hbel.size;clear h6 m5 r5 g1 g2 hmk hrow h4g hbel HR;generalize (((wr.setCell ⟨p,37,none⟩ (.slice (some ⟨wr.heap.size,0,none⟩) n n)).alloc (.cells (madeCells #[.int .i64 0, .int .i64 0] (n*2)) 125)).alloc (.cells #[.int .i64 0, .int .i64 0, .int .i64 0, .int .i64 0, .int .i64 0, .int .i64 0, .int .i64 0, .int .i64 0, .int .i64 0, .int .i64 0, .int .i64 0, .int .i64 0] 197)).setRow (wr.heap.size+1) (arr (bsum l))=w6 at *;generalize wr.heap.size=m at *;go_loopw [53] (fun i wx=>∃ (k:Nat) (f:Nat->Value),k<=l.length∧i= .int .i64 k∧wx.rowIs p 271 38 (bfv (cn l) (fc (cn l)) (bgTo l 12) (lgTo l 12) (.slice (some ⟨m,0,none⟩) n n))∧wx.rowIs m 125 (n*2) f∧Filled l f k∧wx.rowIs (m+1) 197 12 (fun j=> .int .i64 (bsum l j+cn (l.take k) j))∧Below w.heap.size w wx) (fun i _=>l.length - (intOf i).toNat)
   case atStart=>exact ⟨0,fun _=> .int .i64 0,Nat.zero_le _,rfl,HNF.out.1,HNF.out.2.1,fun i hi=>absurd hi (by omega),HNF.out.2.2.1.congr fun i _=>by simp [j3h],HNF.out.2.2.2⟩
   case round=>
    obtain ⟨k,f,hk,rfl,q1,q2,q3,q4,q5⟩:=hrel;by_cases hlt:k<l.length
    ·obtain ⟨b,o,x,rfl,g,hx12,hx⟩:=(HC.out.below q5 (Nat.le_refl _)).atNat hr hlt;have HQ:Hid (wr.rowIs p 271 38 (bfv (cn l) (fc (cn l)) (bgTo l 12) (lgTo l 12) (.slice (some ⟨m,0,none⟩) n n))∧wr.rowIs m 125 (n*2) f∧wr.rowIs (m+1) 197 12 (fun j=> .int .i64 (bsum l j+cn (l.take k) j))∧Below w.heap.size w wr):=⟨q1,q2,q4,q5⟩
     have HF:Hid (Filled l f k):=q3;clear q3;by_cases hpos:0<x
     ·have e1:=k44 hlt hx.out hl (by omega);have e2:=vil hlt hx.out hl hpos (by omega);rw [hn] at e2;have hpn:pos l k<n:=by omega
      have c1:wr.cell? ⟨p,37,none⟩=some (.slice (some ⟨m,0,none⟩) n n):=q1.cell (i:=37) (by omega);have c2:wr.cell? ⟨m+1,x,none⟩=some (.int .i64 (pos l k)):=by rw [q4.cell (i:=x) (by omega),e1]
      have HN:Hid (bsum l x+cn (l.take k) x=(pos l k:Int)):=e1.symm;have HFS:=HF.out.step hl hr hlt hx.out hpos (by omega);have HFT:Hid _:=HFS;clear HFS e1;have HNX:Hid ((wr:World)=wr):=rfl;obtain ⟨P,hP⟩:∃ P,P=pos l k:=⟨_,rfl⟩
      have l1:=q1.lt;have l2:=q2.lt;have l3:=q4.lt;have hPi:(P:Int)<n:=by omega
      have hx12':(x:Int)<12:=by omega
      have k1:=q2.cell (i:=P*2) (by omega);have k2:=q2.cell (i:=P*2+1) (by omega);have y1:=q2.frozen (P*2);have y2:=q2.frozen (P*2+1);rw [← hP] at c2;have HP:Hid (P=pos l k):=hP;have hk15:k<=15:=by omega
      have hpm:p≠m:=by omega
      have hpm2:p≠m+1:=by omega
      have y3:=q4.frozen x;clear q1 q2 q4 q5 hP;go_wp2_with fail
      go_region_held3 (fun wv=>wv.cell? ⟨p,37,none⟩=some (.slice (some ⟨m,0,none⟩) n n)∧wv.cell? ⟨m+1,x,none⟩=some (.int .i64 P)) (first | exact ⟨c1,c2⟩ | exact ⟨d1,d2⟩ | exact ⟨(jq1 (q:=⟨p,37,none⟩) hpm).trans d1,(jq1 (q:=⟨m+1,x,none⟩) (by simp)).trans d2⟩)
       (first | (go_at_call 194;refine (x00 k _ hk15).mono ?_;rintro e w7 ⟨rfl,hb7⟩;have d1:=(hb7.cell l1).trans c1;have d2:=(hb7.cell l3).trans c2;have d3:w7.cell? ⟨m,P*2,none⟩=some (f (P*2)):=(hb7.cell l2).trans k1;have d4:w7.cell? ⟨m,P*2+1,none⟩=some (f (P*2+1)):=(hb7.cell l2).trans k2;have d5:w7.frozen? ⟨m,P*2,none⟩=false:=(hb7.frozen l2).trans y1;have d6:w7.frozen? ⟨m,P*2+1,none⟩=false:=(hb7.frozen l2).trans y2;have d7:w7.frozen? ⟨m+1,x,none⟩=false:=(hb7.frozen l3).trans y3;have HB7:Hid (Below wr.heap.size wr w7):=⟨hb7.os,hb7.tape,hb7.output,hb7.size,hb7.block⟩;clear hb7;unfold vtb))
      have T:=new_round (v1:= .int .i64 (Tr.spanLeast 1 k)) (v2:= .int .i64 (Tr.spanBits k)) HQ.out.1 HQ.out.2.1 HQ.out.2.2.1 HQ.out.2.2.2 HB7.out hlt hx.out hpos (by omega) hpm hpm2 hpW hmW HN.out HP.out;have HT:Hid _:=T;clear T k1 k2 y1 y2 y3;go_wp2
      go_roundw
      case rel=>exact ⟨k+1,_,by omega,by go_num,HT.out.1,HT.out.2.1,by rw [HP.out];exact HFT.out,HT.out.2.2.1,HT.out.2.2.2⟩
      case measure=>simp [intOf];omega
     ·obtain rfl:x=0:=by omega
      have R:=zlc hlt hx.out q4;have e0:l.getD k 0=0:=by have:=hx.out;simp [hlt];simpa using this
      have HF2:Hid (Filled l f (k+1)):=HF.out.skip e0;go_wp2
      go_roundw
      case rel=>exact ⟨k+1,f,by omega,by go_num,q1,q2,HF2.out,R,q5⟩
      case measure=>simp [intOf];omega
    ·obtain rfl:k=l.length:=by omega
     go_wp2
     go_ret
     refine ⟨p,m,n,f,rfl,hn,⟨q1,fun j hj=>⟨rfl,?_⟩,q1.lt,q2.lt⟩,fun i hi h0=>q3 i hi h0,hpW,hmW,q5⟩;intro t v hv;have ht:t=0∨t=1:=by have:=(List.getElem?_eq_some_iff.1 hv).1;simp at this;omega
     rcases ht with rfl | rfl
     ·rw [← Option.some.inj hv];exact q2.cell (i:=j*2) (by omega)
     ·rw [← Option.some.inj hv];exact q2.cell (i:=j*2+1) (by omega)
def rfld(c N o n:Nat):Nat->Value
 | 0=> .slice (some ⟨c,0,none⟩) N N
 | 1=> .int .i64 o
 | _=> .int .i64 n
structure RgI(w:World)(r c N o:Nat)(f:Nat->Nat)(q:List Nat):Prop where
 row:w.rowIs r 164 3 (rfld c N o q.length)
 cells:w.rowIs c 5 N (fun j=> .int .u8 (f j))
 pos:0<N
 small:N<=1000000
 ho:o<N
 hq:q.length<=N
 at_:∀ i,i<q.length->f ((o+i)%N)=q.getD i 0
 ne:r≠c
structure Two(r c:Nat)(w w':World):Prop where
 kp:Kp (fun k=>k=r∨k=c) (fun k=>k) w w'
 os:w'.os=w.os
 tape:w'.tape=w.tape
 output:w'.output=w.output
theorem Two.refl(r c:Nat)(w:World):Two r c w w:=⟨Kp.refl _ _ _,rfl,rfl,rfl⟩
theorem Two.trans{r c:Nat}{a b d:World}(h:Two r c a b)(k:Two r c b d):Two r c a d:=⟨h.kp.trans k.kp,k.os.trans h.os,k.tape.trans h.tape,k.output.trans h.output⟩
theorem Two.set1(r c:Nat)(w:World)(i:Nat)(v:Value):Two r c w (w.setCell ⟨r,i,none⟩ v):=⟨Kp.of_set w _ _ (Or.inl rfl),rfl,rfl,rfl⟩
theorem Two.set2(r c:Nat)(w:World)(i:Nat)(v:Value):Two r c w (w.setCell ⟨c,i,none⟩ v):=⟨Kp.of_set w _ _ (Or.inr rfl),rfl,rfl,rfl⟩
theorem Two.drewN{r c:Nat}{a b:World}(h:Two r c a b)(q:Nat):Two r c a (b.drewN q):=⟨⟨h.kp.size,h.kp.block⟩,h.os,h.tape,h.output⟩
theorem RgI.drewN{w:World}{r c N o:Nat}{f:Nat->Nat}{q:List Nat}(h:RgI w r c N o f q)(n:Nat):RgI (w.drewN n) r c N o f q:=⟨h.row,h.cells,h.pos,h.small,h.ho,h.hq,h.at_,h.ne⟩
theorem xgl{P:Nat->Prop}(h0:P 0)(h1:P 1)(h2:P 2)(i:Nat)(hi:i<3):P i:=by
 have:i=0∨i=1∨i=2:=by omega
 rcases this with rfl | rfl | rfl <;> assumption
theorem jpl{w:World}{r c N o:Nat}{f:Nat->Nat}{q:List Nat}(h:RgI w r c N o f q) :
  Calls Tryz.prog 57 #[.pointer (some ⟨r,0,none⟩)] w fun x w'=>x= .returned (.int .i64 q.length)∧w=w':=by
 have c2:w.cell? ⟨r,2,none⟩=some (.int .i64 q.length):=h.row.cell (i:=2) (by omega);clear h;go_enter Tryz.func57,Tryz.ntmps57
 go_wp2_with fail
 go_ret
 exact ⟨rfl,rfl⟩
theorem zzm{w:World}{r c N o:Nat}{f:Nat->Nat}{q:List Nat}(h:RgI w r c N o f q) :
  Calls Tryz.prog 165 #[.pointer (some ⟨r,0,none⟩)] w fun x w'=>x= .returned (.bool (decide (q.length=N)))∧∃ n,w'=w.drewN n:=by
 have c2:w.cell? ⟨r,2,none⟩=some (.int .i64 q.length):=h.row.cell (i:=2) (by omega);have c0:w.cell? ⟨r,0,none⟩=some (.slice (some ⟨c,0,none⟩) N N):=h.row.cell (i:=0) (by omega);clear h;go_enter Tryz.func165,Tryz.ntmps165
 go_wp2_with fail
 go_quiet (fail)
 go_wp2_with fail
 go_ret
 refine ⟨?_,_,rfl⟩;by_cases e:q.length=N
 ·simp [e]
 ·simp [e];omega
theorem kjm{w:World}{r c N o:Nat}{f:Nat->Nat}{q:List Nat}(k:Nat)(h:RgI w r c N o f q)(hk:k<=1000000) :
  Calls Tryz.prog 108 #[.pointer (some ⟨r,0,none⟩), .int .i64 k] w fun x w'=>x= .returned (.int .i64 ((o+k)%N:Nat))∧∃ n,w'=w.drewN n:=by
 have c1:w.cell? ⟨r,1,none⟩=some (.int .i64 o):=h.row.cell (i:=1) (by omega);have c0:w.cell? ⟨r,0,none⟩=some (.slice (some ⟨c,0,none⟩) N N):=h.row.cell (i:=0) (by omega);have ho:=h.ho;have hN:=h.small;have hp:=h.pos;have hz:((N:Int)==0)=false:=by rw [beq_eq_false_iff_ne];omega
 have hz':¬ (N:Int)=0:=by omega
 clear h;go_enter Tryz.func108,Tryz.ntmps108
 go_wp2_with fail
 go_quiet (fail)
 go_wp2_with fail
 go_ret
 exact ⟨by simp,_,rfl⟩
theorem k9o(o N i:Nat):((o+1)%N+i)%N=(o+(i+1))%N:=by
 rw [Nat.mod_add_mod,show o+1+i=o+(i+1) by omega]
theorem RgI.drop{w:World}{r c N o:Nat}{f:Nat->Nat}{q:List Nat}(h:RgI w r c N o f q)(hq:0<q.length) :
  RgI ((w.setCell ⟨r,1,none⟩ (.int .i64 (((o+1)%N:Nat):Int))).setCell ⟨r,2,none⟩ (.int .i64 ((q.length:Int) - 1))) r c N ((o+1)%N) f q.tail:=by
 have hl:q.tail.length=q.length - 1:=by simp
 refine ⟨?_,(h.cells.setOther (a:=⟨r,1,none⟩) (Ne.symm h.ne) _).setOther (a:=⟨r,2,none⟩) (Ne.symm h.ne) _,h.pos,h.small,Nat.mod_lt _ h.pos,by rw [hl];have:=h.hq;omega,fun i hi=>?_,h.ne⟩
 ·refine ((h.row.set 1 _).set 2 _).congr ?_;rw [hl];have e:((q.length - 1:Nat):Int)=(q.length:Int) - 1:=by omega
  intro j hj;revert j
  refine xgl rfl rfl ?_;show Value.int .i64 ((q.length:Int) - 1)=Value.int .i64 ((q.length - 1:Nat):Int);rw [e]
 ·rw [k9o,h.at_ (i+1) (by omega)];cases q with
  | nil=>simp at hq
  | cons a l=>simp
theorem yny{w:World}{r c N o:Nat}{f:Nat->Nat}{q:List Nat}(h:RgI w r c N o f q)(hq:0<q.length) :
  Calls Tryz.prog 78 #[.pointer (some ⟨r,0,none⟩)] w fun x w'=>x= .returned (.tuple #[])∧RgI w' r c N ((o+1)%N) f q.tail∧Two r c w w':=by
 have HI:Hid (RgI w r c N o f q):=h;have hl:=h.hq;have hN:=h.small;clear h;go_enter Tryz.func78,Tryz.ntmps78
 go_wp2_with fail
 refine (kjm 1 HI.out (by omega)).mono ?_;rintro e w1 ⟨rfl,n1,hw1⟩;have I1:RgI w1 r c N o f q:=by rw [hw1];exact HI.out.drewN n1
 have T1:Two r c w w1:=by rw [hw1];exact (Two.refl r c w).drewN n1
 have f1:=I1.row.frozen 1;have f2:=I1.row.frozen 2;have c1:w1.cell? ⟨r,1,none⟩=some (.int .i64 o):=I1.row.cell (i:=1) (by omega);have c2:w1.cell? ⟨r,2,none⟩=some (.int .i64 q.length):=I1.row.cell (i:=2) (by omega);have HR:Hid (RgI ((w1.setCell ⟨r,1,none⟩ (.int .i64 (((o+1)%N:Nat):Int))).setCell ⟨r,2,none⟩ (.int .i64 ((q.length:Int) - 1))) r c N ((o+1)%N) f q.tail∧Two r c w ((w1.setCell ⟨r,1,none⟩ (.int .i64 (((o+1)%N:Nat):Int))).setCell ⟨r,2,none⟩ (.int .i64 ((q.length:Int) - 1)))):=⟨I1.drop hq,(T1.trans (Two.set1 r c w1 1 _)).trans (Two.set1 r c _ 2 _)⟩
 clear hw1 I1 T1;obtain ⟨o1,ho1⟩:∃ o1,o1=(o+1)%N:=⟨_,rfl⟩
 rw [← ho1] at HR ⊢;have HO:Hid (o1=(o+1)%N):=ho1;clear ho1;go_wp2_with fail
 go_end0
 rw [← HO.out];exact ⟨rfl,HR.out⟩
theorem RgI.push{w:World}{r c N o:Nat}{f:Nat->Nat}{q:List Nat}(b:Nat)(h:RgI w r c N o f q)(hq:q.length<N) :
  RgI ((w.setCell ⟨c,(o+q.length)%N,none⟩ (.int .u8 b)).setCell ⟨r,2,none⟩ (.int .i64 ((q.length:Int)+1))) r c N o (fun j=>if j=(o+q.length)%N then b else f j) (q++[b]):=by
 refine ⟨?_,?_,h.pos,h.small,h.ho,by simp;omega,fun i hi=>?_,h.ne⟩
 ·refine ((h.row.setOther (a:=⟨c,(o+q.length)%N,none⟩) h.ne _).set 2 _).congr ?_;intro j hj;revert j
  refine xgl rfl rfl ?_;show Value.int .i64 ((q.length:Int)+1)=Value.int .i64 ((q++[b]).length:Nat);simp
 ·refine ((h.cells.set ((o+q.length)%N) _).setOther (a:=⟨r,2,none⟩) (Ne.symm h.ne) _).congr fun j _=>?_
  by_cases e:j=(o+q.length)%N
  ·rw [if_pos e,if_pos e]
  ·rw [if_neg e,if_neg e]
 ·have hi':i<=q.length:=by simp at hi;omega
  by_cases e:i=q.length
  ·subst e;rw [if_pos rfl];simp
  ·have hlt:i<q.length:=by omega
   have hne:(o+i)%N≠(o+q.length)%N:=by
    intro e2;have ho:=h.ho;have h1:(o+i)%N=if o+i<N then o+i else o+i - N:=by
     split
     ·exact Nat.mod_eq_of_lt (by assumption)
     ·rw [Nat.mod_eq_sub_mod (by omega),Nat.mod_eq_of_lt (by omega)]
    have h2:(o+q.length)%N=if o+q.length<N then o+q.length else o+q.length - N:=by
     split
     ·exact Nat.mod_eq_of_lt (by assumption)
     ·rw [Nat.mod_eq_sub_mod (by omega),Nat.mod_eq_of_lt (by omega)]
    rw [h1,h2] at e2;split at e2 <;> split at e2 <;> omega
   rw [if_neg hne,h.at_ i hlt];simp [List.getElem?_append,hlt]
theorem yis{w:World}{r c N o:Nat}{f:Nat->Nat}{q:List Nat}(k:Nat)(h:RgI w r c N o f q)(h1:1<=k)(hk:k<=q.length) :
  Calls Tryz.prog 150 #[.pointer (some ⟨r,0,none⟩), .int .i64 k] w fun x w'=>x= .returned (.int .u8 (q.getD (q.length - k) 0:Nat))∧∃ n,w'=w.drewN n:=by
 have HI:Hid (RgI w r c N o f q):=h;have hl:=h.hq;have hN:=h.small;have hp:=h.pos;have c0:w.cell? ⟨r,0,none⟩=some (.slice (some ⟨c,0,none⟩) N N):=h.row.cell (i:=0) (by omega);have c2:w.cell? ⟨r,2,none⟩=some (.int .i64 q.length):=h.row.cell (i:=2) (by omega);obtain ⟨d,hd⟩:∃ d,d=q.length - k:=⟨_,rfl⟩
 have hdi:IntKind.i64.wrap ((q.length:Int) - k)=(d:Int):=by
  rw [IntWalk.i64_left,IntWalk.wrap64_in _ ⟨by omega,by omega⟩];omega
 have hdi2:(q.length:Int) - k=(d:Int):=by omega
 have hpl:(o+d)%N<N:=Nat.mod_lt _ hp;have hv:f ((o+d)%N)=q.getD d 0:=h.at_ d (by omega);have cc:w.cell? ⟨c,(o+d)%N,none⟩=some (.int .u8 (q.getD d 0:Nat)):=by rw [← hv];exact h.cells.cell hpl
 have HPL:Hid (∀ n,Calls Tryz.prog 108 #[.pointer (some ⟨r,0,none⟩), .int .i64 d] (w.drewN n) fun x w'=>x= .returned (.int .i64 ((o+d)%N:Nat))∧∃ m,w'=(w.drewN n).drewN m):=fun n=>kjm d (HI.out.drewN n) (by omega)
 rw [← hd];clear h hv hd;obtain ⟨a,ha⟩:∃ a,a=(o+d)%N:=⟨_,rfl⟩
 rw [← ha] at HPL hpl cc;have hai:(a:Int)<(N:Int):=by omega
 clear ha;go_enter Tryz.func150,Tryz.ntmps150
 go_wp2_with fail
 go_quiet ((go_at_call 108;exact Calls.quiet_of (HPL.out _)))
 go_wp2_with fail
 go_ret
 exact ⟨rfl,_,rfl⟩
theorem yiw{w:World}{r c N o:Nat}{f:Nat->Nat}{q:List Nat}(b:Nat)(h:RgI w r c N o f q)(hq:q.length<N) :
  Calls Tryz.prog 167 #[.pointer (some ⟨r,0,none⟩), .int .u8 b] w fun x w'=>x= .returned (.tuple #[])∧(∃ f',RgI w' r c N o f' (q++[b]))∧Two r c w w':=by
 have hfl:decide (q.length=N)=false:=by simp;omega
 have hN:=h.small;have hp:=h.pos;have HI:Hid (RgI w r c N o f q):=h;have HPL:Hid (∀ w',RgI w' r c N o f q->Calls Tryz.prog 108 #[.pointer (some ⟨r,0,none⟩), .int .i64 q.length] w' fun x w''=>x= .returned (.int .i64 ((o+q.length)%N:Nat))∧∃ m,w''=w'.drewN m):=fun w' h'=>kjm q.length h' (by omega)
 have hpl:(o+q.length)%N<N:=Nat.mod_lt _ hp;have HPU:Hid (∀ w',RgI w' r c N o f q->RgI ((w'.setCell ⟨c,(o+q.length)%N,none⟩ (.int .u8 b)).setCell ⟨r,2,none⟩ (.int .i64 ((q.length:Int)+1))) r c N o (fun j=>if j=(o+q.length)%N then b else f j) (q++[b])):=fun w' h'=>h'.push b hq
 clear h;obtain ⟨a,ha⟩:∃ a,a=(o+q.length)%N:=⟨_,rfl⟩
 rw [← ha] at HPL hpl HPU;have hai:(a:Int)<(N:Int):=by omega
 clear ha;go_enter Tryz.func167,Tryz.ntmps167
 go_wp2_with fail
 refine (zzm HI.out).mono ?_;rintro e w1 ⟨rfl,n1,hw1⟩;rw [hfl];have HI1:Hid (RgI w1 r c N o f q∧Two r c w w1):=by show _∧_;rw [hw1];exact ⟨HI.out.drewN n1,(Two.refl r c w).drewN n1⟩
 have c0:w1.cell? ⟨r,0,none⟩=some (.slice (some ⟨c,0,none⟩) N N):=HI1.out.1.row.cell (i:=0) (by omega);have c2:w1.cell? ⟨r,2,none⟩=some (.int .i64 q.length):=HI1.out.1.row.cell (i:=2) (by omega);have f2:=HI1.out.1.row.frozen 2;have ca:=HI1.out.1.cells.cell hpl;have fa:=HI1.out.1.cells.frozen a;have hrc:=HI1.out.1.ne;clear hw1 HI hfl;go_wp2_with fail
 go_region_with (go_at_call 108;refine (HPL.out _ (HI1.out.1.drewN 1)).mono ?_;rintro e w2 ⟨rfl,n2,hw2⟩;have HI2:Hid (RgI w2 r c N o f q∧Two r c w w2):=by { show _∧_;rw [hw2];exact ⟨(HI1.out.1.drewN 1).drewN n2,((HI1.out.2.drewN 1)).drewN n2⟩ };have k0:w2.cell? ⟨r,0,none⟩=some (.slice (some ⟨c,0,none⟩) N N):=HI2.out.1.row.cell (i:=0) (by omega);have k2:w2.cell? ⟨r,2,none⟩=some (.int .i64 q.length):=HI2.out.1.row.cell (i:=2) (by omega);have z2:=HI2.out.1.row.frozen 2;have ka:=HI2.out.1.cells.cell hpl;have za:=HI2.out.1.cells.frozen a;clear hw2)
 all_goals
  go_wp2_with fail
  go_end0
  exact ⟨rfl,⟨_,HPU.out _ HI2.out.1⟩,(HI2.out.2.trans (Two.set2 r c w2 a _)).trans (Two.set1 r c _ 2 _)⟩
theorem vxn{w:World}{r c N o:Nat}{f:Nat->Nat}{q:List Nat}(b:Nat)(h:RgI w r c N o f q)(hq:q.length=N) :
  Calls Tryz.prog 167 #[.pointer (some ⟨r,0,none⟩), .int .u8 b] w fun x w'=>x= .returned (.tuple #[])∧(∃ f',RgI w' r c N ((o+1)%N) f' (q.tail++[b]))∧Two r c w w':=by
 have hfl:decide (q.length=N)=true:=by simp;omega
 have hN:=h.small;have hp:=h.pos;have HI:Hid (RgI w r c N o f q∧q.length=N):=⟨h,hq⟩
 have htl:q.tail.length=N - 1:=by simp;omega
 have HPL:Hid (∀ w',RgI w' r c N ((o+1)%N) f q.tail->Calls Tryz.prog 108 #[.pointer (some ⟨r,0,none⟩), .int .i64 q.tail.length] w' fun x w''=>x= .returned (.int .i64 (((o+1)%N+q.tail.length)%N:Nat))∧∃ m,w''=w'.drewN m):=fun w' h'=>kjm q.tail.length h' (by omega)
 have hpl:((o+1)%N+q.tail.length)%N<N:=Nat.mod_lt _ hp;have HPU:Hid (∀ w',RgI w' r c N ((o+1)%N) f q.tail->RgI ((w'.setCell ⟨c,((o+1)%N+q.tail.length)%N,none⟩ (.int .u8 b)).setCell ⟨r,2,none⟩ (.int .i64 ((q.tail.length:Int)+1))) r c N ((o+1)%N) (fun j=>if j=((o+1)%N+q.tail.length)%N then b else f j) (q.tail++[b])):=fun w' h'=>h'.push b (by omega)
 have hq0:0<q.length:=by omega
 clear h hq;obtain ⟨a,ha⟩:∃ a,a=((o+1)%N+q.tail.length)%N:=⟨_,rfl⟩
 rw [← ha] at HPL hpl HPU;have hai:(a:Int)<(N:Int):=by omega
 clear ha;go_enter Tryz.func167,Tryz.ntmps167
 go_wp2_with fail
 refine (zzm HI.out.1).mono ?_;rintro e w0 ⟨rfl,n1,hw1⟩;rw [hfl];have HI0:Hid (RgI w0 r c N o f q∧Two r c w w0):=by show _∧_;rw [hw1];exact ⟨HI.out.1.drewN n1,(Two.refl r c w).drewN n1⟩
 clear hw1 hfl;go_wp2_with fail
 refine (yny HI0.out.1 hq0).mono ?_;rintro e w1 ⟨rfl,hI1,hT1⟩;have HI1:Hid (RgI w1 r c N ((o+1)%N) f q.tail∧Two r c w w1):=⟨hI1,HI0.out.2.trans hT1⟩
 clear hI1 hT1 HI0;obtain ⟨o1,ho1⟩:∃ o1,o1=(o+1)%N:=⟨_,rfl⟩
 rw [← ho1] at HI1 HPL HPU;have HO1:Hid (o1=(o+1)%N):=ho1;clear ho1;obtain ⟨qt,hqt⟩:∃ qt,qt=q.tail:=⟨_,rfl⟩
 rw [← hqt] at HI1 HPL HPU htl;have HQT:Hid (qt=q.tail):=hqt;clear hqt;have c0:w1.cell? ⟨r,0,none⟩=some (.slice (some ⟨c,0,none⟩) N N):=HI1.out.1.row.cell (i:=0) (by omega);have c2:w1.cell? ⟨r,2,none⟩=some (.int .i64 qt.length):=HI1.out.1.row.cell (i:=2) (by omega);have f2:=HI1.out.1.row.frozen 2;have ca:=HI1.out.1.cells.cell hpl;have fa:=HI1.out.1.cells.frozen a;have hrc:=HI1.out.1.ne;have HTL:Hid (qt.length=N - 1):=htl;have hqb:qt.length<=1000000:=by omega
 clear htl hq0;go_wp2_with fail
 go_region_with (go_at_call 108;refine (HPL.out _ (HI1.out.1.drewN 1)).mono ?_;rintro e w2 ⟨rfl,n2,hw2⟩;have HI2:Hid (RgI w2 r c N o1 f qt∧Two r c w w2):=by { show _∧_;rw [hw2];exact ⟨(HI1.out.1.drewN 1).drewN n2,((HI1.out.2.drewN 1)).drewN n2⟩ };have k0:w2.cell? ⟨r,0,none⟩=some (.slice (some ⟨c,0,none⟩) N N):=HI2.out.1.row.cell (i:=0) (by omega);have k2:w2.cell? ⟨r,2,none⟩=some (.int .i64 qt.length):=HI2.out.1.row.cell (i:=2) (by omega);have z2:=HI2.out.1.row.frozen 2;have ka:=HI2.out.1.cells.cell hpl;have za:=HI2.out.1.cells.frozen a;clear hw2)
 all_goals
  go_wp2_with fail
  go_end0
  rw [← HO1.out,← HQT.out];exact ⟨rfl,⟨_,HPU.out _ HI2.out.1⟩,(HI2.out.2.trans (Two.set2 r c w2 a _)).trans (Two.set1 r c _ 2 _)⟩
def vh3(w:World)(n:Nat)(x:Ending)(w':World):Prop:=∃ r c,x= .returned (.pointer (some ⟨r,0,none⟩))∧RgI w' r c n 0 (fun _=>0) []∧w.heap.size<=r∧w.heap.size<=c∧Below w.heap.size w w'
theorem joa(n:Nat)(w:World)(h0:0<n)(hn:n<=1000000) :
  Calls Tryz.prog 74 #[.int .i64 n] w fun x w'=>vh3 w n x w':=by
 have hmk:=run_make_row' (P:=Tryz.prog) 34 5 (.int .u8 0) 1 Tryz.underlying34 kh5 rfl .i64 .i64 n (by omega) (by omega);go_enter Tryz.func74,Tryz.ntmps74
 go_wp2_with fail
 go_ret
 have r1:=World.rowIs_made w (.int .u8 0) n 5;refine ⟨w.heap.size+1,w.heap.size,rfl,⟨⟨#[.slice (some ⟨w.heap.size,0,none⟩) n n, .int .i64 0, .int .i64 0],?_,rfl,?_⟩,r1.alloc _,h0,hn,h0,Nat.zero_le _,fun i hi=>by simp at hi,by omega⟩,by omega,Nat.le_refl _,((Below.refl _ _).alloc (Nat.le_refl _) _).alloc (by simp) _⟩
 ·have:=heap_alloc_new (w.alloc (.cells (madeCells #[.int .u8 0] n) 5)) (.cells #[.slice (some ⟨w.heap.size,0,none⟩) n n, .int .i64 0, .int .i64 0] 164);simpa using this
 ·exact xgl rfl rfl rfl
structure TakI(w:World)(r c N o g m:Nat)(f:Nat->Nat)(q:List Nat)(wr:World)(k:Nat):Prop where
 rg:RgI wr r c N ((o+k)%N) f (q.drop k)
 out:wr.rowIs g 5 m (fun j=> .int .u8 (if j<k then q.getD j 0 else 0:Nat))
 kp:Kp (fun x=>x=r∨x=c) (fun x=>x) w wr
 os:wr.os=w.os
 tape:wr.tape=w.tape
 output:wr.output=w.output
theorem tail_drop(q:List Nat)(k:Nat):(q.drop k).tail=q.drop (k+1):=by rw [List.tail_drop]
theorem TakI.next{w:World}{r c N o g m:Nat}{f:Nat->Nat}{q:List Nat}{wr w1 w2:World}{k:Nat}(h:TakI w r c N o g m f q wr k)(hg:w.heap.size<=g)(hgr:g≠r)(hgc:g≠c)(hk:k<q.length)(e1:w1=wr.setCell ⟨g,k,none⟩ (.int .u8 (q.getD k 0:Nat)))(hI:RgI w2 r c N (((o+k)%N+1)%N) f (q.drop k).tail)(hT:Two r c w1 w2):TakI w r c N o g m f q w2 (k+1):=by
 have hkp1:Kp (fun x=>x=r∨x=c) (fun x=>x) w w1:=by
  refine ⟨by rw [e1];simpa [World.setCell] using h.kp.size,fun x hx hr=>?_⟩;rw [e1,Below.heap_setCell _ _ _ _ (by show x≠g;omega)];exact h.kp.block x hx hr
 refine ⟨?_,?_,hkp1.trans hT.kp,by rw [hT.os,e1];exact h.os,by rw [hT.tape,e1];exact h.tape,by rw [hT.output,e1];exact h.output⟩
 ·have e:((o+k)%N+1)%N=(o+(k+1))%N:=by rw [Nat.mod_add_mod];rfl
  rw [e,tail_drop] at hI;exact hI
 ·have r1:w1.rowIs g 5 m (fun j=> .int .u8 (if j<k+1 then q.getD j 0 else 0:Nat)):=by
   rw [e1];refine (h.out.set k _).congr fun i _=>?_
   by_cases e:i=k
   ·subst e;rw [if_pos rfl,if_pos (by omega)]
   ·rw [if_neg e];by_cases e2:i<k
    ·rw [if_pos e2,if_pos (by omega)]
    ·rw [if_neg e2,if_neg (by omega)]
  exact r1.of_block (hT.kp.block g r1.lt (by intro x;rcases x with x | x;exact hgr x;exact hgc x))
def zdh(w:World)(r c N o m:Nat)(f:Nat->Nat)(q:List Nat)(x:Ending)(w':World):Prop:=∃ g,x= .returned (.slice (some ⟨g,0,none⟩) m m)∧w.heap.size<=g∧w'.rowIs g 5 m (fun j=> .int .u8 (q.getD j 0:Nat))∧RgI w' r c N ((o+m)%N) f (q.drop m)∧Two r c w w'
theorem vv3{w:World}{r c N o:Nat}{f:Nat->Nat}{q:List Nat}(most:Nat)(h:RgI w r c N o f q)(hc:c<w.heap.size)(hm:most<=1000000) :
  Calls Tryz.prog 52 #[.pointer (some ⟨r,0,none⟩), .int .i64 most] w fun x w'=>zdh w r c N o (min most q.length) f q x w':=by
 obtain ⟨m,hmm⟩:∃ m,m=min most q.length:=⟨_,rfl⟩
 have hm1:m<=q.length:=by omega
 have hqN:=h.hq;have hN:=h.small;have hmk1:=run_make_row' (P:=Tryz.prog) 34 5 (.int .u8 0) 1 Tryz.underlying34 kh5 rfl .i64 .i64 most (by omega) (by omega);have hmk2:=run_make_row' (P:=Tryz.prog) 34 5 (.int .u8 0) 1 Tryz.underlying34 kh5 rfl .i64 .i64 q.length (by omega) (by omega);have hmk0:∀ w:World,(Instr.makeSlice 34 (.int .i64 0) (.int .i64 0)).run Tryz.prog w= .ok (.slice (some ⟨w.heap.size,0,none⟩) 0 0) (w.alloc (.cells (madeCells #[.int .u8 0] 0) 5)):=run_make_row' (P:=Tryz.prog) 34 5 (.int .u8 0) 1 Tryz.underlying34 kh5 rfl .i64 .i64 0 (by omega) (by omega);have c2:w.cell? ⟨r,2,none⟩=some (.int .i64 q.length):=h.row.cell (i:=2) (by omega);have hr:r<w.heap.size:=h.row.lt;have HMM:Hid (m=min most q.length):=hmm;rw [← hmm];have H0:Hid (TakI w r c N o w.heap.size m f q (w.alloc (.cells (madeCells #[.int .u8 0] m) 5)) 0):=by
  refine ⟨?_,?_,Kp.of_below ((Below.refl _ _).alloc (Nat.le_refl _) _),rfl,rfl,rfl⟩
  ·rw [Nat.add_zero,Nat.mod_eq_of_lt h.ho,List.drop_zero];exact ⟨h.row.alloc _,h.cells.alloc _,h.pos,h.small,h.ho,h.hq,h.at_,h.ne⟩
  ·refine (World.rowIs_made w (.int .u8 0) m 5).congr fun i _=>?_
   rw [if_neg (by omega)];rfl
 clear h hmm;go_enter Tryz.func52,Tryz.ntmps52
 go_upto_region 1 with fail
 go_cut [5] (fun s5 wx=>s5= .slice (some ⟨w.heap.size,0,none⟩) m m∧wx=w.alloc (.cells (madeCells #[.int .u8 0] m) 5))
 case first=>
  by_cases h1:q.length<most
  ·have hmq:m=q.length:=by have:=HMM.out;omega
   by_cases h2:0<q.length
   ·go_wp2_with fail
    go_meet
    rw [hmq];exact ⟨rfl,rfl⟩
   ·have HM0:Hid (m=0):=by show m=0;omega
    clear hmq;go_wp2_with fail
    go_meet
    rw [HM0.out];exact ⟨rfl,rfl⟩
  ·have hmq:m=most:=by have:=HMM.out;omega
   by_cases h2:0<most
   ·go_wp2_with fail
    go_meet
    rw [hmq];exact ⟨rfl,rfl⟩
   ·have HM0:Hid (m=0):=by show m=0;omega
    clear hmq;go_wp2_with fail
    go_meet
    rw [HM0.out];exact ⟨rfl,rfl⟩
 case rest=>
 obtain ⟨rfl,rfl⟩:=hcut;clear hmk0 hmk1 hmk2 c2 HMM;go_wp2_with fail
 obtain ⟨g,hg⟩:∃ g,g=w.heap.size:=⟨_,rfl⟩
 rw [← hg] at H0 ⊢;have hgw:w.heap.size<=g:=by omega
 have hgr:g≠r:=by omega
 have hgc:g≠c:=by omega
 have HGE:Hid (w.heap.size<=g):=hgw;clear hg;go_loopw [17] (fun i wr=>∃ k:Nat,k<=m∧i= .int .i64 k∧Hid (TakI w r c N o g m f q wr k)) (fun i _=>m - (intOf i).toNat)
 case atStart=>exact ⟨0,Nat.zero_le _,rfl,H0⟩
 case round=>
  obtain ⟨k,hk,rfl,HH⟩:=hrel;clear H0;by_cases hlt:k<m
  ·have hkq:k<q.length:=by omega
   have c0:wr.cell? ⟨r,0,none⟩=some (.slice (some ⟨c,0,none⟩) N N):=HH.out.rg.row.cell (i:=0) (by omega);have c1:wr.cell? ⟨r,1,none⟩=some (.int .i64 ((o+k)%N:Nat)):=HH.out.rg.row.cell (i:=1) (by omega);have ho:=HH.out.rg.ho;have hv:f ((o+k)%N)=q.getD k 0:=by
    have:=HH.out.rg.at_ 0 (by simp;omega);rw [Nat.add_zero,Nat.mod_eq_of_lt ho] at this;rw [this];simp
   have cc:wr.cell? ⟨c,(o+k)%N,none⟩=some (.int .u8 (q.getD k 0:Nat)):=by rw [← hv];exact HH.out.rg.cells.cell ho
   have cg:=HH.out.out.cell hlt;have fg:=HH.out.out.frozen k;have HDQ:Hid (0<(q.drop k).length):=by show 0<_;simp;omega
   have HRG:Hid (RgI (wr.setCell ⟨g,k,none⟩ (.int .u8 (q.getD k 0:Nat))) r c N ((o+k)%N) f (q.drop k)):=by
    have h:=HH.out.rg;exact ⟨h.row.setOther (a:=⟨g,k,none⟩) (Ne.symm hgr) _,h.cells.setOther (a:=⟨g,k,none⟩) (Ne.symm hgc) _,h.pos,h.small,h.ho,h.hq,h.at_,h.ne⟩
   have HNX:Hid (∀ w1 w2,w1=wr.setCell ⟨g,k,none⟩ (.int .u8 (q.getD k 0:Nat))->RgI w2 r c N (((o+k)%N+1)%N) f (q.drop k).tail->Two r c w1 w2->TakI w r c N o g m f q w2 (k+1)):=fun w1 w2 e1 hI hT=>HH.out.next HGE.out hgr hgc hkq e1 hI hT
   clear hv;obtain ⟨a,ha⟩:∃ a,a=(o+k)%N:=⟨_,rfl⟩
   rw [← ha] at c1 ho cc HRG HNX;clear ha;have hai:(a:Int)<(N:Int):=by omega
   obtain ⟨bv,hbv⟩:∃ bv,bv=q.getD k 0:=⟨_,rfl⟩
   rw [← hbv] at cc HRG HNX;clear hbv;have hki:(k:Int)<(m:Int):=by omega
   go_wp2_with fail
   go_region
   all_goals
    go_wp2_with fail
    refine (yny (HRG.out.drewN 1) HDQ.out).mono ?_;rintro e w2 ⟨rfl,hI,hT⟩;have HN:Hid (TakI w r c N o g m f q w2 (k+1)):=HNX.out _ w2 rfl hI (((Two.refl r c _).drewN 1).trans hT);clear hI hT;go_wp2_with fail
    go_roundw
    case rel=>exact ⟨k+1,by omega,by go_num,HN⟩
    case measure=>simp [intOf];omega
  ·obtain rfl:k=m:=by omega
   go_wp2_with fail
   go_ret
   refine ⟨g,rfl,HGE.out,HH.out.out.congr fun i hi=>by rw [if_pos hi],HH.out.rg,⟨HH.out.kp,HH.out.os,HH.out.tape,HH.out.output⟩⟩
structure MS where
 fm:Nat
 ou:Nat
 ra:Nat
 sl:Nat
 me:Nat
 he:Nat
 sp:Nat
 st:Nat
 er:Nat
 tk:Nat
 pu:Nat
 mb:Nat
 held:Nat
 count:Nat
 marks:Nat
 head:Nat
 hsum:Nat
 sx:Nat
 sy:Nat
 size:Nat
 last:Bool
 left:Nat
 nl:Nat
 nd:Nat
 told:Nat
 hlen:Nat
 hbef:Bool
 hleast:Nat
 hbits:Nat
 lit:Nat
 least:Nat
 bits:Nat
 dist:Nat
 rest:List Nat
 qa:List Nat
 qc:List Nat
 hl:List Int
 row:List Int
 hs:List Int
 la:List Int
 lb:List Int
structure Lo where
 a:Nat
 b:Nat
 c:Nat
 d:Nat
 sv:Value
 sa:Nat
 hv:Value
 hp:Value
 rv:Value
 fx:Value
 sets:Value
def k7n(x:MS)(L:Lo):List Value:=
 [.int .i64 x.fm, .int .i64 x.ou, .int .i64 x.ra, .int .i64 x.sl, .int .i64 x.me, .int .i64 x.he, .int .i64 x.sp,
  .int .i64 x.st, .int .i64 x.er, .int .i64 x.tk, .int .i64 x.pu, .int .i64 x.mb,L.sv, .int .i64 L.sa, .int .u64 x.held, .int .i64 x.count,
  .pointer (some ⟨L.a,0,none⟩), .pointer (some ⟨L.c,0,none⟩), .int .u8 x.marks, .int .i64 x.head, .int .u8 x.hsum, .int .i64 x.sx, .int .i64 x.sy, .int .u16 x.size,
  .bool x.last, .int .i64 x.left, .int .i64 x.nl, .int .i64 x.nd, .int .i64 x.told,L.hv,L.hp, .int .i64 x.hlen, .bool x.hbef, .int .i64 x.hleast, .int .i64 x.hbits,L.rv,
  L.fx,L.sets, .int .u8 x.lit, .int .i64 x.least, .int .i64 x.bits, .int .i64 x.dist]
def lrow(l:List Value)(j:Nat):Value:=l.getD j (.int .i64 0)
theorem ypd{w:World}{p:Nat}{T:TypeId}{n:Nat}{l:List Value}(h:w.rowIs p T n (lrow l))(i:Nat)(v:Value)(hn:l.length=n):(w.setCell ⟨p,i,none⟩ v).rowIs p T n (lrow (l.set i v)):=by
 refine (h.set i v).congr fun j hj=>?_
 unfold lrow;by_cases e:j=i
 ·subst e;rw [if_pos rfl];simp [List.getD_eq_getElem?_getD,hn,hj]
 ·rw [if_neg e];simp [List.getD_eq_getElem?_getD,Ne.symm e]
structure TabS(ρ:Nat->Nat)(w:World)(T:TypeId)(k:Nat)(mean:Nat->List Value)(t:Nat)(l:List Int):Prop where
 tab:∃ m n mg,TabI w T k t m n (cn l) (fc (cn l)) (bgTo l 12) (lgTo l 12) mg∧bsum l 12=n∧(∀ i,i<l.length->0<l.getD i 0->mg (pos l i)=mean i)∧ρ m=8
 role:ρ t=8
 rng:inRange l=true
 len:l.length<=269
def yoe(ρ:Nat->Nat)(w:World)(g:Nat)(la lb:List Int):Prop:=
 ∃ t u,w.rowIs g 224 2 (lrow [.pointer (some ⟨t,0,none⟩), .pointer (some ⟨u,0,none⟩)])∧ρ g=8∧
  TabS ρ w 268 4 (fun i=>(litC i).toList) t la∧TabS ρ w 271 2 (fun i=>(vtb 1 i).toList) u lb
def strN(s:ByteArray):List Nat:=s.data.toList.map UInt8.toNat
structure SupI(ρ:Nat->Nat)(w:World)(v:Value)(sa:Nat)(rest:List Nat):Prop where
 at_:∃ ad P cap,v= .slice ad P.length cap∧StrO w ad P∧P.length<=cap∧cap<=maxLen∧(∀ s∈P,s.size<=maxLen)∧sa<=((P.head?.map ByteArray.size).getD 0)∧rest=(P.flatMap strN).drop sa∧∀ b o,ad=some ⟨b,o,none⟩->ρ b=9
structure MB(ρ:Nat->Nat)(w:World)(p:Nat)(x:MS)(L:Lo):Prop where
 row:w.rowIs p 132 42 (lrow (k7n x L))
 ra:∃ o f,RgI w L.a L.b 64 o f x.qa
 rc:∃ o f,RgI w L.c L.d 256 o f x.qc
 rp:ρ p=1
 rl:ρ L.a=2∧ρ L.b=3∧ρ L.c=4∧ρ L.d=5
structure MT(ρ:Nat->Nat)(w:World)(x:MS)(L:Lo):Prop where
 sup:SupI ρ w L.sv L.sa x.rest
 hl:OI w 0 L.hv x.hl∧∀ g,L.hv.ownBlock=some g->ρ g=6
 rw:OI w 0 L.rv x.row∧∀ g,L.rv.ownBlock=some g->ρ g=7
 hp:x.hs=[]∨∃ t,L.hp= .pointer (some ⟨t,0,none⟩)∧TabS ρ w 265 4 (fun i=>(v3q i).toList) t x.hs
 sets:x.la=[]∨∃ g,L.sets= .pointer (some ⟨g,0,none⟩)∧yoe ρ w g x.la x.lb
 fx:L.fx= .pointer none∨∃ g,L.fx= .pointer (some ⟨g,0,none⟩)∧yoe ρ w g Tr.fixedA Tr.fixedB
 lt:∀ k,ρ k≠0->k<w.heap.size
def MM(ρ:Nat->Nat)(w:World)(p:Nat)(x:MS):Prop:=∃ L,MB ρ w p x L∧MT ρ w x L
structure Fr(R:Nat->Prop)(ρ:Nat->Nat)(w w':World):Prop where
 kp:Kp R ρ w w'
 os:w'.os=w.os
 tape:w'.tape=w.tape
 output:w'.output=w.output
theorem Fr.refl(R:Nat->Prop)(ρ:Nat->Nat)(w:World):Fr R ρ w w:=⟨Kp.refl _ _ _,rfl,rfl,rfl⟩
theorem Fr.trans{R:Nat->Prop}{ρ:Nat->Nat}{a b c:World}(h:Fr R ρ a b)(k:Fr R ρ b c):Fr R ρ a c:=⟨h.kp.trans k.kp,k.os.trans h.os,k.tape.trans h.tape,k.output.trans h.output⟩
theorem Fr.mono{R R':Nat->Prop}{ρ:Nat->Nat}{a b:World}(h:Fr R ρ a b)(hR:∀ x,R x->R' x):Fr R' ρ a b:=⟨h.kp.mono hR,h.os,h.tape,h.output⟩
theorem Fr.below{R:Nat->Prop}{ρ:Nat->Nat}{a b:World}(h:Below a.heap.size a b):Fr R ρ a b:=⟨Kp.of_below h,h.os,h.tape,h.output⟩
theorem Fr.set{R:Nat->Prop}{ρ:Nat->Nat}(a:World)(p:Nat)(i:Nat)(v:Value)(hR:R (ρ p)):Fr R ρ a (a.setCell ⟨p,i,none⟩ v):=⟨Kp.of_set a _ _ hR,rfl,rfl,rfl⟩
theorem Fr.drewN{R:Nat->Prop}{ρ:Nat->Nat}{a b:World}(h:Fr R ρ a b)(n:Nat):Fr R ρ a (b.drewN n):=⟨⟨h.kp.size,h.kp.block⟩,h.os,h.tape,h.output⟩
theorem Fr.two{R:Nat->Prop}{ρ:Nat->Nat}{r c:Nat}{a b:World}(h:Two r c a b)(h1:R (ρ r))(h2:R (ρ c)):Fr R ρ a b:=⟨⟨h.kp.size,fun k hk hr=>h.kp.block k hk (fun e=>by rcases e with e | e <;> subst e <;> exact hr (by assumption))⟩,h.os,h.tape,h.output⟩
theorem TabS.fr{R:Nat->Prop}{ρ:Nat->Nat}{w w':World}{T:TypeId}{k:Nat}{mean:Nat->List Value}{t:Nat}{l:List Int}(h:TabS ρ w T k mean t l)(f:Kp R ρ w w')(h8:¬ R 8):TabS ρ w' T k mean t l:=by
 obtain ⟨m,n,mg,I,h1,h2,h3⟩:=h.tab;refine ⟨⟨m,n,mg,⟨zlz I.row f (by rw [h.role];exact h8),fun j hj=>⟨(I.at_ j hj).1,?_⟩,⟨Nat.lt_of_lt_of_le I.pm.1 f.size,Nat.lt_of_lt_of_le I.pm.2 f.size⟩⟩,h1,h2,h3⟩,h.role,h.rng,h.len⟩;intro i v hv;have:=(I.at_ j hj).2 i v hv;unfold World.cell? at this ⊢;rw [f.block m I.pm.2 (by rw [h3];exact h8)];exact this
theorem yoe.fr{R:Nat->Prop}{ρ:Nat->Nat}{w w':World}{g:Nat}{la lb:List Int}(h:yoe ρ w g la lb)(f:Kp R ρ w w')(h8:¬ R 8):yoe ρ w' g la lb:=by
 obtain ⟨t,u,h1,h2,h3,h4⟩:=h;exact ⟨t,u,zlz h1 f (by rw [h2];exact h8),h2,h3.fr f h8,h4.fr f h8⟩
theorem StrO.kp{R:Nat->Prop}{ρ:Nat->Nat}{w w':World}{ad:Option Addr}{P:List ByteArray}(h:StrO w ad P)(f:Kp R ρ w w')(h0:∀ b o,ad=some ⟨b,o,none⟩->¬ R (ρ b)):StrO w' ad P:=fun k hk=>by
 obtain ⟨b,o,e,h1,h2⟩:=h k hk;refine ⟨b,o,e,Nat.lt_of_lt_of_le h1 f.size,?_⟩;unfold World.cell? at h2 ⊢;rw [f.block b h1 (h0 b o e)];exact h2
theorem SupI.fr{R:Nat->Prop}{ρ:Nat->Nat}{w w':World}{v:Value}{sa:Nat}{rest:List Nat}(h:SupI ρ w v sa rest)(f:Kp R ρ w w')(h0:¬ R 9):SupI ρ w' v sa rest:=by
 obtain ⟨ad,P,cap,e,h1,h2,h3,h4,h5,h6,h7⟩:=h.at_;exact ⟨ad,P,cap,e,h1.kp f (fun b o hb=>by rw [h7 b o hb];exact h0),h2,h3,h4,h5,h6,h7⟩
theorem MT.fr{R:Nat->Prop}{ρ:Nat->Nat}{w w':World}{x:MS}{L:Lo}(h:MT ρ w x L)(f:Kp R ρ w w')(hR:∀ r,R r->r<=5):MT ρ w' x L where
 sup:=h.sup.fr f (fun e=>by have:=hR 9 e;omega)
 hl:=⟨kcz h.hl.1 f (fun g hg e=>by rw [h.hl.2 g hg] at e;have:=hR 6 e;omega),h.hl.2⟩
 rw:=⟨kcz h.rw.1 f (fun g hg e=>by rw [h.rw.2 g hg] at e;have:=hR 7 e;omega),h.rw.2⟩
 hp:=h.hp.imp id fun ⟨t,e,k⟩=>⟨t,e,k.fr f (fun e=>by have:=hR 8 e;omega)⟩
 sets:=h.sets.imp id fun ⟨t,e,k⟩=>⟨t,e,k.fr f (fun e=>by have:=hR 8 e;omega)⟩
 fx:=h.fx.imp id fun ⟨t,e,k⟩=>⟨t,e,k.fr f (fun e=>by have:=hR 8 e;omega)⟩
 lt:=fun k hk=>Nat.lt_of_lt_of_le (h.lt k hk) f.size
theorem x1n{ρ:Nat->Nat}{a b i j:Nat}(ha:ρ a=i)(hb:ρ b=j)(h:i≠j):a≠b:=fun e=>h (by rw [← ha,← hb,e])
theorem RgI.kp{R:Nat->Prop}{ρ:Nat->Nat}{w w':World}{r c N o:Nat}{f:Nat->Nat}{q:List Nat}(h:RgI w r c N o f q)(k:Kp R ρ w w')(h1:¬ R (ρ r))(h2:¬ R (ρ c)):RgI w' r c N o f q:=⟨zlz h.row k h1,zlz h.cells k h2,h.pos,h.small,h.ho,h.hq,h.at_,h.ne⟩
theorem MB.fr{ρ:Nat->Nat}{w w':World}{p:Nat}{x:MS}{L:Lo}(h:MB ρ w p x L)(f:Kp (fun _=>False) ρ w w'):MB ρ w' p x L where
 row:=zlz h.row f (fun e=>e)
 ra:=by obtain ⟨o,g,k⟩:=h.ra;exact ⟨o,g,k.kp f (fun e=>e) (fun e=>e)⟩
 rc:=by obtain ⟨o,g,k⟩:=h.rc;exact ⟨o,g,k.kp f (fun e=>e) (fun e=>e)⟩
 rp:=h.rp
 rl:=h.rl
theorem MM.fr{ρ:Nat->Nat}{w w':World}{p:Nat}{x:MS}(h:MM ρ w p x)(f:Kp (fun _=>False) ρ w w'):MM ρ w' p x:=by
 obtain ⟨L,h1,h2⟩:=h;exact ⟨L,h1.fr f,h2.fr f (fun _ e=>e.elim)⟩
theorem MM.below{ρ:Nat->Nat}{w w':World}{p:Nat}{x:MS}(h:MM ρ w p x)(f:Below w.heap.size w w'):MM ρ w' p x:=h.fr (Kp.of_below f)
theorem MM.drewN{ρ:Nat->Nat}{w:World}{p:Nat}{x:MS}(h:MM ρ w p x)(n:Nat):MM ρ (w.drewN n) p x:=h.fr ⟨Nat.le_refl _,fun _ _ _=>rfl⟩
theorem MB.drewN{ρ:Nat->Nat}{w:World}{p:Nat}{x:MS}{L:Lo}(h:MB ρ w p x L)(n:Nat):MB ρ (w.drewN n) p x L:=h.fr ⟨Nat.le_refl _,fun _ _ _=>rfl⟩
theorem MT.drewN{ρ:Nat->Nat}{w:World}{x:MS}{L:Lo}(h:MT ρ w x L)(n:Nat):MT ρ (w.drewN n) x L:=h.fr (R:=fun _=>False) ⟨Nat.le_refl _,fun _ _ _=>rfl⟩ (fun _ e=>e.elim)
theorem MB.set{ρ:Nat->Nat}{w:World}{p:Nat}{x y:MS}{L M:Lo}(h:MB ρ w p x L)(i:Nat)(v:Value)(e:(k7n x L).set i v=k7n y M)(ha:M.a=L.a∧M.b=L.b∧M.c=L.c∧M.d=L.d)(hq:y.qa=x.qa∧y.qc=x.qc):MB ρ (w.setCell ⟨p,i,none⟩ v) p y M:=by
 obtain ⟨o,f,k⟩:=h.ra;obtain ⟨o2,f2,k2⟩:=h.rc;have hk:Kp (fun r=>r=1) ρ w (w.setCell ⟨p,i,none⟩ v):=Kp.of_set w _ _ h.rp;obtain ⟨r1,r2,r3,r4⟩:=h.rl;obtain ⟨a1,a2,a3,a4⟩:=ha;refine ⟨by rw [← e];exact ypd h.row i v rfl,⟨o,f,?_⟩,⟨o2,f2,?_⟩,h.rp,by rw [a1,a2,a3,a4];exact h.rl⟩
 ·rw [a1,a2,hq.1];exact k.kp hk (by rw [r1];decide) (by rw [r2];decide)
 ·rw [a3,a4,hq.2];exact k2.kp hk (by rw [r3];decide) (by rw [r4];decide)
theorem MT.set{ρ:Nat->Nat}{w:World}{p:Nat}{x:MS}{L:Lo}(h:MT ρ w x L)(hp:ρ p=1)(i:Nat)(v:Value):MT ρ (w.setCell ⟨p,i,none⟩ v) x L:=h.fr (R:=fun r=>r=1) (Kp.of_set w _ _ hp) (fun r e=>by omega)
namespace MS
def refuse(x:MS)(e:Nat):MS×Nat:=({ x with er:=e,qa:=[] },3)
def rd(x:MS)(k:Nat):MS:={ x with held:=x.held / 2^k,count:=x.count - k }
def num(x:MS)(k:Nat):Nat:=x.held%2^k
def andThen(r:MS×Nat)(f:MS->MS×Nat):MS×Nat:=if r.2=0 then f r.1 else r
def fed(x:MS)(b:Nat)(l:List Nat):MS:={ x with held:=x.held+2^x.count*b,count:=x.count+8,tk:=x.tk+1,rest:=l }
def takeL(x:MS):List Nat->MS×Nat
 | []=>(x,1)
 | b :: l=>if x.sp<=x.tk+x.pu then x.refuse 16 else (x.fed b l,0)
def take(x:MS):MS×Nat:=x.takeL x.rest
def needL(k:Nat):List Nat->MS->MS×Nat
 | [],x=>if k<=x.count then (x,0) else (x,1)
 | b :: l,x=>if k<=x.count then (x,0) else if x.sp<=x.tk+x.pu then x.refuse 16 else needL k l (x.fed b l)
def need(k:Nat)(x:MS):MS×Nat:=needL k x.rest x
def putE(x:MS):Nat:=if x.sp<=x.tk+x.pu then 16 else if x.ou<=x.pu then 17 else if x.ra*x.tk+x.sl<=x.pu then 18 else 0
def pushed(q:List Nat)(b:Nat):List Nat:=if q.length=256 then q.tail++[b] else q++[b]
def putted(x:MS)(b:Nat):MS:={ x with pu:=x.pu+1,qa:=x.qa++[b],qc:=pushed x.qc b,sx:=(x.sx+b)%65521,sy:=(x.sy+(x.sx+b)%65521)%65521,size:=(x.size+1)%65536 }
def put(x:MS)(b:Nat):MS×Nat:=if x.qa.length=64 then (x,2) else if x.putE≠0 then x.refuse x.putE else (x.putted b,0)
def symL(l:List Int):Nat->Nat->Nat->MS->MS×Nat×Nat
 | 0,_,_,x=>((x.refuse 11).1,3,0)
 | r+1,n,code,x=>
  if (need n x).2≠0 then ((need n x).1,(need n x).2,0)
  else if 0<=find (rset l) n ((2*code+(need n x).1.held / 2^(n - 1)%2:Nat):Int) then ((need n x).1.rd n,0,(find (rset l) n ((2*code+(need n x).1.held / 2^(n - 1)%2:Nat):Int)).toNat)
  else symL l r (n+1) (2*code+(need n x).1.held / 2^(n - 1)%2) (need n x).1
def sym(l:List Int)(x:MS):MS×Nat×Nat:=symL l (lgTo l 12) 1 0 x
def symThen(r:MS×Nat×Nat)(f:MS->Nat->MS×Nat):MS×Nat:=if r.2.1=0 then f r.1 r.2.2 else (r.1,r.2.1)
def spanR(x:MS)(least bits:Nat):MS×Nat×Nat:=if (need bits x).2=0 then ((need bits x).1.rd bits,0,least+(need bits x).1.num bits) else ((need bits x).1,(need bits x).2,0)
def beginMember(x:MS):MS×Nat:=andThen (need 8 x) fun y=>if y.mb=y.me then y.refuse 6 else ({ y with mb:=y.mb+1,marks:=0,head:=0,hsum:=0,sx:=1,sy:=0,size:=0,qc:=[] },0)
def headRead(y:MS):MS:={ y.rd 8 with head:=y.head+1,hsum:=(y.hsum+y.num 8)%256 }
def takeHead(x:MS):MS×Nat×Nat:=if (need 8 x).2≠0 then ((need 8 x).1,(need 8 x).2,0) else if (need 8 x).1.head=(need 8 x).1.he then (((need 8 x).1.refuse 5).1,3,0) else ((need 8 x).1.headRead,0,(need 8 x).1.num 8)
def passByte(want:Nat)(x:MS):MS×Nat:=symThen x.takeHead fun y b=>if b=want then (y,0) else y.refuse 4
def passFixed(want:Nat)(x:MS):MS×Nat:=if x.fm=0 then (x,0) else passByte want x
def passMarks(x:MS):MS×Nat:=if x.fm=2 then symThen x.takeHead fun y b=>if 7<b then y.refuse 4 else ({ y with marks:=b },0) else (x,0)
def textL:Nat->MS->MS×Nat
 | 0,x=>(x,1)
 | f+1,x=>if x.takeHead.2.1≠0∨x.takeHead.2.2=0 then (x.takeHead.1,x.takeHead.2.1) else textL f x.takeHead.1
def more(x:MS):Nat:=x.rest.length+x.count / 8
def passText(mark:Nat)(x:MS):MS×Nat:=if x.marks / mark%2=0 then (x,0) else textL (x.more+1) x
def passCheck(x:MS):MS×Nat:=if x.marks / 4%2=0 then (x,0) else passByte x.hsum x
def first(fm:Nat):Nat:=if fm=1 then 115 else 76
def second(fm:Nat):Nat:=if fm=1 then 1 else 2
def h6(x:MS):MS×Nat:=andThen (passCheck x) fun y=>({ y with st:=7 },0)
def h5(x:MS):MS×Nat:=andThen (passText 2 x) fun y=>h6 { y with st:=6 }
def h4(x:MS):MS×Nat:=andThen (passText 1 x) fun y=>h5 { y with st:=5 }
def h3(x:MS):MS×Nat:=andThen (passMarks x) fun y=>h4 { y with st:=4 }
def h2(x:MS):MS×Nat:=andThen (passFixed (second x.fm) x) fun y=>h3 { y with st:=3 }
def h1(x:MS):MS×Nat:=andThen (passFixed (first x.fm) x) fun y=>h2 { y with st:=2 }
def h0(x:MS):MS×Nat:=andThen (beginMember x) fun y=>h1 { y with st:=1 }
def skipBits(x:MS):MS×Nat:=if x.num x.count=0 then (x.rd x.count,0) else (x.rd x.count).refuse 8
def endBlock(x:MS):MS×Nat:=if x.last then skipBits { x with st:=22 } else ({ x with st:=7 },0)
def kind(y:MS):MS×Nat:=
 if y.held / 2%4=0 then skipBits { y.rd 3 with last:=y.num 1==1,st:=8 }
 else if y.held / 2%4=1 then ({ y.rd 3 with last:=y.num 1==1,la:=Tr.fixedA,lb:=Tr.fixedB,st:=17 },0)
 else if y.held / 2%4=2 then ({ y.rd 3 with last:=y.num 1==1,st:=10 },0)
 else ({ y.rd 3 with last:=y.num 1==1 }:MS).refuse 7
def b7(x:MS):MS×Nat:=andThen (need 3 x) kind
def plainL:Nat->MS->MS×Nat
 | 0,x=>endBlock x
 | n+1,x=>andThen (need 8 x) fun y=>andThen (y.put (y.num 8)) fun z=>plainL n { z.rd 8 with left:=n }
def b9(x:MS):MS×Nat:=plainL x.left x
def b8(x:MS):MS×Nat:=andThen (need 32 x) fun y=>if y.held / 65536%65536=65535 - y.num 16 then b9 { y.rd 32 with left:=y.num 16,st:=9 } else ({ y.rd 32 with left:=y.num 16 }:MS).refuse 9
def helpersMade(x:MS):MS×Nat:=if jwa gw (hset x.hl)=2048 then ({ x with hs:=hset x.hl,st:=14 },0) else x.refuse 10
def hlL:Nat->MS->MS×Nat
 | 0,x=>helpersMade x
 | n+1,x=>andThen (need 3 x) fun y=>hlL n { y.rd 3 with hl:=y.hl++[(y.num 3:Int)] }
def o13(x:MS):MS×Nat:=hlL (x.told - x.hl.length) x
def o12(x:MS):MS×Nat:=andThen (need 4 x) fun y=>if 11<y.num 4 then ({ y.rd 4 with told:=4+y.num 4 }:MS).refuse 10 else o13 { y.rd 4 with told:=4+y.num 4,st:=13 }
def o11(x:MS):MS×Nat:=andThen (need 4 x) fun y=>o12 { y.rd 4 with nd:=1+y.num 4,st:=12 }
def o10(x:MS):MS×Nat:=andThen (need 4 x) fun y=>if 12<y.num 4 then ({ y.rd 4 with nl:=257+y.num 4 }:MS).refuse 10 else o11 { y.rd 4 with nl:=257+y.num 4,st:=11 }
def endRow(x:MS):MS×Nat:=
 if jcj (x.row.take x.nl) (x.row.drop x.nl) then x.refuse 10
 else ({ x with la:=x.row.take x.nl,lb:=x.row.drop x.nl,nl:=0,nd:=0,told:=0,hl:=[],hs:=[],hlen:=0,hbef:=false,hleast:=0,hbits:=0,row:=[],st:=17 },0)
def rowLen(x:MS):Int:=if x.hbef then x.row.getD (x.row.length - 1) 0 else x.hlen
def rowEnd(x:MS):MS×Nat:=if x.row.length=x.nl+x.nd then endRow x else (x,0)
def r15(x:MS):MS×Nat:=symThen (x.spanR x.hleast x.hbits) fun y times=>
 if (y.hbef=true∧y.row.length=0)∨y.nl+y.nd<y.row.length+times then y.refuse 10
 else rowEnd { y with row:=y.row++List.replicate times y.rowLen,st:=14 }
def helped(x:MS)(k:Nat):MS:={ x with hlen:=if k=12∨k=13∨k=14 then 0 else k,hbef:=decide (k=12),hleast:=Go.Proofs.YtbcjmakpempkiaaGreatDoor.hleast k,hbits:=Go.Proofs.YtbcjmakpempkiaaGreatDoor.hbits k }
def r14(x:MS):MS×Nat:=symThen (x.sym x.hs) fun y k=>r15 { y.helped k with st:=15 }
def copyL:Nat->MS->MS×Nat
 | 0,x=>({ x with st:=17 },0)
 | n+1,x=>andThen (x.put (x.qc.getD (x.qc.length - x.dist) 0)) fun y=>copyL n { y with left:=n }
def c21(x:MS):MS×Nat:=copyL x.left x
def c20(x:MS):MS×Nat:=symThen (x.spanR x.least x.bits) fun y n=>if y.qc.length<n then y.refuse 11 else c21 { y with dist:=n,st:=21 }
def c19(x:MS):MS×Nat:=symThen (x.sym x.lb) fun y k=>c20 { y with least:=Tr.spanLeast 1 k,bits:=Tr.spanBits k,st:=20 }
def c18(x:MS):MS×Nat:=symThen (x.spanR x.least x.bits) fun y n=>c19 { y with left:=n,st:=19 }
def c17(x:MS):MS×Nat:=symThen (x.sym x.la) fun y k=>
 if k<256 then ({ y with lit:=k,st:=16 },0) else if k=256 then endBlock y
 else c18 { y with least:=Tr.spanLeast 3 (k - 257),bits:=Tr.spanBits (k - 257),st:=18 }
def c16(x:MS):MS×Nat:=andThen (x.put x.lit) fun y=>c17 { y with st:=17 }
def e24(x:MS):MS×Nat:=andThen (need 8 x) fun y=>if y.fm=2 then ({ y with st:=0 },0) else y.refuse 14
def passSize(x:MS):MS×Nat:=if x.fm=2 then andThen (need 16 x) fun y=>if y.num 16=y.size then (y.rd 16,0) else (y.rd 16).refuse 13 else (x,0)
def e23(x:MS):MS×Nat:=andThen (passSize x) fun y=>e24 { y with st:=24 }
def passSum(x:MS):MS×Nat:=if x.fm=0 then (x,0) else andThen (need 32 x) fun y=>if big4 y.held=65536*y.sy+y.sx then (y.rd 32,0) else (y.rd 32).refuse 12
def e22(x:MS):MS×Nat:=andThen (passSum x) fun y=>e23 { y with st:=23 }
def advance(x:MS):MS×Nat:=
 match x.st with
 | 0=>h0 x
 | 1=>h1 x
 | 2=>h2 x
 | 3=>h3 x
 | 4=>h4 x
 | 5=>h5 x
 | 6=>h6 x
 | 7=>b7 x
 | 8=>b8 x
 | 9=>b9 x
 | 10=>o10 x
 | 11=>o11 x
 | 12=>o12 x
 | 13=>o13 x
 | 14=>r14 x
 | 15=>r15 x
 | 16=>c16 x
 | 17=>c17 x
 | 18=>c18 x
 | 19=>c19 x
 | 20=>c20 x
 | 21=>c21 x
 | 22=>e22 x
 | 23=>e23 x
 | _=>e24 x
end MS
def y0y(ρ:Nat->Nat)(w:World)(p:Nat)(r:MS×Nat)(e:Ending)(w':World):Prop:=e= .returned (.int .i64 r.2)∧MM ρ w' p r.1∧Fr (fun k=>1<=k∧k<=5) ρ w w'
theorem ve5{w:World}{r c N o:Nat}{f:Nat->Nat}{q:List Nat}(h:RgI w r c N o f q) :
  Calls Tryz.prog 109 #[.pointer (some ⟨r,0,none⟩)] w fun x w'=>x= .returned (.tuple #[])∧RgI w' r c N o f []∧Two r c w w':=by
 have c2:w.cell? ⟨r,2,none⟩=some (.int .i64 q.length):=h.row.cell (i:=2) (by omega);have f2:=h.row.frozen 2;have HR:Hid (RgI (w.setCell ⟨r,2,none⟩ (.int .i64 0)) r c N o f []∧Two r c w (w.setCell ⟨r,2,none⟩ (.int .i64 0))):=by
  refine ⟨⟨(h.row.set 2 _).congr (xgl rfl rfl rfl),h.cells.setOther (a:=⟨r,2,none⟩) (Ne.symm h.ne) _,h.pos,h.small,h.ho,Nat.zero_le _,fun i hi=>by simp at hi,h.ne⟩,Two.set1 r c w 2 _⟩
 clear h;go_enter Tryz.func109,Tryz.ntmps109
 go_wp2_with fail
 go_end0
 exact ⟨rfl,HR.out⟩
theorem MB.ringA{ρ:Nat->Nat}{w w':World}{p:Nat}{x:MS}{L:Lo}(h:MB ρ w p x L){o:Nat}{f:Nat->Nat}{q:List Nat}(hr:RgI w' L.a L.b 64 o f q)(ht:Two L.a L.b w w'):MB ρ w' p { x with qa:=q } L:=by
 have k:Fr (fun r=>r=2∨r=3) ρ w w':=Fr.two ht (Or.inl h.rl.1) (Or.inr h.rl.2.1);obtain ⟨o2,f2,k2⟩:=h.rc;exact ⟨zlz h.row k.kp (by rw [h.rp];decide),⟨o,f,hr⟩,⟨o2,f2,k2.kp k.kp (by rw [h.rl.2.2.1];decide) (by rw [h.rl.2.2.2];decide)⟩,h.rp,h.rl⟩
theorem MB.ringC{ρ:Nat->Nat}{w w':World}{p:Nat}{x:MS}{L:Lo}(h:MB ρ w p x L){o:Nat}{f:Nat->Nat}{q:List Nat}(hr:RgI w' L.c L.d 256 o f q)(ht:Two L.c L.d w w'):MB ρ w' p { x with qc:=q } L:=by
 have k:Fr (fun r=>r=4∨r=5) ρ w w':=Fr.two ht (Or.inl h.rl.2.2.1) (Or.inr h.rl.2.2.2);obtain ⟨o2,f2,k2⟩:=h.ra;exact ⟨zlz h.row k.kp (by rw [h.rp];decide),⟨o2,f2,k2.kp k.kp (by rw [h.rl.1];decide) (by rw [h.rl.2.1];decide)⟩,⟨o,f,hr⟩,h.rp,h.rl⟩
theorem MT.same{ρ:Nat->Nat}{w:World}{x y:MS}{L:Lo}(h:MT ρ w x L)(h1:y.rest=x.rest)(h2:y.hl=x.hl)(h3:y.row=x.row)(h4:y.hs=x.hs)(h5:y.la=x.la∧y.lb=x.lb):MT ρ w y L:=⟨by rw [h1];exact h.sup,by rw [h2];exact h.hl,by rw [h3];exact h.rw,by rw [h4];exact h.hp,by rw [h5.1,h5.2];exact h.sets,h.fx,h.lt⟩
theorem Fr.five{ρ:Nat->Nat}{w w':World}{r c i j:Nat}(h:Two r c w w')(h1:ρ r=i)(h2:ρ c=j)(hi:1<=i∧i<=5)(hj:1<=j∧j<=5):Fr (fun k=>1<=k∧k<=5) ρ w w':=Fr.two h (by rw [h1];exact hi) (by rw [h2];exact hj)
theorem MT.fr5{ρ:Nat->Nat}{w w':World}{x:MS}{L:Lo}(h:MT ρ w x L)(f:Fr (fun k=>1<=k∧k<=5) ρ w w'):MT ρ w' x L:=h.fr f.kp (fun _ e=>e.2)
theorem Fr.own{ρ:Nat->Nat}(w:World)(p i:Nat)(v:Value)(h:ρ p=1):Fr (fun k=>1<=k∧k<=5) ρ w (w.setCell ⟨p,i,none⟩ v):=Fr.set w p i v (by rw [h];decide)
theorem kv8{ρ:Nat->Nat}{w:World}{p:Nat}{x:MS}(e:Nat)(h:MM ρ w p x) :
  Calls Tryz.prog 79 #[.pointer (some ⟨p,0,none⟩), .int .i64 e] w fun v w'=>y0y ρ w p (x.refuse e) v w':=by
 obtain ⟨L,B,T⟩:=h;have f8:=B.row.frozen 8;have c8:w.cell? ⟨p,8,none⟩=some (.int .i64 x.er):=B.row.cell (i:=8) (by omega);have c16:w.cell? ⟨p,16,none⟩=some (.pointer (some ⟨L.a,0,none⟩)):=B.row.cell (i:=16) (by omega);have HB:Hid (MB ρ (w.setCell ⟨p,8,none⟩ (.int .i64 e)) p { x with er:=e } L∧MT ρ (w.setCell ⟨p,8,none⟩ (.int .i64 e)) x L∧Fr (fun k=>1<=k∧k<=5) ρ w (w.setCell ⟨p,8,none⟩ (.int .i64 e))):=⟨B.set 8 (.int .i64 e) rfl ⟨rfl,rfl,rfl,rfl⟩ ⟨rfl,rfl⟩,T.set B.rp 8 _,Fr.own w p 8 _ B.rp⟩
 clear B T;go_enter Tryz.func79,Tryz.ntmps79
 go_wp2_with fail
 obtain ⟨o,f,hr⟩:=HB.out.1.ra;refine (ve5 hr).mono ?_;rintro v w1 ⟨rfl,hr1,ht1⟩;have F1:=Fr.five ht1 HB.out.1.rl.1 HB.out.1.rl.2.1 (by decide) (by decide);have HR:Hid (MM ρ w1 p (x.refuse e).1∧Fr (fun k=>1<=k∧k<=5) ρ w w1):=⟨⟨L,HB.out.1.ringA hr1 ht1,(HB.out.2.1.fr5 F1).same rfl rfl rfl rfl ⟨rfl,rfl⟩⟩,HB.out.2.2.trans F1⟩
 clear hr hr1 ht1 F1;go_wp2_with fail
 go_ret
 exact ⟨rfl,HR.out⟩
structure SupP(ρ:Nat->Nat)(w:World)(v:Value)(sa:Nat)(rest:List Nat)(ad:Option Addr)(P:List ByteArray)(cap:Nat):Prop where
 v:v= .slice ad P.length cap
 str:StrO w ad P
 capL:P.length<=cap
 capM:cap<=maxLen
 each:∀ s∈P,s.size<=maxLen
 le:sa<=((P.head?.map ByteArray.size).getD 0)
 rest:rest=(P.flatMap strN).drop sa
 role:∀ b o,ad=some ⟨b,o,none⟩->ρ b=9
theorem SupI.open_{ρ:Nat->Nat}{w:World}{v:Value}{sa:Nat}{rest:List Nat}(h:SupI ρ w v sa rest):∃ ad P cap,SupP ρ w v sa rest ad P cap:=by
 obtain ⟨ad,P,cap,h1,h2,h3,h4,h5,h6,h7,h8⟩:=h.at_;exact ⟨ad,P,cap,h1,h2,h3,h4,h5,h6,h7,h8⟩
theorem SupP.shut{ρ:Nat->Nat}{w:World}{v:Value}{sa:Nat}{rest:List Nat}{ad:Option Addr}{P:List ByteArray}{cap:Nat}(h:SupP ρ w v sa rest ad P cap):SupI ρ w v sa rest:=⟨ad,P,cap,h.v,h.str,h.capL,h.capM,h.each,h.le,h.rest,h.role⟩
theorem zty(s:ByteArray):(strN s).length=s.size:=by unfold strN;rw [List.length_map];rfl
theorem SupP.tail{ρ:Nat->Nat}{w:World}{v:Value}{sa:Nat}{rest:List Nat}{ad:Option Addr}{s:ByteArray}{P:List ByteArray}{cap:Nat}(h:SupP ρ w v sa rest ad (s :: P) cap)(hs:sa=s.size){ad':Option Addr}(ha:∀ b o,ad=some ⟨b,o,none⟩->ad'=some ⟨b,o+1,none⟩∨(P=[]∧ad'=some ⟨b,o,none⟩)):SupP ρ w (.slice ad' P.length (cap - 1)) 0 rest ad' P (cap - 1):=by
 obtain ⟨b,o,e,h1,h2⟩:=h.str 0 (by simp);have hc:=h.capL;simp at hc;refine ⟨rfl,fun k hk=>?_,by omega,by have:=h.capM;omega,fun s hs=>h.each s (List.mem_cons_of_mem _ hs),Nat.zero_le _,?_,fun b' o' e'=>?_⟩
 ·obtain ⟨b2,o2,e2,h3,h4⟩:=h.str (k+1) (by simp;omega);rcases ha b2 o2 e2 with e3 | e3
  ·exact ⟨b2,o2+1,e3,h3,by rw [show o2+1+k=o2+(k+1) by omega];simpa using h4⟩
  ·rw [e3.1] at hk;simp at hk
 ·rw [h.rest,hs,List.flatMap_cons,List.drop_zero,List.drop_append_of_le_length (by rw [zty];exact Nat.le_refl _),List.drop_eq_nil_of_le (by rw [zty];exact Nat.le_refl _),List.nil_append]
 ·rcases ha b o e with e3 | e3
  ·rw [e3] at e';injection e' with e';injection e' with e1 e2;rw [← e1];exact h.role b o e
  ·rw [e3.2] at e';injection e' with e';injection e' with e1 e2;rw [← e1];exact h.role b o e
def lenW(w:World)(p:Nat):Nat:=match w.cell? ⟨p,12,none⟩ with | some (.slice _ n _)=>n | _=>0
theorem xts{w:World}{p:Nat}{ad:Option Addr}{n cap:Nat}(h:w.cell? ⟨p,12,none⟩=some (.slice ad n cap)):lenW w p=n:=by unfold lenW;rw [h]
theorem MB.supply{ρ:Nat->Nat}{w:World}{p:Nat}{x:MS}{L:Lo}(h:MB ρ w p x L)(v:Value)(n:Nat):MB ρ ((w.setCell ⟨p,12,none⟩ v).setCell ⟨p,13,none⟩ (.int .i64 n)) p x { L with sv:=v,sa:=n }:=
 (h.set (y:=x) (M:={ L with sv:=v }) 12 v rfl ⟨rfl,rfl,rfl,rfl⟩ ⟨rfl,rfl⟩).set 13 (.int .i64 n) rfl ⟨rfl,rfl,rfl,rfl⟩ ⟨rfl,rfl⟩
theorem MT.supply{ρ:Nat->Nat}{w:World}{x:MS}{L:Lo}(h:MT ρ w x L){v:Value}{n:Nat}{l:List Nat}(hs:SupI ρ w v n l):MT ρ w { x with rest:=l } { L with sv:=v,sa:=n }:=⟨hs,h.hl,h.rw,h.hp,h.sets,h.fx,h.lt⟩
structure zox(ρ:Nat->Nat)(w:World)(p:Nat)(x:MS)(L:Lo)(w':World):Prop where
 mb:MB ρ w' p x L
 mt:MT ρ w' x L
 fr:Fr (fun k=>1<=k∧k<=5) ρ w w'
theorem xyh{ρ:Nat->Nat}{w:World}{p:Nat}{x:MS}(h:MM ρ w p x) :
  Calls Tryz.prog 186 #[.pointer (some ⟨p,12,none⟩)] w fun v w'=>v= .returned (.bool (decide (x.rest=[])))∧∃ L,zox ρ w p x L w'∧(x.rest≠[]->∃ ad s P cap,SupP ρ w' L.sv L.sa x.rest ad (s :: P) cap∧L.sa<s.size):=by
 obtain ⟨L0,B0,T0⟩:=h;have H0:Hid (∃ L,zox ρ w p x L w):=⟨L0,B0,T0,Fr.refl _ _ _⟩
 clear B0 T0 L0;go_enter Tryz.func186,Tryz.ntmps186
 go_wp2_with fail
 go_loopw [] (fun wr=>Hid (∃ L,zox ρ w p x L wr)) (fun wr=>lenW wr p)
 case atStart=>exact H0
 case round=>
  clear H0;obtain ⟨L,E⟩:=hrel.out;obtain ⟨ad,P,cap,S⟩:=E.mt.sup.open_;have c12:wr.cell? ⟨p,12,none⟩=some L.sv:=E.mb.row.cell (i:=12) (by omega);have c13:wr.cell? ⟨p,13,none⟩=some (.int .i64 L.sa):=E.mb.row.cell (i:=13) (by omega);have f12:=E.mb.row.frozen 12;have f13:=E.mb.row.frozen 13;rw [S.v] at c12;have hlen:=xts c12;cases P with
  | nil=>
   have hr0:x.rest=[]:=by rw [S.rest];simp
   have HE:Hid (∃ L,zox ρ w p x L (wr.drewN 1)):=⟨L,E.mb.drewN 1,E.mt.drewN 1,E.fr.drewN 1⟩
   have HR0:Hid (x.rest=[]):=hr0;simp only [List.length_nil] at c12;clear E S hrel hr0 hlen;go_wp2_with fail
   go_quiet (fail)
   go_wp2_with fail
   go_ret
   obtain ⟨L',E'⟩:=HE.out;refine ⟨by rw [HR0.out];simp,L',⟨E'.mb.fr ⟨Nat.le_refl _,fun _ _ _=>rfl⟩,E'.mt.fr (R:=fun _=>False) ⟨Nat.le_refl _,fun _ _ _=>rfl⟩ (fun _ e=>e.elim),⟨⟨E'.fr.kp.size,E'.fr.kp.block⟩,E'.fr.os,E'.fr.tape,E'.fr.output⟩⟩,fun h=>absurd HR0.out h⟩
  | cons s P=>
   obtain ⟨b,o,rfl,hb,hcell⟩:=S.str 0 (by simp);have hcell0:wr.cell? ⟨b,o,none⟩=some (.string s):=hcell;by_cases hsa:L.sa=s.size
   ·have hsai:((L.sa:Int)==(s.size:Int))=true:=by simp [hsa]
    have hss:s.size<=maxLen:=S.each s (by simp);have hPl:P.length+1<=cap:=by have:=S.capL;simp at this;omega
    have hPm:=S.capM;unfold maxLen at hPm hss;simp only [List.length_cons] at c12;have HS:Hid (SupP ρ wr L.sv L.sa x.rest (some ⟨b,o,none⟩) (s :: P) cap):=S;have HE:Hid (zox ρ w p x L wr):=E;clear E S hrel hcell;go_wp2_with fail
    go_quiet (fail)
    go_wp2_with fail
    have S1:SupP ρ (wr.drewN nq) L.sv L.sa x.rest (some ⟨b,o,none⟩) (s :: P) cap:=⟨HS.out.v,HS.out.str,HS.out.capL,HS.out.capM,HS.out.each,HS.out.le,HS.out.rest,HS.out.role⟩
    have S2:=S1.tail hsa (ad':=if cap=1 then some ⟨b,o,none⟩ else some ⟨b,o+1,none⟩) (fun b' o' e=>by
     injection e with e
     injection e with e1 e2
     subst e1 e2;by_cases h1:cap=1
     ·rw [if_pos h1];exact Or.inr ⟨List.length_eq_zero_iff.1 (by omega),rfl⟩
     ·rw [if_neg h1];exact Or.inl rfl)
    have T1:=(HE.out.mt.drewN nq).supply S2.shut;have F1:Fr (fun k=>1<=k∧k<=5) ρ (wr.drewN nq) (((wr.drewN nq).setCell ⟨p,12,none⟩ (.slice (if cap=1 then some ⟨b,o,none⟩ else some ⟨b,o+1,none⟩) P.length (cap - 1))).setCell ⟨p,13,none⟩ (.int .i64 0)):=(Fr.own _ p 12 _ HE.out.mb.rp).trans (Fr.own _ p 13 _ HE.out.mb.rp);have B1:=(HE.out.mb.drewN nq).supply (.slice (if cap=1 then some ⟨b,o,none⟩ else some ⟨b,o+1,none⟩) P.length (cap - 1)) 0;refine ⟨⟨_,B1,(T1.fr5 F1).same rfl rfl rfl rfl ⟨rfl,rfl⟩,(HE.out.fr.drewN nq).trans F1⟩,?_⟩;rw [hlen];have c12':=B1.row.cell (i:=12) (by omega);exact Nat.lt_of_le_of_lt (Nat.le_of_eq (xts (ad:=if cap=1 then some ⟨b,o,none⟩ else some ⟨b,o+1,none⟩) (n:=P.length) (cap:=cap - 1) c12')) (by simp)
   ·have hlt:L.sa<s.size:=by have:=S.le;simp at this;omega
    have hsai:((L.sa:Int)==(s.size:Int))=false:=by simp;omega
    have hPm:=S.capM;have hss:s.size<=maxLen:=S.each s (by simp);unfold maxLen at hPm hss;have hPl:P.length+1<=cap:=by have:=S.capL;simp at this;omega
    simp only [List.length_cons] at c12;have HS:Hid (SupP ρ wr L.sv L.sa x.rest (some ⟨b,o,none⟩) (s :: P) cap):=S;have HE:Hid (zox ρ w p x L wr):=E;clear E S hrel hcell;go_wp2_with fail
    go_quiet (fail)
    go_wp2_with fail
    go_ret
    have hne:x.rest≠[]:=by
     rw [HS.out.rest,List.flatMap_cons,List.drop_append_of_le_length (by rw [zty];omega)];intro e;have:=congrArg List.length e;rw [List.length_append,List.length_drop,zty] at this;simp at this;omega
    refine ⟨by rw [decide_eq_false hne];rfl,L,⟨HE.out.mb.drewN nq,HE.out.mt.drewN nq,HE.out.fr.drewN nq⟩,fun _=>⟨some ⟨b,o,none⟩,s,P,cap,⟨HS.out.v,HS.out.str,HS.out.capL,HS.out.capM,HS.out.each,HS.out.le,HS.out.rest,HS.out.role⟩,hlt⟩⟩
theorem SupP.cons{ρ:Nat->Nat}{w:World}{v:Value}{sa:Nat}{rest:List Nat}{ad:Option Addr}{s:ByteArray}{P:List ByteArray}{cap:Nat}(h:SupP ρ w v sa rest ad (s :: P) cap)(hs:sa<s.size):rest=(s[sa]).toNat :: (((s :: P).flatMap strN).drop (sa+1))∧SupP ρ w v (sa+1) (((s :: P).flatMap strN).drop (sa+1)) ad (s :: P) cap:=by
 have hl:sa<((s :: P).flatMap strN).length:=by rw [List.flatMap_cons,List.length_append,zty];omega
 refine ⟨?_,h.v,h.str,h.capL,h.capM,h.each,by simp;omega,rfl,h.role⟩;rw [h.rest,List.drop_eq_getElem_cons hl];congr 1
 have h2:sa<(strN s).length:=by rw [zty];exact hs
 simp only [List.flatMap_cons];rw [List.getElem_append_left h2];exact (List.getElem_map UInt8.toNat (h:=h2)).trans rfl
theorem je7{ρ:Nat->Nat}{w:World}{p:Nat}{x:MS}{L:Lo}{ad:Option Addr}{s:ByteArray}{P:List ByteArray}{cap:Nat}(B:MB ρ w p x L)(T:MT ρ w x L)(S:SupP ρ w L.sv L.sa x.rest ad (s :: P) cap)(hs:L.sa<s.size) :
  Calls Tryz.prog 189 #[.pointer (some ⟨p,12,none⟩)] w fun v w'=>v= .returned (.int .u8 ((s[L.sa]).toNat:Nat))∧∃ n,w'=(w.drewN n).setCell ⟨p,13,none⟩ (.int .i64 (L.sa+1:Nat)):=by
 have c12:w.cell? ⟨p,12,none⟩=some L.sv:=B.row.cell (i:=12) (by omega);have c13:w.cell? ⟨p,13,none⟩=some (.int .i64 L.sa):=B.row.cell (i:=13) (by omega);have f13:=B.row.frozen 13;obtain ⟨b,o,rfl,hb,hcell⟩:=S.str 0 (by simp);have hcell0:w.cell? ⟨b,o,none⟩=some (.string s):=hcell;rw [S.v] at c12;have hss:s.size<=maxLen:=S.each s (by simp);have hPl:P.length+1<=cap:=by have:=S.capL;simp at this;omega
 have hPm:=S.capM;unfold maxLen at hPm hss;simp only [List.length_cons] at c12;clear B T S hcell;go_enter Tryz.func189,Tryz.ntmps189
 go_wp2_with fail
 go_quiet (fail)
 go_wp2_with fail
 go_ret
 refine ⟨rfl,nq,?_⟩;have e:((L.sa+1:Nat):Int)=(L.sa:Int)+1:=by omega
 rw [e]
structure Ok(x:MS):Prop where
 held:x.held<2^x.count
 steps:x.tk+x.pu<=x.sp
 sp:x.sp<=9223372036854775807
 quo:x.ra*x.sp+x.sl<=9223372036854775807
 ou:x.ou<=9223372036854775807
 sum:x.sx<=65520∧x.sy<=65520
 rest:∀ b∈x.rest,b<256
 hd:x.head<=x.he∧x.he<=9223372036854775807
 mbs:x.mb<=x.me∧x.me<=9223372036854775807
 hsum:x.hsum<256
 size:x.size<65536
 marks:x.marks<256
 fm:x.fm<3
theorem Ok.fed{x:MS}(h:Ok x){b:Nat}{l:List Nat}(e:x.rest=b :: l)(hs:¬ x.sp<=x.tk+x.pu):Ok (x.fed b l):=by
 have hb:b<256:=h.rest b (by rw [e];simp);have g1:x.held+2^x.count*b<2^(x.count+8):=by
  have h1:=h.held;have h2:2^x.count*(b+1)<=2^x.count*2^8:=Nat.mul_le_mul_left _ (by omega);rw [← Nat.pow_add,Nat.mul_add] at h2;omega
 have g2:x.tk+1+x.pu<=x.sp:=by omega
 exact { h with held:=g1,steps:=g2,rest:=fun c hc=>h.rest c (by rw [e];exact List.mem_cons_of_mem _ hc) }
theorem Ok.refuse{x:MS}(h:Ok x)(e:Nat):Ok (x.refuse e).1:={ h with }
theorem Ok.rd{x:MS}(h:Ok x){k:Nat}(hk:k<=x.count):Ok (x.rd k):=by
 have g:x.held / 2^k<2^(x.count - k):=by
  have h1:=h.held;rw [show x.count=k+(x.count - k) by omega,Nat.pow_add] at h1;exact Nat.div_lt_of_lt_mul h1
 exact { h with held:=g }
theorem StrO.below{w w':World}{ad:Option Addr}{P:List ByteArray}(h:StrO w ad P)(b:Below w.heap.size w w'):StrO w' ad P:=h.kp (R:=fun _=>False) (ρ:=fun k=>k) (Kp.of_below b) (fun _ _ _ e=>e)
theorem SupP.below{ρ:Nat->Nat}{w w':World}{v:Value}{sa:Nat}{rest:List Nat}{ad:Option Addr}{P:List ByteArray}{cap:Nat}(h:SupP ρ w v sa rest ad P cap)(b:Below w.heap.size w w'):SupP ρ w' v sa rest ad P cap:=⟨h.v,h.str.below b,h.capL,h.capM,h.each,h.le,h.rest,h.role⟩
theorem SupP.drewN{ρ:Nat->Nat}{w:World}{v:Value}{sa:Nat}{rest:List Nat}{ad:Option Addr}{P:List ByteArray}{cap:Nat}(h:SupP ρ w v sa rest ad P cap)(n:Nat):SupP ρ (w.drewN n) v sa rest ad P cap:=⟨h.v,h.str,h.capL,h.capM,h.each,h.le,h.rest,h.role⟩
theorem mt3{ρ:Nat->Nat}{w w2 w3:World}{p:Nat}{x:MS}{L:Lo}{n:Nat}{y:MS}{M:Lo}(E:zox ρ w p x L w2)(T:MT ρ w2 y M)(e:w3=((w2.drewN 1).drewN n).setCell ⟨p,13,none⟩ (.int .i64 (L.sa+1:Nat))):MB ρ w3 p x { L with sa:=L.sa+1 }∧MT ρ w3 y M∧Fr (fun k=>1<=k∧k<=5) ρ w w3:=by
 rw [e];exact ⟨((E.mb.drewN 1).drewN n).set 13 _ rfl ⟨rfl,rfl,rfl,rfl⟩ ⟨rfl,rfl⟩,((T.drewN 1).drewN n).set E.mb.rp 13 _,((E.fr.drewN 1).drewN n).trans (Fr.own _ p 13 _ E.mb.rp)⟩
theorem mt4{ρ:Nat->Nat}{w w3 w4:World}{p b:Nat}{x y:MS}{L M:Lo}{n:Nat}(h:MB ρ w3 p x M∧MT ρ w3 y L∧Fr (fun k=>1<=k∧k<=5) ρ w w3)(e:w4=((w3.drewN n).setCell ⟨p,14,none⟩ (.int .u64 (x.held+2^x.count*b:Nat))).setCell ⟨p,14+1,none⟩ (.int .i64 (x.count+8:Nat))):MB ρ w4 p { x with held:=x.held+2^x.count*b,count:=x.count+8 } M∧MT ρ w4 y L∧Fr (fun k=>1<=k∧k<=5) ρ w w4:=by
 rw [e];have rp:=h.1.rp;exact ⟨((h.1.drewN n).set (y:={ x with held:=x.held+2^x.count*b }) (M:=M) 14 _ rfl ⟨rfl,rfl,rfl,rfl⟩ ⟨rfl,rfl⟩).set 15 _ rfl ⟨rfl,rfl,rfl,rfl⟩ ⟨rfl,rfl⟩,((h.2.1.drewN n).set rp 14 _).set rp 15 _,((h.2.2.drewN n).trans (Fr.own _ p 14 _ rp)).trans (Fr.own _ p 15 _ rp)⟩
theorem x2n{ρ:Nat->Nat}{w:World}{p:Nat}{x:MS}(h:MM ρ w p x)(k:Ok x)(hc:x.count<=56) :
  Calls Tryz.prog 161 #[.pointer (some ⟨p,0,none⟩)] w fun v w'=>y0y ρ w p x.take v w':=by
 have HM:Hid (MM ρ w p x):=h;have HK:Hid (Ok x):=k;have hsum:x.tk+x.pu<=9223372036854775807:=by have:=k.steps;have:=k.sp;omega
 have hsp:=k.sp;clear h k;go_enter Tryz.func161,Tryz.ntmps161
 go_wp2_with fail
 refine (xyh HM.out).mono ?_;rintro v w1 ⟨rfl,L,E,HS⟩;by_cases hr:x.rest=[]
 ·have HR:Hid (MM ρ w1 p x.take.1∧Fr (fun k=>1<=k∧k<=5) ρ w w1):=by
   have e:x.take=(x,1):=by unfold MS.take;rw [hr];rfl
   rw [e];exact ⟨⟨L,E.mb,E.mt⟩,E.fr⟩
  have e2:x.take.2=1:=by unfold MS.take;rw [hr];rfl
  rw [decide_eq_true hr];clear HS E;go_wp2_with fail
  go_ret
  exact ⟨by rw [e2];rfl,HR.out⟩
 ·obtain ⟨ad,s,P,cap,S,hlt⟩:=HS hr;obtain ⟨hrest,S'⟩:=S.cons hlt;rw [decide_eq_false hr];have HE:Hid (zox ρ w p x L w1):=E;have HSS:Hid (SupP ρ w1 L.sv L.sa x.rest ad (s :: P) cap):=S;have HS':Hid (SupP ρ w1 L.sv (L.sa+1) (((s :: P).flatMap strN).drop (L.sa+1)) ad (s :: P) cap):=S';have HRS:Hid (x.rest=(s[L.sa]).toNat :: (((s :: P).flatMap strN).drop (L.sa+1))):=hrest;clear HS S S' hrest E;have hb256:(s[L.sa]).toNat<256:=UInt8.toNat_lt _;have c9:w1.cell? ⟨p,9,none⟩=some (.int .i64 x.tk):=HE.out.mb.row.cell (i:=9) (by omega);have c10:w1.cell? ⟨p,10,none⟩=some (.int .i64 x.pu):=HE.out.mb.row.cell (i:=10) (by omega);have c11:w1.cell? ⟨p,11,none⟩=some (.int .i64 x.mb):=HE.out.mb.row.cell (i:=11) (by omega);have a0:w1.cell? ⟨p,0,none⟩=some (.int .i64 x.fm):=HE.out.mb.row.cell (i:=0) (by omega);have a1:w1.cell? ⟨p,1,none⟩=some (.int .i64 x.ou):=HE.out.mb.row.cell (i:=1) (by omega);have a2:w1.cell? ⟨p,2,none⟩=some (.int .i64 x.ra):=HE.out.mb.row.cell (i:=2) (by omega);have a3:w1.cell? ⟨p,3,none⟩=some (.int .i64 x.sl):=HE.out.mb.row.cell (i:=3) (by omega);have a4:w1.cell? ⟨p,4,none⟩=some (.int .i64 x.me):=HE.out.mb.row.cell (i:=4) (by omega);have a5:w1.cell? ⟨p,5,none⟩=some (.int .i64 x.he):=HE.out.mb.row.cell (i:=5) (by omega);have a6:w1.cell? ⟨p,6,none⟩=some (.int .i64 x.sp):=HE.out.mb.row.cell (i:=6) (by omega);by_cases hq:x.sp<=x.tk+x.pu
  ·have HT:Hid (∀ w,Calls Tryz.prog 187 #[.agg (talV x.tk x.pu x.mb), .agg (cfgV x.fm x.ou x.ra x.sl x.me x.he x.sp)] w fun x w'=>x= .returned (.int .i64 16)∧Below w.heap.size w w'):=fun w=>by
    have:=x44 x.fm x.ou x.ra x.sl x.me x.he x.sp x.tk x.pu x.mb w hsum hsp;rw [if_pos hq] at this;exact this
   have e2:Hid (x.take=x.refuse 16):=by show x.take=_;unfold MS.take;rw [HRS.out];show (if _ then _ else _)=_;rw [if_pos hq]
   go_wp2_with fail
   go_region_with (go_at_call 187;refine (HT.out _).mono ?_;rintro e w2 ⟨rfl,hb2⟩)
   all_goals
    have HM2:Hid (MM ρ w2 p x∧Fr (fun k=>1<=k∧k<=5) ρ w w2):=⟨(MM.drewN ⟨L,HE.out.mb,HE.out.mt⟩ 1).below hb2,(HE.out.fr.drewN 1).trans (Fr.below hb2)⟩
    clear hb2;go_wp2_with fail
    refine (kv8 16 HM2.out.1).mono ?_;rintro v w3 ⟨rfl,h3,f3⟩;have HR:Hid (MM ρ w3 p (x.refuse 16).1∧Fr (fun k=>1<=k∧k<=5) ρ w w3):=⟨h3,HM2.out.2.trans f3⟩
    clear h3 f3;go_wp2_with fail
    go_ret
    unfold y0y;rw [e2.out];exact ⟨rfl,HR.out⟩
  ·have HT:Hid (∀ w,Calls Tryz.prog 187 #[.agg (talV x.tk x.pu x.mb), .agg (cfgV x.fm x.ou x.ra x.sl x.me x.he x.sp)] w fun x w'=>x= .returned (.int .i64 0)∧Below w.heap.size w w'):=fun w=>by
    have:=x44 x.fm x.ou x.ra x.sl x.me x.he x.sp x.tk x.pu x.mb w hsum hsp;rw [if_neg hq] at this;exact this
   have e2:Hid (x.take=(x.fed (s[L.sa]).toNat (((s :: P).flatMap strN).drop (L.sa+1)),0)):=by show x.take=_;unfold MS.take;rw [HRS.out];show (if _ then _ else _)=_;rw [if_neg hq]
   go_wp2_with fail
   go_region_with (go_at_call 187;refine (HT.out _).mono ?_;rintro e w2 ⟨rfl,hb2⟩)
   all_goals
    have HE2:Hid (zox ρ w p x L w2):=⟨(HE.out.mb.drewN 1).fr (Kp.of_below hb2),(HE.out.mt.drewN 1).fr (R:=fun _=>False) (Kp.of_below hb2) (fun _ e=>e.elim),(HE.out.fr.drewN 1).trans (Fr.below hb2)⟩
    have hb2':Below w1.heap.size w1 w2:=⟨hb2.os,hb2.tape,hb2.output,hb2.size,hb2.block⟩
    have HS2:Hid (SupP ρ (w2.drewN 1) L.sv L.sa x.rest ad (s :: P) cap∧MT ρ w2 { x with rest:=((s :: P).flatMap strN).drop (L.sa+1) } { L with sa:=L.sa+1 }):=⟨(HSS.out.below hb2').drewN 1,HE2.out.mt.supply (HS'.out.below hb2').shut⟩
    clear hb2';clear hb2;go_wp2_with fail
    go_region_with (first
     | (go_at_call 189;refine (je7 (HE2.out.mb.drewN 1) (HE2.out.mt.drewN 1) HS2.out.1 hlt).mono ?_;rintro e w3 ⟨rfl,n3,hw3⟩;have HB3:Hid (MB ρ w3 p x { L with sa:=L.sa+1 }∧MT ρ w3 { x with rest:=((s :: P).flatMap strN).drop (L.sa+1) } { L with sa:=L.sa+1 }∧Fr (fun k=>1<=k∧k<=5) ρ w w3):=mt3 HE2.out HS2.out.2 hw3;have k14:w3.cell? ⟨p,14,none⟩=some (.int .u64 x.held):=HB3.out.1.row.cell (i:=14) (by omega);have k15:w3.cell? ⟨p,15,none⟩=some (.int .i64 x.count):=HB3.out.1.row.cell (i:=15) (by omega);have z14:=HB3.out.1.row.frozen 14;have z15:=HB3.out.1.row.frozen 15;clear hw3)
     | (go_at_call 188;refine (z7y p 14 x.held x.count (s[L.sa]).toNat _ hb256 hc HK.out.held k14 k15 z14 z15).mono ?_;rintro e w4 ⟨rfl,n4,hw4⟩;have HB4:Hid (MB ρ w4 p { x with held:=x.held+2^x.count*(s[L.sa]).toNat,count:=x.count+8 } { L with sa:=L.sa+1 }∧MT ρ w4 { x with rest:=((s :: P).flatMap strN).drop (L.sa+1) } { L with sa:=L.sa+1 }∧Fr (fun k=>1<=k∧k<=5) ρ w w4):=mt4 HB3.out hw4;have k9:w4.cell? ⟨p,9,none⟩=some (.int .i64 x.tk):=HB4.out.1.row.cell (i:=9) (by omega);have z9:=HB4.out.1.row.frozen 9;clear hw4))
    all_goals
     go_wp2_with fail
     go_ret
     unfold y0y;rw [e2.out];have rp:=HB4.out.1.rp;refine ⟨rfl,⟨{ L with sa:=L.sa+1 },?_,?_⟩,?_⟩
     ·exact HB4.out.1.set (y:=x.fed (s[L.sa]).toNat (((s :: P).flatMap strN).drop (L.sa+1))) (M:={ L with sa:=L.sa+1 }) 9 _ rfl ⟨rfl,rfl,rfl,rfl⟩ ⟨rfl,rfl⟩
     ·exact (HB4.out.2.1.set rp 9 _).same rfl rfl rfl rfl ⟨rfl,rfl⟩
     ·exact HB4.out.2.2.trans (Fr.own _ p 9 _ rp)
theorem MS.need_done{k:Nat}{x:MS}(h:k<=x.count):MS.need k x=(x,0):=by
 unfold MS.need;cases x.rest with
 | nil=>unfold MS.needL;rw [if_pos h]
 | cons b l=>unfold MS.needL;rw [if_pos h]
theorem MS.take_nil{x:MS}(e:x.rest=[]):x.take=(x,1):=by unfold MS.take;rw [e];rfl
theorem MS.take_cons{x:MS}{b:Nat}{l:List Nat}(e:x.rest=b :: l):x.take=if x.sp<=x.tk+x.pu then x.refuse 16 else (x.fed b l,0):=by unfold MS.take;rw [e];rfl
theorem MS.need_nil{k:Nat}{x:MS}(h:¬ k<=x.count)(e:x.rest=[]):MS.need k x=(x,1):=by
 unfold MS.need;rw [e];show (if k<=x.count then _ else _)=_;rw [if_neg h]
theorem MS.need_cons{k:Nat}{x:MS}{b:Nat}{l:List Nat}(h:¬ k<=x.count)(e:x.rest=b :: l):MS.need k x=if x.sp<=x.tk+x.pu then x.refuse 16 else MS.need k (x.fed b l):=by
 unfold MS.need;rw [e];show (if k<=x.count then _ else _)=_;rw [if_neg h];rfl
theorem MS.need_take{k:Nat}{x:MS}(h:¬ k<=x.count):MS.need k x=if x.take.2=0 then MS.need k x.take.1 else x.take:=by
 cases e:x.rest with
 | nil=>rw [MS.take_nil e,MS.need_nil h e];rfl
 | cons b l=>
  rw [MS.take_cons e,MS.need_cons h e];by_cases hs:x.sp<=x.tk+x.pu
  ·rw [if_pos hs,if_pos hs];rfl
  ·rw [if_neg hs,if_neg hs];rfl
theorem Ok.take{x:MS}(h:Ok x)(h0:x.take.2=0):Ok x.take.1∧x.take.1.count=x.count+8:=by
 cases e:x.rest with
 | nil=>rw [MS.take_nil e] at h0;cases h0
 | cons b l=>
  rw [MS.take_cons e] at h0 ⊢;by_cases hs:x.sp<=x.tk+x.pu
  ·rw [if_pos hs] at h0;cases h0
  ·rw [if_neg hs];exact ⟨h.fed e hs,rfl⟩
def xq0(w:World)(p i:Nat):Nat:=match w.cell? ⟨p,i,none⟩ with | some (.int _ n)=>n.toNat | _=>0
theorem xv1{w:World}{p i:Nat}{k:IntKind}{n:Nat}(h:w.cell? ⟨p,i,none⟩=some (.int k n)):xq0 w p i=n:=by unfold xq0;rw [h];rfl
theorem MM.cell15{ρ:Nat->Nat}{w:World}{p:Nat}{x:MS}(h:MM ρ w p x):w.cell? ⟨p,15,none⟩=some (.int .i64 x.count):=by
 obtain ⟨L,B,T⟩:=h;exact B.row.cell (i:=15) (by omega)
theorem zvo{ρ:Nat->Nat}{w:World}{p:Nat}{x:MS}(k:Nat)(h:MM ρ w p x)(ok:Ok x)(hk:k<=56)(hx:x.count<=100) :
  Calls Tryz.prog 133 #[.pointer (some ⟨p,0,none⟩), .int .i64 k] w fun v w'=>y0y ρ w p (MS.need k x) v w':=by
 have H0:Hid (∃ y,MM ρ w p y∧Ok y∧MS.need k y=MS.need k x∧Fr (fun k=>1<=k∧k<=5) ρ w w∧y.count<=100):=⟨x,h,ok,rfl,Fr.refl _ _ _,hx⟩
 clear h ok hx;go_enter Tryz.func133,Tryz.ntmps133
 go_wp2_with fail
 go_loopw [] (fun wr=>Hid (∃ y,MM ρ wr p y∧Ok y∧MS.need k y=MS.need k x∧Fr (fun k=>1<=k∧k<=5) ρ w wr∧y.count<=100)) (fun wr=>k - xq0 wr p 15)
 case atStart=>exact H0
 case round=>
  clear H0;obtain ⟨y,h1,h2,h3,h4,hy⟩:=hrel.out;have c15:=h1.cell15;have e15:=xv1 c15;by_cases hlt:y.count<k
  ·have h5:MS.need k x=if y.take.2=0 then MS.need k y.take.1 else y.take:=by rw [← h3];exact MS.need_take (by omega)
   have HM:Hid (MM ρ wr p y∧Ok y∧Fr (fun k=>1<=k∧k<=5) ρ w wr):=⟨h1,h2,h4⟩
   have H5:Hid (MS.need k x=if y.take.2=0 then MS.need k y.take.1 else y.take):=h5;clear h1 h2 h3 h4 h5 hrel;go_wp2_with fail
   refine (x2n HM.out.1 HM.out.2.1 (by omega)).mono ?_;rintro v w1 ⟨rfl,g1,g2⟩;by_cases h0:y.take.2=0
   ·obtain ⟨o1,o2⟩:=HM.out.2.1.take h0;have HN:Hid (∃ y,MM ρ w1 p y∧Ok y∧MS.need k y=MS.need k x∧Fr (fun k=>1<=k∧k<=5) ρ w w1∧y.count<=100):=⟨y.take.1,g1,o1,by rw [H5.out,if_pos h0],HM.out.2.2.trans g2,by omega⟩
    have e2:=xv1 g1.cell15;rw [h0];clear g1 g2 o1;go_wp2_with fail
    go_roundw
    case rel=>exact HN
    case measure=>rw [e2,e15,o2];omega
   ·have HN:Hid (MM ρ w1 p (MS.need k x).1∧Fr (fun k=>1<=k∧k<=5) ρ w w1∧(MS.need k x).2=y.take.2):=by
     show _∧_∧_;rw [H5.out,if_neg h0];exact ⟨g1,HM.out.2.2.trans g2,rfl⟩
    obtain ⟨t,ht⟩:∃ t,t=y.take.2:=⟨_,rfl⟩
    rw [← ht] at HN h0 ⊢;have h0':((t:Int)==0)=false:=by simp;exact h0
    clear g1 g2 ht;go_wp2_with fail
    go_ret
    unfold y0y;rw [HN.out.2.2];exact ⟨rfl,HN.out.1,HN.out.2.1⟩
  ·have h5:MS.need k x=(y,0):=by rw [← h3];exact MS.need_done (by omega)
   have HM:Hid (MM ρ wr p y∧Fr (fun k=>1<=k∧k<=5) ρ w wr∧MS.need k x=(y,0)):=⟨h1,h4,h5⟩
   clear h1 h2 h3 h4 h5 hrel;go_wp2_with fail
   go_ret
   unfold y0y;rw [HM.out.2.2];exact ⟨rfl,HM.out.1,HM.out.2.1⟩
theorem MB.ra'{ρ:Nat->Nat}{w:World}{p:Nat}{x:MS}{L:Lo}(h:MB ρ w p x L):x.qa.length<=64:=by
 obtain ⟨o,f,k⟩:=h.ra;exact k.hq
theorem MB.rc'{ρ:Nat->Nat}{w:World}{p:Nat}{x:MS}{L:Lo}(h:MB ρ w p x L):x.qc.length<=256:=by
 obtain ⟨o,f,k⟩:=h.rc;exact k.hq
theorem vt9{ρ:Nat->Nat}{w:World}{p:Nat}{x:MS}{L:Lo}(b:Nat)(B:MB ρ w p x L)(hq:x.qa.length<64) :
  Calls Tryz.prog 167 #[.pointer (some ⟨L.a,0,none⟩), .int .u8 b] w fun v w'=>v= .returned (.tuple #[])∧MB ρ w' p { x with qa:=x.qa++[b] } L∧Fr (fun k=>1<=k∧k<=5) ρ w w':=by
 obtain ⟨o,f,k⟩:=B.ra;refine (yiw b k hq).mono ?_;rintro v w' ⟨rfl,⟨f',k'⟩,t⟩;exact ⟨rfl,B.ringA k' t,Fr.five t B.rl.1 B.rl.2.1 (by decide) (by decide)⟩
theorem jt4{ρ:Nat->Nat}{w:World}{p:Nat}{x:MS}{L:Lo}(b:Nat)(B:MB ρ w p x L) :
  Calls Tryz.prog 167 #[.pointer (some ⟨L.c,0,none⟩), .int .u8 b] w fun v w'=>v= .returned (.tuple #[])∧MB ρ w' p { x with qc:=MS.pushed x.qc b } L∧Fr (fun k=>1<=k∧k<=5) ρ w w':=by
 obtain ⟨o,f,k⟩:=B.rc;by_cases hq:x.qc.length=256
 ·refine (vxn b k hq).mono ?_;rintro v w' ⟨rfl,⟨f',k'⟩,t⟩;have e:MS.pushed x.qc b=x.qc.tail++[b]:=if_pos hq;rw [e];exact ⟨rfl,B.ringC k' t,Fr.five t B.rl.2.2.1 B.rl.2.2.2 (by decide) (by decide)⟩
 ·refine (yiw b k (by have:=k.hq;omega)).mono ?_;rintro v w' ⟨rfl,⟨f',k'⟩,t⟩;have e:MS.pushed x.qc b=x.qc++[b]:=if_neg hq;rw [e];exact ⟨rfl,B.ringC k' t,Fr.five t B.rl.2.2.1 B.rl.2.2.2 (by decide) (by decide)⟩
theorem sumM{ρ:Nat->Nat}{w:World}{p:Nat}{x:MS}{L:Lo}(b:Nat)(B:MB ρ w p x L)(hs:x.sx<=65520∧x.sy<=65520)(hb:b<256) :
  Calls Tryz.prog 111 #[.pointer (some ⟨p,21,none⟩), .int .u8 b] w fun v w'=>v= .returned (.tuple #[])∧MB ρ w' p { x with sx:=(x.sx+b)%65521,sy:=(x.sy+(x.sx+b)%65521)%65521 } L∧Fr (fun k=>1<=k∧k<=5) ρ w w':=by
 have c1:w.cell? ⟨p,21,none⟩=some (.int .i64 x.sx):=B.row.cell (i:=21) (by omega);have c2:w.cell? ⟨p,21+1,none⟩=some (.int .i64 x.sy):=B.row.cell (i:=22) (by omega);refine (kd6 p 21 x.sx x.sy b w (by omega) (by omega) (by omega) c1 c2 (B.row.frozen 21) (B.row.frozen 22)).mono ?_;rintro v w' ⟨rfl,n,e⟩;have e1:((x.sx:Int)+b)%65521=(((x.sx+b)%65521:Nat):Int):=by omega
 have e2:((x.sy:Int)+(((x.sx+b)%65521:Nat):Int))%65521=(((x.sy+(x.sx+b)%65521)%65521:Nat):Int):=by omega
 rw [e1,e2] at e;rw [e];exact ⟨rfl,((B.drewN n).set (y:={ x with sx:=(x.sx+b)%65521 }) (M:=L) 21 _ rfl ⟨rfl,rfl,rfl,rfl⟩ ⟨rfl,rfl⟩).set 22 _ rfl ⟨rfl,rfl,rfl,rfl⟩ ⟨rfl,rfl⟩,(((Fr.refl _ _ _).drewN n).trans (Fr.own _ p 21 _ B.rp)).trans (Fr.own _ p 22 _ B.rp)⟩
theorem j6n(n:Nat):IntKind.u16.wrap ((n:Int)+1)=(((n+1)%65536:Nat):Int):=by
 simp [IntKind.wrap,IntKind.bits,IntKind.signed]
structure Bh(ρ:Nat->Nat)(w:World)(p:Nat)(y x:MS)(L:Lo)(w':World):Prop where
 mb:MB ρ w' p y L
 mt:MT ρ w' x L
 fr:Fr (fun k=>1<=k∧k<=5) ρ w w'
theorem Bh.next{ρ:Nat->Nat}{w w1 w2:World}{p:Nat}{y z x:MS}{L:Lo}(h:Bh ρ w p y x L w1)(B:MB ρ w2 p z L)(f:Fr (fun k=>1<=k∧k<=5) ρ w1 w2):Bh ρ w p z x L w2:=⟨B,h.mt.fr5 f,h.fr.trans f⟩
theorem Bh.set{ρ:Nat->Nat}{w w1:World}{p:Nat}{y z x:MS}{L:Lo}(h:Bh ρ w p y x L w1)(i:Nat)(v:Value)(e:(k7n y L).set i v=k7n z L)(hq:z.qa=y.qa∧z.qc=y.qc):Bh ρ w p z x L (w1.setCell ⟨p,i,none⟩ v):=h.next (h.mb.set i v e ⟨rfl,rfl,rfl,rfl⟩ hq) (Fr.own _ p i _ h.mb.rp)
theorem Bh.below{ρ:Nat->Nat}{w w1 w2:World}{p:Nat}{y x:MS}{L:Lo}(h:Bh ρ w p y x L w1)(b:Below w1.heap.size w1 w2):Bh ρ w p y x L w2:=h.next (h.mb.fr (Kp.of_below b)) (Fr.below b)
theorem Bh.drewN{ρ:Nat->Nat}{w w1:World}{p:Nat}{y x:MS}{L:Lo}(h:Bh ρ w p y x L w1)(n:Nat):Bh ρ w p y x L (w1.drewN n):=h.next (h.mb.drewN n) ((Fr.refl _ _ _).drewN n)
theorem Bh.done{ρ:Nat->Nat}{w w1:World}{p:Nat}{y x:MS}{L:Lo}(h:Bh ρ w p y x L w1)(h1:y.rest=x.rest)(h2:y.hl=x.hl)(h3:y.row=x.row)(h4:y.hs=x.hs)(h5:y.la=x.la∧y.lb=x.lb):MM ρ w1 p y∧Fr (fun k=>1<=k∧k<=5) ρ w w1:=⟨⟨L,h.mb,h.mt.same h1 h2 h3 h4 h5⟩,h.fr⟩
theorem mPut{ρ:Nat->Nat}{w:World}{p:Nat}{x:MS}(b:Nat)(h:MM ρ w p x)(ok:Ok x)(hb:b<256) :
  Calls Tryz.prog 137 #[.pointer (some ⟨p,0,none⟩), .int .u8 b] w fun v w'=>y0y ρ w p (x.put b) v w':=by
 obtain ⟨L,B,T⟩:=h;have hsum:x.tk+x.pu<=9223372036854775807:=by have:=ok.steps;have:=ok.sp;omega
 have hsp:=ok.sp;have hra:x.ra*x.tk+x.sl<=9223372036854775807:=by
  have h1:=ok.quo;have h2:x.ra*x.tk<=x.ra*x.sp:=Nat.mul_le_mul_left _ (by have:=ok.steps;omega);omega
 have hqa:=B.ra';have hsz:=ok.size;have HS:Hid (x.sx<=65520∧x.sy<=65520):=ok.sum;have HB0:Hid (Bh ρ w p x x L w):=⟨B,T,Fr.refl _ _ _⟩
 have c16:w.cell? ⟨p,16,none⟩=some (.pointer (some ⟨L.a,0,none⟩)):=B.row.cell (i:=16) (by omega);have HF:Hid (Calls Tryz.prog 165 #[.pointer (some ⟨L.a,0,none⟩)] w fun v w'=>v= .returned (.bool (decide (x.qa.length=64)))∧∃ n,w'=w.drewN n):=by
  obtain ⟨o,f,k⟩:=B.ra;exact zzm k
 have HAP:Hid (∀ w,Calls Tryz.prog 166 #[.agg (talV x.tk x.pu x.mb), .agg (cfgV x.fm x.ou x.ra x.sl x.me x.he x.sp)] w fun v w'=>v= .returned (.int .i64 x.putE)∧Below w.heap.size w w'):=fun w=>xxj x.fm x.ou x.ra x.sl x.me x.he x.sp x.tk x.pu x.mb w hsum hsp hra ok.ou
 clear B T hra;go_enter Tryz.func137,Tryz.ntmps137
 go_wp2_with fail
 refine HF.out.mono ?_;rintro v w1 ⟨rfl,n1,hw1⟩;have HB1:Hid (Bh ρ w p x x L w1):=by show Bh _ _ _ _ _ _ _;rw [hw1];exact HB0.out.drewN n1
 clear hw1 HF HB0 c16;by_cases hfull:x.qa.length=64
 ·rw [decide_eq_true hfull];have e:Hid (x.put b=(x,2)):=by show x.put b=_;unfold MS.put;rw [if_pos hfull]
  have HR:=HB1.out.done rfl rfl rfl rfl ⟨rfl,rfl⟩;have HRR:Hid (MM ρ w1 p x∧Fr (fun k=>1<=k∧k<=5) ρ w w1):=HR;clear HR;go_wp2_with fail
  go_ret
  unfold y0y;rw [e.out];exact ⟨rfl,HRR.out⟩
 ·rw [decide_eq_false hfull];have hroom:x.qa.length<64:=by omega
  have c9:w1.cell? ⟨p,9,none⟩=some (.int .i64 x.tk):=HB1.out.mb.row.cell (i:=9) (by omega);have c10:w1.cell? ⟨p,10,none⟩=some (.int .i64 x.pu):=HB1.out.mb.row.cell (i:=10) (by omega);have c11:w1.cell? ⟨p,11,none⟩=some (.int .i64 x.mb):=HB1.out.mb.row.cell (i:=11) (by omega);have a0:w1.cell? ⟨p,0,none⟩=some (.int .i64 x.fm):=HB1.out.mb.row.cell (i:=0) (by omega);have a1:w1.cell? ⟨p,1,none⟩=some (.int .i64 x.ou):=HB1.out.mb.row.cell (i:=1) (by omega);have a2:w1.cell? ⟨p,2,none⟩=some (.int .i64 x.ra):=HB1.out.mb.row.cell (i:=2) (by omega);have a3:w1.cell? ⟨p,3,none⟩=some (.int .i64 x.sl):=HB1.out.mb.row.cell (i:=3) (by omega);have a4:w1.cell? ⟨p,4,none⟩=some (.int .i64 x.me):=HB1.out.mb.row.cell (i:=4) (by omega);have a5:w1.cell? ⟨p,5,none⟩=some (.int .i64 x.he):=HB1.out.mb.row.cell (i:=5) (by omega);have a6:w1.cell? ⟨p,6,none⟩=some (.int .i64 x.sp):=HB1.out.mb.row.cell (i:=6) (by omega);have HE:Hid (x.put b=if x.putE≠0 then x.refuse x.putE else (x.putted b,0)):=by show x.put b=_;unfold MS.put;rw [if_neg hfull]
  have hpu0:x.putE=0->x.pu+1<=9223372036854775807:=fun h=>by
   unfold MS.putE at h;by_cases hq:x.sp<=x.tk+x.pu
   ·rw [if_pos hq] at h;cases h
   ·omega
  obtain ⟨E,hE⟩:∃ E,E=x.putE:=⟨_,rfl⟩
  rw [← hE] at hpu0;rw [← hE] at HAP HE;clear hE;by_cases h0:E=0
  ·subst h0;have hpu:=hpu0 rfl;clear hpu0;have HP:Hid (x.put b=(x.putted b,0)):=by show x.put b=_;rw [HE.out];rfl
   clear HE;go_wp2_with fail
   go_region_with (go_at_call 166;refine (HAP.out _).mono ?_;rintro e w2 ⟨rfl,hb2⟩)
   all_goals
    have HB2:Hid (Bh ρ w p x x L w2):=(HB1.out.drewN 1).below hb2;clear hb2;have k10:w2.cell? ⟨p,10,none⟩=some (.int .i64 x.pu):=HB2.out.mb.row.cell (i:=10) (by omega);have z10:=HB2.out.mb.row.frozen 10;have k16:w2.cell? ⟨p,16,none⟩=some (.pointer (some ⟨L.a,0,none⟩)):=HB2.out.mb.row.cell (i:=16) (by omega);have HB3:Hid (Bh ρ w p { x with pu:=x.pu+1 } x L (w2.setCell ⟨p,10,none⟩ (.int .i64 (x.pu+1:Nat)))):=HB2.out.set 10 _ rfl ⟨rfl,rfl⟩;have e1:((x.pu+1:Nat):Int)=(x.pu:Int)+1:=by omega
    rw [e1] at HB3;go_wp2_with fail
    refine (vt9 b HB3.out.mb hroom).mono ?_;rintro v w4 ⟨rfl,B4,f4⟩;have HB4:Hid (Bh ρ w p { x with pu:=x.pu+1,qa:=x.qa++[b] } x L w4):=HB3.out.next B4 f4;clear B4 f4 HB3 HB2;have k17:w4.cell? ⟨p,17,none⟩=some (.pointer (some ⟨L.c,0,none⟩)):=HB4.out.mb.row.cell (i:=17) (by omega);go_wp2_with fail
    refine (jt4 b HB4.out.mb).mono ?_;rintro v w5 ⟨rfl,B5,f5⟩;have HB5:Hid (Bh ρ w p { x with pu:=x.pu+1,qa:=x.qa++[b],qc:=MS.pushed x.qc b } x L w5):=HB4.out.next B5 f5;clear B5 f5 HB4;go_wp2_with fail
    refine (sumM b HB5.out.mb HS.out hb).mono ?_;rintro v w6 ⟨rfl,B6,f6⟩;have HB6:Hid (Bh ρ w p { x with pu:=x.pu+1,qa:=x.qa++[b],qc:=MS.pushed x.qc b,sx:=(x.sx+b)%65521,sy:=(x.sy+(x.sx+b)%65521)%65521 } x L w6):=HB5.out.next B6 f6;clear B6 f6 HB5;have k23:w6.cell? ⟨p,23,none⟩=some (.int .u16 x.size):=HB6.out.mb.row.cell (i:=23) (by omega);have z23:=HB6.out.mb.row.frozen 23;have HB7:Hid (Bh ρ w p (x.putted b) x L (w6.setCell ⟨p,23,none⟩ (.int .u16 ((x.size+1)%65536:Nat)))):=HB6.out.set 23 _ rfl ⟨rfl,rfl⟩;go_wp2_with fail
    go_ret
    unfold y0y;rw [HP.out,j6n];exact ⟨rfl,HB7.out.done rfl rfl rfl rfl ⟨rfl,rfl⟩⟩
  ·have HP:Hid (x.put b=x.refuse E):=by show x.put b=_;rw [HE.out,if_pos h0]
   have h0':((E:Int)==0)=false:=by simp;exact h0
   clear HE;go_wp2_with fail
   go_region_with (go_at_call 166;refine (HAP.out _).mono ?_;rintro e w2 ⟨rfl,hb2⟩)
   all_goals
    have HB2:Hid (Bh ρ w p x x L w2):=(HB1.out.drewN 1).below hb2;clear hb2;go_wp2_with fail
    refine (kv8 E (HB2.out.done rfl rfl rfl rfl ⟨rfl,rfl⟩).1).mono ?_;rintro v w3 ⟨rfl,h3,f3⟩;have HR:Hid (MM ρ w3 p (x.refuse E).1∧Fr (fun k=>1<=k∧k<=5) ρ w w3):=⟨h3,HB2.out.fr.trans f3⟩
    clear h3 f3;go_wp2_with fail
    go_ret
    unfold y0y;rw [HP.out];exact ⟨rfl,HR.out⟩
theorem MS.need_facts{k:Nat}:∀ (l:List Nat) {x:MS},x.rest=l->Ok x->Ok (MS.need k x).1∧((MS.need k x).2=0->k<=(MS.need k x).1.count∧((MS.need k x).1.count<=x.count∨(MS.need k x).1.count<k+8)∧(MS.need k x).1={ x with held:=(MS.need k x).1.held,count:=(MS.need k x).1.count,tk:=(MS.need k x).1.tk,rest:=(MS.need k x).1.rest }∧8*(MS.need k x).1.rest.length+(MS.need k x).1.count=8*x.rest.length+x.count)
 | [],x,e,ok=>by
  by_cases h:k<=x.count
  ·rw [MS.need_done h];exact ⟨ok,fun _=>⟨h,Or.inl (Nat.le_refl _),rfl,rfl⟩⟩
  ·rw [MS.need_nil h e];exact ⟨ok,fun h0=>by cases h0⟩
 | b :: l,x,e,ok=>by
  by_cases h:k<=x.count
  ·rw [MS.need_done h];exact ⟨ok,fun _=>⟨h,Or.inl (Nat.le_refl _),rfl,rfl⟩⟩
  ·rw [MS.need_cons h e];by_cases hs:x.sp<=x.tk+x.pu
   ·rw [if_pos hs];exact ⟨ok.refuse 16,fun h0=>by cases h0⟩
   ·rw [if_neg hs];obtain ⟨a,c⟩:=MS.need_facts (k:=k) l (x:=x.fed b l) rfl (ok.fed e hs);refine ⟨a,fun h0=>?_⟩;obtain ⟨c1,c2,c3,c4⟩:=c h0;refine ⟨c1,?_,?_,?_⟩
    ·rcases c2 with c2 | c2
     ·right
      have:(x.fed b l).count=x.count+8:=rfl;omega
     ·exact Or.inr c2
    ·rw [c3];rfl
    ·rw [c4,e];show 8*l.length+(x.count+8)=8*(b :: l).length+x.count;simp;omega
theorem MS.need_ok{k:Nat}{x:MS}(h:Ok x):Ok (MS.need k x).1:=(MS.need_facts (k:=k) x.rest rfl h).1
theorem MS.need_cnt{k:Nat}{x:MS}(h:Ok x)(h0:(MS.need k x).2=0):k<=(MS.need k x).1.count∧((MS.need k x).1.count<=x.count∨(MS.need k x).1.count<k+8):=⟨((MS.need_facts (k:=k) x.rest rfl h).2 h0).1,((MS.need_facts (k:=k) x.rest rfl h).2 h0).2.1⟩
theorem MS.need_same{k:Nat}{x:MS}(h:Ok x)(h0:(MS.need k x).2=0):(MS.need k x).1={ x with held:=(MS.need k x).1.held,count:=(MS.need k x).1.count,tk:=(MS.need k x).1.tk,rest:=(MS.need k x).1.rest }:=((MS.need_facts (k:=k) x.rest rfl h).2 h0).2.2.1
theorem MS.need_bits{k:Nat}{x:MS}(h:Ok x)(h0:(MS.need k x).2=0):8*(MS.need k x).1.rest.length+(MS.need k x).1.count=8*x.rest.length+x.count:=((MS.need_facts (k:=k) x.rest rfl h).2 h0).2.2.2
theorem zw3{ρ:Nat->Nat}{w:World}{p:Nat}{x:MS}(k:Nat)(h:MM ρ w p x)(ok:Ok x)(hk:k<=x.count)(hc:x.count<=63) :
  Calls Tryz.prog 134 #[.pointer (some ⟨p,14,none⟩), .int .i64 k] w fun v w'=>v= .returned (.int .i64 (x.num k))∧MM ρ w' p (x.rd k)∧Fr (fun k=>1<=k∧k<=5) ρ w w':=by
 obtain ⟨L,B,T⟩:=h;have c1:w.cell? ⟨p,14,none⟩=some (.int .u64 x.held):=B.row.cell (i:=14) (by omega);have c2:w.cell? ⟨p,14+1,none⟩=some (.int .i64 x.count):=B.row.cell (i:=15) (by omega);refine (zto p 14 x.held x.count k w hk hc ok.held c1 c2 (B.row.frozen 14) (B.row.frozen 15)).mono ?_;rintro v w' ⟨rfl,n,e⟩;refine ⟨rfl,?_⟩;have R:Bh ρ w p x x L w:=⟨B,T,Fr.refl _ _ _⟩
 rw [e];exact (((R.drewN n).set (z:={ x with held:=x.held / 2^k }) 14 _ rfl ⟨rfl,rfl⟩).set (z:=x.rd k) 15 _ rfl ⟨rfl,rfl⟩).done rfl rfl rfl rfl ⟨rfl,rfl⟩
def v5b(T:IntKind)(ρ:Nat->Nat)(w:World)(p:Nat)(r:MS×Nat×Nat)(e:Ending)(w':World):Prop:=e= .returned (.tuple #[.int T r.2.2, .int .i64 r.2.1])∧MM ρ w' p r.1∧Fr (fun k=>1<=k∧k<=5) ρ w w'
theorem kvg{ρ:Nat->Nat}{w:World}{p:Nat}{x:MS}(h:MM ρ w p x)(ok:Ok x)(hx:x.count<=8) :
  Calls Tryz.prog 160 #[.pointer (some ⟨p,0,none⟩)] w fun v w'=>v5b .u8 ρ w p x.takeHead v w':=by
 have HM:Hid (MM ρ w p x∧Ok x):=⟨h,ok⟩
 have HE:Hid (x.takeHead=if (MS.need 8 x).2≠0 then ((MS.need 8 x).1,(MS.need 8 x).2,0) else if (MS.need 8 x).1.head=(MS.need 8 x).1.he then (((MS.need 8 x).1.refuse 5).1,3,0) else ((MS.need 8 x).1.headRead,0,(MS.need 8 x).1.num 8)):=rfl;clear h ok;go_enter Tryz.func160,Tryz.ntmps160
 go_wp2_with fail
 refine (zvo 8 HM.out.1 HM.out.2 (by omega) (by omega)).mono ?_;rintro v w1 ⟨rfl,g1,g2⟩;by_cases h0:(MS.need 8 x).2=0
 ·have k1:=MS.need_cnt HM.out.2 h0;have k2:=MS.need_same HM.out.2 h0;have k3:=MS.need_ok (k:=8) HM.out.2;rw [h0];rw [if_neg (by rw [h0];simp)] at HE;obtain ⟨y,hy⟩:∃ y,y=(MS.need 8 x).1:=⟨_,rfl⟩
  rw [← hy] at g1 HE k1 k2 k3;have HY:Hid (MM ρ w1 p y∧Ok y∧Fr (fun k=>1<=k∧k<=5) ρ w w1):=⟨g1,k3,g2⟩
  have hu:=k3.hsum;have hh:=k3.hd;obtain ⟨L,B,T⟩:=g1;have c19:w1.cell? ⟨p,19,none⟩=some (.int .i64 y.head):=B.row.cell (i:=19) (by omega);have c5:w1.cell? ⟨p,5,none⟩=some (.int .i64 y.he):=B.row.cell (i:=5) (by omega);clear B T g2 hy k2 k3 h0;by_cases hq:y.head=y.he
  ·rw [if_pos hq] at HE;have hqd:((y.head:Int)==(y.he:Int))=true:=by simp [hq]
   clear hq;go_wp2_with fail
   go_quiet (fail)
   go_wp2_with fail
   refine (kv8 5 (HY.out.1.drewN _)).mono ?_;rintro v w2 ⟨rfl,g3,g4⟩;have HR:Hid (MM ρ w2 p (y.refuse 5).1∧Fr (fun k=>1<=k∧k<=5) ρ w w2):=⟨g3,(HY.out.2.2.drewN _).trans g4⟩
   clear g3 g4;go_wp2_with fail
   go_ret2
   unfold v5b;rw [HE.out];exact ⟨rfl,HR.out⟩
  ·rw [if_neg hq] at HE;have hqd:((y.head:Int)==(y.he:Int))=false:=by simp;omega
   have hh1:y.head+1<=9223372036854775807:=by omega
   clear hq;go_wp2_with fail
   go_quiet (fail)
   go_wp2_with fail
   refine (zw3 8 (HY.out.1.drewN _) HY.out.2.1 k1.1 (by omega)).mono ?_;rintro v w2 ⟨rfl,g3,g4⟩;have hn:y.num 8<256:=Nat.mod_lt _ (by decide);have hni:((y.num 8:Nat):Int)%256=((y.num 8:Nat):Int):=by omega
   obtain ⟨L,B,T⟩:=g3;have HB:Hid (Bh ρ w p (y.rd 8) (y.rd 8) L w2):=⟨B,T,(HY.out.2.2.drewN _).trans g4⟩
   have d19:w2.cell? ⟨p,19,none⟩=some (.int .i64 y.head):=B.row.cell (i:=19) (by omega);have d20:w2.cell? ⟨p,20,none⟩=some (.int .u8 y.hsum):=B.row.cell (i:=20) (by omega);have z19:=B.row.frozen 19;have z20:=B.row.frozen 20;have HB2:Hid (Bh ρ w p y.headRead (y.rd 8) L ((w2.setCell ⟨p,19,none⟩ (.int .i64 (y.head+1:Nat))).setCell ⟨p,20,none⟩ (.int .u8 ((y.hsum+y.num 8)%256:Nat)))):=(HB.out.set (z:={ y.rd 8 with head:=y.head+1 }) 19 _ rfl ⟨rfl,rfl⟩).set 20 _ rfl ⟨rfl,rfl⟩;have e1:((y.head+1:Nat):Int)=(y.head:Int)+1:=by omega
   rw [e1] at HB2;clear B T g4;obtain ⟨b,hb⟩:∃ b,b=y.num 8:=⟨_,rfl⟩
   rw [← hb] at hn hni HE HB2 ⊢;clear hb;go_wp2_with fail
   go_ret2
   unfold v5b;rw [HE.out];have e2:((y.hsum:Int)+b)%256=(((y.hsum+b)%256:Nat):Int):=by omega
   first
    | exact ⟨rfl,HB2.out.done rfl rfl rfl rfl ⟨rfl,rfl⟩⟩
    | (rw [e2];exact ⟨rfl,HB2.out.done rfl rfl rfl rfl ⟨rfl,rfl⟩⟩)
    | (rw [IntKind.wrap_u8,e2];exact ⟨rfl,HB2.out.done rfl rfl rfl rfl ⟨rfl,rfl⟩⟩)
 ·obtain ⟨t,ht⟩:∃ t,t=(MS.need 8 x).2:=⟨_,rfl⟩
  rw [if_pos h0] at HE;have HR:Hid (MM ρ w1 p (MS.need 8 x).1∧Fr (fun k=>1<=k∧k<=5) ρ w w1):=⟨g1,g2⟩
  rw [← ht] at h0 HE ⊢;have h0':((t:Int)==0)=false:=by simp;exact h0
  clear g1 g2 ht;go_wp2_with fail
  go_ret2
  unfold v5b;rw [HE.out];exact ⟨rfl,HR.out⟩
theorem Ok.headRead{y:MS}(h:Ok y)(h8:8<=y.count)(hq:y.head≠y.he):Ok y.headRead:=
 { h.rd h8 with hd:=⟨by have:=h.hd.1;show y.head+1<=y.he;omega,h.hd.2⟩,hsum:=Nat.mod_lt _ (by decide) }
theorem MS.takeHead_facts{x:MS}(ok:Ok x)(hx:x.count<=8):Ok x.takeHead.1∧(x.takeHead.2.1=0->x.takeHead.1.count<8∧x.takeHead.2.2<256∧x.takeHead.1.more<x.more∧x.takeHead.1={ x with held:=x.takeHead.1.held,count:=x.takeHead.1.count,tk:=x.takeHead.1.tk,rest:=x.takeHead.1.rest,head:=x.takeHead.1.head,hsum:=x.takeHead.1.hsum }):=by
 have k3:=MS.need_ok (k:=8) ok;unfold MS.takeHead;by_cases h0:(MS.need 8 x).2=0
 ·have k1:=MS.need_cnt ok h0;have k2:=MS.need_same ok h0;have k4:=MS.need_bits ok h0;rw [if_neg (by rw [h0];simp)];by_cases hq:(MS.need 8 x).1.head=(MS.need 8 x).1.he
  ·rw [if_pos hq];exact ⟨k3.refuse 5,fun h=>by cases h⟩
  ·rw [if_neg hq];refine ⟨k3.headRead k1.1 hq,fun _=>⟨?_,Nat.mod_lt _ (by decide),?_,?_⟩⟩
   ·show (MS.need 8 x).1.count - 8<8;omega
   ·show (MS.need 8 x).1.rest.length+((MS.need 8 x).1.count - 8) / 8<x.rest.length+x.count / 8;omega
   ·show ({ (MS.need 8 x).1.rd 8 with head:=_,hsum:=_ }:MS)=_;generalize MS.need 8 x=r at *;rw [k2];rfl
 ·rw [if_pos h0];exact ⟨k3,fun h=>absurd h h0⟩
theorem jn3{ρ:Nat->Nat}{w:World}{p:Nat}{x:MS}(want:Nat)(h:MM ρ w p x)(ok:Ok x)(hx:x.count<=8)(hw:want<256) :
  Calls Tryz.prog 159 #[.pointer (some ⟨p,0,none⟩), .int .u8 want] w fun v w'=>y0y ρ w p (MS.passByte want x) v w':=by
 have HM:Hid (MM ρ w p x∧Ok x):=⟨h,ok⟩
 have HE:Hid (MS.passByte want x=if x.takeHead.2.1=0 then (if x.takeHead.2.2=want then (x.takeHead.1,0) else x.takeHead.1.refuse 4) else (x.takeHead.1,x.takeHead.2.1)):=rfl;clear h ok;go_enter Tryz.func159,Tryz.ntmps159
 go_wp2_with fail
 refine (kvg HM.out.1 HM.out.2 hx).mono ?_;rintro v w1 ⟨rfl,g1,g2⟩;have k1:=(MS.takeHead_facts HM.out.2 hx).2;obtain ⟨y,t,b,hr⟩:∃ y t b,x.takeHead=(y,t,b):=⟨_,_,_,rfl⟩
 rw [hr] at g1 HE k1 ⊢;have HR:Hid (MM ρ w1 p y∧Fr (fun k=>1<=k∧k<=5) ρ w w1):=⟨g1,g2⟩
 clear g1 g2 hr;by_cases h0:t=0
 ·have hb:b<256:=(k1 h0).2.1;subst h0;rw [if_pos rfl] at HE;by_cases hbw:b=want
  ·rw [if_pos hbw] at HE;have hd:((b:Int)==(want:Int))=true:=by simp [hbw]
   clear hbw k1;go_wp2_with fail
   go_ret
   unfold y0y;rw [HE.out];exact ⟨rfl,HR.out⟩
  ·rw [if_neg hbw] at HE;have hd:((b:Int)==(want:Int))=false:=by simp;omega
   clear hbw k1;go_wp2_with fail
   refine (kv8 4 HR.out.1).mono ?_;rintro v w2 ⟨rfl,g3,g4⟩;have HR2:Hid (MM ρ w2 p (y.refuse 4).1∧Fr (fun k=>1<=k∧k<=5) ρ w w2):=⟨g3,HR.out.2.trans g4⟩
   clear g3 g4;go_wp2_with fail
   go_ret
   unfold y0y;rw [HE.out];exact ⟨rfl,HR2.out⟩
 ·rw [if_neg h0] at HE;have h0':((t:Int)==0)=false:=by simp;exact h0
  clear k1;go_wp2_with fail
  go_ret
  unfold y0y;rw [HE.out];exact ⟨rfl,HR.out⟩
theorem zmn{ρ:Nat->Nat}{w:World}{p:Nat}{x:MS}(want:Nat)(h:MM ρ w p x)(ok:Ok x)(hx:x.count<=8∨x.fm=0)(hw:want<256) :
  Calls Tryz.prog 129 #[.pointer (some ⟨p,0,none⟩), .int .u8 want] w fun v w'=>y0y ρ w p (MS.passFixed want x) v w':=by
 have HM:Hid (MM ρ w p x∧Ok x):=⟨h,ok⟩
 have c0:w.cell? ⟨p,0,none⟩=some (.int .i64 x.fm):=by obtain ⟨L,B,T⟩:=h;exact B.row.cell (i:=0) (by omega)
 have HE:Hid (MS.passFixed want x=if x.fm=0 then (x,0) else MS.passByte want x):=rfl;clear h ok;go_enter Tryz.func129,Tryz.ntmps129
 by_cases h0:x.fm=0
 ·rw [if_pos h0] at HE;have hd:((x.fm:Int)==0)=true:=by simp [h0]
  clear h0 hx;go_wp2_with fail
  go_ret
  unfold y0y;rw [HE.out];exact ⟨rfl,HM.out.1,Fr.refl _ _ _⟩
 ·rw [if_neg h0] at HE;have hd:((x.fm:Int)==0)=false:=by simp;exact h0
  have hx8:x.count<=8:=by omega
  clear h0 hx;go_wp2_with fail
  refine (jn3 want HM.out.1 HM.out.2 hx8 hw).mono ?_;rintro v w1 ⟨rfl,g1,g2⟩;have HR:Hid (MM ρ w1 p (MS.passByte want x).1∧Fr (fun k=>1<=k∧k<=5) ρ w w1):=⟨g1,g2⟩
  clear g1 g2;go_wp2_with fail
  go_ret
  unfold y0y;rw [HE.out];exact ⟨rfl,HR.out⟩
theorem xdp{ρ:Nat->Nat}{w:World}{p:Nat}{x:MS}(h:MM ρ w p x)(ok:Ok x)(hx:x.count<=8∨x.fm=0) :
  Calls Tryz.prog 130 #[.pointer (some ⟨p,0,none⟩)] w fun v w'=>y0y ρ w p x.passMarks v w':=by
 have HM:Hid (MM ρ w p x∧Ok x):=⟨h,ok⟩
 have c0:w.cell? ⟨p,0,none⟩=some (.int .i64 x.fm):=by obtain ⟨L,B,T⟩:=h;exact B.row.cell (i:=0) (by omega)
 have HE:Hid (x.passMarks=if x.fm=2 then (if x.takeHead.2.1=0 then (if 7<x.takeHead.2.2 then x.takeHead.1.refuse 4 else ({ x.takeHead.1 with marks:=x.takeHead.2.2 },0)) else (x.takeHead.1,x.takeHead.2.1)) else (x,0)):=rfl;clear h ok;go_enter Tryz.func130,Tryz.ntmps130
 by_cases h2:x.fm=2
 ·rw [if_pos h2] at HE;have hd:((x.fm:Int)==2)=true:=by simp;omega
  have hx8:x.count<=8:=by omega
  clear h2 hx;go_wp2_with fail
  refine (kvg HM.out.1 HM.out.2 hx8).mono ?_;rintro v w1 ⟨rfl,g1,g2⟩;have k1:=(MS.takeHead_facts HM.out.2 hx8).2;obtain ⟨y,t,b,hr⟩:∃ y t b,x.takeHead=(y,t,b):=⟨_,_,_,rfl⟩
  rw [hr] at g1 HE k1 ⊢;have HR:Hid (MM ρ w1 p y∧Fr (fun k=>1<=k∧k<=5) ρ w w1):=⟨g1,g2⟩
  clear g2 hr;by_cases h0:t=0
  ·have hb:b<256:=(k1 h0).2.1;subst h0;rw [if_pos rfl] at HE;by_cases hbw:7<b
   ·rw [if_pos hbw] at HE;have hbi:(7:Int)<b:=by omega
    clear k1 g1;go_wp2_with fail
    refine (kv8 4 HR.out.1).mono ?_;rintro v w2 ⟨rfl,g3,g4⟩;have HR2:Hid (MM ρ w2 p (y.refuse 4).1∧Fr (fun k=>1<=k∧k<=5) ρ w w2):=⟨g3,HR.out.2.trans g4⟩
    clear g3 g4;go_wp2_with fail
    go_ret
    unfold y0y;rw [HE.out];exact ⟨rfl,HR2.out⟩
   ·rw [if_neg hbw] at HE;have hbi:¬ (7:Int)<b:=by omega
    obtain ⟨L,B,T⟩:=g1;have c18:w1.cell? ⟨p,18,none⟩=some (.int .u8 y.marks):=B.row.cell (i:=18) (by omega);have z18:=B.row.frozen 18;have HB:Hid (Bh ρ w p { y with marks:=b } y L (w1.setCell ⟨p,18,none⟩ (.int .u8 b))):=(show Bh ρ w p y y L w1 from ⟨B,T,HR.out.2⟩).set 18 _ rfl ⟨rfl,rfl⟩;clear k1 B T;go_wp2_with fail
    go_ret
    unfold y0y;rw [HE.out];exact ⟨rfl,HB.out.done rfl rfl rfl rfl ⟨rfl,rfl⟩⟩
  ·rw [if_neg h0] at HE;have h0':((t:Int)==0)=false:=by simp;exact h0
   clear k1 g1;go_wp2_with fail
   go_ret
   unfold y0y;rw [HE.out];exact ⟨rfl,HR.out⟩
 ·rw [if_neg h2] at HE;have hd:((x.fm:Int)==2)=false:=by simp;omega
  clear h2 hx;go_wp2_with fail
  go_ret
  unfold y0y;rw [HE.out];exact ⟨rfl,HM.out.1,Fr.refl _ _ _⟩
end Go.Proofs.YtbcjmakpempkiaaGreatDoor
