import Derived.BigRegion
import Derived.Laws.OwnMore
import Derived.Test.YtbcjmakpempkiaaGreatDoorX02
set_option maxRecDepth 100000
set_option maxHeartbeats 8000000
set_option linter.all false
namespace Go.Proofs.YtbcjmakpempkiaaGreatDoor
open Go.RowKit
def btf(v:Value)(left:Nat):Nat->Value
 | 0=>v
 | _=> .int .i64 left
structure BtI(B p:Nat)(v:Value)(l:List Nat)(left:Nat)(w:World):Prop where
 pB:B<=p
 hB:B<=w.heap.size
 row:w.rowIs p 83 2 (btf v left)
 own:w.ownsRow B 5 1 v l.length (keg l)
 po:v.ownBlock≠some p
structure BtF(B p:Nat)(v v':Value)(w w':World):Prop where
 size:w.heap.size<=w'.heap.size
 blk:∀ k,k<w.heap.size->k≠p->v.ownBlock≠some k->w'.heap[k]?=w.heap[k]?
 nw:∀ g,v'.ownBlock=some g->v.ownBlock=some g∨w.heap.size<=g
 bel:Below B w w'
theorem BtF.refl(B p:Nat)(v:Value)(w:World):BtF B p v v w w:=⟨Nat.le_refl _,fun _ _ _ _=>rfl,fun _ h=>Or.inl h,Below.refl _ _⟩
theorem BtF.trans{B p:Nat}{v v1 v2:Value}{a b c:World}(h:BtF B p v v1 a b)(k:BtF B p v1 v2 b c):BtF B p v v2 a c:=⟨Nat.le_trans h.size k.size,fun i hi hp hv=>by
  rw [k.blk i (Nat.lt_of_lt_of_le hi h.size) hp (fun e=>by
   rcases h.nw i e with e' | e'
   ·exact hv e'
   ·omega)]
  exact h.blk i hi hp hv,fun g hg=>by
  rcases k.nw g hg with e | e
  ·exact h.nw g e
  ·exact Or.inr (Nat.le_trans h.size e),h.bel.trans k.bel⟩
theorem two2{P:Nat->Prop}(h0:P 0)(h1:P 1)(i:Nat)(hi:i<2):P i:=by
 have:i=0∨i=1:=by omega
 rcases this with rfl | rfl <;> assumption
theorem BtI.setLeft{B p:Nat}{v:Value}{l:List Nat}{left:Nat}{w:World}(h:BtI B p v l left w)(n:Nat):BtI B p v l n (w.setCell ⟨p,1,none⟩ (.int .i64 n))∧BtF B p v v w (w.setCell ⟨p,1,none⟩ (.int .i64 n)):=by
 have k:Sole p w (w.setCell ⟨p,1,none⟩ (.int .i64 n)):=Sole.set p w 1 _;refine ⟨⟨h.pB,Nat.le_trans h.hB k.size,(h.row.set 1 _).congr (two2 rfl rfl),jhg h.own k h.po,h.po⟩,k.size,fun i hi hp _=>k.block i hi hp,fun _ hg=>Or.inl hg,(Below.refl _ _).setCell h.pB _⟩
theorem BtI.push{B p:Nat}{v:Value}{l:List Nat}{left b:Nat}{w X w1:World}{g c n:Nat}(h:BtI B p v l left w)(hX:Below w.heap.size w X)(hg:X.grownBy w1 v.ownBlock)(hat:v.ownBlock=some g∨w.heap.size<=g)
  (hn:n=l.length+1) (hown:w1.ownsRow B 5 1 (.slice (some ⟨g,0,none⟩) n c) n (keg l++[.int .u8 b])) :
  BtI B p (.slice (some ⟨g,0,none⟩) n c) (l++[b]) left (w1.setCell ⟨p,0,none⟩ (.slice (some ⟨g,0,none⟩) n c))∧BtF B p v (.slice (some ⟨g,0,none⟩) n c) w (w1.setCell ⟨p,0,none⟩ (.slice (some ⟨g,0,none⟩) n c)):=by
 have hsz:w.heap.size<=w1.heap.size:=Nat.le_trans hX.size hg.size;have hpl:=h.row.lt;have hb1:∀ k,k<w.heap.size->v.ownBlock≠some k->w1.heap[k]?=w.heap[k]?:=fun k hk hne=>
  (hg.block k (Nat.lt_of_lt_of_le hk hX.size) (fun e=>hne e.symm)).trans (j1i hX hk)
 have hgp:g≠p:=by
  rcases hat with e | e
  ·intro e';subst e';exact h.po e
  ·omega
 have hB:=h.hB;refine ⟨⟨h.pB,by simp [World.setCell];omega,((h.row.of_block (hb1 p hpl h.po)).set 0 _).congr (two2 rfl rfl),?_,by simp [Value.ownBlock];exact hgp⟩,by simpa [World.setCell] using hsz,?_,?_,?_⟩
 ·have e:keg (l++[b])=keg l++[.int .u8 b]:=by simp [keg]
  have e2:(l++[b]).length=n:=by simp [hn]
  show World.ownsRow _ _ _ _ _ (l++[b]).length (keg (l++[b]));rw [e,e2];exact kcz (R:=fun k=>k=p) (ρ:=fun k=>k) hown ⟨by simp [World.setCell],fun k _ hk=>Below.heap_setCell _ _ _ _ hk⟩ (fun x hx=>by simp [Value.ownBlock] at hx;omega)
 ·intro k hk hp hv;rw [Below.heap_setCell _ _ _ _ hp];exact hb1 k hk hv
 ·intro x hx;simp [Value.ownBlock] at hx;subst hx;exact hat
 ·exact ((hX.mono hB).grown hg (Nat.le_trans hB hX.size) (fun x hx=>(h.own.lt x hx).1)).setCell h.pB _
theorem BtI.setByte{B p g cap:Nat}{l:List Nat}{left:Nat}{w:World}(h:BtI B p (.slice (some ⟨g,0,none⟩) l.length cap) l left w)(j x:Nat):BtI B p (.slice (some ⟨g,0,none⟩) l.length cap) (l.set j x) left (w.setCell ⟨g,j,none⟩ (.int .u8 x))∧BtF B p (.slice (some ⟨g,0,none⟩) l.length cap) (.slice (some ⟨g,0,none⟩) l.length cap) w (w.setCell ⟨g,j,none⟩ (.int .u8 x)):=by
 have hgp:g≠p:=fun e=>h.po (by rw [e];rfl)
 have hgB:B<=g:=(h.own.lt g rfl).1;have k:Sole g w (w.setCell ⟨g,j,none⟩ (.int .u8 x)):=Sole.set g w j _;refine ⟨⟨h.pB,Nat.le_trans h.hB k.size,h.row.of_block (k.block p h.row.lt (fun e=>hgp e.symm)),?_,h.po⟩,k.size,fun i hi _ hv=>k.block i hi (fun e=>hv (by rw [e];rfl)),fun _ hg=>Or.inl hg,(Below.refl _ _).setCell hgB _⟩;have e:keg (l.set j x)=(keg l).set j (.int .u8 x):=by simp [keg,List.map_set]
 have e2:(l.set j x).length=l.length:=by simp
 show World.ownsRow _ _ _ _ _ (l.set j x).length (keg (l.set j x));rw [e,e2];exact (World.ownsRow.stored h.own j _).1
theorem BtI.drew{B p:Nat}{v:Value}{l:List Nat}{left:Nat}{w:World}(h:BtI B p v l left w):BtI B p v l left w.drew:=⟨h.pB,h.hB,h.row,h.own,h.po⟩
theorem BtF.drew{B p:Nat}{v v':Value}{w w':World}(h:BtF B p v v' w w'):BtF B p v v' w w'.drew:=⟨h.size,h.blk,h.nw,⟨h.bel.os,h.bel.tape,h.bel.output,h.bel.size,h.bel.block⟩⟩
def bitW(l:List Nat)(left b:Nat):List Nat×Nat:=if left=0 then (l++[b],7) else (l.set (l.length - 1) (l.getD (l.length - 1) 0+b*2^(8 - left)),left - 1)
theorem zir{l:List Nat}(hl:l≠[]):l.set (l.length - 1) (l.getD (l.length - 1) 0)=l:=by
 have h:l.length - 1<l.length:=by
  have:=List.length_pos_iff.2 hl;omega
 have e:l.getD (l.length - 1) 0=l[l.length - 1]:=by simp [h]
 rw [e,List.set_getElem_self]
theorem pow8{k:Nat}(h:k<=8):1<=2^k∧2^k<=256:=by
 have h1:2^k<=2^8:=Nat.pow_le_pow_right (by decide) h;have h2:0<2^k:=Nat.pow_pos (by decide);omega
theorem x75{B p:Nat}{v:Value}{l:List Nat}{left:Nat}(w:World)(h:BtI B p v l left w)(h0:0<left)(h8:left<8)(hne:l≠[]) :
  Calls Tryz.prog 70 #[.pointer (some ⟨p,0,none⟩), .int .i64 0] w fun e w'=>e= .returned (.tuple #[])∧∃ v',BtI B p v' (bitW l left 0).1 (bitW l left 0).2 w'∧BtF B p v v' w w':=by
 have c1:w.cell? ⟨p,1,none⟩=some (.int .i64 left):=h.row.cell (i:=1) (by omega);have f1:=h.row.frozen 1;have hz:((left:Int)==0)=false:=by simp;omega
 have HR:Hid (bitW l left 0=(l,left - 1)):=by show _=_;unfold bitW;rw [if_neg (by omega),Nat.zero_mul,Nat.add_zero,zir hne]
 have HN:Hid (BtI B p v l (left - 1) (w.setCell ⟨p,1,none⟩ (.int .i64 ((left:Int) - 1)))∧BtF B p v v w (w.setCell ⟨p,1,none⟩ (.int .i64 ((left:Int) - 1)))):=by
  have:=h.setLeft (left - 1);rw [show ((left - 1:Nat):Int)=(left:Int) - 1 by omega] at this;exact this
 clear h;go_enter Tryz.func70,Tryz.ntmps70
 go_wp2_with fail
 go_end0
 rw [HR.out];exact ⟨rfl,v,HN.out.1,HN.out.2⟩
theorem x7m{B p:Nat}{v:Value}{l:List Nat}{left:Nat}(w:World)(h:BtI B p v l left w)(h0:0<left)(h8:left<8)(hne:l≠[])(hlen:l.length<=1000000000000)(hx:l.getD (l.length - 1) 0<2^(8 - left)) :
  Calls Tryz.prog 70 #[.pointer (some ⟨p,0,none⟩), .int .i64 1] w fun e w'=>e= .returned (.tuple #[])∧∃ v',BtI B p v' (bitW l left 1).1 (bitW l left 1).2 w'∧BtF B p v v' w w':=by
 have hpos:=List.length_pos_iff.2 hne;obtain ⟨g,cap,hv,hgB,hgl⟩:=World.ownsRow.form h.own hpos;subst hv;have c0:w.cell? ⟨p,0,none⟩=some (.slice (some ⟨g,0,none⟩) l.length cap):=h.row.cell (i:=0) (by omega);have c1:w.cell? ⟨p,1,none⟩=some (.int .i64 left):=h.row.cell (i:=1) (by omega);have f1:=h.row.frozen 1;have hz:((left:Int)==0)=false:=by simp;omega
 have hgp:¬ g=p:=fun e=>h.po (by rw [e];rfl)
 have hpg:¬ p=g:=fun e=>hgp e.symm
 obtain ⟨n,hn⟩:∃ n,l.length=n+1:=⟨l.length - 1,by omega⟩
 have cx:w.cell? ⟨g,n,none⟩=some (.int .u8 (l.getD n 0)):=by
  rw [World.ownsRow.cellAt h.own n (by omega)];have:n<l.length:=by omega
  simp [keg,this]
 have fx:=World.ownsRow.frozenAt h.own n;obtain ⟨b1,b2⟩:=pow8 (k:=8 - left) (by omega);have hlast:l.length - 1=n:=by omega
 rw [hlast] at hx;have hsum:2^(8 - left)+2^(8 - left)<=256:=by
  have:2^(8 - left+1)<=2^8:=Nat.pow_le_pow_right (by decide) (by omega);rw [Nat.pow_succ] at this;omega
 have HR:Hid (bitW l left 1=(l.set n (l.getD n 0+2^(8 - left)),left - 1)):=by show _=_;unfold bitW;rw [if_neg (by omega),Nat.one_mul,hlast]
 have HI:Hid (BtI B p (.slice (some ⟨g,0,none⟩) l.length cap) l left w):=h;have HN:Hid (BtI B p (.slice (some ⟨g,0,none⟩) l.length cap) (l.set n (l.getD n 0+2^(8 - left))) (left - 1) ((w.setCell ⟨g,n,none⟩ (.int .u8 ((l.getD n 0:Int)+(2^(8 - left):Nat)))).setCell ⟨p,1,none⟩ (.int .i64 ((left:Int) - 1)))∧BtF B p (.slice (some ⟨g,0,none⟩) l.length cap) (.slice (some ⟨g,0,none⟩) l.length cap) w ((w.setCell ⟨g,n,none⟩ (.int .u8 ((l.getD n 0:Int)+(2^(8 - left):Nat)))).setCell ⟨p,1,none⟩ (.int .i64 ((left:Int) - 1)))):=by
  obtain ⟨a1,a2⟩:=h.setByte n (l.getD n 0+2^(8 - left));have el:(l.set n (l.getD n 0+2^(8 - left))).length=l.length:=by simp
  have a1':BtI B p (.slice (some ⟨g,0,none⟩) (l.set n (l.getD n 0+2^(8 - left))).length cap) (l.set n (l.getD n 0+2^(8 - left))) left (w.setCell ⟨g,n,none⟩ (.int .u8 ((l.getD n 0+2^(8 - left):Nat):Int))):=by rw [el];exact a1
  obtain ⟨b1,b2⟩:=a1'.setLeft (left - 1);rw [el] at b1 b2;rw [show ((left - 1:Nat):Int)=(left:Int) - 1 by omega] at b1 b2;have ei:((l.getD n 0+2^(8 - left):Nat):Int)=(l.getD n 0:Int)+(2^(8 - left):Nat):=by simp
  rw [ei] at a2 b1 b2;exact ⟨b1,a2.trans b2⟩
 have c0':w.cell? ⟨p,0,none⟩=some (.slice (some ⟨g,0,none⟩) (n+1) cap):=by rw [← hn];exact c0
 have hnb:n<=1000000000000:=by omega
 clear h hlast c0 hn hpos hlen;generalize l.getD n 0=x at *;have HP:Hid (∀ k,2^(k+1)=2*2^k):=fun k=>by rw [Nat.pow_succ,Nat.mul_comm]
 go_enter Tryz.func70,Tryz.ntmps70
 go_wp2_with fail
 go_loop [4,5] (fun s i=>∃ k y:Nat,left+k<=8∧i= .int .i64 (left+k)∧s= .int .i64 y∧y<=256∧Hid (y=2^k)) (fun _ i=>8 - (intOf i).toNat)
 case atStart=>exact ⟨0,1,by omega,by go_num,rfl,by omega,rfl⟩
 case round=>
  obtain ⟨k,y,hk,rfl,rfl,hy,HY⟩:=hrel;by_cases hlt:left+k<8
  ·have hy2:2*y<=256:=by rw [HY.out,← HP.out];exact (pow8 (by omega)).2
   go_wp2_with fail
   go_round
   case rel=>exact ⟨k+1,2*y,by omega,by go_num,by go_num,hy2,by show _=_;rw [HY.out,HP.out]⟩
   case measure=>simp [intOf];omega
  ·have hyk:y=2^(8 - left):=by rw [HY.out];congr 1;omega
   rw [← hyk] at hx hsum HR HN b1 b2;clear HY hyk;have hxy:x+y<256:=by omega
   go_wp2_with fail
   go_region
   go_wp2_with fail
   go_end0
   rw [HR.out];exact ⟨rfl,_,HN.out.1.drew,HN.out.2.drew⟩
theorem j19{B p:Nat}{v:Value}{l:List Nat}(b:Nat)(hb:b<=1)(w:World)(h:BtI B p v l 0 w)(hlen:l.length<=1000000000000) :
  Calls Tryz.prog 70 #[.pointer (some ⟨p,0,none⟩), .int .i64 b] w fun e w'=>e= .returned (.tuple #[])∧∃ v',BtI B p v' (bitW l 0 b).1 (bitW l 0 b).2 w'∧BtF B p v v' w w':=by
 have HI:Hid (BtI B p v l 0 w):=h;have hpl:=h.row.lt;have hBs:=h.hB;have c0:w.cell? ⟨p,0,none⟩=some v:=h.row.cell (i:=0) (by omega);have c1:w.cell? ⟨p,1,none⟩=some (.int .i64 0):=h.row.cell (i:=1) (by omega);have f0:=h.row.frozen 0;have f1:=h.row.frozen 1;have hwo:=h.own;have hpo:=h.po;have HR:Hid (bitW l 0 b=(l++[b],7)):=rfl;clear h;obtain ⟨i5,hi5,hx0,hx1,hx2⟩:=info_parts kh5;go_enter Tryz.func70,Tryz.ntmps70
 go_upto_region 2 with (at_builtin;refine wpList_append_lies _ rfl _ _ 34 rfl B 5 i5 (.int .u8 0) 1 1 Tryz.underlying34 hi5 hx0 hx1 hx2 rfl (by decide) v l.length (keg l) rfl (hwo.alloc _) ⟨w.heap.size,0,none⟩ 1 1 [.int .u8 0] rfl rfl (cell_one_new _ _ _) (by simp [Value.oneCell']) (by omega) (by unfold maxLen;omega) (by omega) (by simp;omega) (w.heap.size+1) (by simp) ?_;intro g1 p1 w1 hown1 hgrow1 hat1 hlt1;have k0:=x7a hgrow1 hpl hpo c0;have z0:=jk1 hgrow1 hpl hpo f0)
 have M1:=HI.out.push (b:=0) ((Below.refl _ _).alloc (Nat.le_refl _) _) hgrow1 (hat1.imp id (fun e=>by omega)) rfl hown1;obtain ⟨W1,hW1⟩:∃ W1,W1=w1.setCell ⟨p,0,none⟩ (.slice (some ⟨g1,0,none⟩) (l.length+1) p1):=⟨_,rfl⟩
 rw [← hW1] at M1 ⊢;have M2:=M1.1.setLeft 8;have HM:Hid (BtF B p v (.slice (some ⟨g1,0,none⟩) (l.length+1) p1) w W1):=M1.2;have d1:W1.cell? ⟨p,1,none⟩=some (.int .i64 0):=M1.1.row.cell (i:=1) (by omega);have d0:W1.cell? ⟨p,0,none⟩=some (.slice (some ⟨g1,0,none⟩) (l.length+1) p1):=M1.1.row.cell (i:=0) (by omega);have z1:=M1.1.row.frozen 1;have hgp:¬ g1=p:=fun e=>M1.1.po (by rw [e];rfl)
 have hpg:¬ p=g1:=fun e=>hgp e.symm
 have ho:=M1.1.own;have e00:(l++[0]).length=l.length+1:=by simp
 rw [e00] at ho;clear e00;have cx:W1.cell? ⟨g1,l.length,none⟩=some (.int .u8 0):=by
  rw [World.ownsRow.cellAt ho l.length (by omega)];simp [keg]
 have fx:=World.ownsRow.frozenAt ho l.length;have HI2:Hid (BtI B p (.slice (some ⟨g1,0,none⟩) (l.length+1) p1) (l++[0]) 8 (W1.setCell ⟨p,1,none⟩ (.int .i64 8))∧BtF B p (.slice (some ⟨g1,0,none⟩) (l.length+1) p1) (.slice (some ⟨g1,0,none⟩) (l.length+1) p1) W1 (W1.setCell ⟨p,1,none⟩ (.int .i64 8))):=M2;clear hW1 M1 M2 k0 z0 hown1 hgrow1 hat1 hlt1 c0 c1 f0 f1 hwo ho HI hpo hpl hBs;have hb2:b=0∨b=1:=by omega
 rcases hb2 with rfl | rfl
 ·have HN:Hid (BtI B p (.slice (some ⟨g1,0,none⟩) (l.length+1) p1) (l++[0]) 7 ((W1.setCell ⟨p,1,none⟩ (.int .i64 8)).setCell ⟨p,1,none⟩ (.int .i64 7))∧BtF B p v (.slice (some ⟨g1,0,none⟩) (l.length+1) p1) w ((W1.setCell ⟨p,1,none⟩ (.int .i64 8)).setCell ⟨p,1,none⟩ (.int .i64 7))):=by
   have:=HI2.out.1.setLeft 7;exact ⟨this.1,(HM.out.trans HI2.out.2).trans this.2⟩
  go_wp2_with fail
  go_end0
  rw [HR.out];exact ⟨rfl,_,HN.out.1,HN.out.2⟩
 ·have HN:Hid (BtI B p (.slice (some ⟨g1,0,none⟩) (l.length+1) p1) (l++[1]) 7 (((W1.setCell ⟨p,1,none⟩ (.int .i64 8)).setCell ⟨g1,l.length,none⟩ (.int .u8 1)).setCell ⟨p,1,none⟩ (.int .i64 7))∧BtF B p v (.slice (some ⟨g1,0,none⟩) (l.length+1) p1) w (((W1.setCell ⟨p,1,none⟩ (.int .i64 8)).setCell ⟨g1,l.length,none⟩ (.int .u8 1)).setCell ⟨p,1,none⟩ (.int .i64 7))):=by
   have e1:(l++[0]).length=l.length+1:=by simp
   have a0:BtI B p (.slice (some ⟨g1,0,none⟩) (l++[0]).length p1) (l++[0]) 8 (W1.setCell ⟨p,1,none⟩ (.int .i64 8)):=by rw [e1];exact HI2.out.1
   obtain ⟨a1,a2⟩:=a0.setByte l.length 1;rw [e1] at a1 a2;have e2:(l++[0]).set l.length 1=l++[1]:=by simp
   rw [e2] at a1;obtain ⟨b1,b2⟩:=a1.setLeft 7;exact ⟨b1,((HM.out.trans HI2.out.2).trans a2).trans b2⟩
  go_wp2_with fail
  go_loop [4,5] (fun s i=>s= .int .i64 1∧i= .int .i64 8) (fun _ i=>8 - (intOf i).toNat)
  case atStart=>exact ⟨rfl,rfl⟩
  case round=>
   obtain ⟨rfl,rfl⟩:=hrel;go_wp2_with fail
   go_region
   go_wp2_with fail
   go_end0
   rw [HR.out];exact ⟨rfl,_,HN.out.1.drew,HN.out.2.drew⟩
theorem xym{B p:Nat}{v:Value}{l:List Nat}{left:Nat}(b:Nat)(hb:b<=1)(w:World)(h:BtI B p v l left w)(h8:left<8)(hne:0<left->l≠[])(hlen:l.length<=1000000000000)(hx:0<left->l.getD (l.length - 1) 0<2^(8 - left)) :
  Calls Tryz.prog 70 #[.pointer (some ⟨p,0,none⟩), .int .i64 b] w fun e w'=>e= .returned (.tuple #[])∧∃ v',BtI B p v' (bitW l left b).1 (bitW l left b).2 w'∧BtF B p v v' w w':=by
 rcases Nat.eq_zero_or_pos left with h0 | h0
 ·subst h0;exact j19 b hb w h hlen
 ·have hb2:b=0∨b=1:=by omega
  rcases hb2 with rfl | rfl
  ·exact x75 w h h0 h8 (hne h0)
  ·exact x7m w h h0 h8 (hne h0) hlen (hx h0)
structure Pk(l:List Nat)(left:Nat)(bits:List Nat):Prop where
 oct:octB l=bits++xpo left
 lt:left<8
 byte:∀ x∈l,x<256
theorem Pk.nil:Pk [] 0 []:=⟨rfl,by decide,fun x hx=>(by cases hx)⟩
theorem Pk.len{l:List Nat}{left:Nat}{bits:List Nat}(h:Pk l left bits):8*l.length=bits.length+left:=by
 have:=congrArg List.length h.oct;rw [Tr.octB_len,List.length_append] at this;simpa [xpo] using this
theorem y9y(n:Nat):∀ (x k:Nat) (u:List Nat),v06 x (k+n)=u++xpo n->u.length=k->x<2^(k+n)->x<2^k∧u=v06 x k:=by
 intro x k;induction k generalizing x with
 | zero=>
  intro u h1 h2 h3;have:u=[]:=List.length_eq_zero_iff.1 h2;subst this;rw [Nat.zero_add] at h1 h3;have h4:v06 x n=v06 0 n:=by rw [h1,xhi];rfl
  have:=yez n h3 (Nat.pow_pos (by decide)) h4;exact ⟨by rw [this];decide,rfl⟩
 | succ k ih=>
  intro u h1 h2 h3;cases u with
  | nil=>simp at h2
  | cons a u=>
   rw [show k+1+n=(k+n)+1 by omega] at h1 h3;have h4:x%2 :: v06 (x / 2) (k+n)=a :: (u++xpo n):=h1;injection h4 with h5 h6
   rw [Nat.pow_succ] at h3;obtain ⟨i1,i2⟩:=ih (x / 2) u h6 (by simpa using h2) (by omega);refine ⟨by rw [Nat.pow_succ];omega,?_⟩;show a :: u=x%2 :: v06 (x / 2) k;rw [h5,i2]
theorem vax(n b:Nat):∀ (k x:Nat),x<2^k->b<=1->v06 (x+b*2^k) (k+(n+1))=v06 x k++b :: xpo n:=by
 intro k;induction k with
 | zero=>
  intro x hx hb;have:x=0:=by simpa using hx
  subst this;rw [Nat.zero_add,Nat.pow_zero,Nat.mul_one,Nat.zero_add];show b%2 :: v06 (b / 2) n=[]++b :: xpo n;rw [show b%2=b by omega,show b / 2=0 by omega,xhi];rfl
 | succ k ih=>
  intro x hx hb;rw [Nat.pow_succ] at hx;rw [show k+1+(n+1)=(k+(n+1))+1 by omega];have e1:b*2^(k+1)=2*(b*2^k):=by rw [Nat.pow_succ,← Nat.mul_assoc,Nat.mul_comm 2]
  show (x+b*2^(k+1))%2 :: v06 ((x+b*2^(k+1)) / 2) (k+(n+1))=x%2 :: v06 (x / 2) k++b :: xpo n;rw [e1,show (x+2*(b*2^k))%2=x%2 by omega,show (x+2*(b*2^k)) / 2=x / 2+b*2^k by omega,ih (x / 2) (by omega) hb];rfl
theorem Pk.last{l:List Nat}{left:Nat}{bits:List Nat}(h:Pk l left bits)(h0:0<left):∃ m x u v,l=m++[x]∧bits=octB m++u∧u=v06 x (8 - left)∧x<2^(8 - left)∧v=x:=by
 have hl:=h.len;have hne:l≠[]:=by
  intro e;rw [e] at hl;simp at hl;have:=h.lt;omega
 obtain ⟨m,x,rfl⟩:∃ m x,l=m++[x]:=⟨l.dropLast,l.getLast hne,(List.dropLast_concat_getLast hne).symm⟩
 have ho:=h.oct;rw [Tr.octB_append] at ho;have hx:octB [x]=v06 x 8:=by show v06 x 8++[]=_;simp
 rw [hx] at ho;have hml:(octB m).length<=bits.length:=by
  rw [Tr.octB_len];rw [List.length_append,List.length_singleton] at hl;have:=h.lt;omega
 obtain ⟨u,hu⟩:∃ u,bits=octB m++u:=by
  refine ⟨bits.drop (octB m).length,?_⟩;have e1:(octB m++v06 x 8).take (octB m).length=(bits++xpo left).take (octB m).length:=by rw [ho]
  rw [List.take_left,List.take_append_of_le_length hml] at e1;conv=>lhs;rw [← List.take_append_drop (octB m).length bits]
  rw [← e1]
 rw [hu,List.append_assoc] at ho;have h2:=List.append_cancel_left ho;have hul:u.length=8 - left:=by
  have:=congrArg List.length h2;rw [vxm,List.length_append] at this;simp [xpo] at this;omega
 have hlt:=h.lt;obtain ⟨i1,i2⟩:=y9y left x (8 - left) u (by rw [show 8 - left+left=8 by omega];exact h2) hul (by rw [show 8 - left+left=8 by omega];exact h.byte x (by simp));exact ⟨m,x,u,x,rfl,hu,i2,i1,rfl⟩
theorem Pk.ready{l:List Nat}{left:Nat}{bits:List Nat}(h:Pk l left bits):(0<left->l≠[])∧(0<left->l.getD (l.length - 1) 0<2^(8 - left)):=by
 refine ⟨fun h0=>?_,fun h0=>?_⟩
 ·obtain ⟨m,x,_,_,rfl,_⟩:=h.last h0;simp
 ·obtain ⟨m,x,_,_,rfl,_,_,hx,_⟩:=h.last h0;simpa using hx
theorem Pk.bit{l:List Nat}{left:Nat}{bits:List Nat}(h:Pk l left bits){b:Nat}(hb:b<=1):Pk (bitW l left b).1 (bitW l left b).2 (bits++[b]):=by
 have hlt:=h.lt;unfold bitW;by_cases h0:left=0
 ·rw [if_pos h0];refine ⟨?_,by show 7<8;omega,?_⟩
  ·show octB (l++[b])=(bits++[b])++xpo 7;have ho:=h.oct;rw [h0] at ho;rw [Tr.octB_append,ho];have e:octB [b]=b :: xpo 7:=by
    show v06 b 8++[]=_;rw [List.append_nil];show b%2 :: v06 (b / 2) 7=_;rw [show b%2=b by omega,show b / 2=0 by omega,xhi]
   rw [e];simp [xpo]
  ·intro x hx;rcases List.mem_append.1 hx with hx | hx
   ·exact h.byte x hx
   ·simp at hx;omega
 ·rw [if_neg h0];obtain ⟨m,x,u,_,rfl,hbits,hu,hx,_⟩:=h.last (by omega);have e1:(m++[x]).length - 1=m.length:=by simp
  have e2:(m++[x]).getD m.length 0=x:=by simp
  rw [e1,e2];have e3:(m++[x]).set m.length (x+b*2^(8 - left))=m++[x+b*2^(8 - left)]:=by simp
  show Pk ((m++[x]).set m.length (x+b*2^(8 - left))) (left - 1) (bits++[b]);rw [e3];refine ⟨?_,by omega,?_⟩
  ·rw [Tr.octB_append,hbits,hu];have e4:octB [x+b*2^(8 - left)]=v06 x (8 - left)++b :: xpo (left - 1):=by
    show v06 _ 8++[]=_;rw [List.append_nil];have:=vax (left - 1) b (8 - left) x hx hb;rw [show 8 - left+(left - 1+1)=8 by omega] at this;exact this
   rw [e4];simp
  ·intro y hy;rcases List.mem_append.1 hy with hy | hy
   ·exact h.byte y (by simp [hy])
   ·simp at hy;have h2:2^(8 - left+1)<=2^8:=Nat.pow_le_pow_right (by decide) (by omega);rw [Nat.pow_succ] at h2;have h3:b*2^(8 - left)<=1*2^(8 - left):=Nat.mul_le_mul_right _ hb;omega
structure BB(B p:Nat)(v:Value)(bits:List Nat)(w:World):Prop where
 inv:∃ l left,BtI B p v l left w∧Pk l left bits
def BBE(B p:Nat)(v:Value)(bits:List Nat)(w w':World):Prop:=∃ v',BB B p v' bits w'∧BtF B p v v' w w'
theorem BBE.refl{B p:Nat}{v:Value}{bits:List Nat}{w:World}(h:BB B p v bits w):BBE B p v bits w w:=⟨v,h,BtF.refl _ _ _ _⟩
theorem z3z{B p:Nat}{v:Value}{bits:List Nat}(b:Nat)(hb:b<=1)(w:World)(h:BB B p v bits w)(hlen:bits.length<=1000000000000) :
  Calls Tryz.prog 70 #[.pointer (some ⟨p,0,none⟩), .int .i64 b] w fun e w'=>e= .returned (.tuple #[])∧BBE B p v (bits++[b]) w w':=by
 obtain ⟨l,left,h1,h2⟩:=h.inv;have hl:=h2.len;have hlt:=h2.lt;refine (xym b hb w h1 h2.lt h2.ready.1 (by omega) h2.ready.2).mono ?_;rintro e w' ⟨rfl,v',i1,i2⟩;exact ⟨rfl,v',⟨_,_,i1,h2.bit hb⟩,i2⟩
theorem xsy{B p:Nat}{v:Value}{bits:List Nat}(x n:Nat)(w:World)(h:BB B p v bits w)(hx:x<=1000000000)(hn:n<=64)(hlen:bits.length+n<=1000000000000) :
  Calls Tryz.prog 67 #[.pointer (some ⟨p,0,none⟩), .int .i64 x, .int .i64 n] w fun e w'=>e= .returned (.tuple #[])∧BBE B p v (bits++v06 x n) w w':=by
 have H0:Hid (BBE B p v (bits++v06 x 0) w w):=by show BBE _ _ _ _ _ _;rw [show v06 x 0=[] from rfl,List.append_nil];exact BBE.refl h
 clear h;go_enter Tryz.func67,Tryz.ntmps67
 go_wp2_with fail
 go_loopw [1,6] (fun s i wr=>∃ k y:Nat,k<=n∧i= .int .i64 k∧s= .int .i64 y∧y<=1000000000∧Hid (y=x / 2^k)∧Hid (BBE B p v (bits++v06 x k) w wr)) (fun _ i _=>n - (intOf i).toNat)
 case atStart=>exact ⟨0,x,Nat.zero_le _,rfl,rfl,hx,by show _=_;simp,H0⟩
 case round=>
  obtain ⟨k,y,hk,rfl,rfl,hy,HY,HB⟩:=hrel;clear H0;by_cases hlt:k<n
  ·obtain ⟨v1,b1,f1⟩:=HB.out;have HB1:Hid (BB B p v1 (bits++v06 x k) wr∧BtF B p v v1 w wr):=⟨b1,f1⟩
   have hbl:(bits++v06 x k).length<=1000000000000:=by rw [List.length_append,vxm];omega
   have hm:((y:Int)%2)=((y%2:Nat):Int):=by omega
   have HC:Hid (Calls Tryz.prog 70 #[.pointer (some ⟨p,0,none⟩), .int .i64 ((y:Int)%2)] wr fun e w'=>e= .returned (.tuple #[])∧BBE B p v1 (bits++v06 x k++[y%2]) wr w'):=by
    rw [hm];exact z3z (y%2) (by omega) wr b1 hbl
   clear b1 f1 HB hm;go_wp2_with (go_at_call 70;refine HC.out.mono ?_;rintro e w2 ⟨rfl,v2,b2,f2⟩;have HB2:Hid (BBE B p v (bits++v06 x (k+1)) w w2):=⟨v2,(by rw [kkm,← List.append_assoc,← HY.out];exact b2),HB1.out.2.trans f2⟩;clear b2 f2)
   go_roundw
   case rel=>exact ⟨k+1,y / 2,by omega,by go_num,by go_num,by omega,by show _=_;rw [HY.out,Nat.div_div_eq_div_mul,Nat.pow_succ],HB2⟩
   case measure=>simp [intOf];omega
  ·obtain rfl:k=n:=by omega
   go_wp2_with fail
   go_end0
   exact ⟨rfl,HB.out⟩
theorem kir(c:Nat)(n:Nat):∀ k,k<n->(krl c n)[k]?=some (c / 2^(n - 1 - k)%2):=by
 induction n with
 | zero=>intro k h;omega
 | succ n ih=>
  intro k h;cases k with
  | zero=>simp [krl]
  | succ k=>
   show (krl c n)[k]?=_;rw [ih k (by omega)];congr 4
   omega
theorem xfy(c:Nat){n k:Nat}(h:k<n):(krl c n).take (k+1)=(krl c n).take k++[c / 2^(n - 1 - k)%2]:=by
 rw [List.take_add_one,kir c n k h];rfl
theorem xh3{B p:Nat}{v:Value}{bits:List Nat}(x n:Nat)(w:World)(h:BB B p v bits w)(hx:x<=1000000)(h1:1<=n)(hn:n<=11)(hlen:bits.length+n<=1000000000000) :
  Calls Tryz.prog 98 #[.pointer (some ⟨p,0,none⟩), .int .i64 x, .int .i64 n] w fun e w'=>e= .returned (.tuple #[])∧BBE B p v (bits++krl x n) w w':=by
 have H0:Hid (BBE B p v (bits++(krl x n).take 0) w w):=by show BBE _ _ _ _ _ _;rw [List.take_zero,List.append_nil];exact BBE.refl h
 have HP:Hid (∀ k,2^(k+1)=2*2^k):=fun k=>by rw [Nat.pow_succ,Nat.mul_comm]
 have HL:Hid (∀ k,k<=10->1<=2^k∧2^k<=1024):=fun k hk=>by
  have h1:2^k<=2^10:=Nat.pow_le_pow_right (by decide) hk;have h2:0<2^k:=Nat.pow_pos (by decide);omega
 clear h;go_enter Tryz.func98,Tryz.ntmps98
 go_wp2_with fail
 go_loop [6,7] (fun s i=>∃ k y:Nat,k+1<=n∧i= .int .i64 (k+1)∧s= .int .i64 y∧y<=1024∧Hid (y=2^k)) (fun _ i=>n - (intOf i).toNat)
 case atStart=>exact ⟨0,1,by omega,rfl,rfl,by omega,rfl⟩
 case round=>
  obtain ⟨k,y,hk,rfl,rfl,hy,HY⟩:=hrel;by_cases hlt:k+1<n
  ·have hy2:2*y<=1024:=by rw [HY.out,← HP.out];exact (HL.out _ (by omega)).2
   go_wp2_with fail
   go_round
   case rel=>exact ⟨k+1,2*y,by omega,by go_num,by go_num,hy2,by show _=_;rw [HY.out,HP.out]⟩
   case measure=>simp [intOf];omega
  ·have hkn:k=n - 1:=by omega
   have HY2:Hid (y=2^(n - 1 - 0)):=by show _=_;rw [HY.out,hkn];rfl
   have hy1:1<=y:=by rw [HY.out];exact (HL.out k (by omega)).1
   clear HY hkn;go_wp2_with fail
   go_loopw [6,8] (fun s i wr=>∃ k y:Nat,k<=n∧i= .int .i64 k∧s= .int .i64 y∧1<=y∧y<=1024∧Hid (k<n->y=2^(n - 1 - k))∧Hid (BBE B p v (bits++(krl x n).take k) w wr)) (fun _ i _=>n - (intOf i).toNat)
   case atStart=>exact ⟨0,y,Nat.zero_le _,rfl,rfl,hy1,hy,fun _=>HY2.out,H0⟩
   case round=>
    clear H0 HY2 hlt hk hy hy1;obtain ⟨k,y,hk,rfl,rfl,hy1,hy,HY,HB⟩:=hrel;by_cases hlt:k<n
    ·obtain ⟨v1,b1,f1⟩:=HB.out;have HYk:Hid (y=2^(n - 1 - k)):=HY.out hlt;have HB1:Hid (BB B p v1 (bits++(krl x n).take k) wr∧BtF B p v v1 w wr):=⟨b1,f1⟩
     have hbl:(bits++(krl x n).take k).length<=1000000000000:=by rw [List.length_append,List.length_take,jqc];omega
     obtain ⟨q,hq0⟩:∃ q,q=x / y:=⟨_,rfl⟩
     have hqi:((x:Int) / (y:Int))=(q:Int):=by rw [hq0];simp
     have hqb:q<=1000000:=by rw [hq0];exact Nat.le_trans (Nat.div_le_self _ _) hx
     have hm:((q:Int)%2)=((q%2:Nat):Int):=by omega
     have HC:Hid (Calls Tryz.prog 70 #[.pointer (some ⟨p,0,none⟩), .int .i64 ((q:Int)%2)] wr fun e w'=>e= .returned (.tuple #[])∧BBE B p v1 (bits++(krl x n).take k++[q%2]) wr w'):=by
      rw [hm];exact z3z (q%2) (by omega) wr b1 hbl
     have HN:Hid (k+1<n->y / 2=2^(n - 1 - (k+1))):=fun h=>by
      rw [HYk.out,show n - 1 - k=(n - 1 - (k+1))+1 by omega,Nat.pow_succ];omega
     have HT:Hid ((krl x n).take (k+1)=(krl x n).take k++[q%2]):=by show _=_;rw [hq0,HYk.out];exact xfy x hlt
     have hy0:(y:Int)≠0:=by omega
     have H1:Hid (y<2->¬ k+1<n):=fun h1 h2=>by
      have:=HN.out h2;have:=(HL.out (n - 1 - (k+1)) (by omega)).1;omega
     clear b1 f1 HB hm HY hq0;by_cases hy2:2<=y
     ·have hq:((y:Int) / 2==0)=false:=by simp;omega
      have hya:1<=y / 2:=by omega
      have hyb:y / 2<=1024:=by omega
      go_wp2_with (go_at_call 70;refine HC.out.mono ?_;rintro e w2 ⟨rfl,v2,b2,f2⟩;have HB2:Hid (BBE B p v (bits++(krl x n).take (k+1)) w w2):=⟨v2,(by rw [HT.out,← List.append_assoc];exact b2),HB1.out.2.trans f2⟩;clear b2 f2)
      go_roundw
      case rel=>exact ⟨k+1,y / 2,hlt,by go_num,by go_num,hya,hyb,HN,HB2⟩
      case measure=>simp [intOf];omega
     ·obtain rfl:y=1:=by omega
      have hqx:x=q:=by simp at hqi;omega
      subst hqx;clear hqi;have H2:Hid (k+1<n->(1:Nat)=2^(n - 1 - (k+1))):=fun h=>absurd h (H1.out (by omega))
      go_wp2_with (go_at_call 70;refine HC.out.mono ?_;rintro e w2 ⟨rfl,v2,b2,f2⟩;have HB2:Hid (BBE B p v (bits++(krl x n).take (k+1)) w w2):=⟨v2,(by rw [HT.out,← List.append_assoc];exact b2),HB1.out.2.trans f2⟩;clear b2 f2)
      go_roundw
      case rel=>exact ⟨k+1,1,hlt,by go_num,rfl,Nat.le_refl 1,(by decide),H2,HB2⟩
      case measure=>simp [intOf];omega
    ·obtain rfl:k=n:=by omega
     go_wp2_with fail
     go_end0
     have:=HB.out;rw [List.take_of_length_le (by rw [jqc];omega)] at this;exact ⟨rfl,this⟩
def vTo(l:List Int)(s n:Nat):Nat->Int
 | 0=>0
 | j+1=>2*vTo l s n j+(if j+1<n then cn l (j+1) else cn (l.take s) (j+1))
theorem z61(l:List Int)(s n:Nat):∀ j,j<n->vTo l s n j=fc (cn l) j+cn l j:=by
 intro j;induction j with
 | zero=>intro _;rw [xu8];rfl
 | succ j ih=>
  intro h;rw [vTo,if_pos h,ih (by omega)];show _=(fc (cn l) j+cn l j)*2+_;omega
theorem xr5(l:List Int)(s:Nat){n:Nat}(h:0<n):vTo l s n n=fc (cn l) n+cn (l.take s) n:=by
 obtain ⟨m,rfl⟩:∃ m,n=m+1:=⟨n - 1,by omega⟩
 rw [vTo,if_neg (by omega),z61 l s (m+1) m (by omega)];show _=(fc (cn l) m+cn l m)*2+_;omega
theorem k91{l:List Int}(hl:l.length<=269)(s n:Nat)(j:Nat):0<=vTo l s n j∧vTo l s n j<=269*(2^j - 1):=by
 induction j with
 | zero=>simp [vTo]
 | succ j ih=>
  have h1:=v4o l (j+1);have h2:=kc7 l (j+1);have h3:=v4o (l.take s) (j+1);have h4:=kc7 (l.take s) (j+1);have h5:=List.length_take_le' s l;have h6:(2:Int)^(j+1)=2*2^j:=by rw [Int.pow_succ];omega
  rw [vTo,h6];split <;> omega
theorem j7w{l:List Int}(hl:l.length<=269)(s n:Nat){j:Nat}(hj:j<=11):0<=vTo l s n j∧vTo l s n j<=600000:=by
 have h:=k91 hl s n j;have h2:(2:Int)^j<=2^11:=by
  have:=Nat.pow_le_pow_right (n:=2) (by decide) hj;exact_mod_cast this
 have h3:(2:Int)^11=2048:=by decide
 omega
def cI(l:List Int)(s n j i:Nat):Int:=if j<n then cn (l.take i) j else cn (l.take (min i s)) j
theorem jt4(l:List Int){s:Nat}(hs:s<l.length)(n j:Nat):cI l s n j l.length=if j<n then cn l j else cn (l.take s) j:=by
 unfold cI;rw [List.take_length,show min l.length s=s by omega]
theorem jsr{l:List Int}{s n j i:Nat}(hi:i<l.length)(hj:0<j):cI l s n j (i+1)=cI l s n j i+if l[i]=(j:Int)∧(j<n∨i<s) then 1 else 0:=by
 unfold cI;have hc:=ysp hi j;by_cases h:j<n
 ·rw [if_pos h,if_pos h,hc];congr 1
  by_cases he:l[i]=(j:Int)
  ·rw [if_pos ⟨by omega,he⟩,if_pos ⟨he,Or.inl h⟩]
  ·rw [if_neg (fun x=>he x.2),if_neg (fun x=>he x.1)]
 ·rw [if_neg h,if_neg h];by_cases hs:i<s
  ·rw [show min (i+1) s=i+1 by omega,show min i s=i by omega,hc];congr 1
   by_cases he:l[i]=(j:Int)
   ·rw [if_pos ⟨by omega,he⟩,if_pos ⟨he,Or.inr hs⟩]
   ·rw [if_neg (fun x=>he x.2),if_neg (fun x=>he x.1)]
  ·rw [show min (i+1) s=s by omega,show min i s=s by omega,if_neg (by omega)];omega
theorem vaw{l:List Int}(hl:l.length<=269)(s n j i:Nat):0<=cI l s n j i∧cI l s n j i<=269:=by
 unfold cI;split
 ·have:=v4o (l.take i) j;have:=kc7 (l.take i) j;have:=List.length_take_le' i l;omega
 ·have:=v4o (l.take (min i s)) j;have:=kc7 (l.take (min i s)) j;have:=List.length_take_le' (min i s) l;omega
theorem ztr(ad:Option Addr)(cap:Nat)(l:List Int)(s n:Nat)(w:World)(hl:l.length<=269)(hc:xin w ad l)(hr:inRange l=true)(hs:s<l.length)(hn:0<n)(hsn:l[s]=(n:Int)) :
  Calls Tryz.prog 99 #[.slice ad l.length cap, .int .i64 s] w fun e w'=>e= .returned (.int .i64 (yu0 l s))∧w=w':=by
 have hn11:n<=11:=by
  have:=(vto l).1 hr l[s] (List.getElem_mem hs);omega
 have HE:Hid ((yu0 l s:Int)=vTo l s n n):=by show _=_;rw [vfp hs hn hsn hn11,xr5 l s hn]
 have cs:∀ b o,ad=some ⟨b,o,none⟩->w.cell? ⟨b,o+s,none⟩=some (.int .i64 n):=fun b o e=>by
  obtain ⟨b',o',e',_,hcell⟩:=hc s hs;rw [e] at e';cases e'
  rw [hcell];simp [hs,hsn]
 obtain ⟨b,o,hab,_,_⟩:=hc s hs;have c0:=cs b o hab;have HC:Hid (xin w ad l∧inRange l=true):=⟨hc,hr⟩
 clear cs hc hr;subst hab;go_enter Tryz.func99,Tryz.ntmps99
 go_wp2_with fail
 go_loop [5,6,7] (fun x i _=>∃ j:Nat,j<=n∧i= .int .i64 (j+1)∧x= .int .i64 (vTo l s n j)) (fun _ i _=>n+1 - (intOf i).toNat)
 case atStart=>exact ⟨0,Nat.zero_le _,rfl,rfl⟩
 case round=>
  obtain ⟨j,hj,rfl,rfl⟩:=hrel;have hv:=j7w hl s n (j:=j) (by omega);by_cases hlt:j<n
  ·have HV:Hid (vTo l s n (j+1)=2*vTo l s n j+cI l s n (j+1) l.length):=by show _=_;rw [jt4 l hs,vTo]
   generalize vTo l s n j=V at *;go_wp2_with fail
   go_loop [5,7] (fun x i=>∃ k:Nat,k<=l.length∧i= .int .i64 k∧x= .int .i64 (2*V+cI l s n (j+1) k)) (fun _ i=>l.length - (intOf i).toNat)
   case atStart=>
    have e0:cI l s n (j+1) 0=0:=by unfold cI;split <;> simp [j3h]
    exact ⟨0,Nat.zero_le _,rfl,by rw [e0,Int.add_zero]⟩
   case round=>
    obtain ⟨k,hk,rfl,rfl⟩:=hrel;have hcb:=vaw hl s n (j+1) k;by_cases hkl:k<l.length
    ·obtain ⟨b',o',m,hab',cm,hm,HM⟩:=HC.out.1.atNat HC.out.2 hkl;cases hab'
     have HS:=jsr (s:=s) (n:=n) (j:=j+1) hkl (by omega);rw [HM.out] at HS;by_cases he:m=j+1
     ·subst he;by_cases h2:j+1<n
      ·have HS2:Hid (cI l s n (j+1) (k+1)=cI l s n (j+1) k+1):=by show _=_;rw [HS,if_pos ⟨rfl,Or.inl h2⟩]
       clear HS;generalize cI l s n (j+1) k=C at *;go_wp2_with fail
       go_round
       case rel=>exact ⟨k+1,by omega,by go_num,by rw [HS2.out];go_num⟩
       case measure=>simp [intOf];omega
      ·by_cases h3:k<s
       ·have HS2:Hid (cI l s n (j+1) (k+1)=cI l s n (j+1) k+1):=by show _=_;rw [HS,if_pos ⟨rfl,Or.inr h3⟩]
        clear HS;generalize cI l s n (j+1) k=C at *;go_wp2_with fail
        go_round
        case rel=>exact ⟨k+1,by omega,by go_num,by rw [HS2.out];go_num⟩
        case measure=>simp [intOf];omega
       ·have HS2:Hid (cI l s n (j+1) (k+1)=cI l s n (j+1) k):=by show _=_;rw [HS,if_neg (by omega),Int.add_zero]
        clear HS;generalize cI l s n (j+1) k=C at *;go_wp2_with fail
        go_round
        case rel=>exact ⟨k+1,by omega,by go_num,by rw [HS2.out]⟩
        case measure=>simp [intOf];omega
     ·have HS2:Hid (cI l s n (j+1) (k+1)=cI l s n (j+1) k):=by show _=_;rw [HS,if_neg (by omega),Int.add_zero]
      have hne:((m:Int)==(j:Int)+1)=false:=by simp;omega
      clear HS;generalize cI l s n (j+1) k=C at *;go_wp2_with fail
      go_round
      case rel=>exact ⟨k+1,by omega,by go_num,by rw [HS2.out]⟩
      case measure=>simp [intOf];omega
    ·obtain rfl:k=l.length:=by omega
     go_wp2_with fail
     go_round
     case rel=>exact ⟨j+1,by omega,by go_num,by rw [HV.out]⟩
     case measure=>simp [intOf];omega
  ·obtain rfl:j=n:=by omega
   go_wp2_with fail
   go_ret
   exact ⟨by rw [HE.out];rfl,rfl⟩
def k3a(w:World)(p:Nat)(v:Value)(ad:Option Addr):Prop:=∀ b o f,ad=some ⟨b,o,f⟩->b<w.heap.size∧b≠p∧v.ownBlock≠some b
theorem k3a.next{B p:Nat}{v v':Value}{w w':World}{ad:Option Addr}(h:k3a w p v ad)(hf:BtF B p v v' w w'):k3a w' p v' ad:=fun b o f e=>by
 obtain ⟨h1,h2,h3⟩:=h b o f e;refine ⟨Nat.lt_of_lt_of_le h1 hf.size,h2,fun e'=>?_⟩;rcases hf.nw b e' with e2 | e2
 ·exact h3 e2
 ·omega
theorem xin.next{B p:Nat}{v v':Value}{w w':World}{ad:Option Addr}{l:List Int}(h:xin w ad l)(hc:k3a w p v ad)(hf:BtF B p v v' w w'):xin w' ad l:=
 h.of_blocks hf.size (fun b o f e hlt=>hf.blk b hlt (hc b o f e).2.1 (hc b o f e).2.2)
theorem jvf{l:List Int}(hr:inRange l=true)(k:Nat):(symB l k).length<=11:=by
 unfold symB;rw [jqc];have h:=yyi hr k;unfold yuc at h;have:=of_decide_eq_true h;omega
theorem jse{B p:Nat}{v:Value}{bits:List Nat}(ad:Option Addr)(cap:Nat)(l:List Int)(s:Nat)(w:World)(h:BB B p v bits w)(hl:l.length<=269)(hc:xin w ad l)(hr:inRange l=true)(hh:Has l s)(hlen:bits.length<=900000000000) :
  Calls Tryz.prog 71 #[.pointer (some ⟨p,0,none⟩), .slice ad l.length cap, .int .i64 s] w fun e w'=>e= .returned (.tuple #[])∧BBE B p v (bits++symB l s) w w':=by
 obtain ⟨hs,hp⟩:=hh;have es:l.getD s 0=l[s]:=by simp [hs]
 obtain ⟨n,hn⟩:∃ n:Nat,l[s]=(n:Int):=⟨l[s].toNat,by rw [es] at hp;omega⟩
 have hn0:0<n:=by rw [es,hn] at hp;omega
 have hn11:n<=11:=by
  have:=(vto l).1 hr l[s] (List.getElem_mem hs);omega
 obtain ⟨b,o,hab,_,hcell⟩:=hc s hs;rw [es,hn] at hcell;have HV:Hid (∀ W,W.heap=w.heap->Calls Tryz.prog 99 #[.slice ad l.length cap, .int .i64 s] W fun e w'=>e= .returned (.int .i64 (yu0 l s))∧W=w'):=fun W hW=>ztr ad cap l s n W hl (hc.same hW) hr hs hn0 hn
 have hcb:yu0 l s<=1000000:=by
  have h1:=vfp hs hn0 hn hn11;have h2:=j7w hl s n hn11;rw [xr5 l s hn0] at h2;omega
 have HB:Hid (∀ W,W.heap=w.heap->Calls Tryz.prog 98 #[.pointer (some ⟨p,0,none⟩), .int .i64 (yu0 l s), .int .i64 n] W fun e w'=>e= .returned (.tuple #[])∧BBE B p v (bits++krl (yu0 l s) n) W w'):=by
  intro W hW;obtain ⟨l',left,i1,i2⟩:=h.inv;have hW':BtI B p v l' left W:=by
   refine ⟨i1.pB,by rw [hW];exact i1.hB,?_,?_,i1.po⟩
   ·exact i1.row.of_block (by rw [hW])
   ·exact kcz (R:=fun _=>False) (ρ:=fun k=>k) i1.own ⟨by rw [hW];exact Nat.le_refl _,fun k _ _=>by rw [hW]⟩ (fun _ _ x=>x)
  exact xh3 _ n W ⟨_,_,hW',i2⟩ hcb hn0 hn11 (by omega)
 have HS:Hid (symB l s=krl (yu0 l s) n):=by show _=_;unfold symB;rw [es,hn];rfl
 clear hc h;subst hab;generalize yu0 l s=C at *;go_enter Tryz.func71,Tryz.ntmps71
 go_wp2_with fail
 go_region_with (first | (go_at_call 99;refine (HV.out w.drew rfl).mono ?_;rintro e w' ⟨rfl,rfl⟩) | (go_at_call 98;refine (HB.out w.drew rfl).mono ?_;rintro e w2 ⟨rfl,v2,b2,f2⟩))
 all_goals
  go_wp2_with fail
  go_end0
  rw [HS.out];exact ⟨rfl,v2,b2,⟨f2.size,f2.blk,f2.nw,((Below.refl _ _).drew).trans f2.bel⟩⟩
theorem BBE.trans{B p:Nat}{v v1:Value}{b2:List Nat}{a b c:World}(hf:BtF B p v v1 a b)(k:BBE B p v1 b2 b c):BBE B p v b2 a c:=by
 obtain ⟨v2,i2,f2⟩:=k;exact ⟨v2,i2,hf.trans f2⟩
theorem jpq{B p:Nat}{v:Value}{bits:List Nat}(last:Bool)(kind:Nat)(w:World)(h:BB B p v bits w)(hk:kind<=2)(hlen:bits.length<=900000000000) :
  Calls Tryz.prog 42 #[.pointer (some ⟨p,0,none⟩), .bool last, .int .i64 kind] w fun e w'=>e= .returned (.tuple #[])∧BBE B p v (bits++((if last then 1 else 0) :: v06 kind 2)) w w':=by
 have HC:Hid (∀ b:Nat,b<=1->Calls Tryz.prog 70 #[.pointer (some ⟨p,0,none⟩), .int .i64 b] w fun e w'=>e= .returned (.tuple #[])∧BBE B p v (bits++[b]) w w'):=fun b hb=>z3z b hb w h (by omega)
 clear h;cases last
 ·go_enter Tryz.func42,Tryz.ntmps42
  go_wp2_with (first | (go_at_call 70;refine (HC.out 0 (by omega)).mono ?_;rintro e w1 ⟨rfl,v1,i1,f1⟩))
  refine (xsy kind 2 w1 i1 (by omega) (by omega) (by simp;omega)).mono ?_;rintro e w2 ⟨rfl,k2⟩;have HX:Hid (BBE B p v (bits++[0]++v06 kind 2) w w2):=BBE.trans f1 k2;clear i1 f1 k2;go_wp2_with fail
  go_end0
  have:=HX.out;rw [List.append_assoc] at this;exact ⟨rfl,this⟩
 ·go_enter Tryz.func42,Tryz.ntmps42
  go_wp2_with (first | (go_at_call 70;refine (HC.out 1 (by omega)).mono ?_;rintro e w1 ⟨rfl,v1,i1,f1⟩))
  refine (xsy kind 2 w1 i1 (by omega) (by omega) (by simp;omega)).mono ?_;rintro e w2 ⟨rfl,k2⟩;have HX:Hid (BBE B p v (bits++[1]++v06 kind 2) w w2):=BBE.trans f1 k2;clear i1 f1 k2;go_wp2_with fail
  go_end0
  have:=HX.out;rw [List.append_assoc] at this;exact ⟨rfl,this⟩
def xpg(s:ByteArray):List Nat:=s.data.toList.map UInt8.toNat
theorem kev(s:ByteArray):(xpg s).length=s.size:=by simp [xpg]
theorem jn7(s:ByteArray):∀ x∈xpg s,x<256:=by
 intro x hx;simp [xpg] at hx;obtain ⟨y,_,rfl⟩:=hx;exact y.toNat_lt
theorem z1i{s:ByteArray}{k:Nat}(h:k<s.size):(xpg s).take (k+1)=(xpg s).take k++[(s[k]).toNat]:=by
 have hl:k<(xpg s).length:=by rw [kev];exact h
 rw [List.take_succ_eq_append_getElem hl];congr 2
 simp [xpg];rfl
theorem Pk.aligned{l:List Nat}{left:Nat}{bits:List Nat}(h:Pk l left bits):Pk l 0 (bits++xpo (padN bits.length)):=by
 have hl:=h.len;have hlt:=h.lt;have e:padN bits.length=left:=by unfold padN;omega
 refine ⟨?_,by decide,h.byte⟩;rw [h.oct,e,show xpo 0=[] from rfl,List.append_nil]
theorem ze3{B p:Nat}{v:Value}{bits:List Nat}(s:ByteArray)(w:World)(h:BB B p v bits w)(hs:s.size<=1000000000)(hlen:bits.length<=900000000000) :
  Calls Tryz.prog 64 #[.pointer (some ⟨p,0,none⟩), .string s] w fun e w'=>e= .returned (.tuple #[])∧BBE B p v (bits++(xpo (padN bits.length)++octB (xpg s))) w w':=by
 obtain ⟨l,left,i1,i2⟩:=h.inv;have c1:w.cell? ⟨p,1,none⟩=some (.int .i64 left):=i1.row.cell (i:=1) (by omega);have f1:=i1.row.frozen 1;have hll:l.length<=200000000000:=by have:=i2.len;have:=i2.lt;omega
 obtain ⟨W0,hW0⟩:∃ W0,W0=w.setCell ⟨p,1,none⟩ (.int .i64 0):=⟨_,rfl⟩
 have H0:Hid (∃ v',BtI B p v' (l++(xpg s).take 0) 0 W0∧BtF B p v v' w W0):=by
  have:=i1.setLeft 0;rw [← show W0=w.setCell ⟨p,1,none⟩ (.int .i64 (0:Nat)) from hW0] at this;exact ⟨v,by rw [List.take_zero,List.append_nil];exact this.1,this.2⟩
 have HP:Hid (Pk (l++xpg s) 0 (bits++(xpo (padN bits.length)++octB (xpg s)))):=by
  have ha:=i2.aligned;refine ⟨?_,by decide,?_⟩
  ·have:=ha.oct;rw [show xpo 0=[] from rfl,List.append_nil] at this ⊢;rw [Tr.octB_append,this,List.append_assoc]
  ·intro y hy;rcases List.mem_append.1 hy with hy | hy
   ·exact i2.byte y hy
   ·exact jn7 s y hy
 clear h i1 i2;obtain ⟨i5,hi5,hx0,hx1,hx2⟩:=info_parts kh5;go_enter Tryz.func64,Tryz.ntmps64
 go_upto_region 1 with fail
 rw [← hW0];clear hW0 c1 f1;go_wp2_with fail
 go_loopw [4] (fun i wr=>∃ k:Nat,k<=s.size∧i= .int .i64 k∧Hid (∃ v',BtI B p v' (l++(xpg s).take k) 0 wr∧BtF B p v v' w wr)) (fun i _=>s.size - (intOf i).toNat)
 case atStart=>exact ⟨0,Nat.zero_le _,rfl,H0⟩
 case round=>
  obtain ⟨k,hk,rfl,HR⟩:=hrel;clear H0;by_cases hlt:k<s.size
  ·obtain ⟨v1,j1,f1⟩:=HR.out;have HI:Hid (BtI B p v1 (l++(xpg s).take k) 0 wr∧BtF B p v v1 w wr):=⟨j1,f1⟩
   have HT:Hid ((xpg s).take (k+1)=(xpg s).take k++[(s[k]).toNat]):=z1i hlt;have hpl:=j1.row.lt;have hBs:=j1.hB;have c0:wr.cell? ⟨p,0,none⟩=some v1:=j1.row.cell (i:=0) (by omega);have f0:=j1.row.frozen 0;have hwo:=j1.own;have hpo:=j1.po;have hln:(l++(xpg s).take k).length<=300000000000:=by rw [List.length_append,List.length_take];omega
   clear j1 f1 HR;obtain ⟨L,hL⟩:∃ L,L=l++(xpg s).take k:=⟨_,rfl⟩
   have HLL:Hid (l++(xpg s).take k=L):=hL.symm;rw [← hL] at HI hwo hln;clear hL;go_wp2_with fail
   go_region_law
    ((refine step_append_lies _ (by rfl) _ _ _ (by rfl) B 5 i5 _ 1 1 Tryz.underlying34 hi5 hx0 hx1 hx2 rfl (by omega) v1 L.length (keg L) (by rfl) ((hwo.alloc _).drew) ⟨wr.heap.size,0,none⟩ 1 1 [.int .u8 (s[k]).toNat] (by rfl) (by rfl) (cell_one_new wr _ _) (by simp [Value.oneCell']) (by omega) (by unfold maxLen;omega) (by omega) (by simp;omega) (wr.heap.size+1) (by simp) ?_;intro g2 p2 w2 hown2 hgrow2 hat2 hlt2;have k1:=x1k hgrow2 hpl hpo c0;have z1:=xg8 hgrow2 hpl hpo f0))
   all_goals
    have M2:=HI.out.1.push (b:=(s[k]).toNat) (((Below.refl _ _).alloc (Nat.le_refl _) _).drew) hgrow2 (hat2.imp id (fun e=>by omega)) rfl hown2;have HN:Hid (∃ v',BtI B p v' (L++[(s[k]).toNat]) 0 (w2.setCell ⟨p,0,none⟩ (.slice (some ⟨g2,0,none⟩) (L.length+1) p2))∧BtF B p v v' w (w2.setCell ⟨p,0,none⟩ (.slice (some ⟨g2,0,none⟩) (L.length+1) p2))):=⟨_,M2.1,HI.out.2.trans M2.2⟩
    clear M2 hown2 hgrow2 hat2 hlt2;go_wp2_with fail
    go_roundw
    case rel=>exact ⟨k+1,by omega,by go_num,by rw [HT.out,← List.append_assoc,HLL.out];exact HN⟩
    case measure=>simp [intOf];omega
  ·obtain rfl:k=s.size:=by omega
   go_wp2_with fail
   go_end0
   obtain ⟨v1,j1,f1⟩:=HR.out;rw [List.take_of_length_le (by rw [kev];omega)] at j1;exact ⟨rfl,v1,⟨_,_,j1,HP.out⟩,f1⟩
theorem yzt{base n:Nat}:splF base n 16 0=splK base n:=rfl
theorem kdq{base n f k:Nat}(h:n<Tr.spanLeast base k+2^Tr.spanBits k):splF base n (f+1) k=k:=by rw [splF,if_pos h]
theorem v5r{base n f k:Nat}(h:¬ n<Tr.spanLeast base k+2^Tr.spanBits k):splF base n (f+1) k=splF base n f (k+1):=by rw [splF,if_neg h]
theorem z6j(n base:Nat)(w:World)(hb:base<=n)(hu:n<Tr.spanLeast base 16)(hb3:base<=3) :
  Calls Tryz.prog 72 #[.int .i64 n, .int .i64 base] w fun e w'=>e= .returned (.tuple #[.int .i64 (splK base n), .int .i64 ((n:Int) - Tr.spanLeast base (splK base n)), .int .i64 (Tr.spanBits (splK base n))])∧w=w':=by
 have hu2:n<=300:=by
  have e:Tr.spanLeast base 16=base+256:=by unfold Tr.spanLeast;rfl
  omega
 have HU:Hid (n<Tr.spanLeast base 16):=hu;have HP:Hid (∀ k,2^(k+1)=2*2^k):=fun k=>by rw [Nat.pow_succ,Nat.mul_comm]
 have HL:Hid (∀ k,k<=6->1<=2^k∧2^k<=64):=fun k hk=>by
  have h1:2^k<=2^6:=Nat.pow_le_pow_right (by decide) hk;have h2:0<2^k:=Nat.pow_pos (by decide);omega
 clear hu;go_enter Tryz.func72,Tryz.ntmps72
 go_wp2_with fail
 go_loop [7,8,9,10,11,12] (fun s _ _ _ _ _=>∃ k:Nat,k<=16∧s= .int .i64 k∧Hid (splF base n (16 - k) k=splK base n∧Tr.spanLeast base k<=n)) (fun s _ _ _ _ _=>16 - (intOf s).toNat)
 case atStart=>exact ⟨0,by omega,rfl,yzt,by show base+0<=n;omega⟩
 case round=>
  obtain ⟨k,hk16,rfl,HS⟩:=hrel;have hk:k<16:=by
   apply Classical.byContradiction;intro hc;obtain rfl:k=16:=by omega
   have:=HS.out.2;have:=HU.out;omega
  obtain ⟨f,hf⟩:∃ f,16 - k=f+1:=⟨15 - k,by omega⟩
  have HF:Hid (splF base n (f+1) k=splK base n∧Tr.spanLeast base k<=n∧f=16 - (k+1)):=⟨by rw [← hf];exact HS.out.1,HS.out.2,by omega⟩
  clear HS hf;by_cases hk4:k<4
  ·have HLe:Hid (Tr.spanLeast base k=base+k∧Tr.spanBits k=0):=by
    constructor
    ·unfold Tr.spanLeast;rw [if_pos hk4]
    ·unfold Tr.spanBits;rw [if_pos hk4]
   have hd4:decide ((4:Int)<=(k:Int))=false:=by simp;omega
   go_wp2_with fail
   go_loop [11,12] (fun s i=>s= .int .i64 1∧i= .int .i64 0) (fun _ _=>0)
   case atStart=>exact ⟨rfl,rfl⟩
   case round=>
    obtain ⟨rfl,rfl⟩:=hrel;by_cases hit:n<base+k+1
    ·have HK:Hid (splK base n=k):=by
      show _=_;rw [← HF.out.1];exact kdq (by rw [HLe.out.1,HLe.out.2];simpa using hit)
     have hle:base+k<=n:=by have:=HF.out.2.1;rw [HLe.out.1] at this;exact this
     go_wp2_with fail
     refine bodyPost_ret (v:= .tuple #[.int .i64 k, .int .i64 ((n:Int) - ((base:Int)+k)), .int .i64 0]) (by simp [results,Tryz.results72,go_sem]) rfl ⟨?_,rfl⟩;rw [HK.out,HLe.out.1,HLe.out.2];simp
    ·have HN:Hid (splF base n (16 - (k+1)) (k+1)=splK base n∧Tr.spanLeast base (k+1)<=n):=by
      have h1:=v5r (base:=base) (n:=n) (f:=f) (k:=k) (by rw [HLe.out.1,HLe.out.2];simpa using hit);exact ⟨by rw [← HF.out.2.2,← h1];exact HF.out.1,by rw [jfv,HLe.out.1,HLe.out.2];simp;omega⟩
     go_wp2_with fail
     go_round
     case rel=>exact ⟨k+1,by omega,by go_num,HN⟩
     case measure=>simp [intOf];omega
  ·obtain ⟨E,hE⟩:∃ E,E=(k - 2) / 2:=⟨_,rfl⟩
   have hEi:((k:Int) - 2) / 2=(E:Int):=by omega
   have hE6:E<=6:=by omega
   have HLe0:Hid (Tr.spanLeast base k=base+(2+k%2)*2^E∧Tr.spanBits k=E):=by
    constructor
    ·unfold Tr.spanLeast;rw [if_neg hk4,← hE]
    ·unfold Tr.spanBits;rw [if_neg hk4,← hE]
   have hd4:decide ((4:Int)<=(k:Int))=true:=by simp;omega
   obtain ⟨c,hc⟩:∃ c,c=2+k%2:=⟨_,rfl⟩
   have hci:(2:Int)+(k:Int)%2=(c:Int):=by omega
   have hc3:c<=3:=by omega
   rw [← hc] at HLe0;clear hE hc;go_wp2_with fail
   go_loop [8,10] (fun s i=>∃ j y:Nat,j<=E∧i= .int .i64 j∧s= .int .i64 y∧y<=192∧Hid (y=c*2^j)) (fun _ i=>E - (intOf i).toNat)
   case atStart=>exact ⟨0,c,Nat.zero_le _,rfl,rfl,by omega,by show _=_;simp⟩
   case round=>
    obtain ⟨j,y,hj,rfl,rfl,hy,HY⟩:=hrel;by_cases hjl:j<E
    ·have HY2:Hid (2*y=c*2^(j+1)):=by show _=_;rw [HY.out,HP.out,← Nat.mul_assoc,← Nat.mul_assoc,Nat.mul_comm 2 c]
     have hy2:2*y<=192:=by
      rw [HY2.out];have:=(HL.out (j+1) (by omega)).2;have:=Nat.mul_le_mul hc3 this;omega
     go_wp2_with fail
     go_round
     case rel=>exact ⟨j+1,2*y,by omega,by go_num,by go_num,hy2,HY2⟩
     case measure=>simp [intOf];omega
    ·obtain rfl:j=E:=by omega
     have HLe:Hid (Tr.spanLeast base k=base+y∧Tr.spanBits k=j):=⟨by rw [HLe0.out.1,HY.out],HLe0.out.2⟩
     clear HLe0 HY;go_wp2_with fail
     go_loop [11,12] (fun s i=>∃ m z:Nat,m<=j∧i= .int .i64 m∧s= .int .i64 z∧z<=64∧Hid (z=2^m)) (fun _ i=>j - (intOf i).toNat)
     case atStart=>exact ⟨0,1,Nat.zero_le _,rfl,rfl,by omega,rfl⟩
     case round=>
      obtain ⟨m,z,hm,rfl,rfl,hz,HZ⟩:=hrel;by_cases hml:m<j
      ·have HZ2:Hid (2*z=2^(m+1)):=by show _=_;rw [HZ.out,HP.out]
       have hz2:2*z<=64:=by rw [HZ2.out];exact (HL.out (m+1) (by omega)).2
       go_wp2_with fail
       go_round
       case rel=>exact ⟨m+1,2*z,by omega,by go_num,by go_num,hz2,HZ2⟩
       case measure=>simp [intOf];omega
      ·obtain rfl:m=j:=by omega
       by_cases hit:n<base+y+z
       ·have HK:Hid (splK base n=k):=by
         show _=_;rw [← HF.out.1];exact kdq (by rw [HLe.out.1,HLe.out.2];rw [← HZ.out];exact hit)
        have hle:base+y<=n:=by have:=HF.out.2.1;rw [HLe.out.1] at this;exact this
        go_wp2_with fail
        refine bodyPost_ret (v:= .tuple #[.int .i64 k, .int .i64 ((n:Int) - ((base:Int)+y)), .int .i64 m]) (by simp [results,Tryz.results72,go_sem]) rfl ⟨?_,rfl⟩;rw [HK.out,HLe.out.1,HLe.out.2];simp
       ·have HN:Hid (splF base n (16 - (k+1)) (k+1)=splK base n∧Tr.spanLeast base (k+1)<=n):=by
         have h1:=v5r (base:=base) (n:=n) (f:=f) (k:=k) (by rw [HLe.out.1,HLe.out.2];rw [← HZ.out];exact hit);exact ⟨by rw [← HF.out.2.2,← h1];exact HF.out.1,by rw [jfv,HLe.out.1,HLe.out.2];rw [← HZ.out];omega⟩
        go_wp2_with fail
        go_round
        case rel=>exact ⟨k+1,by omega,by go_num,HN⟩
        case measure=>simp [intOf];omega
def ItC:It->Int->Int->Int->Prop
 | .byte x,b,n,_=>b=(x:Int)∧n<3
 | .copy m far,_,n,f=>n=(m:Int)∧f=(far:Int)
def k1n(w:World)(ad:Option Addr)(items:List It):Prop:=∀ k (hk:k<items.length),∃ (bl o:Nat) (b n f:Int),ad=some ⟨bl,o,none⟩∧bl<w.heap.size∧w.cell? ⟨bl,o+k*3,none⟩=some (.int .i64 b)∧w.cell? ⟨bl,o+k*3+1,none⟩=some (.int .i64 n)∧w.cell? ⟨bl,o+k*3+2,none⟩=some (.int .i64 f)∧ItC items[k] b n f
theorem k1n.next{B p:Nat}{v v':Value}{w w':World}{ad:Option Addr}{l:List It}(h:k1n w ad l)(hc:k3a w p v ad)(hf:BtF B p v v' w w'):k1n w' ad l:=fun k hk=>by
 obtain ⟨bl,o,b,n,f,e,hlt,c0,c1,c2,hi⟩:=h k hk;have hb:=hf.blk bl hlt (hc bl o none e).2.1 (hc bl o none e).2.2;exact ⟨bl,o,b,n,f,e,Nat.lt_of_lt_of_le hlt hf.size,by rw [World.cell?_of_block hb];exact c0,by rw [World.cell?_of_block hb];exact c1,by rw [World.cell?_of_block hb];exact c2,hi⟩
theorem BB.made{B p:Nat}{v:Value}{bits:List Nat}{w w':World}(h:BB B p v bits w)(hb:Below w.heap.size w w'):BB B p v bits w'∧BtF B p v v w w':=by
 obtain ⟨l,left,i1,i2⟩:=h.inv;refine ⟨⟨l,left,⟨i1.pB,Nat.le_trans i1.hB hb.size,i1.row.of_block (hb.block p i1.row.lt),?_,i1.po⟩,i2⟩,hb.size,fun k hk _ _=>hb.block k hk,fun _ hg=>Or.inl hg,hb.mono i1.hB⟩;exact kcz (R:=fun _=>False) (ρ:=fun k=>k) i1.own ⟨hb.size,fun k hk _=>hb.block k hk⟩ (fun _ _ x=>x)
def x04(a b:List Int):It->Prop
 | .byte x=>x<256∧Has a x
 | .copy n far=>(3<=n∧n<=66∧1<=far∧far<=256)∧Has a (257+splK 3 n)∧Has b (splK 1 far)
theorem y6k{a b:List Int}(ra:inRange a=true)(rb:inRange b=true){x:It}(h:x04 a b x):(itB a b x).length<=40:=by
 cases x with
 | byte y=>have:=jvf ra y;show (symB a y).length<=40;omega
 | copy n far=>
  obtain ⟨⟨h1,h2,h3,h4⟩,_⟩:=h;have s1:=(zj7 (y1z h1 h2).1).1;have s2:=(v3i (xx4 h3 h4).1).1;have c1:=jvf ra (257+splK 3 n);have c2:=jvf rb (splK 1 far);show (symB a (257+splK 3 n)++(v06 _ (Tr.spanBits (splK 3 n))++(symB b (splK 1 far)++v06 _ (Tr.spanBits (splK 1 far))))).length<=40;rw [List.length_append,List.length_append,List.length_append,vxm,vxm];omega
theorem vnr(a b:List Int):∀ items:List It,itsB a b items=items.flatMap (itB a b)++symB a 256
 | []=>rfl
 | x :: xs=>by rw [itsB,vnr a b xs,List.flatMap_cons,List.append_assoc]
theorem ve8{a b:List Int}{items:List It}{k:Nat}(hk:k<items.length):(items.take (k+1)).flatMap (itB a b)=(items.take k).flatMap (itB a b)++itB a b items[k]:=by
 rw [List.take_succ_eq_append_getElem hk,List.flatMap_append];simp
theorem x6l{a b:List Int}(ra:inRange a=true)(rb:inRange b=true){items:List It}(h:∀ x∈items,x04 a b x):∀ k,((items.take k).flatMap (itB a b)).length<=40*items.length:=by
 intro k;have:∀ l:List It,(∀ x∈l,x04 a b x)->(l.flatMap (itB a b)).length<=40*l.length:=by
  intro l;induction l with
  | nil=>intro _;simp
  | cons x xs ih=>
   intro hx;rw [List.flatMap_cons,List.length_append,List.length_cons];have:=y6k ra rb (hx x (by simp));have:=ih (fun y hy=>hx y (by simp [hy]));omega
 have h1:=this (items.take k) (fun x hx=>h x (List.mem_of_mem_take hx));have h2:=List.length_take_le' k items;omega
theorem xlj{B p:Nat}{v:Value}{bits:List Nat}(ai aa ab:Option Addr)(ci ca cb:Nat)(items:List It)(a b:List Int)(w:World)(h:BB B p v bits w)(hI:k1n w ai items)(hA:xin w aa a)(hB:xin w ab b)(xi:k3a w p v ai)(xa:k3a w p v aa)(xb:k3a w p v ab)
  (T:Two2 a b) (h256:Has a 256) (hok:∀ x∈items,x04 a b x) (hil:items.length<=10000000) (hlen:bits.length<=800000000000) :
  Calls Tryz.prog 43 #[.pointer (some ⟨p,0,none⟩), .slice ai items.length ci, .slice aa a.length ca, .slice ab b.length cb] w fun e w'=>e= .returned (.tuple #[])∧BBE B p v (bits++itsB a b items) w w':=by
 have H0:Hid (BBE B p v (bits++(items.take 0).flatMap (itB a b)) w w):=by show BBE _ _ _ _ _ _;rw [List.take_zero,List.flatMap_nil,List.append_nil];exact BBE.refl h
 have HE:Hid (∀ (v1:Value) (wr:World),BtF B p v v1 w wr->k1n wr ai items∧xin wr aa a∧xin wr ab b∧k3a wr p v1 ai∧k3a wr p v1 aa∧k3a wr p v1 ab):=fun v1 wr f=>⟨hI.next xi f,hA.next xa f,hB.next xb f,xi.next f,xa.next f,xb.next f⟩
 have HT:Hid (Two2 a b∧Has a 256∧∀ x∈items,x04 a b x):=⟨T,h256,hok⟩
 have HL:Hid (∀ k,(bits++(items.take k).flatMap (itB a b)).length<=800400000000):=fun k=>by
  have:=x6l T.ra T.rb hok k;rw [List.length_append];omega
 have hna:=T.na;have hnb:=T.nb;clear h hI hA hB xi xa xb T h256 hok;go_enter Tryz.func43,Tryz.ntmps43
 go_wp2_with fail
 go_loopw [8,9,10,11,12] (fun i _ _ _ _ wr=>∃ k:Nat,k<=items.length∧i= .int .i64 k∧Hid (BBE B p v (bits++(items.take k).flatMap (itB a b)) w wr)) (fun i _ _ _ _ _=>items.length - (intOf i).toNat)
 case atStart=>exact ⟨0,Nat.zero_le _,rfl,H0⟩
 case round=>
  obtain ⟨k,hk,rfl,HR⟩:=hrel;clear H0;obtain ⟨v1,j1,f1⟩:=HR.out;obtain ⟨e1,e2,e3,e4,e5,e6⟩:=HE.out v1 wr f1;by_cases hlt:k<items.length
  ·obtain ⟨bl,o,xb,xn,xf,rfl,hbl,c0,c1,c2,hit⟩:=e1 k hlt;have hok:=HT.out.2.2 items[k] (List.getElem_mem hlt);have HFT:Hid ((items.take (k+1)).flatMap (itB a b)=(items.take k).flatMap (itB a b)++itB a b items[k]):=ve8 hlt;obtain ⟨W,hW⟩:∃ W,W=wr.alloc (.cells #[.int .i64 xb, .int .i64 xn, .int .i64 xf] 89):=⟨_,rfl⟩
   have hbw:Below wr.heap.size wr W:=by rw [hW];exact (Below.refl _ _).alloc (Nat.le_refl _) _
   obtain ⟨J,F⟩:=j1.made hbw;have HJ:Hid (BB B p v1 (bits++(items.take k).flatMap (itB a b)) W∧BtF B p v v1 w W):=⟨J,f1.trans F⟩
   have hll:=HL.out k;clear HR;have HLL:Hid (∀ y,bits++((items.take k).flatMap (itB a b)++y)=(bits++(items.take k).flatMap (itB a b))++y):=fun y=>by rw [List.append_assoc]
   obtain ⟨g1,g2,g3,g4,g5,g6⟩:=HE.out v1 W (f1.trans F);have gx:W.heap[wr.heap.size]?=some (.cells #[.int .i64 xb, .int .i64 xn, .int .i64 xf] 89 (0,0)):=by rw [hW];exact heap_alloc_new wr _
   have d0:W.cell? ⟨wr.heap.size,0,none⟩=some (.int .i64 xb):=by rw [cell_of_row _ _ 0 _ _ _ gx];rfl
   have d1:W.cell? ⟨wr.heap.size,1,none⟩=some (.int .i64 xn):=by rw [cell_of_row _ _ 1 _ _ _ gx];rfl
   have d2:W.cell? ⟨wr.heap.size,2,none⟩=some (.int .i64 xf):=by rw [cell_of_row _ _ 2 _ _ _ gx];rfl
   have hxlt:wr.heap.size<W.heap.size:=by rw [hW];simp
   have hpx:wr.heap.size≠p:=by obtain ⟨_,_,i1,_⟩:=j1.inv;have:=i1.row.lt;omega
   have hvx:v1.ownBlock≠some wr.heap.size:=fun e=>by obtain ⟨_,_,i1,_⟩:=j1.inv;have:=(i1.own.lt _ e).2;omega
   clear e1 e2 e3 e4 e5 e6 j1 f1 hbw;generalize bits++(items.take k).flatMap (itB a b)=L at *;cases hx:items[k] with
   | byte x=>
    rw [hx] at hit hok HFT;obtain ⟨rfl,hn3⟩:=hit;have HS:Hid (Calls Tryz.prog 71 #[.pointer (some ⟨p,0,none⟩), .slice aa a.length ca, .int .i64 x] W fun e w'=>e= .returned (.tuple #[])∧BBE B p v1 (L++symB a x) W w'):=jse aa ca a x W J hna g2 HT.out.1.ra hok.2 (by omega);clear J F g1 g2 g3 g4 g5 g6 gx hok;go_upto_region 4 with fail
    rw [← hW];clear hW c0 c1 c2;go_wp2_with (go_at_call 71;refine HS.out.mono ?_;rintro e w2 ⟨rfl,k2⟩;have HN:Hid (BBE B p v (L++symB a x) w w2):=BBE.trans HJ.out.2 k2;clear k2)
    go_roundw
    case rel=>exact ⟨k+1,by omega,by go_num,by rw [HFT.out,HLL.out];exact HN⟩
    case measure=>simp [intOf];omega
   | copy n far=>
    rw [hx] at hit hok HFT;obtain ⟨rfl,rfl⟩:=hit;obtain ⟨⟨q1,q2,q3,q4⟩,q5,q6⟩:=hok;obtain ⟨s1,s2,s3⟩:=y1z q1 q2;obtain ⟨t1,t2,t3⟩:=xx4 q3 q4;have HSP:Hid (∀ X,Calls Tryz.prog 72 #[.int .i64 n, .int .i64 3] X fun e w'=>e= .returned (.tuple #[.int .i64 (splK 3 n), .int .i64 (n - Tr.spanLeast 3 (splK 3 n):Nat), .int .i64 (Tr.spanBits (splK 3 n))])∧X=w'):=fun X=>by
     have:=z6j n 3 X q1 (Nat.lt_of_le_of_lt q2 (by decide)) (by omega);rw [show ((n - Tr.spanLeast 3 (splK 3 n):Nat):Int)=(n:Int) - Tr.spanLeast 3 (splK 3 n) by omega];exact this
    have HSQ:Hid (∀ X,Calls Tryz.prog 72 #[.int .i64 far, .int .i64 1] X fun e w'=>e= .returned (.tuple #[.int .i64 (splK 1 far), .int .i64 (far - Tr.spanLeast 1 (splK 1 far):Nat), .int .i64 (Tr.spanBits (splK 1 far))])∧X=w'):=fun X=>by
     have:=z6j far 1 X q3 (Nat.lt_of_le_of_lt q4 (by decide)) (by omega);rw [show ((far - Tr.spanLeast 1 (splK 1 far):Nat):Int)=(far:Int) - Tr.spanLeast 1 (splK 1 far) by omega];exact this
    have HIB:Hid (itB a b (.copy n far)=symB a (257+splK 3 n)++(v06 (n - Tr.spanLeast 3 (splK 3 n)) (Tr.spanBits (splK 3 n))++(symB b (splK 1 far)++v06 (far - Tr.spanLeast 1 (splK 1 far)) (Tr.spanBits (splK 1 far))))):=rfl;have u1:=(zj7 s1).1;have u2:=(v3i t1).1;have hm1:n - Tr.spanLeast 3 (splK 3 n)<=66:=by omega
    have hm2:far - Tr.spanLeast 1 (splK 1 far)<=256:=by omega
    have hn3:decide ((n:Int)<3)=false:=by simp;omega
    have c1len:=jvf HT.out.1.ra (257+splK 3 n);have c2len:=jvf HT.out.1.rb (splK 1 far);clear s2 s3 t2 t3;generalize n - Tr.spanLeast 3 (splK 3 n)=m1 at *;generalize far - Tr.spanLeast 1 (splK 1 far)=m2 at *;generalize splK 3 n=K1 at *;generalize splK 1 far=K2 at *;generalize Tr.spanBits K1=E1 at *;generalize Tr.spanBits K2=E2 at *;have e257:(257:Int)+(K1:Int)=((257+K1:Nat):Int):=by omega
    have HS:Hid (Calls Tryz.prog 71 #[.pointer (some ⟨p,0,none⟩), .slice aa a.length ca, .int .i64 ((257:Int)+(K1:Int))] W fun e w'=>e= .returned (.tuple #[])∧BBE B p v1 (L++symB a (257+K1)) W w'):=by rw [e257];exact jse aa ca a (257+K1) W J hna g2 HT.out.1.ra q5 (by omega)
    clear J F g1 g2 g3 g4 g5 g6 gx e257;go_upto_region 4 with fail
    rw [← hW];clear hW c0 c1 c2;go_wp2_with (first | (go_at_call 72;refine (HSP.out _).mono ?_;rintro e w' ⟨rfl,rfl⟩) | (go_at_call 71;refine HS.out.mono ?_;rintro e w2 ⟨rfl,v2,J2,F2⟩))
    have hl2:(L++symB a (257+K1)).length<=800500000000:=by rw [List.length_append];omega
    refine (xsy m1 E1 w2 J2 (by omega) (by omega) (by omega)).mono ?_;rintro e w3 ⟨rfl,v3,J3,F3⟩;have F23:=F2.trans F3;have d2':w3.cell? ⟨wr.heap.size,2,none⟩=some (.int .i64 far):=by rw [World.cell?_of_block (F23.blk _ hxlt hpx hvx)];exact d2
    have HF3:Hid (BtF B p v v3 w w3):=HJ.out.2.trans F23;have HJ3:Hid (BB B p v3 (L++symB a (257+K1)++v06 m1 E1) w3):=J3;clear J2 F2 J3 F3 F23 HS d0 d1 d2;obtain ⟨r1,r2,r3,r4,r5,r6⟩:=HE.out v3 w3 HF3.out;have hl3:(L++symB a (257+K1)++v06 m1 E1).length<=800600000000:=by rw [List.length_append,vxm];omega
    have HS2:Hid (Calls Tryz.prog 71 #[.pointer (some ⟨p,0,none⟩), .slice ab b.length cb, .int .i64 K2] w3 fun e w'=>e= .returned (.tuple #[])∧BBE B p v3 (L++symB a (257+K1)++v06 m1 E1++symB b K2) w3 w'):=jse ab cb b K2 w3 HJ3.out (by omega) r3 HT.out.1.rb q6 (by omega);clear r1 r2 r3 r4 r5 r6;go_wp2_with (first | (go_at_call 72;refine (HSQ.out _).mono ?_;rintro e w' ⟨rfl,rfl⟩) | (go_at_call 71;refine HS2.out.mono ?_;rintro e w4 ⟨rfl,v4,J4,F4⟩))
    have hl4:(L++symB a (257+K1)++v06 m1 E1++symB b K2).length<=800700000000:=by rw [List.length_append];omega
    refine (xsy m2 E2 w4 J4 (by omega) (by omega) (by omega)).mono ?_;rintro e w5 ⟨rfl,v5,J5,F5⟩;have HN:Hid (BBE B p v (L++itB a b (.copy n far)) w w5):=by
     refine ⟨v5,?_,HF3.out.trans (F4.trans F5)⟩;rw [HIB.out];have:=J5;simp only [List.append_assoc] at this;exact this
    clear J4 F4 J5 F5;go_wp2_with fail
    go_roundw
    case rel=>exact ⟨k+1,by omega,by go_num,by rw [HFT.out,HLL.out];exact HN⟩
    case measure=>simp [intOf];omega
  ·obtain rfl:k=items.length:=by omega
   have HS:Hid (Calls Tryz.prog 71 #[.pointer (some ⟨p,0,none⟩), .slice aa a.length ca, .int .i64 256] wr fun e w'=>e= .returned (.tuple #[])∧BBE B p v1 (bits++(items.take items.length).flatMap (itB a b)++symB a 256) wr w'):=jse aa ca a 256 wr j1 hna e2 HT.out.1.ra HT.out.2.1 (by have:=HL.out items.length;omega);have HF1:Hid (BtF B p v v1 w wr):=f1;clear e1 e2 e3 e4 e5 e6 j1 f1 HR;go_wp2_with (go_at_call 71;refine HS.out.mono ?_;rintro e w2 ⟨rfl,k2⟩;have HN:Hid (BBE B p v (bits++(items.take items.length).flatMap (itB a b)++symB a 256) w w2):=BBE.trans HF1.out k2;clear k2)
   go_end0
   have:=HN.out;rw [List.take_length,List.append_assoc,← vnr] at this;exact ⟨rfl,this⟩
theorem yo4(W:World)(a b c d:Nat):(convert 34 9 (.slice (some ⟨W.heap.size,0,none⟩) 4 4)).run Tryz.prog (W.alloc (.cells #[.int .u8 a, .int .u8 b, .int .u8 c, .int .u8 d] 5))= .ok (.string (xu6 [a,b,c,d])) (W.alloc (.cells #[.int .u8 a, .int .u8 b, .int .u8 c, .int .u8 d] 5)):=by
 have hx:(W.alloc (.cells #[.int .u8 a, .int .u8 b, .int .u8 c, .int .u8 d] 5)).heap[W.heap.size]?=some (.cells #[.int .u8 a, .int .u8 b, .int .u8 c, .int .u8 d] 5 (0,0)):=heap_alloc_new W _;refine run_convert_bytes_arg _ 34 5 Tryz.underlying34 Tryz.underlying5 W.heap.size 0 4 4 [(a:Int),b,c,d] rfl ?_ 9 Tryz.underlying9;intro i hi;have:i=0∨i=1∨i=2∨i=3:=by omega
 rcases this with rfl | rfl | rfl | rfl <;> (rw [cell_of_row _ _ _ _ _ _ hx];rfl)
theorem x8r(l:List Nat):(xu6 l).size=l.length:=by
 unfold xu6;simp [strOfNums,ByteArray.size]
theorem y7p{l:List Nat}(h:∀ x∈l,x<256):xpg (xu6 l)=l:=by
 unfold xpg xu6;simp [strOfNums];conv=>rhs;rw [← List.map_id l]
 apply List.map_congr_left;intro x hx;simp;exact h x hx
theorem krw(a b:ByteArray):xpg (a++b)=xpg a++xpg b:=by
 unfold xpg;simp
theorem xaa{B p:Nat}{v:Value}{bits:List Nat}(last:Bool)(s:ByteArray)(w:World)(h:BB B p v bits w)(hs:s.size<=65535)(hlen:bits.length<=800000000000) :
  Calls Tryz.prog 37 #[.pointer (some ⟨p,0,none⟩), .bool last, .string s] w fun e w'=>e= .returned (.tuple #[])∧BBE B p v (bits++blkB bits.length (if last then 1 else 0) (.plain (xpg s))) w w':=by
 have HC:Hid (Calls Tryz.prog 42 #[.pointer (some ⟨p,0,none⟩), .bool last, .int .i64 0] w fun e w'=>e= .returned (.tuple #[])∧BBE B p v (bits++((if last then 1 else 0) :: v06 0 2)) w w'):=jpq last 0 w h (by omega) (by omega);clear h;generalize (if last=true then 1 else 0)=u at *;have hcv:∀ W:World,(convert 34 9 (.slice (some ⟨W.heap.size,0,none⟩) 4 4)).run Tryz.prog (W.alloc (.cells #[.int .u8 ((s.size:Int)%256), .int .u8 ((s.size:Int) / 256), .int .u8 ((65535 - (s.size:Int))%256), .int .u8 ((65535 - (s.size:Int)) / 256)] 5))= .ok (.string (xu6 [s.size%256,s.size / 256,(65535 - s.size)%256,(65535 - s.size) / 256])) (W.alloc (.cells #[.int .u8 ((s.size:Int)%256), .int .u8 ((s.size:Int) / 256), .int .u8 ((65535 - (s.size:Int))%256), .int .u8 ((65535 - (s.size:Int)) / 256)] 5)):=by
  intro W;have:=yo4 W (s.size%256) (s.size / 256) ((65535 - s.size)%256) ((65535 - s.size) / 256);rw [show ((s.size%256:Nat):Int)=(s.size:Int)%256 by omega,show ((s.size / 256:Nat):Int)=(s.size:Int) / 256 by omega,show (((65535 - s.size)%256:Nat):Int)=(65535 - (s.size:Int))%256 by omega,show (((65535 - s.size) / 256:Nat):Int)=(65535 - (s.size:Int)) / 256 by omega] at this;exact this
 have hS4:(xu6 [s.size%256,s.size / 256,(65535 - s.size)%256,(65535 - s.size) / 256]).size=4:=x8r _;have hz:(xu6 [s.size%256,s.size / 256,(65535 - s.size)%256,(65535 - s.size) / 256]++s).size<=65539:=by
  rw [ByteArray.size_append,x8r];simp;omega
 have HY:Hid (xpg (xu6 [s.size%256,s.size / 256,(65535 - s.size)%256,(65535 - s.size) / 256]++s)=[s.size%256,s.size / 256,(65535 - s.size)%256,(65535 - s.size) / 256]++xpg s):=by
  show _=_;rw [krw,y7p];intro x hx;simp at hx;omega
 generalize xu6 [s.size%256,s.size / 256,(65535 - s.size)%256,(65535 - s.size) / 256]=S at *;go_enter Tryz.func37,Tryz.ntmps37
 go_wp2_with (first | (go_at_call 42;refine HC.out.mono ?_;rintro e w1 ⟨rfl,v1,i1,f1⟩))
 obtain ⟨W,hW⟩:∃ W,W=w1.alloc (.cells #[.int .u8 ((s.size:Int)%256), .int .u8 ((s.size:Int) / 256), .int .u8 ((65535 - (s.size:Int))%256), .int .u8 ((65535 - (s.size:Int)) / 256)] 5):=⟨_,rfl⟩
 rw [← hW];obtain ⟨i2,f2⟩:=i1.made (w':=W) (by rw [hW];exact (Below.refl _ _).alloc (Nat.le_refl _) _);have HF:Hid (BtF B p v v1 w W):=f1.trans f2;refine (ze3 (S++s) W i2 (by omega) (by rw [List.length_append,List.length_cons,vxm];omega)).mono ?_;rintro e w2 ⟨rfl,k2⟩;have HN:=BBE.trans HF.out k2;clear i1 f1 i2 f2 hW HC k2;go_wp2_with fail
 go_end0
 refine ⟨rfl,?_⟩;rw [HY.out] at HN;have e:blkB bits.length u (.plain (xpg s))=(u :: v06 0 2)++(xpo (padN (bits++(u :: v06 0 2)).length)++octB ([s.size%256,s.size / 256,(65535 - s.size)%256,(65535 - s.size) / 256]++xpg s)):=by
  show u :: (v06 0 2++(xpo (padN (bits.length+3))++yj0 (xpg s)))=_;unfold yj0;rw [List.length_append,List.length_cons,vxm,Tr.octB_append,kev];rfl
 rw [e,← List.append_assoc];exact HN
def lenV:Value->Nat
 | .slice _ n _=>n
 | _=>0
theorem ys1{k:Nat}(h1:1<=k)(h2:k<15):xg3.take (k+1)=xg3.take k++[4]:=by
 have:k=1∨k=2∨k=3∨k=4∨k=5∨k=6∨k=7∨k=8∨k=9∨k=10∨k=11∨k=12∨k=13∨k=14:=by omega
 rcases this with rfl | rfl | rfl | rfl | rfl | rfl | rfl | rfl | rfl | rfl | rfl | rfl | rfl | rfl <;> rfl
structure NewL(w w':World)(g c:Nat)(l:List Int):Prop where
 cells:xin w' (some ⟨g,0,none⟩) l
 new:w.heap.size<=g
 lt:g<w'.heap.size
 bel:Below w.heap.size w w'
theorem LayI.done{w wr:World}{l:List Int}{g c:Nat}(h:LayI w l (.slice (some ⟨g,0,none⟩) l.length c) wr l.length)(hne:0<l.length):NewL w wr g c l:=by
 have ho:=h.own;rw [List.take_length] at ho;obtain ⟨ad,cap,e,hc⟩:=OI.cells (w:=wr) (B:=w.heap.size) (v:= .slice (some ⟨g,0,none⟩) l.length c) (l:=l) ho;cases e
 obtain ⟨g1,p1,hv1,hg1,hl1⟩:=ho.form hne;cases hv1
 exact ⟨hc,hg1,hl1,h.bel⟩
theorem y6m(w:World) :
  Calls Tryz.prog 68 #[] w fun e w'=>∃ g c,e= .returned (.slice (some ⟨g,0,none⟩) 15 c)∧NewL w w' g c xg3:=by
 have H0:Hid (LayI w xg3 (.slice (some ⟨w.heap.size,0,none⟩) 1 1) (w.alloc (.cells #[.int .i64 3] 3)) 1):=⟨World.ownsRow_lit w _ 1 (Nat.le_refl _) (by decide) rfl,(Below.refl _ _).alloc (Nat.le_refl _) _⟩
 obtain ⟨i3,hi3,hy0,hy1,hy2⟩:=info_parts ve2;go_enter Tryz.func68,Tryz.ntmps68
 go_wp2_with fail
 go_loopw [1] (fun v wr=>∃ g c k:Nat,v= .slice (some ⟨g,0,none⟩) k c∧1<=k∧k<=15∧Hid (LayI w xg3 (.slice (some ⟨g,0,none⟩) k c) wr k)) (fun v _=>15 - lenV v)
 case atStart=>exact ⟨_,_,1,rfl,by omega,by omega,H0⟩
 case round=>
  obtain ⟨g,c,k,rfl,hk1,hk,HH⟩:=hrel;clear H0;by_cases hlt:k<15
  ·have hown0:=HH.out.own;have hszw:w.heap.size<=wr.heap.size:=HH.out.bel.size;go_wp2_with (at_builtin;refine wpList_append_lies _ rfl _ _ 69 rfl w.heap.size 3 i3 (.int .i64 0) 1 8 Tryz.underlying69 hi3 hy0 hy1 hy2 rfl (by decide) _ k (k2f (xg3.take k)) rfl (hown0.alloc _) ⟨wr.heap.size,0,none⟩ 1 1 [.int .i64 4] rfl rfl (cell_one_new _ _ _) (by simp [Value.oneCell']) (by omega) (by unfold maxLen;omega) (by omega) (by simp;omega) (wr.heap.size+1) (by simp) ?_;intro g2 p2 w5 hown2 hgrow2 hat2 hlt2)
   have HN:Hid (LayI w xg3 (.slice (some ⟨g2,0,none⟩) (k+1) p2) w5 (k+1)):=HH.out.next (ys1 hk1 hlt) hown2 hgrow2;clear hown2 hgrow2 hat2 hlt2 hown0;go_roundw
   case rel=>exact ⟨g2,p2,k+1,rfl,by omega,by omega,HN⟩
   case measure=>simp [lenV];omega
  ·obtain rfl:k=15:=by omega
   go_wp2_with fail
   go_ret
   exact ⟨g,c,rfl,HH.out.done (by decide)⟩
theorem ybl(ad:Option Addr)(cap:Nat)(l:List Int)(i:Nat)(w:World)(hl:l.length<=300)(hc:xin w ad l)(hi:i<l.length) :
  Calls Tryz.prog 97 #[.slice ad l.length cap, .int .i64 i] w fun e w'=>e= .returned (.int .i64 (kmg l i))∧∃ q,w'=w.drewN q:=by
 have HC:Hid (xin w ad l):=hc;obtain ⟨b,o,hab,_,_⟩:=hc i hi;subst hab;clear hc;have H0:Hid (xbm l i (l.length+1 - 1) 1=kmg l i):=rfl;go_enter Tryz.func97,Tryz.ntmps97
 go_wp2_with fail
 go_loopw [5] (fun v wr=>∃ n q:Nat,1<=n∧i+n<=l.length∧v= .int .i64 n∧Hid (xbm l i (l.length+1 - n) n=kmg l i)∧wr=w.drewN q) (fun v _=>l.length - (intOf v).toNat)
 case atStart=>exact ⟨1,0,by omega,by omega,rfl,H0,rfl⟩
 case round=>
  obtain ⟨n,q,h1,hn,rfl,HA,rfl⟩:=hrel;clear H0;have HF:Hid (xbm l i (l.length+1 - n) n=if i+n<l.length∧l.getD (i+n) 0=l.getD i 0 then xbm l i (l.length+1 - (n+1)) (n+1) else n):=by
   show _=_;rw [show l.length+1 - n=(l.length+1 - (n+1))+1 by omega];rfl
  by_cases hlt:i+n<l.length
  ·obtain ⟨b1,o1,e1,_,c1⟩:=HC.out (i+n) hlt;obtain ⟨b2,o2,e2,_,c2⟩:=HC.out i hi;cases e1
   cases e2
   have hd:decide ((i:Int)+(n:Int)<(l.length:Int))=true:=by simp;omega
   by_cases he:l.getD (i+n) 0=l.getD i 0
   ·have HN:Hid (xbm l i (l.length+1 - (n+1)) (n+1)=kmg l i):=by show _=_;rw [← HA.out,HF.out,if_pos ⟨hlt,he⟩]
    rw [he] at c1;clear he HA HF;generalize l.getD i 0=x at *;go_wp2_with fail
    go_quiet (fail)
    go_wp2_with fail
    go_roundw
    case rel=>exact ⟨n+1,_,by omega,by omega,by go_num,HN,rfl⟩
    case measure=>simp [intOf];omega
   ·have HN:Hid (n=kmg l i):=by show _=_;rw [← HA.out,HF.out,if_neg (fun x=>he x.2)]
    clear HA HF;generalize l.getD i 0=x at *;generalize l.getD (i+n) 0=y at *;go_wp2_with fail
    go_quiet (fail)
    go_wp2_with fail
    go_ret
    exact ⟨by rw [← HN.out];rfl,_,World.drewN_drewN ..⟩
  ·have HN:Hid (n=kmg l i):=by show _=_;rw [← HA.out,HF.out,if_neg (fun x=>hlt x.1)]
   have hd:decide ((i:Int)+(n:Int)<(l.length:Int))=false:=by simp;omega
   clear HA HF;go_wp2_with fail
   go_quiet (fail)
   go_wp2_with fail
   go_ret
   exact ⟨by rw [← HN.out];rfl,_,World.drewN_drewN ..⟩
theorem xmj{B:Nat}{w w':World}(h:Below B w w')(n:Nat):Below B w (w'.drewN n):=⟨h.os,h.tape,h.output,h.size,h.block⟩
theorem zom{B p:Nat}{v:Value}{bits:List Nat}{y:Int}(x n:Nat)(w:World)(hy:y=(x:Int))(h:BB B p v bits w)(hx:x<=1000000000)(hn:n<=64)(hlen:bits.length+n<=1000000000000) :
  Calls Tryz.prog 67 #[.pointer (some ⟨p,0,none⟩), .int .i64 y, .int .i64 n] w fun e w'=>e= .returned (.tuple #[])∧BBE B p v (bits++v06 x n) w w':=by
 subst hy;exact xsy x n w h hx hn hlen
theorem BB.clear{B p:Nat}{v:Value}{bits:List Nat}{w w':World}{g:Nat}(h:BB B p v bits w)(h1:w.heap.size<=g)(h2:g<w'.heap.size):k3a w' p v (some ⟨g,0,none⟩):=fun b o f e=>by
 cases e
 obtain ⟨l,left,i1,i2⟩:=h.inv;have:=i1.row.lt;exact ⟨h2,by omega,fun e=>by have:=(i1.own.lt _ e).2;omega⟩
def PRow(B p:Nat)(v:Value)(bits:List Nat)(runs:Bool)(l:List Int)(w:World)(i:Nat)(wr:World):Prop:=
 ∃ f pre v1,rowB runs l l.length 0=pre++rowB runs l f i∧l.length - i<=f∧BB B p v1 (bits++pre) wr∧BtF B p v v1 w wr∧pre.length<=20*i
theorem x62{runs:Bool}{l:List Int}{f i:Nat}(hi:i<l.length)(h:runs=true∧l.getD i 0=0∧11<=kmg l i):rowB runs l (f+1) i=symB xg3 14++(v06 (min (kmg l i) 74 - 11) 6++rowB runs l f (i+min (kmg l i) 74)):=by
 rw [rowB,if_pos hi,if_pos h]
theorem jon{runs:Bool}{l:List Int}{f i:Nat}(hi:i<l.length)(h:runs=true∧l.getD i 0=0∧3<=kmg l i)(h0:kmg l i<11):rowB runs l (f+1) i=symB xg3 13++(v06 (kmg l i - 3) 3++rowB runs l f (i+kmg l i)):=by
 rw [rowB,if_pos hi,if_neg (by omega),if_pos h]
theorem xsn{runs:Bool}{l:List Int}{f i:Nat}(hi:i<l.length)(hr:runs=true)(h1:l.getD i 0≠0)(h2:0<i)(h3:l.getD i 0=l.getD (i - 1) 0)(h4:3<=kmg l i):rowB runs l (f+1) i=symB xg3 12++(v06 (min (kmg l i) 6 - 3) 2++rowB runs l f (i+min (kmg l i) 6)):=by
 rw [rowB,if_pos hi,if_neg (fun x=>h1 x.2.1),if_neg (fun x=>h1 x.2.1),if_pos ⟨hr,h2,h3,h4⟩]
theorem vms{runs:Bool}{l:List Int}{f i:Nat}(hi:i<l.length)(h2:¬ (runs=true∧l.getD i 0=0∧3<=kmg l i))(h3:¬ (runs=true∧0<i∧l.getD i 0=l.getD (i - 1) 0∧3<=kmg l i)):rowB runs l (f+1) i=symB xg3 (l.getD i 0).toNat++rowB runs l f (i+1):=by
 rw [rowB,if_pos hi,if_neg (fun x=>h2 ⟨x.1,x.2.1,by omega⟩),if_neg h2,if_neg h3]
theorem PRow.more{B p:Nat}{v v1 v2:Value}{bits pre piece:List Nat}{runs:Bool}{l:List Int}{w wr w2:World}{i f s:Nat}(e:rowB runs l l.length 0=pre++rowB runs l (f+1) i)(hf:l.length - i<=f+1)(hp:pre.length<=20*i)
  (hs:1<=s) (hr:rowB runs l (f+1) i=piece++rowB runs l f (i+s)) (hl:piece.length<=20) (F1:BtF B p v v1 w wr) (J:BB B p v2 (bits++pre++piece) w2) (F2:BtF B p v1 v2 wr w2):PRow B p v bits runs l w (i+s) w2:=by
 refine ⟨f,pre++piece,v2,by rw [e,hr,List.append_assoc],by omega,by rw [← List.append_assoc];exact J,F1.trans F2,by rw [List.length_append];omega⟩
theorem xnr{B p:Nat}{v:Value}{bits:List Nat}(ad:Option Addr)(cap:Nat)(l:List Int)(runs:Bool)(w:World)(h:BB B p v bits w)(hl:l.length<=300)(hc:xin w ad l)(hx:k3a w p v ad)(hr:inRange l=true)(hlen:bits.length<=800000000000) :
  Calls Tryz.prog 69 #[.pointer (some ⟨p,0,none⟩), .slice ad l.length cap, .bool runs] w fun e w'=>e= .returned (.tuple #[])∧BBE B p v (bits++rowB runs l l.length 0) w w':=by
 have HB:Hid (BB B p v bits w∧xin w ad l∧k3a w p v ad∧inRange l=true):=⟨h,hc,hx,hr⟩
 have HH:Hid (∀ W:World,Calls Tryz.prog 68 #[] W fun e w'=>∃ g c,e= .returned (.slice (some ⟨g,0,none⟩) 15 c)∧NewL W w' g c xg3):=fun W=>y6m W
 clear h hc hx hr;go_enter Tryz.func69,Tryz.ntmps69
 go_wp2_with (go_at_call 68;refine (HH.out _).mono ?_;rintro e w1 ⟨g,c,rfl,hN⟩)
 have H1:Hid (BB B p v bits w1∧BtF B p v v w w1∧xin w1 ad l∧k3a w1 p v ad∧xin w1 (some ⟨g,0,none⟩) xg3∧k3a w1 p v (some ⟨g,0,none⟩)∧inRange l=true):=by
  obtain ⟨h1,h2,h3,h4⟩:=HB.out;obtain ⟨j1,f1⟩:=h1.made hN.bel;exact ⟨j1,f1,h2.below hN.bel (Nat.le_refl _),h3.next f1,hN.cells,h1.clear hN.new hN.lt,h4⟩
 have H0:Hid (PRow B p v bits runs l w1 0 w1):=⟨l.length,[],v,rfl,by omega,by rw [List.append_nil];exact H1.out.1,BtF.refl _ _ _ _,by simp⟩
 clear hN HB HH;go_loopw [7,8,26,51,74] (fun i _ _ _ _ wr=>∃ k:Nat,k<=l.length∧i= .int .i64 k∧Hid (PRow B p v bits runs l w1 k wr)) (fun i _ _ _ _ _=>l.length - (intOf i).toNat)
 case atStart=>exact ⟨0,Nat.zero_le _,rfl,H0⟩
 case round=>
  obtain ⟨i,hi,rfl,HR⟩:=hrel;clear H0;by_cases hlt:i<l.length
  ·obtain ⟨f0,pre,v1,e,hf,J,F,hp⟩:=HR.out;obtain ⟨f,rfl⟩:∃ f,f0=f+1:=⟨f0 - 1,by omega⟩
   clear HR;have HE:Hid (rowB runs l l.length 0=pre++rowB runs l (f+1) i∧l.length - i<=f+1∧pre.length<=20*i∧BtF B p v v1 w1 wr):=⟨e,hf,hp,F⟩
   have hll:(bits++pre).length<=800000010000:=by rw [List.length_append];omega
   have HLn:Hid (∀ k,(bits++pre++symB xg3 k).length<=800000020000):=fun k=>by
    rw [List.length_append];have:=jvf y5q.1 k;omega
   obtain ⟨_,_,h3,h4,h5,h6,hrl⟩:=H1.out;have g3:=h3.next h4 F;have g5:=h5.next h6 F;have HAg:Hid (Calls Tryz.prog 97 #[.slice ad l.length cap, .int .i64 i] wr fun e w'=>e= .returned (.int .i64 (kmg l i))∧∃ q,w'=wr.drewN q):=ybl ad cap l i wr hl g3 hlt;have HS:Hid (∀ (k:Nat),k<15->∀ q,Calls Tryz.prog 71 #[.pointer (some ⟨p,0,none⟩), .slice (some ⟨g,0,none⟩) 15 c, .int .i64 k] (wr.drewN q) fun e w'=>e= .returned (.tuple #[])∧BBE B p v1 (bits++pre++symB xg3 k) wr w'):=by
    intro k hk q;obtain ⟨j1,j2⟩:=J.made (xmj (Below.refl _ _) q);refine (jse (some ⟨g,0,none⟩) c xg3 k (wr.drewN q) j1 (by decide) (g5.same rfl) y5q.1 (kav hk) (by omega)).mono ?_;rintro e w' ⟨rfl,hb⟩;exact ⟨rfl,BBE.trans j2 hb⟩
   obtain ⟨b,o,m,hab,cm,hm,HM⟩:=g3.atNat hrl hlt;have hmd:l.getD i 0=(m:Int):=by have:=HM.out;simp [hlt,this]
   obtain ⟨a1,a2,a3⟩:=x66 hlt;have HR1:Hid (runs=true->m=0->11<=kmg l i->rowB runs l (f+1) i=symB xg3 14++(v06 (min (kmg l i) 74 - 11) 6++rowB runs l f (i+min (kmg l i) 74))):=fun x y z=>x62 hlt ⟨x,by rw [hmd];omega,z⟩
   have HR2:Hid (runs=true->m=0->3<=kmg l i->kmg l i<11->rowB runs l (f+1) i=symB xg3 13++(v06 (kmg l i - 3) 3++rowB runs l f (i+kmg l i))):=fun x y z u=>jon hlt ⟨x,by rw [hmd];omega,z⟩ u
   have HR3:Hid (∀ y:Nat,l.getD (i - 1) 0=(y:Int)->runs=true->m≠0->0<i->m=y->3<=kmg l i->rowB runs l (f+1) i=symB xg3 12++(v06 (min (kmg l i) 6 - 3) 2++rowB runs l f (i+min (kmg l i) 6))):=fun y hy x z u t s=>xsn hlt x (by rw [hmd];omega) u (by rw [hmd,hy,t]) s
   have HR4:Hid (¬ (runs=true∧m=0∧3<=kmg l i)->¬ (runs=true∧0<i∧(m:Int)=l.getD (i - 1) 0∧3<=kmg l i)->rowB runs l (f+1) i=symB xg3 m++rowB runs l f (i+1)):=fun x y=>by
    have:=vms (f:=f) hlt (fun z=>x ⟨z.1,by have:=z.2.1;rw [hmd] at this;omega,z.2.2⟩) (fun z=>y ⟨z.1,z.2.1,by rw [← hmd];exact z.2.2.1,z.2.2.2⟩);rw [hmd] at this;exact this
   have hGY:∀ j,i=j+1->∃ y:Nat,l.getD j 0=(y:Int)∧y<=11∧wr.cell? ⟨b,o+j,none⟩=some (.int .i64 y):=fun j ej=>by
    obtain ⟨b',o',y,hab',cy,hy,HY⟩:=g3.atNat hrl (k:=j) (by omega);rw [hab] at hab';cases hab'
    exact ⟨y,by have:=HY.out;simp [show j<l.length by omega,this],hy,cy⟩
   subst hab;clear a2 e hf F J h3 h4 h5 h6 g3 g5 HM hmd hp;generalize kmg l i=N at *;cases runs with
   | false=>
    clear hGY;have HP:Hid (rowB false l (f+1) i=symB xg3 m++rowB false l f (i+1)):=by
     show _=_;have:=HR4.out (fun x=>by cases x.1) (fun x=>by cases x.1);exact this
    clear HR1 HR2 HR3 HR4;go_wp2_with (go_at_call 97;refine HAg.out.mono ?_;rintro e w' ⟨rfl,q,rfl⟩;clear HAg)
    go_quiet (fail)
    go_wp2_with (go_at_call 71;refine (HS.out m (by omega) _).mono ?_;rintro e w2 ⟨rfl,v2,J2,F2⟩;have HN:Hid (PRow B p v bits false l w1 (i+1) w2):=PRow.more HE.out.1 HE.out.2.1 HE.out.2.2.1 (by omega) HP.out (by have:=jvf y5q.1 m;omega) HE.out.2.2.2 J2 F2;clear J2 F2 HS HE HP H1)
    go_roundw
    case rel=>exact ⟨i+1,by omega,by go_num,HN⟩
    case measure=>simp [intOf];omega
   | true=>
    by_cases hm0:m=0
    ·subst hm0;have cm0:wr.cell? ⟨b,o+i,none⟩=some (.int .i64 0):=cm;clear cm;by_cases hn11:11<=N
     ·have hd11:decide ((11:Int)<=(N:Int))=true:=by simp;omega
      clear hGY;by_cases hn74:74<N
      ·have hd74:decide ((74:Int)<(N:Int))=true:=by simp;omega
       have HP:Hid (rowB true l (f+1) i=(symB xg3 14++v06 (74 - 11) 6)++rowB true l f (i+74)):=by
        show _=_;rw [List.append_assoc];have:=HR1.out rfl rfl hn11;rw [show min N 74=74 by omega] at this;exact this
       clear HR1 HR2 HR3 HR4;go_wp2_with (first | (go_at_call 97;refine HAg.out.mono ?_;rintro e w' ⟨rfl,q,rfl⟩;clear HAg) | (go_at_call 71;refine (HS.out 14 (by omega) _).mono ?_;rintro e w2 ⟨rfl,v2,J2,F2⟩;skip))
       refine (zom (74 - 11) 6 w2 (by omega) J2 (by omega) (by omega) (by have:=HLn.out 14;omega)).mono ?_;rintro e w3 ⟨rfl,v3,J3,F3⟩;have HN:Hid (PRow B p v bits true l w1 (i+74) w3):=PRow.more HE.out.1 HE.out.2.1 HE.out.2.2.1 (by omega) HP.out (by have:=jvf y5q.1 14;rw [List.length_append,vxm];omega) HE.out.2.2.2 (by rw [← List.append_assoc];exact J3) (F2.trans F3);clear J2 F2 J3 F3 HS HE HP H1;go_wp2_with fail
       go_roundw
       case rel=>exact ⟨i+74,by omega,by go_num,HN⟩
       case measure=>simp [intOf];omega
      ·have hd74:decide ((74:Int)<(N:Int))=false:=by simp;omega
       have HP:Hid (rowB true l (f+1) i=(symB xg3 14++v06 (N - 11) 6)++rowB true l f (i+N)):=by
        show _=_;rw [List.append_assoc];have:=HR1.out rfl rfl hn11;rw [show min N 74=N by omega] at this;exact this
       clear HR1 HR2 HR3 HR4;go_wp2_with (first | (go_at_call 97;refine HAg.out.mono ?_;rintro e w' ⟨rfl,q,rfl⟩;clear HAg) | (go_at_call 71;refine (HS.out 14 (by omega) _).mono ?_;rintro e w2 ⟨rfl,v2,J2,F2⟩;skip))
       refine (zom (N - 11) 6 w2 (by omega) J2 (by omega) (by omega) (by have:=HLn.out 14;omega)).mono ?_;rintro e w3 ⟨rfl,v3,J3,F3⟩;have HN:Hid (PRow B p v bits true l w1 (i+N) w3):=PRow.more HE.out.1 HE.out.2.1 HE.out.2.2.1 (by omega) HP.out (by have:=jvf y5q.1 14;rw [List.length_append,vxm];omega) HE.out.2.2.2 (by rw [← List.append_assoc];exact J3) (F2.trans F3);clear J2 F2 J3 F3 HS HE HP H1;go_wp2_with fail
       go_roundw
       case rel=>exact ⟨i+N,by omega,by go_num,HN⟩
       case measure=>simp [intOf];omega
     ·have hd11:decide ((11:Int)<=(N:Int))=false:=by simp;omega
      by_cases hn3:3<=N
      ·have hd3:decide ((3:Int)<=(N:Int))=true:=by simp;omega
       clear hGY;have HP:Hid (rowB true l (f+1) i=(symB xg3 13++v06 (N - 3) 3)++rowB true l f (i+N)):=by
        show _=_;rw [List.append_assoc];have:=HR2.out rfl rfl hn3 (by omega);exact this
       clear HR1 HR2 HR3 HR4;go_wp2_with (first | (go_at_call 97;refine HAg.out.mono ?_;rintro e w' ⟨rfl,q,rfl⟩;clear HAg) | (go_at_call 71;refine (HS.out 13 (by omega) _).mono ?_;rintro e w2 ⟨rfl,v2,J2,F2⟩;skip))
       refine (zom (N - 3) 3 w2 (by omega) J2 (by omega) (by omega) (by have:=HLn.out 13;omega)).mono ?_;rintro e w3 ⟨rfl,v3,J3,F3⟩;have HN:Hid (PRow B p v bits true l w1 (i+N) w3):=PRow.more HE.out.1 HE.out.2.1 HE.out.2.2.1 (by omega) HP.out (by have:=jvf y5q.1 13;rw [List.length_append,vxm];omega) HE.out.2.2.2 (by rw [← List.append_assoc];exact J3) (F2.trans F3);clear J2 F2 J3 F3 HS HE HP H1;go_wp2_with fail
       go_roundw
       case rel=>exact ⟨i+N,by omega,by go_num,HN⟩
       case measure=>simp [intOf];omega
      ·have hd3:decide ((3:Int)<=(N:Int))=false:=by simp;omega
       by_cases hi0:i=0
       ·have hd0:decide ((0:Int)<(i:Int))=false:=by simp;omega
        have hd0n:decide (0<i)=false:=by simp;omega
        clear hGY;have HP:Hid (rowB true l (f+1) i=symB xg3 0++rowB true l f (i+1)):=by
         show _=_;have:=HR4.out (fun x=>hn3 x.2.2) (fun x=>hn3 x.2.2.2);exact this
        clear HR1 HR2 HR3 HR4 hi0;go_wp2_with (go_at_call 97;refine HAg.out.mono ?_;rintro e w' ⟨rfl,q,rfl⟩;clear HAg)
        go_quiet (fail)
        go_wp2_with (go_at_call 71;refine (HS.out 0 (by omega) _).mono ?_;rintro e w2 ⟨rfl,v2,J2,F2⟩;have HN:Hid (PRow B p v bits true l w1 (i+1) w2):=PRow.more HE.out.1 HE.out.2.1 HE.out.2.2.1 (by omega) HP.out (by have:=jvf y5q.1 0;omega) HE.out.2.2.2 J2 F2;clear J2 F2 HS HE HP H1)
        go_roundw
        case rel=>exact ⟨i+1,by omega,by go_num,HN⟩
        case measure=>simp [intOf];omega
       ·obtain ⟨j,ej⟩:∃ j,i=j+1:=⟨i - 1,by omega⟩
        obtain ⟨y,hyd,hy11,cy⟩:=hGY j ej;have HJ:Hid (i=j+1):=ej;have HYv:Hid (l.getD j 0=(y:Int)):=hyd;have hj:(i:Int) - 1=(j:Int):=by omega
        have hjl:j<l.length:=by omega
        have hi1:0<i:=by omega
        have hd0:decide ((0:Int)<(i:Int))=true:=by simp;omega
        clear hGY ej hyd;by_cases hy0:y=0
        ·subst hy0;have HP:Hid (rowB true l (f+1) i=symB xg3 0++rowB true l f (i+1)):=by
          show _=_;have:=HR4.out (fun x=>hn3 x.2.2) (fun x=>hn3 x.2.2.2);exact this
         clear HR1 HR2 HR3 HR4;go_wp2_with (go_at_call 97;refine HAg.out.mono ?_;rintro e w' ⟨rfl,q,rfl⟩;clear HAg)
         go_quiet (fail)
         go_wp2_with (go_at_call 71;refine (HS.out 0 (by omega) _).mono ?_;rintro e w2 ⟨rfl,v2,J2,F2⟩;have HN:Hid (PRow B p v bits true l w1 (i+1) w2):=PRow.more HE.out.1 HE.out.2.1 HE.out.2.2.1 (by omega) HP.out (by have:=jvf y5q.1 0;omega) HE.out.2.2.2 J2 F2;clear J2 F2 HS HE HP H1)
         go_roundw
         case rel=>exact ⟨i+1,by omega,by go_num,HN⟩
         case measure=>simp [intOf];omega
        ·have hye:((0:Int)==(y:Int))=false:=by simp;omega
         have HP:Hid (rowB true l (f+1) i=symB xg3 0++rowB true l f (i+1)):=by
          show _=_;have:=HR4.out (fun x=>hn3 x.2.2) (fun x=>hn3 x.2.2.2);exact this
         clear HR1 HR2 HR3 HR4;go_wp2_with (go_at_call 97;refine HAg.out.mono ?_;rintro e w' ⟨rfl,q,rfl⟩;clear HAg)
         go_quiet (fail)
         go_wp2_with (go_at_call 71;refine (HS.out 0 (by omega) _).mono ?_;rintro e w2 ⟨rfl,v2,J2,F2⟩;have HN:Hid (PRow B p v bits true l w1 (i+1) w2):=PRow.more HE.out.1 HE.out.2.1 HE.out.2.2.1 (by omega) HP.out (by have:=jvf y5q.1 0;omega) HE.out.2.2.2 J2 F2;clear J2 F2 HS HE HP H1)
         go_roundw
         case rel=>exact ⟨i+1,by omega,by go_num,HN⟩
         case measure=>simp [intOf];omega
    ·have hmz:((m:Int)==0)=false:=by simp;omega
     by_cases hi0:i=0
     ·have hd0:decide ((0:Int)<(i:Int))=false:=by simp;omega
      have hd0n:decide (0<i)=false:=by simp;omega
      clear hGY;have HP:Hid (rowB true l (f+1) i=symB xg3 m++rowB true l f (i+1)):=by
       show _=_;have:=HR4.out (fun x=>hm0 x.2.1) (fun x=>by have:=x.2.1;omega);exact this
      clear HR1 HR2 HR3 HR4 hi0;go_wp2_with (go_at_call 97;refine HAg.out.mono ?_;rintro e w' ⟨rfl,q,rfl⟩;clear HAg)
      go_quiet (fail)
      go_wp2_with (go_at_call 71;refine (HS.out m (by omega) _).mono ?_;rintro e w2 ⟨rfl,v2,J2,F2⟩;have HN:Hid (PRow B p v bits true l w1 (i+1) w2):=PRow.more HE.out.1 HE.out.2.1 HE.out.2.2.1 (by omega) HP.out (by have:=jvf y5q.1 m;omega) HE.out.2.2.2 J2 F2;clear J2 F2 HS HE HP H1)
      go_roundw
      case rel=>exact ⟨i+1,by omega,by go_num,HN⟩
      case measure=>simp [intOf];omega
     ·obtain ⟨j,ej⟩:∃ j,i=j+1:=⟨i - 1,by omega⟩
      obtain ⟨y,hyd,hy11,cy⟩:=hGY j ej;have HJ:Hid (i=j+1):=ej;have HYv:Hid (l.getD j 0=(y:Int)):=hyd;have hj:(i:Int) - 1=(j:Int):=by omega
      have hjl:j<l.length:=by omega
      have hi1:0<i:=by omega
      have hd0:decide ((0:Int)<(i:Int))=true:=by simp;omega
      clear hGY ej hyd;by_cases hy0:m=y
      ·subst hy0;by_cases hn3:3<=N
       ·have hd3:decide ((3:Int)<=(N:Int))=true:=by simp;omega
        by_cases hn6:6<N
        ·have hd6:decide ((6:Int)<(N:Int))=true:=by simp;omega
         have HP:Hid (rowB true l (f+1) i=(symB xg3 12++v06 (6 - 3) 2)++rowB true l f (i+6)):=by
          show _=_;rw [List.append_assoc];have:=HR3.out m (by rw [show i - 1=j by have:=HJ.out;omega];exact HYv.out) rfl hm0 (by omega) rfl hn3;rw [show min N 6=6 by omega] at this;exact this
         clear HR1 HR2 HR3 HR4;go_wp2_with (go_at_call 97;refine HAg.out.mono ?_;rintro e w' ⟨rfl,q,rfl⟩;clear HAg)
         go_quiet (fail)
         go_wp2_with (go_at_call 71;refine (HS.out 12 (by omega) _).mono ?_;rintro e w2 ⟨rfl,v2,J2,F2⟩;skip)
         refine (zom (6 - 3) 2 w2 (by omega) J2 (by omega) (by omega) (by have:=HLn.out 12;omega)).mono ?_;rintro e w3 ⟨rfl,v3,J3,F3⟩;have HN:Hid (PRow B p v bits true l w1 (i+6) w3):=PRow.more HE.out.1 HE.out.2.1 HE.out.2.2.1 (by omega) HP.out (by have:=jvf y5q.1 12;rw [List.length_append,vxm];omega) HE.out.2.2.2 (by rw [← List.append_assoc];exact J3) (F2.trans F3);clear J2 F2 J3 F3 HS HE HP H1;go_wp2_with fail
         go_roundw
         case rel=>exact ⟨i+6,by omega,by go_num,HN⟩
         case measure=>simp [intOf];omega
        ·have hd6:decide ((6:Int)<(N:Int))=false:=by simp;omega
         have HP:Hid (rowB true l (f+1) i=(symB xg3 12++v06 (N - 3) 2)++rowB true l f (i+N)):=by
          show _=_;rw [List.append_assoc];have:=HR3.out m (by rw [show i - 1=j by have:=HJ.out;omega];exact HYv.out) rfl hm0 (by omega) rfl hn3;rw [show min N 6=N by omega] at this;exact this
         clear HR1 HR2 HR3 HR4;go_wp2_with (go_at_call 97;refine HAg.out.mono ?_;rintro e w' ⟨rfl,q,rfl⟩;clear HAg)
         go_quiet (fail)
         go_wp2_with (go_at_call 71;refine (HS.out 12 (by omega) _).mono ?_;rintro e w2 ⟨rfl,v2,J2,F2⟩;skip)
         refine (zom (N - 3) 2 w2 (by omega) J2 (by omega) (by omega) (by have:=HLn.out 12;omega)).mono ?_;rintro e w3 ⟨rfl,v3,J3,F3⟩;have HN:Hid (PRow B p v bits true l w1 (i+N) w3):=PRow.more HE.out.1 HE.out.2.1 HE.out.2.2.1 (by omega) HP.out (by have:=jvf y5q.1 12;rw [List.length_append,vxm];omega) HE.out.2.2.2 (by rw [← List.append_assoc];exact J3) (F2.trans F3);clear J2 F2 J3 F3 HS HE HP H1;go_wp2_with fail
         go_roundw
         case rel=>exact ⟨i+N,by omega,by go_num,HN⟩
         case measure=>simp [intOf];omega
       ·have hd3:decide ((3:Int)<=(N:Int))=false:=by simp;omega
        have HP:Hid (rowB true l (f+1) i=symB xg3 m++rowB true l f (i+1)):=by
         show _=_;have:=HR4.out (fun x=>hm0 x.2.1) (fun x=>hn3 x.2.2.2);exact this
        clear HR1 HR2 HR3 HR4;go_wp2_with (go_at_call 97;refine HAg.out.mono ?_;rintro e w' ⟨rfl,q,rfl⟩;clear HAg)
        go_quiet (fail)
        go_wp2_with (go_at_call 71;refine (HS.out m (by omega) _).mono ?_;rintro e w2 ⟨rfl,v2,J2,F2⟩;have HN:Hid (PRow B p v bits true l w1 (i+1) w2):=PRow.more HE.out.1 HE.out.2.1 HE.out.2.2.1 (by omega) HP.out (by have:=jvf y5q.1 m;omega) HE.out.2.2.2 J2 F2;clear J2 F2 HS HE HP H1)
        go_roundw
        case rel=>exact ⟨i+1,by omega,by go_num,HN⟩
        case measure=>simp [intOf];omega
      ·have hye:((m:Int)==(y:Int))=false:=by simp;omega
       have HP:Hid (rowB true l (f+1) i=symB xg3 m++rowB true l f (i+1)):=by
        show _=_;have:=HR4.out (fun x=>hm0 x.2.1) (fun x=>by have h:=x.2.2.1;rw [show i - 1=j by have:=HJ.out;omega,HYv.out] at h;omega);exact this
       clear HR1 HR2 HR3 HR4;go_wp2_with (go_at_call 97;refine HAg.out.mono ?_;rintro e w' ⟨rfl,q,rfl⟩;clear HAg)
       go_quiet (fail)
       go_wp2_with (go_at_call 71;refine (HS.out m (by omega) _).mono ?_;rintro e w2 ⟨rfl,v2,J2,F2⟩;have HN:Hid (PRow B p v bits true l w1 (i+1) w2):=PRow.more HE.out.1 HE.out.2.1 HE.out.2.2.1 (by omega) HP.out (by have:=jvf y5q.1 m;omega) HE.out.2.2.2 J2 F2;clear J2 F2 HS HE HP H1)
       go_roundw
       case rel=>exact ⟨i+1,by omega,by go_num,HN⟩
       case measure=>simp [intOf];omega
  ·obtain rfl:i=l.length:=by omega
   have HX:Hid (BBE B p v (bits++rowB runs l l.length 0) w wr):=by
    obtain ⟨f,pre,v1,e,hf,J,F,hp⟩:=HR.out;have e2:rowB runs l f l.length=[]:=by cases f with
     | zero=>rfl
     | succ f=>rw [rowB,if_neg (Nat.lt_irrefl _)]
    rw [e2,List.append_nil] at e;show BBE _ _ _ _ _ _;rw [e];exact ⟨v1,J,H1.out.2.1.trans F⟩
   clear HR;go_wp2_with fail
   go_end0
   exact ⟨rfl,HX.out⟩
theorem LayI.ends{w wr:World}{l:List Int}{v:Value}{k:Nat}(h:LayI w l v wr k)(hk:k=l.length)(hne:0<l.length):∃ g c,v= .slice (some ⟨g,0,none⟩) l.length c∧NewL w wr g c l:=by
 subst hk;obtain ⟨g1,p1,hv1,hg1,hl1⟩:=h.own.form hne;subst hv1;exact ⟨g1,p1,rfl,h.done hne⟩
theorem vob(w:World) :
  Calls Tryz.prog 41 #[] w fun e w'=>∃ g1 c1 g2 c2,e= .returned (.tuple #[.slice (some ⟨g1,0,none⟩) 269 c1, .slice (some ⟨g2,0,none⟩) 16 c2])∧NewL w w' g1 c1 Tr.fixedA∧NewL w w' g2 c2 Tr.fixedB:=by
 have H0:Hid (LayI w Tr.fixedA (.slice none 0 0) w 0):=⟨World.ownsRow_nil _ _ _ _,Below.refl _ _⟩
 obtain ⟨i3,hi3,hy0,hy1,hy2⟩:=info_parts ve2;go_enter Tryz.func41,Tryz.ntmps41
 go_wp2_with fail
 go_loopw [2,3,4] (fun v i _ wr=>∃ k:Nat,k<=269∧i= .int .i64 k∧Hid (LayI w Tr.fixedA v wr k)) (fun _ i _ _=>269 - (intOf i).toNat)
 case atStart=>exact ⟨0,Nat.zero_le _,rfl,H0⟩
 case round=>
  obtain ⟨k,hk,rfl,HH⟩:=hrel;clear H0;have hown0:=HH.out.own;have hszw:w.heap.size<=wr.heap.size:=HH.out.bel.size;by_cases hlt:k<269
  ·by_cases h242:242<k
   ·go_wp2_with (at_builtin;refine wpList_append_lies _ rfl _ _ 69 rfl w.heap.size 3 i3 (.int .i64 0) 1 8 Tryz.underlying69 hi3 hy0 hy1 hy2 rfl (by decide) u2 k (k2f (Tr.fixedA.take k)) rfl (hown0.alloc _) ⟨wr.heap.size,0,none⟩ 1 1 [.int .i64 9] rfl rfl (cell_one_new _ _ _) (by simp [Value.oneCell']) (by omega) (by unfold maxLen;omega) (by omega) (by simp;omega) (wr.heap.size+1) (by simp) ?_;intro g2 p2 w5 hown2 hgrow2 hat2 hlt2)
    have HN:Hid (LayI w Tr.fixedA (.slice (some ⟨g2,0,none⟩) (k+1) p2) w5 (k+1)):=HH.out.next (z1l h242 hlt) hown2 hgrow2;clear hown2 hgrow2 hat2 hlt2 hown0;go_roundw
    case rel=>exact ⟨k+1,by omega,by go_num,HN⟩
    case measure=>simp [intOf];omega
   ·go_wp2_with (at_builtin;refine wpList_append_lies _ rfl _ _ 69 rfl w.heap.size 3 i3 (.int .i64 0) 1 8 Tryz.underlying69 hi3 hy0 hy1 hy2 rfl (by decide) u2 k (k2f (Tr.fixedA.take k)) rfl (hown0.alloc _) ⟨wr.heap.size,0,none⟩ 1 1 [.int .i64 8] rfl rfl (cell_one_new _ _ _) (by simp [Value.oneCell']) (by omega) (by unfold maxLen;omega) (by omega) (by simp;omega) (wr.heap.size+1) (by simp) ?_;intro g2 p2 w5 hown2 hgrow2 hat2 hlt2)
    have HN:Hid (LayI w Tr.fixedA (.slice (some ⟨g2,0,none⟩) (k+1) p2) w5 (k+1)):=HH.out.next (x2c (by omega)) hown2 hgrow2;clear hown2 hgrow2 hat2 hlt2 hown0;go_roundw
    case rel=>exact ⟨k+1,by omega,by go_num,HN⟩
    case measure=>simp [intOf];omega
  ·have HK:Hid (k=269):=by show k=269;omega
   obtain ⟨g1,c1,hv,hN1⟩:=HH.out.ends (by rw [xgg];exact HK.out) (by rw [xgg];omega);rw [xgg] at hv;subst hv;have HA:Hid (NewL w wr g1 c1 Tr.fixedA):=hN1;obtain ⟨wA,hwA⟩:∃ wA,wA=wr:=⟨_,rfl⟩
   rw [← hwA] at HA;have H1:Hid (LayI wA Tr.fixedB (.slice none 0 0) wA 0):=⟨World.ownsRow_nil _ _ _ _,Below.refl _ _⟩
   clear HH hown0 hszw hN1;subst hwA;go_wp2_with fail
   go_loopw [5,6] (fun v i wr=>∃ k:Nat,k<=16∧i= .int .i64 k∧Hid (LayI wA Tr.fixedB v wr k)) (fun _ i _=>16 - (intOf i).toNat)
   case atStart=>exact ⟨0,Nat.zero_le _,rfl,H1⟩
   case round=>
    obtain ⟨k,hk,rfl,HH⟩:=hrel;clear H1;have hown0:=HH.out.own;have hszw:wA.heap.size<=wr.heap.size:=HH.out.bel.size;by_cases hlt:k<16
    ·go_wp2_with (at_builtin;refine wpList_append_lies _ rfl _ _ 69 rfl wA.heap.size 3 i3 (.int .i64 0) 1 8 Tryz.underlying69 hi3 hy0 hy1 hy2 rfl (by decide) u5 k (k2f (Tr.fixedB.take k)) rfl (hown0.alloc _) ⟨wr.heap.size,0,none⟩ 1 1 [.int .i64 4] rfl rfl (cell_one_new _ _ _) (by simp [Value.oneCell']) (by omega) (by unfold maxLen;omega) (by omega) (by simp;omega) (wr.heap.size+1) (by simp) ?_;intro g2 p2 w5 hown2 hgrow2 hat2 hlt2)
     have HN:Hid (LayI wA Tr.fixedB (.slice (some ⟨g2,0,none⟩) (k+1) p2) w5 (k+1)):=HH.out.next (yu1 hlt) hown2 hgrow2;clear hown2 hgrow2 hat2 hlt2 hown0;go_roundw
     case rel=>exact ⟨k+1,by omega,by go_num,HN⟩
     case measure=>simp [intOf];omega
    ·obtain rfl:k=16:=by omega
     obtain ⟨g2,c2,hv2,hN2⟩:=HH.out.ends (by rw [v02]) (by rw [v02];omega);rw [v02] at hv2;subst hv2;have HB:Hid (NewL wA wr g2 c2 Tr.fixedB):=hN2;clear HH hown0 hszw hN2;go_wp2_with fail
     refine bodyPost_ret (v:= .tuple #[.slice (some ⟨g1,0,none⟩) 269 c1, .slice (some ⟨g2,0,none⟩) 16 c2]) (by simp [results,Tryz.results41,go_sem]) rfl ⟨g1,c1,g2,c2,rfl,?_,?_⟩
     ·have a:=HA.out;have b:=HB.out;exact ⟨a.cells.below b.bel (Nat.le_refl _),a.new,Nat.lt_of_lt_of_le a.lt b.bel.size,a.bel.trans (b.bel.mono a.bel.size)⟩
     ·have a:=HA.out;have b:=HB.out;exact ⟨b.cells,Nat.le_trans a.bel.size b.new,b.lt,a.bel.trans (b.bel.mono a.bel.size)⟩
theorem v1k(b n f:Int)(ao:Option Addr)(len cap:Nat)(w:World)(h:n<3∨66<n∨f<1∨256<f∨(len:Int)<f) :
  Calls Tryz.prog 38 #[.agg #[.int .i64 b, .int .i64 n, .int .i64 f], .slice ao len cap] w fun e w'=>e= .returned (.agg #[.int .i64 (b%256), .int .i64 0, .int .i64 0])∧Below w.heap.size w w':=by
 by_cases h1:n<3
 ·clear h;go_enter Tryz.func38,Tryz.ntmps38
  go_wp2_with fail
  exact bodyPost_ret (v:= .agg #[.int .i64 (b%256), .int .i64 0, .int .i64 0]) (by simp [results,Tryz.results38,go_sem]) rfl ⟨rfl,((Below.refl _ _).alloc (Nat.le_refl _) _).alloc (by simp) _⟩
 ·have d1:decide (n<3)=false:=by simp;omega
  by_cases h2:66<n
  ·clear h;go_enter Tryz.func38,Tryz.ntmps38
   go_wp2_with fail
   exact bodyPost_ret (v:= .agg #[.int .i64 (b%256), .int .i64 0, .int .i64 0]) (by simp [results,Tryz.results38,go_sem]) rfl ⟨rfl,((Below.refl _ _).alloc (Nat.le_refl _) _).alloc (by simp) _⟩
  ·have d2:decide (66<n)=false:=by simp;omega
   by_cases h3:f<1
   ·clear h;go_enter Tryz.func38,Tryz.ntmps38
    go_wp2_with fail
    exact bodyPost_ret (v:= .agg #[.int .i64 (b%256), .int .i64 0, .int .i64 0]) (by simp [results,Tryz.results38,go_sem]) rfl ⟨rfl,((Below.refl _ _).alloc (Nat.le_refl _) _).alloc (by simp) _⟩
   ·have d3:decide (f<1)=false:=by simp;omega
    by_cases h4:256<f
    ·clear h;go_enter Tryz.func38,Tryz.ntmps38
     go_wp2_with fail
     exact bodyPost_ret (v:= .agg #[.int .i64 (b%256), .int .i64 0, .int .i64 0]) (by simp [results,Tryz.results38,go_sem]) rfl ⟨rfl,((Below.refl _ _).alloc (Nat.le_refl _) _).alloc (by simp) _⟩
    ·have d4:decide (256<f)=false:=by simp;omega
     have h5:(len:Int)<f:=by omega
     clear h;go_enter Tryz.func38,Tryz.ntmps38
     go_wp2_with fail
     exact bodyPost_ret (v:= .agg #[.int .i64 (b%256), .int .i64 0, .int .i64 0]) (by simp [results,Tryz.results38,go_sem]) rfl ⟨rfl,((Below.refl _ _).alloc (Nat.le_refl _) _).alloc (by simp) _⟩
theorem jw1(b n f:Int)(ao:Option Addr)(len cap:Nat)(w:World)(h1:3<=n)(h2:n<=66)(h3:1<=f)(h4:f<=256)(h5:f<=(len:Int)) :
  Calls Tryz.prog 38 #[.agg #[.int .i64 b, .int .i64 n, .int .i64 f], .slice ao len cap] w fun e w'=>e= .returned (.agg #[.int .i64 b, .int .i64 n, .int .i64 f])∧Below w.heap.size w w':=by
 have d1:decide (n<3)=false:=by simp;omega
 have d2:decide (66<n)=false:=by simp;omega
 have d3:decide (f<1)=false:=by simp;omega
 have d4:decide (256<f)=false:=by simp;omega
 have d5:decide ((len:Int)<f)=false:=by simp;omega
 go_enter Tryz.func38,Tryz.ntmps38
 go_wp2_with fail
 exact bodyPost_ret (v:= .agg #[.int .i64 b, .int .i64 n, .int .i64 f]) (by simp [results,Tryz.results38,go_sem]) rfl ⟨rfl,((Below.refl _ _).alloc (Nat.le_refl _) _).alloc (by simp) _⟩
structure OuF(B:Nat)(v v':Value)(w w':World):Prop where
 size:w.heap.size<=w'.heap.size
 blk:∀ k,k<w.heap.size->v.ownBlock≠some k->w'.heap[k]?=w.heap[k]?
 nw:∀ g,v'.ownBlock=some g->v.ownBlock=some g∨w.heap.size<=g
 bel:Below B w w'
theorem OuF.refl(B:Nat)(v:Value)(w:World):OuF B v v w w:=⟨Nat.le_refl _,fun _ _ _=>rfl,fun _ h=>Or.inl h,Below.refl _ _⟩
theorem OuF.trans{B:Nat}{v v1 v2:Value}{a b c:World}(h:OuF B v v1 a b)(k:OuF B v1 v2 b c):OuF B v v2 a c:=⟨Nat.le_trans h.size k.size,fun i hi hv=>by
  rw [k.blk i (Nat.lt_of_lt_of_le hi h.size) (fun e=>by
   rcases h.nw i e with e' | e'
   ·exact hv e'
   ·omega)]
  exact h.blk i hi hv,fun g hg=>by
  rcases k.nw g hg with e | e
  ·exact h.nw g e
  ·exact Or.inr (Nat.le_trans h.size e),h.bel.trans k.bel⟩
theorem OuF.made{B:Nat}{v:Value}{w X:World}(hB:B<=w.heap.size)(hX:Below w.heap.size w X):OuF B v v w X:=⟨hX.size,fun _ hk _=>j1i hX hk,fun _ h=>Or.inl h,hX.mono hB⟩
theorem OuF.push{B:Nat}{v:Value}{l:List Nat}{w X w1:World}{g c n:Nat}(h:w.ownsRow B 5 1 v l.length (keg l))(hB:B<=w.heap.size)(hX:Below w.heap.size w X)(hg:X.grownBy w1 v.ownBlock)(hat:v.ownBlock=some g∨w.heap.size<=g):OuF B v (.slice (some ⟨g,0,none⟩) n c) w w1:=by
 refine ⟨Nat.le_trans hX.size hg.size,fun k hk hne=>(hg.block k (Nat.lt_of_lt_of_le hk hX.size) (fun e=>hne e.symm)).trans (j1i hX hk),fun x hx=>?_,(hX.mono hB).grown hg (Nat.le_trans hB hX.size) (fun x hx=>(h.lt x hx).1)⟩;simp [Value.ownBlock] at hx;subst hx;exact hat
theorem vre{B:Nat}{v:Value}{o:List Nat}(x:Nat)(n f:Int)(w:World)(h:w.ownsRow B 5 1 v o.length (keg o))(hB:B<=w.heap.size)(hx:x<256)(hn:n<3)(hl:o.length<=200000000000) :
  Calls Tryz.prog 39 #[v, .agg #[.int .i64 x, .int .i64 n, .int .i64 f]] w fun e w'=>∃ v',e= .returned v'∧w'.ownsRow B 5 1 v' (o++[x]).length (keg (o++[x]))∧OuF B v v' w w':=by
 obtain ⟨i5,hi5,hx0,hx1,hx2⟩:=info_parts kh5;obtain ⟨W,hW⟩:∃ W,W=w.alloc (.cells #[.int .i64 x, .int .i64 n, .int .i64 f] 89):=⟨_,rfl⟩
 have hown:W.ownsRow B 5 1 v o.length (keg o):=by rw [hW];exact h.alloc _
 have HF:Hid (OuF B v v w W):=OuF.made hB (by rw [hW];exact (Below.refl _ _).alloc (Nat.le_refl _) _);have hBW:B<=W.heap.size:=Nat.le_trans hB HF.out.size;have d0:W.cell? ⟨w.heap.size,0,none⟩=some (.int .i64 x):=by rw [hW,cell_of_row _ _ 0 _ _ _ (heap_alloc_new w _)];rfl
 have d1:W.cell? ⟨w.heap.size,1,none⟩=some (.int .i64 n):=by rw [hW,cell_of_row _ _ 1 _ _ _ (heap_alloc_new w _)];rfl
 have hxm:(x:Int)%256=(x:Int):=by omega
 clear h;go_enter Tryz.func39,Tryz.ntmps39
 go_upto_region 1 with fail
 rw [← hW];clear hW;go_wp2_with (at_builtin;refine wpList_append_lies _ rfl _ _ 34 rfl B 5 i5 _ 1 1 Tryz.underlying34 hi5 hx0 hx1 hx2 rfl (by decide) v o.length (keg o) rfl (hown.alloc _) ⟨W.heap.size,0,none⟩ 1 1 [.int .u8 x] rfl rfl (cell_one_new _ _ _) (by simp [Value.oneCell']) (by omega) (by unfold maxLen;omega) (by omega) (by simp;omega) (W.heap.size+1) (by simp) ?_;intro g2 p2 w5 hown2 hgrow2 hat2 hlt2)
 have HP:Hid (OuF B v (.slice (some ⟨g2,0,none⟩) (o.length+1) p2) w w5):=HF.out.trans (OuF.push hown hBW ((Below.refl _ _).alloc (Nat.le_refl _) _) hgrow2 (hat2.imp id (fun e=>by omega)));have HO:Hid (w5.ownsRow B 5 1 (.slice (some ⟨g2,0,none⟩) (o.length+1) p2) (o++[x]).length (keg (o++[x]))):=by
  have e:keg (o++[x])=keg o++[.int .u8 x]:=by simp [keg]
  show World.ownsRow _ _ _ _ _ _ _;rw [e,List.length_append];exact hown2
 clear hown2 hgrow2 hat2 hlt2;go_wp2_with fail
 go_ret
 exact ⟨_,rfl,HO.out,HP.out⟩
theorem v2c{B:Nat}{v:Value}{o:List Nat}(b:Int)(n far:Nat)(w:World)(h:w.ownsRow B 5 1 v o.length (keg o))(hB:B<=w.heap.size)(h3:3<=n)(h66:n<=66)(hf1:1<=far)(hf:far<=o.length)(hl:o.length<=200000000000) :
  Calls Tryz.prog 39 #[v, .agg #[.int .i64 b, .int .i64 n, .int .i64 far]] w fun e w'=>∃ v',e= .returned v'∧w'.ownsRow B 5 1 v' (kl5 far n o).length (keg (kl5 far n o))∧OuF B v v' w w':=by
 obtain ⟨i5,hi5,hx0,hx1,hx2⟩:=info_parts kh5;obtain ⟨W,hW⟩:∃ W,W=w.alloc (.cells #[.int .i64 b, .int .i64 n, .int .i64 far] 89):=⟨_,rfl⟩
 have HF:Hid (OuF B v v w W):=OuF.made hB (by rw [hW];exact (Below.refl _ _).alloc (Nat.le_refl _) _);have hBW:B<=W.heap.size:=Nat.le_trans hB HF.out.size;have gx:W.heap[w.heap.size]?=some (.cells #[.int .i64 b, .int .i64 n, .int .i64 far] 89 (0,0)):=by rw [hW];exact heap_alloc_new w _
 have d1:W.cell? ⟨w.heap.size,1,none⟩=some (.int .i64 n):=by rw [cell_of_row _ _ 1 _ _ _ gx];rfl
 have H0:Hid (W.ownsRow B 5 1 v o.length (keg o)∧OuF B v v W W∧kl5 far (n - 0) o=kl5 far n o):=⟨by rw [hW];exact h.alloc _,OuF.refl _ _ _,rfl⟩
 have HX:Hid (∀ (v1:Value) (wr:World),OuF B v v1 W wr->wr.heap[w.heap.size]?=W.heap[w.heap.size]?):=fun v1 wr F=>F.blk _ (by rw [hW];simp) (fun e=>by have:=(h.lt _ e).2;omega)
 have HG:Hid (W.heap[w.heap.size]?=some (.cells #[.int .i64 b, .int .i64 n, .int .i64 far] 89 (0,0))):=gx;have d3:decide ((n:Int)<3)=false:=by simp;omega
 clear h gx;go_enter Tryz.func39,Tryz.ntmps39
 go_upto_region 1 with fail
 rw [← hW];clear hW;go_wp2_with fail
 go_loopw [0,5,6] (fun vo i _ wr=>∃ (k:Nat) (cur:List Nat),k<=n∧i= .int .i64 k∧cur.length=o.length+k∧Hid (wr.ownsRow B 5 1 vo cur.length (keg cur)∧OuF B v vo W wr∧kl5 far (n - k) cur=kl5 far n o)) (fun _ i _ _=>n - (intOf i).toNat)
 case atStart=>exact ⟨0,o,Nat.zero_le _,rfl,rfl,H0⟩
 case round=>
  obtain ⟨k,cur,hk,rfl,hcl,HH⟩:=hrel;clear H0 d1;have hblk:=HX.out _ _ HH.out.2.1;rw [HG.out] at hblk;have d1:wr.cell? ⟨w.heap.size,1,none⟩=some (.int .i64 n):=by rw [cell_of_row _ _ 1 _ _ _ hblk];rfl
  have d2:wr.cell? ⟨w.heap.size,2,none⟩=some (.int .i64 far):=by rw [cell_of_row _ _ 2 _ _ _ hblk];rfl
  clear hblk;by_cases hlt:k<n
  ·obtain ⟨g,c,hv,hg1,hg2⟩:=HH.out.1.form (by omega);subst hv;have hown:=HH.out.1;have hBr:B<=wr.heap.size:=Nat.le_trans hBW HH.out.2.1.size;obtain ⟨q,hq⟩:∃ q,q=cur.length - far:=⟨_,rfl⟩
   have hqi:(cur.length:Int) - (far:Int)=(q:Int):=by omega
   have hql:q<cur.length:=by omega
   have cq:wr.cell? ⟨g,q,none⟩=some (.int .u8 (cur.getD q 0:Nat)):=by
    rw [World.ownsRow.cellAt hown q (by omega)];simp [keg,hql]
   have HC:Hid (kl5 far (n - (k+1)) (cur++[cur.getD q 0])=kl5 far n o):=by
    show _=_;rw [← HH.out.2.2,show n - k=(n - (k+1))+1 by omega,kl5,hq]
   have HL:Hid (cur.length=o.length+k):=hcl;have hcl2:cur.length<=200000000100:=by omega
   clear hq hcl;generalize cur.getD q 0=y at *;go_wp2_with (at_builtin;refine wpList_append_lies _ rfl _ _ 34 rfl B 5 i5 _ 1 1 Tryz.underlying34 hi5 hx0 hx1 hx2 rfl (by decide) _ cur.length (keg cur) rfl (hown.alloc _) ⟨wr.heap.size,0,none⟩ 1 1 [.int .u8 y] rfl rfl (cell_one_new _ _ _) (by simp [Value.oneCell']) (by omega) (by unfold maxLen;omega) (by omega) (by simp;omega) (wr.heap.size+1) (by simp) ?_;intro g2 p2 w5 hown2 hgrow2 hat2 hlt2)
   have HN:Hid (w5.ownsRow B 5 1 (.slice (some ⟨g2,0,none⟩) (cur.length+1) p2) (cur++[y]).length (keg (cur++[y]))∧OuF B v (.slice (some ⟨g2,0,none⟩) (cur.length+1) p2) W w5∧kl5 far (n - (k+1)) (cur++[y])=kl5 far n o):=by
    refine ⟨?_,HH.out.2.1.trans (OuF.push hown hBr ((Below.refl _ _).alloc (Nat.le_refl _) _) hgrow2 (hat2.imp id (fun e=>by omega))),HC.out⟩;have e:keg (cur++[y])=keg cur++[.int .u8 y]:=by simp [keg]
    rw [e,List.length_append];exact hown2
   clear hown2 hgrow2 hat2 hlt2 hown;go_roundw
   case rel=>exact ⟨k+1,cur++[y],by omega,by go_num,by have:=HL.out;rw [List.length_append,List.length_singleton];omega,HN⟩
   case measure=>simp [intOf];omega
  ·obtain rfl:k=n:=by omega
   have HN:Hid (wr.ownsRow B 5 1 u0 (kl5 far k o).length (keg (kl5 far k o))∧OuF B v u0 w wr):=by
    obtain ⟨a1,a2,a3⟩:=HH.out;rw [Nat.sub_self,kl5] at a3;rw [← a3];exact ⟨a1,HF.out.trans a2⟩
   clear HH;go_wp2_with fail
   go_ret
   exact ⟨_,rfl,HN.out.1,HN.out.2⟩
end Go.Proofs.YtbcjmakpempkiaaGreatDoor
