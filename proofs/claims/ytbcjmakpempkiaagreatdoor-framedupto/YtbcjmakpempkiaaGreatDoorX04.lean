import Derived.Lib.AppendStr
import Derived.Test.YtbcjmakpempkiaaGreatDoorX03
set_option maxRecDepth 100000
set_option maxHeartbeats 8000000
set_option linter.all false
namespace Go.Proofs.YtbcjmakpempkiaaGreatDoor
open Go.RowKit
theorem koh:(Tryz.prog.info? 4).map (fun i=>(i.zero,i.size,i.bytes))=some (some (.bool false),1,1):=by kernel_rfl
def upd(f:Nat->Bool)(k:Nat):Nat->Bool:=fun j=>if j=k then true else f j
def useA(f:Nat->Bool):It->Nat->Bool
 | .byte x=>upd f x
 | .copy n _=>upd f (257+splK 3 n)
def useB(f:Nat->Bool):It->Nat->Bool
 | .byte _=>f
 | .copy _ far=>upd f (splK 1 far)
def use0:Nat->Bool:=upd (upd (fun _=>false) 256) 0
def kg7:It->Prop
 | .byte x=>x<256
 | .copy n far=>3<=n∧n<=66∧1<=far∧far<=256
structure UsI(w:World)(fa fb:Nat->Bool)(wr:World):Prop where
 ra:wr.rowIs w.heap.size 4 269 (fun j=> .bool (fa j))
 rb:wr.rowIs (w.heap.size+1) 4 16 (fun j=> .bool (fb j))
 bel:Below w.heap.size w wr
theorem j3x{w:World}{g n k:Nat}{f:Nat->Bool}(h:w.rowIs g 4 n (fun j=> .bool (f j))):(w.setCell ⟨g,k,none⟩ (.bool true)).rowIs g 4 n (fun j=> .bool (upd f k j)):=by
 refine (h.set k (.bool true)).congr (fun j _=>?_);unfold upd;by_cases e:j=k <;> simp [e]
theorem UsI.setA{w wr:World}{fa fb:Nat->Bool}(h:UsI w fa fb wr)(k:Nat):UsI w (upd fa k) fb (wr.setCell ⟨w.heap.size,k,none⟩ (.bool true)):=⟨j3x h.ra,h.rb.setOther (by show w.heap.size+1≠w.heap.size;omega) _,h.bel.setCell (Nat.le_refl _) _⟩
theorem UsI.setB{w wr:World}{fa fb:Nat->Bool}(h:UsI w fa fb wr)(k:Nat):UsI w fa (upd fb k) (wr.setCell ⟨w.heap.size+1,k,none⟩ (.bool true)):=⟨h.ra.setOther (by show w.heap.size≠w.heap.size+1;omega) _,j3x h.rb,h.bel.setCell (by show w.heap.size<=w.heap.size+1;omega) _⟩
theorem k1n.below{w w':World}{ad:Option Addr}{l:List It}(h:k1n w ad l)(hb:Below w.heap.size w w'):k1n w' ad l:=fun k hk=>by
 obtain ⟨bl,o,b,n,f,e,hlt,c0,c1,c2,hi⟩:=h k hk;have hbk:=j1i hb hlt;exact ⟨bl,o,b,n,f,e,Nat.lt_of_lt_of_le hlt hb.size,by rw [World.cell?_of_block hbk];exact c0,by rw [World.cell?_of_block hbk];exact c1,by rw [World.cell?_of_block hbk];exact c2,hi⟩
theorem xra{items:List It}{k:Nat}(hk:k<items.length)(f:Nat->Bool):(items.take (k+1)).foldl useA f=useA ((items.take k).foldl useA f) items[k]:=by
 rw [List.take_succ_eq_append_getElem hk,List.foldl_append];rfl
theorem xga{items:List It}{k:Nat}(hk:k<items.length)(f:Nat->Bool):(items.take (k+1)).foldl useB f=useB ((items.take k).foldl useB f) items[k]:=by
 rw [List.take_succ_eq_append_getElem hk,List.foldl_append];rfl
theorem xkh(ai:Option Addr)(ci:Nat)(items:List It)(w:World)(hI:k1n w ai items)(hil:items.length<=10000000)(hok:∀ x∈items,kg7 x) :
  Calls Tryz.prog 65 #[.slice ai items.length ci] w fun e w'=>e= .returned (.tuple #[.slice (some ⟨w.heap.size,0,none⟩) 269 269, .slice (some ⟨w.heap.size+1,0,none⟩) 16 16])∧UsI w (items.foldl useA use0) (items.foldl useB (fun _=>false)) w':=by
 have hmk:∀ w:World,Sem.run Tryz.prog (Instr.makeSlice 148 (.int .i64 269) (.int .i64 269)) w= .ok (.slice (some ⟨w.heap.size,0,none⟩) 269 269) (w.alloc (.cells (madeCells #[.bool false] 269) 4)):=run_make_row' (P:=Tryz.prog) 148 4 (.bool false) 1 Tryz.underlying148 koh rfl .i64 .i64 269 (by omega) (by omega);have hmk2:∀ w:World,Sem.run Tryz.prog (Instr.makeSlice 148 (.int .i64 16) (.int .i64 16)) w= .ok (.slice (some ⟨w.heap.size,0,none⟩) 16 16) (w.alloc (.cells (madeCells #[.bool false] 16) 4)):=run_make_row' (P:=Tryz.prog) 148 4 (.bool false) 1 Tryz.underlying148 koh rfl .i64 .i64 16 (by omega) (by omega);obtain ⟨W,hW⟩:∃ W,W=(w.alloc (.cells (madeCells #[.bool false] 269) 4)).alloc (.cells (madeCells #[.bool false] 16) 4):=⟨_,rfl⟩
 have hU:UsI w (fun _=>false) (fun _=>false) W:=by
  rw [hW];refine ⟨(World.rowIs_made w _ 269 _).alloc _,?_,((Below.refl _ _).alloc (Nat.le_refl _) _).alloc (by simp) _⟩;have:=World.rowIs_made (w.alloc (.cells (madeCells #[.bool false] 269) 4)) (.bool false) 16 4;simpa using this
 have HI:Hid (∀ wr,Below w.heap.size w wr->k1n wr ai items):=fun wr hb=>hI.below hb
 have HK:Hid (∀ x∈items,kg7 x):=hok;have x256:W.cell? ⟨w.heap.size,256,none⟩=some (.bool false):=hU.ra.cell (i:=256) (by omega);have z256:=hU.ra.frozen 256;have hU1:=hU.setA 256;have x0:(W.setCell ⟨w.heap.size,256,none⟩ (.bool true)).cell? ⟨w.heap.size,0,none⟩=some (.bool false):=hU1.ra.cell (i:=0) (by omega);have z0:=hU1.ra.frozen 0;have H0:Hid (UsI w ((items.take 0).foldl useA use0) ((items.take 0).foldl useB (fun _=>false)) ((W.setCell ⟨w.heap.size,256,none⟩ (.bool true)).setCell ⟨w.heap.size,0,none⟩ (.bool true))):=hU1.setA 0;clear hI hok hU hU1;go_enter Tryz.func65,Tryz.ntmps65
 go_upto_region 3 with fail
 rw [← hW];clear hW hmk hmk2;go_upto_region 5 with fail
 obtain ⟨W1,hW1⟩:∃ W1,W1=(W.setCell ⟨w.heap.size,256,none⟩ (.bool true)).setCell ⟨w.heap.size,0,none⟩ (.bool true):=⟨_,rfl⟩
 rw [← hW1] at H0;rw [← hW1];clear hW1 x0 z0 x256 z256;go_wp2_with fail
 go_loopw [6,7,8,9] (fun i _ _ _ wr=>∃ k:Nat,k<=items.length∧i= .int .i64 k∧Hid (UsI w ((items.take k).foldl useA use0) ((items.take k).foldl useB (fun _=>false)) wr)) (fun i _ _ _ _=>items.length - (intOf i).toNat)
 case atStart=>exact ⟨0,Nat.zero_le _,rfl,H0⟩
 case round=>
  obtain ⟨k,hk,rfl,HR⟩:=hrel;clear H0;by_cases hlt:k<items.length
  ·have hbel:=HR.out.bel;obtain ⟨bl,o,xb,xn,xf,rfl,hbl,c0,c1,c2,hit⟩:=HI.out wr hbel k hlt;have hok:=HK.out items[k] (List.getElem_mem hlt);have HA:Hid ((items.take (k+1)).foldl useA use0=useA ((items.take k).foldl useA use0) items[k]):=xra hlt _;have HB:Hid ((items.take (k+1)).foldl useB (fun _=>false)=useB ((items.take k).foldl useB (fun _=>false)) items[k]):=xga hlt _;generalize (items.take k).foldl useA use0=fa at *;generalize (items.take k).foldl useB (fun _=>false)=fb at *;cases hx:items[k] with
   | byte x=>
    rw [hx] at hit hok HA HB;obtain ⟨rfl,hn3⟩:=hit;have hxl:x<256:=hok;have ca:wr.cell? ⟨w.heap.size,x,none⟩=some (.bool (fa x)):=HR.out.ra.cell (i:=x) (by omega);have za:=HR.out.ra.frozen x;have HN:Hid (UsI w (upd fa x) fb (wr.setCell ⟨w.heap.size,x,none⟩ (.bool true))):=HR.out.setA x;clear HR hbel hok;go_wp2_with fail
    go_roundw
    case rel=>exact ⟨k+1,by omega,by go_num,by rw [HA.out,HB.out];exact HN⟩
    case measure=>simp [intOf];omega
   | copy n far=>
    rw [hx] at hit hok HA HB;obtain ⟨rfl,rfl⟩:=hit;obtain ⟨q1,q2,q3,q4⟩:=hok;obtain ⟨s1,s2,s3⟩:=y1z q1 q2;obtain ⟨t1,t2,t3⟩:=xx4 q3 q4;have HSP:Hid (∀ X,Calls Tryz.prog 72 #[.int .i64 n, .int .i64 3] X fun e w'=>e= .returned (.tuple #[.int .i64 (splK 3 n), .int .i64 ((n:Int) - Tr.spanLeast 3 (splK 3 n)), .int .i64 (Tr.spanBits (splK 3 n))])∧X=w'):=fun X=>z6j n 3 X q1 (Nat.lt_of_le_of_lt q2 (by decide)) (by omega)
    have HSQ:Hid (∀ X,Calls Tryz.prog 72 #[.int .i64 far, .int .i64 1] X fun e w'=>e= .returned (.tuple #[.int .i64 (splK 1 far), .int .i64 ((far:Int) - Tr.spanLeast 1 (splK 1 far)), .int .i64 (Tr.spanBits (splK 1 far))])∧X=w'):=fun X=>z6j far 1 X q3 (Nat.lt_of_le_of_lt q4 (by decide)) (by omega)
    have HUA:Hid (useA fa (.copy n far)=upd fa (257+splK 3 n)∧useB fb (.copy n far)=upd fb (splK 1 far)):=⟨rfl,rfl⟩
    have hn3:decide ((n:Int)<3)=false:=by simp;omega
    have s1':=s1;clear s2 s3 t2 t3;generalize (n:Int) - Tr.spanLeast 3 (splK 3 n)=m1 at *;generalize (far:Int) - Tr.spanLeast 1 (splK 1 far)=m2 at *;generalize Tr.spanBits (splK 3 n)=E1 at *;generalize Tr.spanBits (splK 1 far)=E2 at *;generalize splK 3 n=K1 at *;generalize splK 1 far=K2 at *;have ca:wr.cell? ⟨w.heap.size,257+K1,none⟩=some (.bool (fa (257+K1))):=HR.out.ra.cell (i:=257+K1) (by omega);have za:=HR.out.ra.frozen (257+K1);obtain ⟨W2,hW2⟩:∃ W2,W2=wr.setCell ⟨w.heap.size,257+K1,none⟩ (.bool true):=⟨_,rfl⟩
    have hU2:UsI w (upd fa (257+K1)) fb W2:=by rw [hW2];exact HR.out.setA (257+K1)
    obtain ⟨bl',o',xb',xn',xf',eb,hbl',c0',c1',c2',hit'⟩:=HI.out W2 hU2.bel k hlt;cases eb
    rw [hx] at hit';obtain ⟨rfl,rfl⟩:=hit';have cb:W2.cell? ⟨w.heap.size+1,K2,none⟩=some (.bool (fb K2)):=hU2.rb.cell (i:=K2) (by omega);have zb:=hU2.rb.frozen K2;have HN:Hid (UsI w (upd fa (257+K1)) (upd fb K2) (W2.setCell ⟨w.heap.size+1,K2,none⟩ (.bool true))):=hU2.setB K2;clear HR hbel hU2 c0' c1';go_upto_region 12 with (go_at_call 72;refine (HSP.out _).mono ?_;rintro e w' ⟨rfl,rfl⟩)
    rw [← hW2];clear hW2 c0 c1 c2 ca za;go_wp2_with (go_at_call 72;refine (HSQ.out _).mono ?_;rintro e w' ⟨rfl,rfl⟩)
    go_roundw
    case rel=>exact ⟨k+1,by omega,by go_num,by rw [HA.out,HB.out,HUA.out.1,HUA.out.2];exact HN⟩
    case measure=>simp [intOf];omega
  ·obtain rfl:k=items.length:=by omega
   have HN:Hid (UsI w (items.foldl useA use0) (items.foldl useB (fun _=>false)) wr):=by have:=HR.out;rw [List.take_length] at this;exact this
   clear HR;go_wp2_with fail
   exact bodyPost_ret (v:= .tuple #[.slice (some ⟨w.heap.size,0,none⟩) 269 269, .slice (some ⟨w.heap.size+1,0,none⟩) 16 16]) (by simp [results,Tryz.results65,go_sem]) rfl ⟨rfl,HN.out⟩
def yas(w:World)(ad:Option Addr)(n:Nat):Prop:=
 n<=9223372036854775807∧∀ k,k<n->∃ b o x,ad=some ⟨b,o,none⟩∧b<w.heap.size∧w.cell? ⟨b,o+k,none⟩=some (.int .i64 x)∧ -9223372036854775808<=x∧x<=9223372036854775807
def Own(w:World)(B g cap:Nat)(l:List Int):Prop:=w.ownsRow B 3 1 (.slice (some ⟨g,0,none⟩) l.length cap) l.length (l.map (Value.int .i64))
theorem Own.cell{w:World}{B g cap:Nat}{l:List Int}(h:Own w B g cap l){k:Nat}(hk:k<l.length):w.cell? ⟨g,k,none⟩=some (.int .i64 l[k]):=by
 rw [World.ownsRow.cellAt h k (by omega)];simp [hk]
theorem Own.cellV{w:World}{B g cap:Nat}{l:List Int}(h:Own w B g cap l){k:Nat}(hk:k<l.length):∃ x,w.cell? ⟨g,k,none⟩=some (.int .i64 x)∧Hid (l[k]=x):=⟨_,h.cell hk,show l[k]=l[k] from rfl⟩
theorem kst{w wr w1:World}{g cp k:Nat}{l:List Int}{y:Int}{v':Value}(hk:k<l.length)(hy:l[k]=y)(hlt:y<11)(hgood:Good l)
  (hown:Own wr w.heap.size g cp l) (hbel:Below w.heap.size w wr)
  (hown':w1.ownsRow w.heap.size 3 1 v' (l.length+1) ((l.map (Value.int .i64)).set k (.int .i64 (y+1))++[.int .i64 (y+1)]))
  (hgrow:((wr.setCell ⟨g,k,none⟩ (.int .i64 (y+1))).alloc (.cells #[.int .i64 (y+1)] 3)).grownBy w1 (Value.slice (some ⟨g,0,none⟩) l.length cp).ownBlock) :
  ∃ (g' cp':Nat) (l':List Int),v'= .slice (some ⟨g',0,none⟩) l'.length cp'∧l'.length=l.length+1∧Good l'∧Own w1 w.heap.size g' cp' l'∧Below w.heap.size w w1:=by
 have hg:w.heap.size<=g:=(hown.lt g rfl).1;have hlen:(l.set k (y+1)++[y+1]).length=l.length+1:=by simp
 have hmap:(l.map (Value.int .i64)).set k (.int .i64 (y+1))++[.int .i64 (y+1)]=(l.set k (y+1)++[y+1]).map (Value.int .i64):=by simp [List.map_set]
 rw [hmap] at hown';have hbel':Below w.heap.size w w1:=by
  refine ((hbel.setCell (p:=⟨g,k,none⟩) hg (.int .i64 (y+1))).alloc ?_ (.cells #[.int .i64 (y+1)] 3)).grown hgrow ?_ ?_
  ·have:=hbel.size;simpa using this
  ·have:=hbel.size;simp;omega
  ·intro j hj;simp [Value.ownBlock] at hj;omega
 have hgd:Good (l.set k (y+1)++[y+1]):=by
  have:=hgood.step hk (by omega);rw [hy] at this;exact this
 rcases hown'.2 with ⟨_,h0⟩ | ⟨g',cp',cur,hv,_⟩
 ·omega
 ·refine ⟨g',cp',l.set k (y+1)++[y+1],by rw [hlen];exact hv,hlen,hgd,?_,hbel'⟩;unfold Own;rw [hlen,← hv];exact hown'
theorem z3b(n:Nat)(ad:Option Addr)(len cap:Nat)(w:World)(hn:2<=n)(hn2:n<=269)(hp:yas w ad len) :
  Calls Tryz.prog 96 #[.int .i64 n, .int .i64 11, .slice ad len cap] w fun e w'=>∃ g cap' l,e= .returned (.slice (some ⟨g,0,none⟩) l.length cap')∧l.length=n∧Good l∧Own w' w.heap.size g cap' l∧Below w.heap.size w w':=by
 have HP:Hid (yas w ad len):=hp;have hlen:len<=9223372036854775807:=hp.1;clear hp;obtain ⟨i0,hi,hz0,hz1,hz2⟩:=info_parts ve2;go_enter Tryz.func96,Tryz.ntmps96
 go_wp2_with fail
 go_loopw [7,8] (fun v i wr=>∃ (g cp:Nat) (l:List Int),v= .slice (some ⟨g,0,none⟩) l.length cp∧1<=l.length∧l.length<=n∧i= .int .i64 (l.length - 1)∧Good l∧Own wr w.heap.size g cp l∧Below w.heap.size w wr) (fun _ i _=>n - (intOf i).toNat)
 case atStart=>exact ⟨w.heap.size,1,[0],rfl,by simp,by simp;omega,rfl,Good.one,World.ownsRow_lit w _ 1 (Nat.le_refl _) (by decide) rfl,(Below.refl _ _).alloc (Nat.le_refl _) _⟩
 case round=>
  obtain ⟨g,cp,l,rfl,hl1,hl2,rfl,hgood,hown,hbel⟩:=hrel;have HG:Hid (Good l):=hgood;clear hgood;by_cases hlt:l.length<n
  ·by_cases hq:l.length - 1<len
   ·obtain ⟨b,o,x,rfl,hb,hcell,hx0,hx1⟩:=HP.out.2 (l.length - 1) hq;have hcell':=(hbel.cell (p:=⟨b,o+(l.length - 1),none⟩) hb).trans hcell;clear hcell;by_cases hneg:x<0
    ·obtain ⟨k0,hk0,hm⟩:=vmd x l.length hneg (by omega);go_wp2_with fail
     clear hneg hcell';clear hm;obtain ⟨j,hj,hj11⟩:=HG.out.small (by omega);have HJ:Hid (l[j]<11):=hj11;clear hj11;go_loop [9] (fun i=>∃ k:Nat,k<l.length∧i= .int .i64 k) (fun i=>dist l.length (intOf i).toNat j)
     case atStart=>first | exact ⟨k0,hk0,rfl⟩ | exact ⟨0,by omega,rfl⟩
     case round=>
      obtain ⟨k,hk,rfl⟩:=hrel;obtain ⟨y,hc,hy⟩:=hown.cellV hk;have ⟨hy0,hy1⟩:0<=y∧y<=11:=by have:=HG.out.1 _ (List.getElem_mem hk);rw [hy.out] at this;exact this
      by_cases h11:11<=y
      ·go_wp2_with fail
       go_round
       case rel=>exact ⟨(k+1)%l.length,Nat.mod_lt _ (by omega),by rw [y2g]⟩
       case measure=>
        have hne:k≠j:=by intro e;subst e;have:=HJ.out;have:=hy.out;omega
        simp only [intOf];rw [y2g];exact k1p hk hj hne
      ·have hfr:=World.ownsRow.frozenAt hown k;have HS:=(World.ownsRow.stored hown k (.int .i64 (y+1))).1;go_wp2_with (first | (at_builtin;refine wpList_append_own _ rfl _ _ 69 rfl w.heap.size 3 i0 (.int .i64 0) 1 8 Tryz.underlying69 hi hz0 hz1 hz2 rfl (by decide) _ _ _ rfl (HS.alloc _) ⟨wr.heap.size,0,none⟩ 1 1 [.int .i64 (y+1)] rfl rfl ?qc1 ?qc2 ?qc3 ?qc4 ?qc5 ?_) | fail)
       case qc2=>rfl
       case qc3=>unfold maxLen;omega
       case qc4=>omega
       case qc5=>have:=hbel.size;omega
       intro v' w1 hown' hgrow _;obtain ⟨g',cp',l',hv,hl',hgood',hown2,hbel2⟩:=kst hk hy.out (by omega) HG.out hown hbel hown' hgrow;clear hown' hgrow HS hfr hc;have HG':Hid (Good l'):=hgood';have HL:Hid (l'.length=l.length+1):=hl';clear hgood' hl';rw [hv];clear hv;go_wp2_with fail
       go_roundw
       case rel=>exact ⟨g',cp',l',rfl,by have:=HL.out;omega,by have:=HL.out;omega,by rw [HL.out];go_num,HG'.out,hown2,hbel2⟩
       case measure=>have:=HL.out;simp [intOf];omega
    ·obtain ⟨k0,hk0,hm⟩:=kfi x l.length (by omega);go_wp2_with fail
     clear hneg hcell';clear hm;obtain ⟨j,hj,hj11⟩:=HG.out.small (by omega);have HJ:Hid (l[j]<11):=hj11;clear hj11;go_loop [9] (fun i=>∃ k:Nat,k<l.length∧i= .int .i64 k) (fun i=>dist l.length (intOf i).toNat j)
     case atStart=>first | exact ⟨k0,hk0,rfl⟩ | exact ⟨0,by omega,rfl⟩
     case round=>
      obtain ⟨k,hk,rfl⟩:=hrel;obtain ⟨y,hc,hy⟩:=hown.cellV hk;have ⟨hy0,hy1⟩:0<=y∧y<=11:=by have:=HG.out.1 _ (List.getElem_mem hk);rw [hy.out] at this;exact this
      by_cases h11:11<=y
      ·go_wp2_with fail
       go_round
       case rel=>exact ⟨(k+1)%l.length,Nat.mod_lt _ (by omega),by rw [y2g]⟩
       case measure=>
        have hne:k≠j:=by intro e;subst e;have:=HJ.out;have:=hy.out;omega
        simp only [intOf];rw [y2g];exact k1p hk hj hne
      ·have hfr:=World.ownsRow.frozenAt hown k;have HS:=(World.ownsRow.stored hown k (.int .i64 (y+1))).1;go_wp2_with (first | (at_builtin;refine wpList_append_own _ rfl _ _ 69 rfl w.heap.size 3 i0 (.int .i64 0) 1 8 Tryz.underlying69 hi hz0 hz1 hz2 rfl (by decide) _ _ _ rfl (HS.alloc _) ⟨wr.heap.size,0,none⟩ 1 1 [.int .i64 (y+1)] rfl rfl ?qd1 ?qd2 ?qd3 ?qd4 ?qd5 ?_) | fail)
       case qd2=>rfl
       case qd3=>unfold maxLen;omega
       case qd4=>omega
       case qd5=>have:=hbel.size;omega
       intro v' w1 hown' hgrow _;obtain ⟨g',cp',l',hv,hl',hgood',hown2,hbel2⟩:=kst hk hy.out (by omega) HG.out hown hbel hown' hgrow;clear hown' hgrow HS hfr hc;have HG':Hid (Good l'):=hgood';have HL:Hid (l'.length=l.length+1):=hl';clear hgood' hl';rw [hv];clear hv;go_wp2_with fail
       go_roundw
       case rel=>exact ⟨g',cp',l',rfl,by have:=HL.out;omega,by have:=HL.out;omega,by rw [HL.out];go_num,HG'.out,hown2,hbel2⟩
       case measure=>have:=HL.out;simp [intOf];omega
   ·obtain ⟨k0,hk0,hm⟩:=kfi 0 l.length (by omega);go_wp2_with fail
    clear hm;obtain ⟨j,hj,hj11⟩:=HG.out.small (by omega);have HJ:Hid (l[j]<11):=hj11;clear hj11;go_loop [9] (fun i=>∃ k:Nat,k<l.length∧i= .int .i64 k) (fun i=>dist l.length (intOf i).toNat j)
    case atStart=>first | exact ⟨k0,hk0,rfl⟩ | exact ⟨0,by omega,rfl⟩
    case round=>
     obtain ⟨k,hk,rfl⟩:=hrel;obtain ⟨y,hc,hy⟩:=hown.cellV hk;have ⟨hy0,hy1⟩:0<=y∧y<=11:=by have:=HG.out.1 _ (List.getElem_mem hk);rw [hy.out] at this;exact this
     by_cases h11:11<=y
     ·go_wp2_with fail
      go_round
      case rel=>exact ⟨(k+1)%l.length,Nat.mod_lt _ (by omega),by rw [y2g]⟩
      case measure=>
       have hne:k≠j:=by intro e;subst e;have:=HJ.out;have:=hy.out;omega
       simp only [intOf];rw [y2g];exact k1p hk hj hne
     ·have hfr:=World.ownsRow.frozenAt hown k;have HS:=(World.ownsRow.stored hown k (.int .i64 (y+1))).1;go_wp2_with (first | (at_builtin;refine wpList_append_own _ rfl _ _ 69 rfl w.heap.size 3 i0 (.int .i64 0) 1 8 Tryz.underlying69 hi hz0 hz1 hz2 rfl (by decide) _ _ _ rfl (HS.alloc _) ⟨wr.heap.size,0,none⟩ 1 1 [.int .i64 (y+1)] rfl rfl ?qe1 ?qe2 ?qe3 ?qe4 ?qe5 ?_) | fail)
      case qe2=>rfl
      case qe3=>unfold maxLen;omega
      case qe4=>omega
      case qe5=>have:=hbel.size;omega
      intro v' w1 hown' hgrow _;obtain ⟨g',cp',l',hv,hl',hgood',hown2,hbel2⟩:=kst hk hy.out (by omega) HG.out hown hbel hown' hgrow;clear hown' hgrow HS hfr hc;have HG':Hid (Good l'):=hgood';have HL:Hid (l'.length=l.length+1):=hl';clear hgood' hl';rw [hv];clear hv;go_wp2_with fail
      go_roundw
      case rel=>exact ⟨g',cp',l',rfl,by have:=HL.out;omega,by have:=HL.out;omega,by rw [HL.out];go_num,HG'.out,hown2,hbel2⟩
      case measure=>have:=HL.out;simp [intOf];omega
  ·go_wp2_with fail
   go_ret
   exact ⟨g,cp,l,rfl,by omega,HG.out,hown,hbel⟩
def cnt(f:Nat->Bool):Nat->Nat
 | 0=>0
 | k+1=>cnt f k+if f k then 1 else 0
theorem kso{f:Nat->Bool}{k:Nat}(h:f k=true):cnt f (k+1)=cnt f k+1:=by rw [cnt,h];rfl
theorem ysl{f:Nat->Bool}{k:Nat}(h:f k=false):cnt f (k+1)=cnt f k:=by rw [cnt,h];rfl
theorem ztd(f:Nat->Bool):∀ k,cnt f k<=k
 | 0=>Nat.le_refl _
 | k+1=>by
  have:=ztd f k;rw [cnt];split <;> omega
theorem zqr(f:Nat->Bool)(k:Nat):∀ d,cnt f k<=cnt f (k+d)
 | 0=>Nat.le_refl _
 | d+1=>by
  have:=zqr f k d;show _<=cnt f (k+d)+_;omega
theorem jjz{f:Nat->Bool}{k n:Nat}(h:f k=true)(hk:k<n):cnt f k<cnt f n:=by
 have h1:=zqr f (k+1) (n - (k+1));rw [show k+1+(n - (k+1))=n by omega,kso h] at h1;omega
def sprI(f:Nat->Bool)(l:List Int)(i:Nat):Int:=if f i then l.getD (cnt f i) 0 else 0
def sprL(f:Nat->Bool)(l:List Int)(n:Nat):List Int:=(List.range n).map (sprI f l)
theorem z9w(f:Nat->Bool)(l:List Int)(n:Nat):(sprL f l n).length=n:=by simp [sprL]
theorem jny{f:Nat->Bool}{l:List Int}{n k:Nat}(h:k<n):(sprL f l n).getD k 0=sprI f l k:=by simp [sprL,h]
def SprK(c:Nat)(l:List Int):Prop:=c=0∨(c=1∧l=[1])∨(2<=c∧l.length=c∧Good l)
structure SprI(w WX:World)(f:Nat->Bool)(l:List Int)(n k:Nat)(wr:World):Prop where
 row:wr.rowIs w.heap.size 3 n (fun j=> .int .i64 (if j<k then sprI f l j else 0))
 blk:∀ b,b<WX.heap.size->b≠w.heap.size->wr.heap[b]?=WX.heap[b]?
 bel:Below w.heap.size w wr
theorem SprI.skip{w WX:World}{f:Nat->Bool}{l:List Int}{n k:Nat}{wr:World}(h:SprI w WX f l n k wr)(hf:f k=false):SprI w WX f l n (k+1) wr:=by
 refine ⟨h.row.congr (fun j _=>?_),h.blk,h.bel⟩;by_cases e:j=k
 ·subst e;have:sprI f l j=0:=by unfold sprI;rw [hf];rfl
  simp [this]
 ·by_cases e2:j<k
  ·rw [if_pos e2,if_pos (by omega)]
  ·rw [if_neg e2,if_neg (by omega)]
theorem SprI.put{w WX:World}{f:Nat->Bool}{l:List Int}{n k:Nat}{wr:World}(h:SprI w WX f l n k wr)(hf:f k=true):SprI w WX f l n (k+1) (wr.setCell ⟨w.heap.size,k,none⟩ (.int .i64 (l.getD (cnt f k) 0))):=by
 refine ⟨(h.row.set k _).congr (fun j _=>?_),fun b hb hne=>?_,h.bel.setCell (Nat.le_refl _) _⟩
 ·by_cases e:j=k
  ·subst e;have:sprI f l j=l.getD (cnt f j) 0:=by unfold sprI;rw [hf];rfl
   simp [this]
  ·by_cases e2:j<k
   ·simp [e,e2,show j<k+1 by omega]
   ·simp [e,e2,show ¬ j<k+1 by omega]
 ·rw [Below.heap_setCell _ _ _ _ hne];exact h.blk b hb hne
theorem SprI.done{w WX:World}{f:Nat->Bool}{l:List Int}{n:Nat}{wr:World}(h:SprI w WX f l n n wr):NewL w wr w.heap.size n (sprL f l n):=by
 refine ⟨fun k hk=>?_,Nat.le_refl _,h.row.lt,h.bel⟩;rw [z9w] at hk;refine ⟨w.heap.size,0,rfl,h.row.lt,?_⟩;have:=h.row.cell (i:=k) hk;simp only [hk,if_true] at this;rw [Nat.zero_add,jny hk];exact this
theorem jrg(f:Nat->Bool)(gu n:Nat)(ap:Option Addr)(np cp:Nat)(w:World)(hu:w.rowIs gu 4 n (fun j=> .bool (f j)))(hgu:gu<w.heap.size)(hn:n<=269)(hp:yas w ap np) :
  Calls Tryz.prog 66 #[.slice (some ⟨gu,0,none⟩) n n, .slice ap np cp, .int .i64 11] w fun e w'=>∃ g l,e= .returned (.slice (some ⟨g,0,none⟩) n n)∧SprK (cnt f n) l∧NewL w w' g n (sprL f l n):=by
 have HU:Hid (∀ k,k<n->w.cell? ⟨gu,k,none⟩=some (.bool (f k))):=fun k hk=>hu.cell (i:=k) hk
 have HP:Hid (yas w ap np):=hp;clear hu hp;have hmk:=run_make_row' (P:=Tryz.prog) 69 3 (.int .i64 0) 8 Tryz.underlying69 ve2 rfl .i64 .i64 n (by omega) (by omega);go_enter Tryz.func66,Tryz.ntmps66
 go_wp2_with fail
 go_loop [7,8] (fun x i=>∃ k:Nat,k<=n∧i= .int .i64 k∧x= .int .i64 (cnt f k)) (fun _ i=>n - (intOf i).toNat)
 case atStart=>exact ⟨0,Nat.zero_le _,rfl,rfl⟩
 case round=>
  obtain ⟨k,hk,rfl,rfl⟩:=hrel;have hcb:=ztd f k;by_cases hlt:k<n
  ·have cu:=HU.out k hlt;cases hf:f k with
   | false=>
    rw [hf] at cu;have HC:Hid (cnt f (k+1)=cnt f k):=ysl hf;clear hf;go_wp2_with fail
    go_round
    case rel=>exact ⟨k+1,by omega,by go_num,by rw [HC.out]⟩
    case measure=>simp [intOf];omega
   | true=>
    rw [hf] at cu;have HC:Hid (cnt f (k+1)=cnt f k+1):=kso hf;clear hf;generalize cnt f k=C at *;go_wp2_with fail
    go_round
    case rel=>exact ⟨k+1,by omega,by go_num,by rw [HC.out];go_num⟩
    case measure=>simp [intOf];omega
  ·obtain rfl:n=k:=by omega
   obtain ⟨W1,hW1⟩:∃ W1,W1=w.alloc (.cells (madeCells #[.int .i64 0] n) 3):=⟨_,rfl⟩
   have hz1:W1.heap.size=w.heap.size+1:=by rw [hW1];simp
   have hr1:W1.rowIs w.heap.size 3 n (fun _=> .int .i64 0):=by rw [hW1];exact World.rowIs_made w _ n _
   have hb1:Below w.heap.size w W1:=by rw [hW1];exact (Below.refl _ _).alloc (Nat.le_refl _) _
   by_cases h0:cnt f n=0
   ·have HN:Hid (NewL w W1 w.heap.size n (sprL f [] n)):=by
     refine SprI.done (WX:=W1) ⟨hr1.congr (fun j hj=>?_),fun _ _ _=>rfl,hb1⟩;have:sprI f [] j=0:=by unfold sprI;split <;> rfl
     simp [this]
    have HK:Hid (SprK (cnt f n) []):=Or.inl h0;rw [h0];clear h0 hr1 hb1;go_wp2_with fail
    rw [← hW1];go_ret
    exact ⟨w.heap.size,rfl,[],HK.out,HN.out⟩
   ·obtain ⟨W2,hW2⟩:∃ W2,W2=W1.alloc (.cells #[.int .i64 1] 3):=⟨_,rfl⟩
    have hz2:W2.heap.size=w.heap.size+2:=by rw [hW2];simp [hz1]
    have hb12:Below W1.heap.size W1 W2:=by rw [hW2];exact (Below.refl _ _).alloc (Nat.le_refl _) _
    have hb2:Below w.heap.size w W2:=hb1.trans (hb12.mono hb1.size);have hr2:W2.rowIs w.heap.size 3 n (fun _=> .int .i64 0):=by rw [hW2];exact hr1.alloc _
    by_cases h1:cnt f n=1
    ·obtain ⟨l,hl⟩:∃ l:List Int,l=[1]:=⟨_,rfl⟩
     obtain ⟨gl,hgl⟩:∃ gl,gl=W1.heap.size:=⟨_,rfl⟩
     obtain ⟨WX,hWX⟩:∃ WX,WX=W2:=⟨_,rfl⟩
     have HL1:Hid (l.length=1):=by show _=_;rw [hl];rfl
     have HLl:Hid (l.length=cnt f n):=by show _=_;rw [h1,hl];rfl
     have HG:Hid (gl<WX.heap.size∧gl≠w.heap.size):=⟨by rw [hWX];omega,by omega⟩
     have HLc:Hid (∀ j,j<l.length->WX.cell? ⟨gl,j,none⟩=some (.int .i64 (l.getD j 0))):=fun j hj=>by
      have:j=0:=by rw [hl] at hj;simpa using hj
      subst this;rw [hWX,hW2,hgl,hl,cell_of_row _ _ 0 _ _ _ (heap_alloc_new W1 _)];rfl
     have HS:Hid (SprI w WX f l n 0 WX):=⟨by rw [hWX];exact hr2.congr (fun j _=>by simp),fun _ _ _=>rfl,by rw [hWX];exact hb2⟩
     have HK:Hid (SprK (cnt f n) l):=Or.inr (Or.inl ⟨h1,hl⟩);rw [h1];clear h0 h1 hr1 hb1 hr2 hb2 hb12;have hgl2:w.heap.size+1=gl:=by omega
     have HW:Hid (W1=w.alloc (.cells (madeCells #[.int .i64 0] n) 3)∧W2=W1.alloc (.cells #[.int .i64 1] 3)∧WX=W2∧w.heap.size+1=gl):=⟨hW1,hW2,hWX,hgl2⟩
     clear hW1 hW2 hgl hWX hz1 hz2 hl hgl2;go_wp2_with fail
     rw [← HW.out.1,← HW.out.2.1,← HW.out.2.2.1,HW.out.2.2.2];clear HW;go_loopw [11,12] (fun a i wr=>∃ k:Nat,k<=n∧i= .int .i64 k∧a= .int .i64 (cnt f k)∧Hid (SprI w WX f l n k wr)) (fun _ i _=>n - (intOf i).toNat)
     case atStart=>exact ⟨0,Nat.zero_le _,rfl,rfl,HS⟩
     case round=>
      obtain ⟨k,hk,rfl,rfl,HR⟩:=hrel;clear HS;have hcb:=ztd f k;by_cases hlt:k<n
      ·have cu:wr.cell? ⟨gu,k,none⟩=some (.bool (f k)):=(HR.out.bel.cell (p:=⟨gu,k,none⟩) hgu).trans (HU.out k hlt);cases hf:f k with
       | false=>
        rw [hf] at cu;have HC:Hid (cnt f (k+1)=cnt f k):=ysl hf;have HN:Hid (SprI w WX f l n (k+1) wr):=HR.out.skip hf;clear HR hf;go_wp2_with fail
        go_roundw
        case rel=>exact ⟨k+1,by omega,by go_num,by rw [HC.out],HN⟩
        case measure=>simp [intOf];omega
       | true=>
        rw [hf] at cu;have HC:Hid (cnt f (k+1)=cnt f k+1):=kso hf;have hcl:cnt f k<l.length:=by rw [HLl.out];exact jjz hf hlt
        have hcl2:cnt f k<1:=by have:=HLl.out;have:=HL1.out;omega
        have cl:wr.cell? ⟨gl,cnt f k,none⟩=some (.int .i64 (l.getD (cnt f k) 0)):=by
         rw [World.cell?_of_block (HR.out.blk gl HG.out.1 HG.out.2)];exact HLc.out _ hcl
        have co:wr.cell? ⟨w.heap.size,k,none⟩=some (.int .i64 0):=by
         have:=HR.out.row.cell (i:=k) hlt;simpa using this
        have zo:=HR.out.row.frozen k;have HN:Hid (SprI w WX f l n (k+1) (wr.setCell ⟨w.heap.size,k,none⟩ (.int .i64 (l.getD (cnt f k) 0)))):=HR.out.put hf;generalize l.getD (cnt f k) 0=y at *;generalize cnt f k=C at *;clear HR hf;go_wp2_with fail
        go_roundw
        case rel=>exact ⟨k+1,by omega,by go_num,by rw [HC.out];go_num,HN⟩
        case measure=>simp [intOf];omega
      ·obtain rfl:n=k:=by omega
       have HN:Hid (NewL w wr w.heap.size n (sprL f l n)):=HR.out.done;clear HR;go_wp2_with fail
       go_ret
       first | exact ⟨w.heap.size,l,rfl,HK.out,HN.out⟩ | exact ⟨w.heap.size,rfl,l,HK.out,HN.out⟩
    ·have h2:2<=cnt f n:=by omega
     have hcn:=ztd f n;have HT:Hid (Calls Tryz.prog 96 #[.int .i64 (cnt f n), .int .i64 11, .slice ap np cp] W2 fun e w'=>∃ g cap' l,e= .returned (.slice (some ⟨g,0,none⟩) l.length cap')∧l.length=cnt f n∧Good l∧Own w' W2.heap.size g cap' l∧Below W2.heap.size W2 w'):=by
      refine z3b (cnt f n) ap np cp W2 h2 (by omega) ⟨HP.out.1,fun k hk=>?_⟩;obtain ⟨b,o,x,e,hb,hc,hx⟩:=HP.out.2 k hk;exact ⟨b,o,x,e,Nat.lt_of_lt_of_le hb hb2.size,(hb2.cell (p:=⟨b,o+k,none⟩) hb).trans hc,hx⟩
     have HW:Hid (W1=w.alloc (.cells (madeCells #[.int .i64 0] n) 3)∧W2=W1.alloc (.cells #[.int .i64 1] 3)∧W2.heap.size=w.heap.size+2∧W2.rowIs w.heap.size 3 n (fun _=> .int .i64 0)∧Below w.heap.size w W2):=⟨hW1,hW2,hz2,hr2,hb2⟩
     have HK2:Hid (2<=cnt f n):=h2;obtain ⟨c,hc⟩:∃ c,c=cnt f n:=⟨_,rfl⟩
     have HCN:Hid (c=cnt f n):=hc;rw [← hc] at HT h2 hcn;rw [← hc];clear hW1 hW2 hz1 hz2 hr1 hr2 hb1 hb2 hb12 h0 h1 hc hcb;have hce:((c:Int)==0)=false:=by simp;omega
     have hc1:decide ((1:Int)<(c:Int))=true:=by simp;omega
     go_wp2_with (go_at_call 96;rw [← HW.out.1,← HW.out.2.1];refine HT.out.mono ?_;rintro e WX ⟨gl,cl0,l,rfl,hll,hgood,hown,hbel⟩;have HO:Hid (l.length=c∧Good l∧Own WX W2.heap.size gl cl0 l∧Below W2.heap.size W2 WX):=⟨hll,hgood,hown,hbel⟩;clear hll hgood hown hbel)
     have HLl:Hid (l.length=cnt f n):=by show _=_;rw [← HCN.out];exact HO.out.1
     have HG:Hid (gl<WX.heap.size∧gl≠w.heap.size):=by
      obtain ⟨_,_,o1,o2⟩:=HO.out;have:=o1.lt gl rfl;have:=HW.out.2.2.1;exact ⟨by omega,by omega⟩
     have HLc:Hid (∀ j,j<l.length->WX.cell? ⟨gl,j,none⟩=some (.int .i64 (l.getD j 0))):=fun j hj=>by
      rw [HO.out.2.2.1.cell hj];simp [hj]
     have HS:Hid (SprI w WX f l n 0 WX):=by
      obtain ⟨_,_,z2,r2,b2⟩:=HW.out;obtain ⟨_,_,_,o2⟩:=HO.out;exact ⟨(r2.of_block (j1i o2 (by omega))).congr (fun j _=>by simp),fun _ _ _=>rfl,b2.trans (o2.mono b2.size)⟩
     have HK:Hid (SprK (cnt f n) l):=Or.inr (Or.inr ⟨HK2.out,HLl.out,HO.out.2.1⟩);have hll:l.length<=269:=by have:=HO.out.1;omega
     clear HW HT HO HCN HK2 hce hc1 h2 hcn;go_loopw [11,12] (fun a i wr=>∃ k:Nat,k<=n∧i= .int .i64 k∧a= .int .i64 (cnt f k)∧Hid (SprI w WX f l n k wr)) (fun _ i _=>n - (intOf i).toNat)
     case atStart=>exact ⟨0,Nat.zero_le _,rfl,rfl,HS⟩
     case round=>
      obtain ⟨k,hk,rfl,rfl,HR⟩:=hrel;clear HS;have hcb:=ztd f k;by_cases hlt:k<n
      ·have cu:wr.cell? ⟨gu,k,none⟩=some (.bool (f k)):=(HR.out.bel.cell (p:=⟨gu,k,none⟩) hgu).trans (HU.out k hlt);cases hf:f k with
       | false=>
        rw [hf] at cu;have HC:Hid (cnt f (k+1)=cnt f k):=ysl hf;have HN:Hid (SprI w WX f l n (k+1) wr):=HR.out.skip hf;clear HR hf;go_wp2_with fail
        go_roundw
        case rel=>exact ⟨k+1,by omega,by go_num,by rw [HC.out],HN⟩
        case measure=>simp [intOf];omega
       | true=>
        rw [hf] at cu;have HC:Hid (cnt f (k+1)=cnt f k+1):=kso hf;have hcl:cnt f k<l.length:=by rw [HLl.out];exact jjz hf hlt
        have cl:wr.cell? ⟨gl,cnt f k,none⟩=some (.int .i64 (l.getD (cnt f k) 0)):=by
         rw [World.cell?_of_block (HR.out.blk gl HG.out.1 HG.out.2)];exact HLc.out _ hcl
        have co:wr.cell? ⟨w.heap.size,k,none⟩=some (.int .i64 0):=by
         have:=HR.out.row.cell (i:=k) hlt;simpa using this
        have zo:=HR.out.row.frozen k;have HN:Hid (SprI w WX f l n (k+1) (wr.setCell ⟨w.heap.size,k,none⟩ (.int .i64 (l.getD (cnt f k) 0)))):=HR.out.put hf;generalize l.getD (cnt f k) 0=y at *;generalize cnt f k=C at *;clear HR hf;go_wp2_with fail
        go_roundw
        case rel=>exact ⟨k+1,by omega,by go_num,by rw [HC.out];go_num,HN⟩
        case measure=>simp [intOf];omega
      ·obtain rfl:n=k:=by omega
       have HN:Hid (NewL w wr w.heap.size n (sprL f l n)):=HR.out.done;clear HR;go_wp2_with fail
       go_ret
       first | exact ⟨w.heap.size,l,rfl,HK.out,HN.out⟩ | exact ⟨w.heap.size,rfl,l,HK.out,HN.out⟩
theorem vaz(f:Nat->Bool)(l:List Int)(n:Nat):sprL f l (n+1)=sprL f l n++[sprI f l n]:=by
 unfold sprL;rw [List.range_succ,List.map_append];rfl
theorem k1u(g:Nat->Int)(f:Nat->Bool)(l:List Int)(n:Nat)(h:cnt f n<=l.length):jwa g (sprL f l n)=jwa g (l.take (cnt f n)):=by
 induction n with
 | zero=>rfl
 | succ n ih=>
  rw [vaz,ypm];cases hf:f n with
  | false=>
   rw [ysl hf] at h ⊢;have e:sprI f l n=0:=by unfold sprI;rw [hf];rfl
   rw [ih h,e];simp [jwa]
  | true=>
   rw [kso hf] at h ⊢;have e:sprI f l n=l[cnt f n]:=by unfold sprI;rw [hf];simp [show cnt f n<l.length by omega]
   rw [ih (by omega),e,List.take_succ_eq_append_getElem (by omega),ypm]
theorem Good.sum{l:List Int}(h:Good l)(hl:2<=l.length):jwa gw l=2048:=by
 have e:gw=fun j=>2^(11 - j):=by
  funext j
  unfold gw;simp
 rw [e,z6q l (h.pos hl),h.2];rfl
theorem SprK.len{c:Nat}{l:List Int}(h:SprK c l):c=0∨c=l.length:=by
 rcases h with h | ⟨h,rfl⟩ | ⟨_,h,_⟩
 ·exact Or.inl h
 ·exact Or.inr h
 ·exact Or.inr h.symm
theorem SprK.sums{f:Nat->Bool}{n:Nat}{l:List Int}(h:SprK (cnt f n) l)(g:Nat->Int):jwa g (sprL f l n)=if cnt f n=0 then 0 else jwa g l:=by
 rcases h.len with e | e
 ·rw [k1u g f l n (by omega),e];rfl
 ·rw [k1u g f l n (by omega),e,List.take_length];split
  ·rename_i h0
   have:l=[]:=List.length_eq_zero_iff.1 h0;rw [this];rfl
  ·rfl
theorem SprK.full{f:Nat->Bool}{n:Nat}{l:List Int}(h:SprK (cnt f n) l)(h2:2<=cnt f n):jwa gw (sprL f l n)=2048:=by
 rw [h.sums,if_neg (by omega)];rcases h with h | ⟨h,_⟩ | ⟨_,h3,h4⟩
 ·omega
 ·omega
 ·exact h4.sum (by omega)
theorem SprK.any{f:Nat->Bool}{n:Nat}{l:List Int}(h:SprK (cnt f n) l):jwa gw (sprL f l n)=2048∨ky9 (sprL f l n)=true∨jwa (fun _=>1) (sprL f l n)=0:=by
 rcases h with h | ⟨h,e⟩ | ⟨h,h3,h4⟩
 ·exact Or.inr (Or.inr (by rw [SprK.sums (Or.inl h),if_pos h]))
 ·refine Or.inr (Or.inl ?_);have hk:SprK (cnt f n) l:=Or.inr (Or.inl ⟨h,e⟩);unfold ky9;rw [hk.sums,hk.sums,if_neg (by omega),if_neg (by omega),e];decide
 ·exact Or.inl (SprK.full (Or.inr (Or.inr ⟨h,h3,h4⟩)) h)
theorem SprK.pos{c:Nat}{l:List Int}(h:SprK c l){k:Nat}(hk:k<c):∃ hl:k<l.length,1<=l[k]∧l[k]<=11:=by
 rcases h with h | ⟨h,rfl⟩ | ⟨h,h3,h4⟩
 ·omega
 ·have:k=0:=by omega
  subst this;exact ⟨by decide,by decide,by decide⟩
 ·have hl:k<l.length:=by omega
  exact ⟨hl,h4.pos (by omega) _ (List.getElem_mem hl),(h4.1 _ (List.getElem_mem hl)).2⟩
theorem SprK.at{f:Nat->Bool}{n:Nat}{l:List Int}(h:SprK (cnt f n) l){j:Nat}(hj:j<n):(f j=true->1<=sprI f l j∧sprI f l j<=11)∧(f j=false->sprI f l j=0):=by
 refine ⟨fun hf=>?_,fun hf=>by unfold sprI;rw [hf];rfl⟩;obtain ⟨hl,h1,h2⟩:=h.pos (jjz hf hj);have e:sprI f l j=l[cnt f j]:=by unfold sprI;rw [hf];simp [hl]
 rw [e];exact ⟨h1,h2⟩
theorem SprK.range{f:Nat->Bool}{n:Nat}{l:List Int}(h:SprK (cnt f n) l):inRange (sprL f l n)=true:=by
 rw [vto];intro x hx;simp [sprL] at hx;obtain ⟨j,hj,rfl⟩:=hx;cases hf:f j with
 | true=>have:=(h.at hj).1 hf;omega
 | false=>rw [(h.at hj).2 hf];omega
theorem SprK.has{f:Nat->Bool}{n:Nat}{l:List Int}(h:SprK (cnt f n) l){j:Nat}(hj:j<n)(hf:f j=true):Has (sprL f l n) j:=by
 refine ⟨by rw [z9w];exact hj,?_⟩;rw [jny hj];have:=(h.at hj).1 hf;omega
theorem kit(f:Nat->Bool)(k:Nat):upd f k k=true:=if_pos rfl
theorem ym1{f:Nat->Bool}{k j:Nat}(h:f j=true):upd f k j=true:=by unfold upd;split <;> first | rfl | exact h
theorem kr8{f:Nat->Bool}{x:It}{j:Nat}(h:f j=true):useA f x j=true:=by cases x <;> exact ym1 h
theorem ymj{f:Nat->Bool}{x:It}{j:Nat}(h:f j=true):useB f x j=true:=by
 cases x with
 | byte x=>exact h
 | copy n far=>exact ym1 h
theorem zyq(items:List It):∀ {f:Nat->Bool} {j:Nat},f j=true->items.foldl useA f j=true:=by
 induction items with
 | nil=>exact fun h=>h
 | cons x xs ih=>exact fun h=>ih (kr8 h)
theorem ysx(items:List It):∀ {f:Nat->Bool} {j:Nat},f j=true->items.foldl useB f j=true:=by
 induction items with
 | nil=>exact fun h=>h
 | cons x xs ih=>exact fun h=>ih (ymj h)
def Asks(fa fb:Nat->Bool):It->Prop
 | .byte x=>fa x=true
 | .copy n far=>fa (257+splK 3 n)=true∧fb (splK 1 far)=true
theorem kwm(items:List It):∀ {fa fb:Nat->Bool},∀ x∈items,Asks (items.foldl useA fa) (items.foldl useB fb) x:=by
 induction items with
 | nil=>intro _ _ x hx;cases hx
 | cons y ys ih=>
  intro fa fb x hx;rcases List.mem_cons.1 hx with rfl | hx
  ·cases x with
   | byte b=>exact zyq ys (kit _ _)
   | copy n far=>exact ⟨zyq ys (kit _ _),ysx ys (kit _ _)⟩
  ·exact ih x hx
structure OwnK(items:List It)(a b:List Int):Prop where
 la:a.length=269
 lb:b.length=16
 ra:inRange a=true
 rb:inRange b=true
 bad:¬ jcj a b
 has:∀ x∈items,xqf a b x
 two:Two2 a b
 h256:Has a 256
 ok:∀ x∈items,x04 a b x
theorem vs9{f:Nat->Bool}(h0:f 0=true)(h1:f 256=true):2<=cnt f 269:=by
 have a1:cnt f 0<cnt f 256:=jjz h0 (by decide);have a2:cnt f 256<cnt f 269:=jjz h1 (by decide);omega
theorem vyz{n far:Nat}(h:3<=n∧n<=66∧1<=far∧far<=256):splK 3 n<12∧splK 1 far<16:=⟨(y1z h.1 h.2.1).1,(xx4 h.2.2.1 h.2.2.2).1⟩
theorem z08{f:Nat->Bool}{n:Nat}{l:List Int}(h:SprK (cnt f n) l):jwa gw (sprL f l n)<=2048:=by
 rw [h.sums];split
 ·decide
 ·rcases h with h | ⟨h,rfl⟩ | ⟨h,h3,h4⟩
  ·omega
  ·decide
  ·rw [h4.sum (by omega)];exact Int.le_refl _
theorem zab{items:List It}{la lb:List Int}(ha:SprK (cnt (items.foldl useA use0) 269) la)(hb:SprK (cnt (items.foldl useB (fun _=>false)) 16) lb)(hok:∀ x∈items,kg7 x) :
  OwnK items (sprL (items.foldl useA use0) la 269) (sprL (items.foldl useB (fun _=>false)) lb 16):=by
 have t0:items.foldl useA use0 0=true:=zyq items (kit _ _);have t1:items.foldl useA use0 256=true:=zyq items (ym1 (kit _ _));have full:=ha.full (vs9 t0 t1);have has:=fun x hx=>kwm items (fa:=use0) (fb:=fun _=>false) x hx
 have hIt:∀ x∈items,xqf (sprL (items.foldl useA use0) la 269) (sprL (items.foldl useB (fun _=>false)) lb 16) x:=fun x hx=>by
  have h1:=has x hx;have h2:=hok x hx;cases x with
  | byte y=>exact ha.has (by have h3:y<256:=h2;omega) h1
  | copy n far=>
   obtain ⟨b1,b2⟩:=vyz h2;exact ⟨ha.has (by omega) h1.1,hb.has (by omega) h1.2⟩
 refine ⟨z9w _ _ _,z9w _ _ _,ha.range,hb.range,?_,hIt,⟨ha.range,by omega,by rw [z9w];omega,hb.range,z08 hb,by rw [z9w];omega⟩,ha.has (by decide) t1,fun x hx=>?_⟩
 ·have h256:=(ha.has (j:=256) (by decide) t1).2;rintro (h | h | ⟨h1,h2,h3⟩)
  ·omega
  ·exact h full
  ·rcases hb.any with h | h | h
   ·exact h1 h
   ·rw [h] at h2;cases h2
   ·omega
 ·have h1:=hIt x hx;have h2:=hok x hx;cases x with
  | byte y=>exact ⟨h2,h1⟩
  | copy n far=>exact ⟨h2,h1⟩
theorem yas.below{w w':World}{ad:Option Addr}{n:Nat}(h:yas w ad n)(b:Below w.heap.size w w'):yas w' ad n:=⟨h.1,fun k hk=>by
 obtain ⟨bl,o,x,e,hb,hc,hx⟩:=h.2 k hk;exact ⟨bl,o,x,e,Nat.lt_of_lt_of_le hb b.size,(b.cell (p:=⟨bl,o+k,none⟩) hb).trans hc,hx⟩⟩
theorem kic{w:World}{g:Nat}{l:List Int}(h:xin w (some ⟨g,0,none⟩) l):∀ (j:Nat) (u:Value),(k2f l)[j]?=some u->w.cell? ((⟨g,0,none⟩:Addr).add j)=some u:=by
 intro j u hu;have hj:j<l.length:=by
  rcases Nat.lt_or_ge j l.length with h' | h'
  ·exact h'
  ·simp [k2f,h'] at hu
 obtain ⟨b,o,e,_,hc⟩:=h j hj;simp only [Option.some.injEq,Addr.mk.injEq,and_true] at e;have e1:(⟨g,0,none⟩:Addr).add j=⟨b,o+j,none⟩:=by rw [e.1,← e.2];unfold Addr.add;by_cases hj0:j=0 <;> simp [hj0]
 rw [e1,hc];simpa [k2f,hj] using hu
theorem y7u{w w':World}{g:Nat}(h:w.grownBy w' none)(hg:g<w.heap.size)(j:Nat):w'.cell? ((⟨g,0,none⟩:Addr).add j)=w.cell? ((⟨g,0,none⟩:Addr).add j):=by
 have e:((⟨g,0,none⟩:Addr).add j).block=g:=by unfold Addr.add;split <;> rfl
 exact World.cell?_of_block (by rw [e];exact h.block g hg (by simp))
theorem k9r{a b:List Int}(ha:inRange a=true)(hb:inRange b=true):inRange (a++b)=true:=by
 unfold inRange at *;rw [List.all_append,ha,hb];rfl
theorem k13(runs:Bool)(l:List Int)(f i:Nat):(rowB runs l f i).length<=20*(f+1):=by
 induction f generalizing i with
 | zero=>show ([]:List Nat).length<=_;simp
 | succ f ih=>
  have hs:=fun k=>jvf y5q.1 k
  unfold rowB;split
  ·split
   ·rw [List.length_append,List.length_append,vxm];have:=hs 14;have:=ih (i+min (kmg l i) 74);omega
   ·split
    ·rw [List.length_append,List.length_append,vxm];have:=hs 13;have:=ih (i+kmg l i);omega
    ·split
     ·rw [List.length_append,List.length_append,vxm];have:=hs 12;have:=ih (i+min (kmg l i) 6);omega
     ·rw [List.length_append];have:=hs (l.getD i 0).toNat;have:=ih (i+1);omega
  ·simp
def ordH:List Int:=[13,14,12,0,7,8,6,9,5,10,4,11,3,2,1]
theorem xj0{k:Nat}(h:k<15):∃ j:Nat,ordH.getD k 0=(j:Int)∧j<15∧xg3.getD j 0=((vsh.getD k 0:Nat):Int)∧vsh.getD k 0<=4:=by
 have:k=0∨k=1∨k=2∨k=3∨k=4∨k=5∨k=6∨k=7∨k=8∨k=9∨k=10∨k=11∨k=12∨k=13∨k=14:=by omega
 rcases this with rfl | rfl | rfl | rfl | rfl | rfl | rfl | rfl | rfl | rfl | rfl | rfl | rfl | rfl | rfl <;> exact ⟨_,rfl,by decide,by decide,by decide⟩
theorem ksf{k:Nat}(hk:k<15):(vsh.take (k+1)).flatMap (fun v=>v06 v 3)=(vsh.take k).flatMap (fun v=>v06 v 3)++v06 (vsh.getD k 0) 3:=by
 have hl:k<vsh.length:=hk;rw [List.take_succ_eq_append_getElem hl,List.flatMap_append,List.flatMap_cons,List.flatMap_nil,List.append_nil];congr 2
 simp [List.getD_eq_getElem?_getD,hl]
theorem j4m(k:Nat)(hk:k<=15):((vsh.take k).flatMap (fun v=>v06 v 3)).length=3*k:=by
 induction k with
 | zero=>rfl
 | succ k ih=>rw [ksf (by omega),List.length_append,ih (by omega),vxm];omega
theorem zij{B p:Nat}{v:Value}{bits:List Nat}(last runs:Bool)(ai ap:Option Addr)(ci np cp:Nat)(items:List It)(w:World)(h:BB B p v bits w)(hI:k1n w ai items)(xi:k3a w p v ai)(hp:yas w ap np)(hok:∀ x∈items,kg7 x)(hil:items.length<=10000000)(hlen:bits.length<=700000000000) :
  Calls Tryz.prog 40 #[.pointer (some ⟨p,0,none⟩), .bool last, .slice ai items.length ci, .slice ap np cp, .bool runs] w fun e w'=>e= .returned (.tuple #[])∧∃ a b,OwnK items a b∧BBE B p v (bits++blkB bits.length (if last then 1 else 0) (.own runs a b items)) w w':=by
 have H0:Hid (BB B p v bits w∧k1n w ai items∧k3a w p v ai∧yas w ap np∧(∀ x∈items,kg7 x)):=⟨h,hI,xi,hp,hok⟩
 clear h hI xi hp hok;obtain ⟨u,hu⟩:∃ u,u=(if last=true then 1 else 0):=⟨_,rfl⟩
 have HC:Hid (∀ W,BB B p v bits W->Calls Tryz.prog 42 #[.pointer (some ⟨p,0,none⟩), .bool last, .int .i64 2] W fun e w'=>e= .returned (.tuple #[])∧BBE B p v (bits++(u :: v06 2 2)) W w'):=fun W hW=>by rw [hu];exact jpq last 2 W hW (by omega) (by omega)
 rw [← hu];clear hu;go_enter Tryz.func40,Tryz.ntmps40
 go_wp2_with fail
 refine (xkh ai ci items w H0.out.2.1 hil H0.out.2.2.2.2).mono ?_;rintro e w1 ⟨rfl,U⟩;have H1:Hid (UsI w (items.foldl useA use0) (items.foldl useB (fun _=>false)) w1):=U;clear U;go_wp2_with fail
 refine (jrg (items.foldl useA use0) w.heap.size 269 ap np cp w1 H1.out.ra H1.out.ra.lt (by omega) (H0.out.2.2.2.1.below H1.out.bel)).mono ?_;rintro e w2 ⟨ga,la,rfl,ka,na⟩;have H2:Hid (SprK (cnt (items.foldl useA use0) 269) la∧NewL w1 w2 ga 269 (sprL (items.foldl useA use0) la 269)∧Below w.heap.size w w2):=⟨ka,na,y6y H1.out.bel na.bel⟩
 clear ka na;go_wp2_with fail
 refine (jrg (items.foldl useB (fun _=>false)) (w.heap.size+1) 16 ap np cp w2 (H1.out.rb.of_block (H2.out.2.1.bel.block _ H1.out.rb.lt)) (Nat.lt_of_lt_of_le H1.out.rb.lt H2.out.2.1.bel.size) (by omega) (H0.out.2.2.2.1.below H2.out.2.2)).mono ?_;rintro e w3 ⟨gb,lb,rfl,kb,nb⟩;have HK:Hid (OwnK items (sprL (items.foldl useA use0) la 269) (sprL (items.foldl useB (fun _=>false)) lb 16)):=zab H2.out.1 kb H0.out.2.2.2.2;have H3:Hid (xin w3 (some ⟨ga,0,none⟩) (sprL (items.foldl useA use0) la 269)∧xin w3 (some ⟨gb,0,none⟩) (sprL (items.foldl useB (fun _=>false)) lb 16)∧k3a w3 p v (some ⟨ga,0,none⟩)∧k3a w3 p v (some ⟨gb,0,none⟩)∧Below w.heap.size w w3∧BB B p v bits w3∧BtF B p v v w w3∧k1n w3 ai items∧k3a w3 p v ai):=by
  have b3:=y6y H2.out.2.2 nb.bel;have ma:=H0.out.1.made b3;refine ⟨H2.out.2.1.cells.below nb.bel (Nat.le_refl _),nb.cells,H0.out.1.clear (Nat.le_trans H1.out.bel.size H2.out.2.1.new) (Nat.lt_of_lt_of_le H2.out.2.1.lt nb.bel.size),H0.out.1.clear (Nat.le_trans H2.out.2.2.size nb.new) nb.lt,b3,ma.1,ma.2,H0.out.2.1.below b3,H0.out.2.2.1.next ma.2⟩
 clear kb nb H1 H2;generalize sprL (items.foldl useA use0) la 269=a at *;generalize sprL (items.foldl useB (fun _=>false)) lb 16=b at *;clear la lb;go_wp2_with fail
 refine (HC.out w3 H3.out.2.2.2.2.2.1).mono ?_;rintro e w4 ⟨rfl,k4⟩;have H4:Hid (BBE B p v (bits++(u :: v06 2 2)) w3 w4):=k4;clear k4;have l4:(bits++(u :: v06 2 2)).length=bits.length+3:=by rw [List.length_append,List.length_cons,vxm]
 go_wp2_with fail
 obtain ⟨v4,i4,f4⟩:=H4.out;refine (xsy 12 4 w4 i4 (by omega) (by omega) (by omega)).mono ?_;rintro e w5 ⟨rfl,k5⟩;have H5:Hid (BBE B p v (bits++(u :: v06 2 2)++v06 12 4) w3 w5):=BBE.trans f4 k5;have l5:(bits++(u :: v06 2 2)++v06 12 4).length=bits.length+7:=by rw [List.length_append,l4,vxm]
 clear k5 i4 f4 H4;go_wp2_with fail
 obtain ⟨v5,i5,f5⟩:=H5.out;refine (xsy 15 4 w5 i5 (by omega) (by omega) (by omega)).mono ?_;rintro e w6 ⟨rfl,k6⟩;have H6:Hid (BBE B p v (bits++(u :: v06 2 2)++v06 12 4++v06 15 4) w3 w6):=BBE.trans f5 k6;have l6:(bits++(u :: v06 2 2)++v06 12 4++v06 15 4).length=bits.length+11:=by rw [List.length_append,l5,vxm]
 clear k6 i5 f5 H5;go_wp2_with fail
 obtain ⟨v6,i6,f6⟩:=H6.out;refine (xsy 11 4 w6 i6 (by omega) (by omega) (by omega)).mono ?_;rintro e w7 ⟨rfl,k7⟩;have H7:Hid (BBE B p v (bits++(u :: v06 2 2)++v06 12 4++v06 15 4++v06 11 4) w3 w7):=BBE.trans f6 k7;have l7:(bits++(u :: v06 2 2)++v06 12 4++v06 15 4++v06 11 4).length=bits.length+15:=by rw [List.length_append,l6,vxm]
 clear k7 i6 f6 H6 l4 l5 l6;generalize hbs:bits++(u :: v06 2 2)++v06 12 4++v06 15 4++v06 11 4=bs at *;have HBS:Hid (bits++(u :: v06 2 2)++v06 12 4++v06 15 4++v06 11 4=bs):=hbs;clear hbs;go_wp2_with fail
 have al:Below w7.heap.size w7 (w7.alloc (.cells #[.int .i64 13, .int .i64 14, .int .i64 12, .int .i64 0, .int .i64 7, .int .i64 8, .int .i64 6, .int .i64 9, .int .i64 5, .int .i64 10, .int .i64 4, .int .i64 11, .int .i64 3, .int .i64 2, .int .i64 1] 3)):=(Below.refl _ _).alloc (Nat.le_refl _) _;have hnew:(w7.alloc (.cells #[.int .i64 13, .int .i64 14, .int .i64 12, .int .i64 0, .int .i64 7, .int .i64 8, .int .i64 6, .int .i64 9, .int .i64 5, .int .i64 10, .int .i64 4, .int .i64 11, .int .i64 3, .int .i64 2, .int .i64 1] 3)).heap[w7.heap.size]?=some (.cells #[.int .i64 13, .int .i64 14, .int .i64 12, .int .i64 0, .int .i64 7, .int .i64 8, .int .i64 6, .int .i64 9, .int .i64 5, .int .i64 10, .int .i64 4, .int .i64 11, .int .i64 3, .int .i64 2, .int .i64 1] 3 (0,0)):=heap_alloc_new w7 _;have HA:Hid (Below w7.heap.size w7 (w7.alloc (.cells #[.int .i64 13, .int .i64 14, .int .i64 12, .int .i64 0, .int .i64 7, .int .i64 8, .int .i64 6, .int .i64 9, .int .i64 5, .int .i64 10, .int .i64 4, .int .i64 11, .int .i64 3, .int .i64 2, .int .i64 1] 3))∧xin (w7.alloc (.cells #[.int .i64 13, .int .i64 14, .int .i64 12, .int .i64 0, .int .i64 7, .int .i64 8, .int .i64 6, .int .i64 9, .int .i64 5, .int .i64 10, .int .i64 4, .int .i64 11, .int .i64 3, .int .i64 2, .int .i64 1] 3)) (some ⟨w7.heap.size,0,none⟩) ordH):=by
  refine ⟨al,fun k hk=>⟨w7.heap.size,0,rfl,by simp,?_⟩⟩;rw [Nat.zero_add,cell_of_row _ _ k _ _ _ hnew];have hk':k<15:=hk;have:k=0∨k=1∨k=2∨k=3∨k=4∨k=5∨k=6∨k=7∨k=8∨k=9∨k=10∨k=11∨k=12∨k=13∨k=14:=by omega
  rcases this with rfl | rfl | rfl | rfl | rfl | rfl | rfl | rfl | rfl | rfl | rfl | rfl | rfl | rfl | rfl <;> rfl
 clear al hnew;generalize w7.alloc (.cells #[.int .i64 13, .int .i64 14, .int .i64 12, .int .i64 0, .int .i64 7, .int .i64 8, .int .i64 6, .int .i64 9, .int .i64 5, .int .i64 10, .int .i64 4, .int .i64 11, .int .i64 3, .int .i64 2, .int .i64 1] 3)=w8 at *;refine (y6m w8).mono ?_;rintro e w9 ⟨gh,ch,rfl,nh⟩;obtain ⟨v7,i7,f7⟩:=H7.out;obtain ⟨go,hgo⟩:∃ go,go=w7.heap.size:=⟨_,rfl⟩
 have H9:Hid (BB B p v7 bs w9∧BtF B p v v7 w3 w9∧xin w9 (some ⟨go,0,none⟩) ordH∧k3a w9 p v7 (some ⟨go,0,none⟩)∧xin w9 (some ⟨gh,0,none⟩) xg3∧k3a w9 p v7 (some ⟨gh,0,none⟩)):=by
  have b9:=y6y HA.out.1 nh.bel;have m9:=i7.made b9;have hlt:go<w8.heap.size:=by
   obtain ⟨bb,oo,e,hb,_⟩:=HA.out.2 0 (by decide);simp only [Option.some.injEq,Addr.mk.injEq] at e;rw [hgo,e.1];exact hb
  refine ⟨m9.1,f7.trans m9.2,?_,?_,nh.cells,i7.clear (Nat.le_trans HA.out.1.size nh.new) nh.lt⟩
  ·rw [hgo];exact HA.out.2.below nh.bel (Nat.le_refl _)
  ·exact i7.clear (by omega) (Nat.lt_of_lt_of_le hlt nh.bel.size)
 rw [← hgo];clear hgo i7 f7 nh H7 HA;go_wp2_with fail
 go_loopw [16] (fun i wr=>∃ k:Nat,k<=15∧i= .int .i64 k∧Hid (BBE B p v7 (bs++(vsh.take k).flatMap (fun v=>v06 v 3)) w9 wr)) (fun i _=>15 - (intOf i).toNat)
 case atStart=>exact ⟨0,Nat.zero_le _,rfl,by show BBE _ _ _ _ _ _;rw [List.take_zero,List.flatMap_nil,List.append_nil];exact BBE.refl H9.out.1⟩
 case round=>
  obtain ⟨k,hk,rfl,HR⟩:=hrel;obtain ⟨vr,ir,fr⟩:=HR.out;by_cases hlt:k<15
  ·obtain ⟨j,hj,hj15,hh,h4⟩:=xj0 hlt;have cO:=H9.out.2.2.1.next H9.out.2.2.2.1 fr;have cH:=H9.out.2.2.2.2.1.next H9.out.2.2.2.2.2 fr;have c1:wr.cell? ⟨go,k,none⟩=some (.int .i64 j):=by
    obtain ⟨bb,oo,e,_,hc⟩:=cO k hlt;simp only [Option.some.injEq,Addr.mk.injEq,and_true] at e;rw [← e.1,← e.2,Nat.zero_add] at hc;rw [hc,← hj]
   have c2:wr.cell? ⟨gh,j,none⟩=some (.int .i64 ((vsh.getD k 0:Nat):Int)):=by
    obtain ⟨bb,oo,e,_,hc⟩:=cH j hj15;simp only [Option.some.injEq,Addr.mk.injEq,and_true] at e;rw [← e.1,← e.2,Nat.zero_add] at hc;rw [hc,← hh]
   have lR:(bs++(vsh.take k).flatMap (fun v=>v06 v 3)).length=bits.length+15+3*k:=by rw [List.length_append,l7,j4m k hk]
   have HI:Hid (BB B p vr (bs++(vsh.take k).flatMap (fun v=>v06 v 3)) wr∧BtF B p v7 vr w9 wr):=⟨ir,fr⟩
   clear cO cH ir fr hh hj;go_wp2_with fail
   refine (xsy (vsh.getD k 0) 3 wr HI.out.1 (by omega) (by omega) (by omega)).mono ?_;rintro e w10 ⟨rfl,k10⟩;have H10:Hid (BBE B p v7 (bs++(vsh.take (k+1)).flatMap (fun v=>v06 v 3)) w9 w10):=by
    have:=BBE.trans HI.out.2 k10;rw [List.append_assoc,← ksf hlt] at this;exact this
   clear k10;go_wp2_with fail
   go_roundw
   case rel=>exact ⟨k+1,by omega,by go_num,H10⟩
   case measure=>simp [intOf];omega
  ·obtain rfl:k=15:=by omega
   rw [show (vsh.take 15)=vsh from rfl] at ir;have lR:(bs++vsh.flatMap (fun v=>v06 v 3)).length=bits.length+60:=by
    have:=j4m 15 (Nat.le_refl _);rw [show (vsh.take 15)=vsh from rfl] at this;rw [List.length_append,l7,this]
   have F:=H9.out.2.1.trans fr;have cA:=H3.out.1.next H3.out.2.2.1 F;have cB:=H3.out.2.1.next H3.out.2.2.2.1 F;have xA:=H3.out.2.2.1.next F;have xB:=H3.out.2.2.2.1.next F;have HI:Hid (BB B p vr (bs++vsh.flatMap (fun v=>v06 v 3)) wr∧BtF B p v vr w3 wr∧k3a wr p vr (some ⟨ga,0,none⟩)∧k3a wr p vr (some ⟨gb,0,none⟩)):=⟨ir,F,xA,xB⟩
   have lA:=HK.out.la;have lB:=HK.out.lb;have nA:=kic cA;have nB:=kic cB;have hgbl:gb<wr.heap.size:=(xB gb 0 none rfl).1;obtain ⟨i0,hi,hz0,hz1,hz2⟩:=info_parts ve2;have oneA:∀ u∈k2f a,u.oneCell'=true:=fun u hu=>by unfold k2f at hu;obtain ⟨z,_,rfl⟩:=List.mem_map.1 hu;rfl
   have oneB:∀ u∈k2f b,u.oneCell'=true:=fun u hu=>by unfold k2f at hu;obtain ⟨z,_,rfl⟩:=List.mem_map.1 hu;rfl
   have leA:(k2f a).length=269*1:=by rw [j3k,lA]
   have leB:(k2f b).length=16*1:=by rw [j3k,lB]
   clear ir fr F cA cB xA xB HR H9;go_upto_region 14 with (first
    | (at_builtin;refine wpList_append_grows _ rfl (.const (.slice none 0 0)) (.tmp 55) 69 rfl 3 i0 (.int .i64 0) 1 8 Tryz.underlying69 hi hz0 hz1 hz2 rfl (by decide) none 0 0 [] rfl (fun _=>⟨rfl,rfl⟩) rfl (by intro _ e;simp at e) ⟨ga,0,none⟩ 269 269 (k2f a) rfl leA nA oneA (by omega) (by unfold maxLen;omega) (by omega) ?_;intro vx wx hownx hgrowx)
    | (at_builtin;refine wpList_append_lies _ rfl (.tmp 56) (.tmp 57) 69 rfl wr.heap.size 3 i0 _ 1 8 Tryz.underlying69 hi hz0 hz1 hz2 rfl (by decide) vx 269 (k2f a) rfl hownx ⟨gb,0,none⟩ 16 16 (k2f b) rfl leB (fun j u hu=>(y7u hgrowx hgbl j).trans (nB j u hu)) oneB (by omega) (by unfold maxLen;omega) (by omega) hgrowx.size wx.heap.size rfl ?_;intro gy cy wy howny hgrowy haty hlty)
    | (go_at_call 69;fail))
   have bY:Below wr.heap.size wr wy:=(((Below.refl wr.heap.size wr).grown hgrowx (Nat.le_refl _) (fun g hg=>by simp at hg)).grown hgrowy hgrowx.size (fun g hg=>(hownx.lt g hg).1))
   have hL:(a++b).length=285:=by rw [List.length_append,lA,lB]
   have cY:xin wy (some ⟨gy,0,none⟩) (a++b):=by
    have ho:OI wy wr.heap.size (.slice (some ⟨gy,0,none⟩) 285 cy) (a++b):=by
     unfold OI;rw [hL,show k2f (a++b)=k2f a++k2f b by simp [k2f]];exact howny
    obtain ⟨ad,cap,e,hc⟩:=ho.cells;rw [hL] at e;simp only [Value.slice.injEq] at e;rw [e.1];exact hc
   have mY:=HI.out.1.made bY;have xY:k3a wy p vr (some ⟨gy,0,none⟩):=HI.out.1.clear (howny.lt gy rfl).1 (howny.lt gy rfl).2;have HRW:Hid (Calls Tryz.prog 69 #[.pointer (some ⟨p,0,none⟩), .slice (some ⟨gy,0,none⟩) 285 cy, .bool runs] wy fun e w'=>e= .returned (.tuple #[])∧BBE B p vr (bs++vsh.flatMap (fun v=>v06 v 3)++rowB runs (a++b) 285 0) wy w'):=by
    have h:=xnr (some ⟨gy,0,none⟩) cy (a++b) runs wy mY.1 (by rw [hL];omega) cY xY (k9r HK.out.ra HK.out.rb) (by rw [lR];omega);rw [hL] at h;exact h
   have HY:Hid (BtF B p v vr w3 wy):=HI.out.2.1.trans mY.2;clear mY xY cY bY hownx hgrowx howny hgrowy haty hlty nA nB oneA oneB leA leB hi hz0 hz1 hz2 HI;refine HRW.out.mono ?_;rintro e wz ⟨rfl,kz⟩;have HZ:Hid (BBE B p v (bs++vsh.flatMap (fun v=>v06 v 3)++rowB runs (a++b) 285 0) w3 wz):=BBE.trans HY.out kz;clear kz HRW HY;go_wp2_with fail
   have HCT:Hid (Calls Tryz.prog 43 #[.pointer (some ⟨p,0,none⟩), .slice ai items.length ci, .slice (some ⟨ga,0,none⟩) 269 269, .slice (some ⟨gb,0,none⟩) 16 16] wz fun e w'=>e= .returned (.tuple #[])∧BBE B p v (bs++vsh.flatMap (fun v=>v06 v 3)++rowB runs (a++b) 285 0++itsB a b items) w3 w'):=by
    obtain ⟨vz,iz,fz⟩:=HZ.out;have hrow:=k13 runs (a++b) 285 0;have h:=xlj ai (some ⟨ga,0,none⟩) (some ⟨gb,0,none⟩) ci 269 16 items a b wz iz (H3.out.2.2.2.2.2.2.2.1.next H3.out.2.2.2.2.2.2.2.2 fz) (H3.out.1.next H3.out.2.2.1 fz) (H3.out.2.1.next H3.out.2.2.2.1 fz) (H3.out.2.2.2.2.2.2.2.2.next fz) (H3.out.2.2.1.next fz) (H3.out.2.2.2.1.next fz) HK.out.two HK.out.h256 HK.out.ok hil (by rw [List.length_append,lR];omega);rw [lA,lB] at h;exact h.mono fun e w' ⟨he,k⟩=>⟨he,BBE.trans fz k⟩
   refine HCT.out.mono ?_;rintro e wf ⟨rfl,kf⟩;have HF:Hid (BBE B p v (bs++vsh.flatMap (fun v=>v06 v 3)++rowB runs (a++b) 285 0++itsB a b items) w3 wf):=kf;clear kf HCT;go_wp2_with fail
   go_end0
   refine ⟨rfl,a,b,HK.out,?_⟩;have e1:bs++vsh.flatMap (fun v=>v06 v 3)++rowB runs (a++b) 285 0++itsB a b items=bits++blkB bits.length u (.own runs a b items):=by
    rw [← HBS.out];show _=bits++(u :: (v06 2 2++(ownB runs a b++itsB a b items)));unfold ownB;simp only [List.append_assoc,List.cons_append]
   have:=BBE.trans H3.out.2.2.2.2.2.2.1 HF.out;rw [e1] at this;exact this
def v1t:Nat->List Pt->List Nat
 | _,[]=>[]
 | pos,p :: ps=>blkB pos 0 p++v1t (pos+(blkB pos 0 p).length) ps
theorem jjh(p:Pt)(ps:List Pt):∀ pos,v1t pos (ps++[p])=v1t pos ps++blkB (pos+(v1t pos ps).length) 0 p:=by
 induction ps with
 | nil=>intro pos;simp [v1t]
 | cons q qs ih=>
  intro pos;show blkB pos 0 q++v1t _ (qs++[p])=(blkB pos 0 q++v1t _ qs)++_;rw [ih,List.append_assoc];have l:pos+(v1t pos (q :: qs)).length=pos+(blkB pos 0 q).length+(v1t (pos+(blkB pos 0 q).length) qs).length:=by
   show pos+(blkB pos 0 q++v1t _ qs).length=_;rw [List.length_append];omega
  rw [l]
theorem ykl(p:Pt)(ps:List Pt):∀ pos,vs5 pos (ps++[p])=v1t pos ps++(blkB (pos+(v1t pos ps).length) 1 p++xpo (padN (pos+(v1t pos ps).length+(blkB (pos+(v1t pos ps).length) 1 p).length))):=by
 induction ps with
 | nil=>intro pos;simp [v1t,vs5]
 | cons q qs ih=>
  intro pos;have e:vs5 pos ((q :: qs)++[p])=blkB pos 0 q++vs5 (pos+(blkB pos 0 q).length) (qs++[p]):=by
   cases qs <;> rfl
  rw [e,ih];show _=(blkB pos 0 q++v1t _ qs)++_;rw [List.append_assoc];have l:pos+(v1t pos (q :: qs)).length=pos+(blkB pos 0 q).length+(v1t (pos+(blkB pos 0 q).length) qs).length:=by
   show pos+(blkB pos 0 q++v1t _ qs).length=_;rw [List.length_append];omega
  rw [l]
theorem yq8(p:Pt)(ps:List Pt):∀ o,xcr o (ps++[p])=yfa (xcr o ps) p:=by
 induction ps with
 | nil=>intro o;rfl
 | cons q qs ih=>intro o;exact ih _
theorem v8y{f:Nat}{p:Pt}(ps:List Pt):∀ {o:List Nat},OkPs f o ps->OkP f (xcr o ps) p->OkPs f o (ps++[p]):=by
 induction ps with
 | nil=>exact fun _ h=>⟨h,trivial⟩
 | cons q qs ih=>exact fun h k=>⟨h.1,ih h.2 k⟩
theorem zn1{l:List Nat}{left:Nat}{p:Pt}{ps:List Pt}(h:Pk l left (v1t 0 ps++blkB (v1t 0 ps).length 1 p))(ok:OkPs 0 [] (ps++[p])):x56 l (xcr [] (ps++[p])):=by
 have hl:=h.len;have hp:=h.lt;refine ⟨ps++[p],by simp,?_,ok,rfl⟩;rw [h.oct,ykl,List.append_assoc,Nat.zero_add];have e:left=padN ((v1t 0 ps).length+(blkB (v1t 0 ps).length 1 p).length):=by
  rw [List.length_append] at hl;unfold padN;omega
 rw [← e]
abbrev C3:=Int×Int×Int
def c3v(c:C3):Value:= .agg #[.int .i64 c.1, .int .i64 c.2.1, .int .i64 c.2.2]
def itOf(c:C3):It:=if c.2.1<3 then .byte c.1.toNat else .copy c.2.1.toNat c.2.2.toNat
structure Fit(len:Nat)(c:C3):Prop where
 lit:c.2.1<3->0<=c.1∧c.1<256
 cop:3<=c.2.1->c.2.1<=66∧1<=c.2.2∧c.2.2<=256∧c.2.2<=(len:Int)
theorem Fit.ok{o:List Nat}{c:C3}(h:Fit o.length c):OkIt 0 o (itOf c):=by
 unfold itOf;split
 ·rename_i k
  have:=h.lit k;show c.1.toNat<256;omega
 ·have:=h.cop (by omega);show 3<=c.2.1.toNat∧c.2.1.toNat<=66∧1<=c.2.2.toNat∧c.2.2.toNat<=256∧c.2.2.toNat<=o.length - 0;omega
theorem Fit.itC{n:Nat}{c:C3}(h:Fit n c):ItC (itOf c) c.1 c.2.1 c.2.2:=by
 unfold itOf;split
 ·rename_i k
  have:=h.lit k;exact ⟨by omega,k⟩
 ·have:=h.cop (by omega);exact ⟨by omega,by omega⟩
theorem Fit.ok3{n:Nat}{c:C3}(h:Fit n c):kg7 (itOf c):=by
 unfold itOf;split
 ·rename_i k
  have:=h.lit k;show c.1.toNat<256;omega
 ·have:=h.cop (by omega);show 3<=c.2.1.toNat∧c.2.1.toNat<=66∧1<=c.2.2.toNat∧c.2.2.toNat<=256;omega
theorem km0(c:C3)(ao:Option Addr)(len cap:Nat)(w:World) :
  Calls Tryz.prog 38 #[c3v c, .slice ao len cap] w fun e w'=>∃ d,e= .returned (c3v d)∧Fit len d∧Below w.heap.size w w':=by
 obtain ⟨b,n,f⟩:=c;by_cases h:n<3∨66<n∨f<1∨256<f∨(len:Int)<f
 ·refine (v1k b n f ao len cap w h).mono fun e w' q=>⟨(b%256,0,0),q.1,⟨fun _=>?_,fun k=>?_⟩,q.2⟩
  ·show 0<=b%256∧b%256<256;omega
  ·exact absurd (show (3:Int)<=0 from k) (by decide)
 ·refine (jw1 b n f ao len cap w (by omega) (by omega) (by omega) (by omega) (by omega)).mono fun e w' q=>⟨(b,n,f),q.1,⟨fun k=>?_,fun _=>?_⟩,q.2⟩
  ·have k':n<3:=k;omega
  ·show n<=66∧1<=f∧f<=256∧f<=(len:Int);omega
theorem yji{B:Nat}{v:Value}{o:List Nat}(c:C3)(w:World)(h:w.ownsRow B 5 1 v o.length (keg o))(hB:B<=w.heap.size)(hc:Fit o.length c)(hl:o.length<=200000000000) :
  Calls Tryz.prog 39 #[v,c3v c] w fun e w'=>∃ v',e= .returned v'∧w'.ownsRow B 5 1 v' (grow o (itOf c)).length (keg (grow o (itOf c)))∧OuF B v v' w w':=by
 obtain ⟨b,n,f⟩:=c;by_cases k:n<3
 ·obtain ⟨h0,h1⟩:=hc.lit k;have h0':0<=b:=h0;have h1':b<256:=h1;obtain ⟨x,rfl⟩:∃ x:Nat,b=(x:Int):=⟨b.toNat,by omega⟩
  have e:grow o (itOf ((x:Int),n,f))=o++[x]:=by
   show grow o (if n<3 then _ else _)=_;rw [if_pos k];rfl
  rw [e];exact vre x n f w h hB (by omega) k hl
 ·obtain ⟨h1,h2,h3,h4⟩:=hc.cop (by show 3<=n;omega);have h1':n<=66:=h1;have h2':1<=f:=h2;have h4':f<=(o.length:Int):=h4;obtain ⟨m,rfl⟩:∃ m:Nat,n=(m:Int):=⟨n.toNat,by omega⟩
  obtain ⟨far,rfl⟩:∃ x:Nat,f=(x:Int):=⟨f.toNat,by omega⟩
  have e:grow o (itOf (b,(m:Int),(far:Int)))=kl5 far m o:=by
   show grow o (if (m:Int)<3 then _ else _)=_;rw [if_neg k];rfl
  rw [e];exact v2c b m far w h hB (by omega) (by omega) (by omega) (by omega) hl
theorem v8t(x:It)(l:List It):∀ o,xg4 o (l++[x])=grow (xg4 o l) x:=by
 induction l with
 | nil=>intro o;rfl
 | cons y ys ih=>intro o;exact ih _
theorem z65{f:Nat}{x:It}(l:List It):∀ {o:List Nat},jg0 f o l->OkIt f (xg4 o l) x->jg0 f o (l++[x]):=by
 induction l with
 | nil=>exact fun _ h=>⟨h,trivial⟩
 | cons y ys ih=>exact fun h k=>⟨h.1,ih h.2 k⟩
theorem Fit.len{o:List Nat}{c:C3}(h:Fit o.length c):(grow o (itOf c)).length<=o.length+66:=by
 have k:=h.ok;revert k
 cases itOf c with
 | byte b=>intro _;show (o++[b]).length<=_;simp
 | copy n far=>intro k;show (kl5 far n o).length<=_;rw [jfb];have:=k.2.1;omega
structure MemI(B p:Nat)(v vo:Value)(bits o:List Nat)(w:World):Prop where
 bb:BB B p v bits w
 out:w.ownsRow B 5 1 vo o.length (keg o)
 np:vo.ownBlock≠some p
 nv:∀ g,vo.ownBlock=some g->v.ownBlock≠some g
theorem MemI.packed{B p:Nat}{v vo:Value}{bits bits' o:List Nat}{w w':World}(h:MemI B p v vo bits o w)(k:BBE B p v bits' w w'):∃ v',MemI B p v' vo bits' o w'∧BtF B p v v' w w':=by
 obtain ⟨v',b,f⟩:=k;refine ⟨v',⟨b,kcz (R:=fun x=>x=p∨v.ownBlock=some x) (ρ:=fun x=>x) h.out ⟨f.size,fun x hx hr=>f.blk x hx (fun e=>hr (Or.inl e)) (fun e=>hr (Or.inr e))⟩ (fun g hg e=>?_),h.np,fun g hg e=>?_⟩,f⟩
 ·rcases e with e | e
  ·exact h.np (e ▸ hg)
  ·exact h.nv g hg e
 ·rcases f.nw g e with e | e
  ·exact h.nv g hg e
  ·have:=(h.out.lt g hg).2;omega
theorem BB.lt{B p:Nat}{v:Value}{bits:List Nat}{w:World}(h:BB B p v bits w):B<=w.heap.size∧p<w.heap.size∧∀ g,v.ownBlock=some g->g<w.heap.size:=by
 obtain ⟨l,left,i,_⟩:=h.inv;exact ⟨i.hB,i.row.lt,fun g hg=>(i.own.lt g hg).2⟩
theorem MemI.grown{B p:Nat}{v vo vo':Value}{bits o o':List Nat}{w w':World}(h:MemI B p v vo bits o w)(k:OuF B vo vo' w w')(ho:w'.ownsRow B 5 1 vo' o'.length (keg o')):MemI B p v vo' bits o' w':=by
 have hl:=h.bb.lt;obtain ⟨l,left,i,pk⟩:=h.bb.inv;refine ⟨⟨l,left,⟨i.pB,Nat.le_trans i.hB k.size,i.row.of_block (k.blk p i.row.lt h.np),kcz (R:=fun x=>vo.ownBlock=some x) (ρ:=fun x=>x) i.own ⟨k.size,fun x hx hr=>k.blk x hx hr⟩ (fun g hg e=>h.nv g e hg),i.po⟩,pk⟩,ho,fun e=>?_,fun g hg e=>?_⟩
 ·rcases k.nw p e with e | e
  ·exact h.np e
  ·omega
 ·rcases k.nw g hg with a | a
  ·exact h.nv g a e
  ·have:=hl.2.2 g e;omega
theorem MemI.made{B p:Nat}{v vo:Value}{bits o:List Nat}{w w':World}(h:MemI B p v vo bits o w)(hb:Below w.heap.size w w'):MemI B p v vo bits o w':=⟨(h.bb.made hb).1,kcz (R:=fun _=>False) (ρ:=fun x=>x) h.out ⟨hb.size,fun x hx _=>j1i hb hx⟩ (fun _ _ e=>e),h.np,h.nv⟩
def c3s(c:C3):List Value:=[.int .i64 c.1, .int .i64 c.2.1, .int .i64 c.2.2]
theorem xoy(ds:List C3):∀ {k j:Nat} (hk:k<ds.length),j<3->(ds.flatMap c3s)[k*3+j]?=(c3s ds[k])[j]?:=by
 induction ds with
 | nil=>intro k j hk;exact absurd hk (Nat.not_lt_zero _)
 | cons d ds ih=>
  intro k j hk hj;rw [List.flatMap_cons];have l3:(c3s d).length=3:=rfl;cases k with
  | zero=>
   rw [List.getElem?_append_left (by omega),Nat.zero_mul,Nat.zero_add];rfl
  | succ k=>
   rw [List.getElem?_append_right (by omega),l3,show (k+1)*3+j - 3=k*3+j by omega];exact ih (by simpa using hk) hj
structure ItR(B p:Nat)(v vo vl:Value)(ds:List C3)(w:World):Prop where
 row:w.ownsRow B 89 3 vl ds.length (ds.flatMap c3s)
 np:vl.ownBlock≠some p
 nv:∀ g,vl.ownBlock=some g->v.ownBlock≠some g
 no:∀ g,vl.ownBlock=some g->vo.ownBlock≠some g
theorem ItR.nil(B p:Nat)(v vo:Value)(w:World):ItR B p v vo (.slice none 0 0) [] w:=⟨World.ownsRow_nil _ _ _ _,fun e=>(by cases e),fun _ e=>(by cases e),fun _ e=>(by cases e)⟩
theorem ItR.grown{B p:Nat}{v vo vo' vl:Value}{ds:List C3}{w w':World}(h:ItR B p v vo vl ds w)(k:OuF B vo vo' w w'):ItR B p v vo' vl ds w':=by
 refine ⟨kcz (R:=fun x=>vo.ownBlock=some x) (ρ:=fun x=>x) h.row ⟨k.size,fun x hx hr=>k.blk x hx hr⟩ (fun g hg e=>h.no g hg e),h.np,h.nv,fun g hg e=>?_⟩;rcases k.nw g e with a | a
 ·exact h.no g hg a
 ·have:=(h.row.lt g hg).2;omega
theorem ItR.made{B p:Nat}{v vo vl:Value}{ds:List C3}{w w':World}(h:ItR B p v vo vl ds w)(hb:Below w.heap.size w w'):ItR B p v vo vl ds w':=⟨kcz (R:=fun _=>False) (ρ:=fun x=>x) h.row ⟨hb.size,fun x hx _=>j1i hb hx⟩ (fun _ _ e=>e),h.np,h.nv,h.no⟩
theorem ItR.push{B p:Nat}{v vo vl:Value}{ds:List C3}{bits o:List Nat}{w X w1:World}{g c n:Nat}{d:C3}(h:ItR B p v vo vl ds w)(m:MemI B p v vo bits o w)(hX:Below w.heap.size w X)(hg:X.grownBy w1 vl.ownBlock)(hat:vl.ownBlock=some g∨w.heap.size<=g)
  (hown:w1.ownsRow B 89 3 (.slice (some ⟨g,0,none⟩) n c) (ds++[d]).length ((ds++[d]).flatMap c3s)) :
  MemI B p v vo bits o w1∧ItR B p v vo (.slice (some ⟨g,0,none⟩) n c) (ds++[d]) w1∧Below B w w1:=by
 have hl:=m.bb.lt;have blk:∀ k,k<w.heap.size->vl.ownBlock≠some k->w1.heap[k]?=w.heap[k]?:=fun k hk hne=>(hg.block k (Nat.lt_of_lt_of_le hk hX.size) (fun e=>hne e.symm)).trans (j1i hX hk)
 have hs:w.heap.size<=w1.heap.size:=Nat.le_trans hX.size hg.size;obtain ⟨l,left,i,pk⟩:=m.bb.inv;refine ⟨⟨⟨l,left,⟨i.pB,Nat.le_trans i.hB hs,i.row.of_block (blk p i.row.lt h.np),kcz (R:=fun x=>vl.ownBlock=some x) (ρ:=fun x=>x) i.own ⟨hs,fun x hx hr=>blk x hx hr⟩ (fun g hg e=>h.nv g e hg),i.po⟩,pk⟩,kcz (R:=fun x=>vl.ownBlock=some x) (ρ:=fun x=>x) m.out ⟨hs,fun x hx hr=>blk x hx hr⟩ (fun g hg e=>h.no g e hg),m.np,m.nv⟩,⟨hown,fun e=>?_,fun y hy e=>?_,fun y hy e=>?_⟩,(hX.mono hl.1).grown hg (Nat.le_trans hl.1 hX.size) (fun x hx=>(h.row.lt x hx).1)⟩
 ·simp [Value.ownBlock] at e;subst e;rcases hat with a | a
  ·exact h.np a
  ·omega
 ·simp [Value.ownBlock] at hy;subst hy;rcases hat with a | a
  ·exact h.nv _ a e
  ·have:=hl.2.2 _ e;omega
 ·simp [Value.ownBlock] at hy;subst hy;rcases hat with a | a
  ·exact h.no _ a e
  ·have:=(m.out.lt _ e).2;omega
theorem ItR.items{B p:Nat}{v vo vl:Value}{ds:List C3}{bits o:List Nat}{w:World}(h:ItR B p v vo vl ds w)(m:MemI B p v vo bits o w)(hd:∀ d∈ds,∃ n,Fit n d) :
  ∃ ai ci,vl= .slice ai (ds.map itOf).length ci∧k1n w ai (ds.map itOf)∧k3a w p v ai:=by
 by_cases h0:ds=[]
 ·subst h0;rcases h.row.2 with hn | ⟨g,cap,cur,e,hb,hgg,rest⟩
  ·obtain ⟨hn,_⟩:=hn;exact ⟨none,0,hn,fun k hk=>absurd hk (Nat.not_lt_zero _),fun _ _ _ e=>by cases e⟩
  ·exact ⟨some ⟨g,0,none⟩,cap,e,fun k hk=>absurd hk (Nat.not_lt_zero _),fun b o f e'=>by
    cases e'
    have hl:=h.row.lt g (by rw [e];rfl);exact ⟨hl.2,fun e2=>h.np (by rw [e];show some g=some p;rw [e2]),h.nv g (by rw [e];rfl)⟩⟩
 ·obtain ⟨g,c,e,hg1,hg2⟩:=h.row.form (List.length_pos_iff.2 h0);subst e;refine ⟨some ⟨g,0,none⟩,c,by rw [List.length_map],fun k hk=>?_,fun b o f e'=>?_⟩
  ·have hk':k<ds.length:=by simpa using hk
   obtain ⟨n,hf⟩:=hd ds[k] (List.getElem_mem hk');refine ⟨g,0,ds[k].1,ds[k].2.1,ds[k].2.2,rfl,hg2,?_,?_,?_,?_⟩
   ·rw [show 0+k*3=k*3+0 by omega,World.ownsRow.cellAt h.row _ (by omega),xoy ds hk' (by omega)];rfl
   ·rw [show 0+k*3+1=k*3+1 by omega,World.ownsRow.cellAt h.row _ (by omega),xoy ds hk' (by omega)];rfl
   ·rw [show 0+k*3+2=k*3+2 by omega,World.ownsRow.cellAt h.row _ (by omega),xoy ds hk' (by omega)];rfl
   ·rw [List.getElem_map];exact hf.itC
  ·cases e'
   exact ⟨hg2,fun e2=>h.np (by rw [← e2];rfl),h.nv g rfl⟩
def ItO(w:World)(ad:Option Addr)(n:Nat):Prop:=∀ k,k<n->∃ (bl o:Nat) (b m f:Int),ad=some ⟨bl,o,none⟩∧bl<w.heap.size∧w.cell? ⟨bl,o+k*3,none⟩=some (.int .i64 b)∧w.cell? ⟨bl,o+k*3+1,none⟩=some (.int .i64 m)∧w.cell? ⟨bl,o+k*3+2,none⟩=some (.int .i64 f)
structure PtD where
 kind:Int
 s:ByteArray
 ai:Option Addr
 ni:Nat
 ci:Nat
 ap:Option Addr
 np:Nat
 cp:Nat
 runs:Bool
def PtD.cells(d:PtD):List Value:=[.int .i64 d.kind, .string d.s, .slice d.ai d.ni d.ci, .slice d.ap d.np d.cp, .bool d.runs]
def PartsO(w:World)(ad:Option Addr)(l:List PtD):Prop:=∀ k (hk:k<l.length),∃ bl o:Nat,ad=some ⟨bl,o,none⟩∧bl<w.heap.size∧(∀ j (hj:j<5),w.cell? ⟨bl,o+k*5+j,none⟩=some ((l[k]).cells[j]'hj))∧ItO w (l[k]).ai (l[k]).ni∧yas w (l[k]).ap (l[k]).np
theorem ItO.below{w w':World}{ad:Option Addr}{n:Nat}(h:ItO w ad n)(b:Below w.heap.size w w'):ItO w' ad n:=fun k hk=>by
 obtain ⟨bl,o,x,m,f,e,hlt,c0,c1,c2⟩:=h k hk;have hb:=j1i b hlt;exact ⟨bl,o,x,m,f,e,Nat.lt_of_lt_of_le hlt b.size,by rw [World.cell?_of_block hb];exact c0,by rw [World.cell?_of_block hb];exact c1,by rw [World.cell?_of_block hb];exact c2⟩
def PtD.wt(d:PtD):Nat:=d.s.size+d.ni+1
def wts(l:List PtD):Nat:=(l.map PtD.wt).sum
theorem yop{l:List PtD}{k:Nat}(hk:k<l.length):wts (l.take (k+1))=wts (l.take k)+(l[k]).wt:=by
 unfold wts;rw [List.take_succ_eq_append_getElem hk,List.map_append,List.sum_append];simp
theorem vd5(l:List PtD)(k:Nat):wts (l.take k)<=wts l:=by
 have:wts l=wts (l.take k)+wts (l.drop k):=by
  unfold wts;rw [← List.sum_append,← List.map_append,List.take_append_drop]
 omega
def Made(n k:Nat)(bits o:List Nat):Prop:=
 ∃ ps,ps.length=k∧OkPs 0 [] ps∧o=xcr [] ps∧((k<n∨n=0)->bits=v1t 0 ps)∧(k=n->0<n->∃ qs q,ps=qs++[q]∧bits=v1t 0 qs++blkB (v1t 0 qs).length 1 q)
theorem Made.none(n:Nat):Made n 0 [] []:=⟨[],rfl,trivial,rfl,fun _=>rfl,fun e h=>absurd h (by omega)⟩
theorem Made.next{n k:Nat}{bits o:List Nat}(h:Made n k bits o)(hk:k<n){last:Bool}(hl:last=true↔k+1=n){q:Pt}(ok:OkP 0 o q) :
  Made n (k+1) (bits++blkB bits.length (if last then 1 else 0) q) (yfa o q):=by
 obtain ⟨ps,e1,e2,e3,e4,_⟩:=h;have e4:=e4 (Or.inl hk);refine ⟨ps++[q],by simp [e1],v8y ps e2 (by rw [← e3];exact ok),by rw [yq8,← e3],fun c=>?_,fun c _=>⟨ps,q,rfl,?_⟩⟩
 ·have hf:last=false:=by
   cases last with
   | false=>rfl
   | true=>have:=hl.1 rfl;omega
  rw [hf,jjh,Nat.zero_add,e4];rfl
 ·rw [hl.2 c,e4];rfl
theorem Made.packs{n:Nat}{bits o l:List Nat}{left:Nat}(h:Made n n bits o)(hn:0<n)(pk:Pk l left bits):x56 l o:=by
 obtain ⟨ps,_,e2,e3,_,e5⟩:=h;obtain ⟨qs,q,rfl,e6⟩:=e5 rfl hn;rw [e3];rw [e6] at pk;exact zn1 pk e2
theorem Made.packs0{bits o l:List Nat}{left:Nat}(h:Made 0 0 bits o)(pk:Pk l left (bits++blkB bits.length 1 (.plain []))):x56 l o:=by
 obtain ⟨ps,e1,e2,e3,e4,_⟩:=h;have:=List.length_eq_zero_iff.1 e1;subst this;have e4:=e4 (Or.inr rfl);subst e4;have e:o=xcr [] ([]++[Pt.plain []]):=e3;rw [e];exact zn1 pk ⟨⟨Nat.zero_le _,fun x hx=>(by cases hx)⟩,trivial⟩
theorem x7l{a b:List Int}(ra:inRange a=true)(rb:inRange b=true){items:List It}(h:∀ x∈items,x04 a b x):(itsB a b items).length<=40*items.length+11:=by
 have h1:=x6l ra rb h items.length;rw [List.take_length] at h1;have h2:=jvf ra 256;rw [vnr,List.length_append];omega
theorem yru(l:List Nat):(octB l).length=8*l.length:=by
 induction l with
 | nil=>rfl
 | cons x xs ih=>
  show (v06 x 8++octB xs).length=_;rw [List.length_append,vxm,ih,List.length_cons];omega
theorem jyc(pos u:Nat)(q:Pt):(blkB pos u q).length=3+(vu4 pos q).length:=by
 show (u :: (v06 _ 2++vu4 pos q)).length=_;rw [List.length_cons,List.length_append,vxm];omega
theorem jks(pos u:Nat)(s:List Nat):(blkB pos u (.plain s)).length<=8*s.length+60:=by
 rw [jyc];show 3+(xpo (padN (pos+3))++(octB _++octB s)).length<=_;rw [List.length_append,List.length_append,yru,yru];have:(xpo (padN (pos+3))).length=padN (pos+3):=List.length_replicate;have h2:padN (pos+3)<8:=Nat.mod_lt _ (by decide);simp only [List.length_cons,List.length_nil];omega
theorem vvs{x:It}(h:kg7 x):x04 Tr.fixedA Tr.fixedB x:=by
 cases x with
 | byte b=>exact ⟨h,vsn (by have:b<256:=h;omega)⟩
 | copy n far=>
  obtain ⟨h1,h2,h3,h4⟩:=h;exact ⟨⟨h1,h2,h3,h4⟩,vsn (by have:=(y1z h1 h2).1;omega),jxz (xx4 h3 h4).1⟩
theorem xey(pos u:Nat){items:List It}(h:∀ x∈items,kg7 x):(blkB pos u (.fixed items)).length<=40*items.length+20:=by
 rw [jyc];have:=x7l vrw.ra vrw.rb (fun x hx=>vvs (h x hx));show 3+(itsB Tr.fixedA Tr.fixedB items).length<=_;omega
theorem kt5(pos u:Nat)(runs:Bool){a b:List Int}{items:List It}(h:OwnK items a b):(blkB pos u (.own runs a b items)).length<=40*items.length+5900:=by
 rw [jyc];have h1:=x7l h.ra h.rb h.ok;have h2:=k13 runs (a++b) 285 0;have h3:(vsh.flatMap (fun v=>v06 v 3)).length<=45:=by decide
 show 3+(ownB runs a b++itsB a b items).length<=_;unfold ownB;simp only [List.length_append,vxm];omega
theorem OwnK.okP{items:List It}{a b:List Int}(h:OwnK items a b){o:List Nat}(k:jg0 0 o items)(runs:Bool):OkP 0 o (.own runs a b items):=⟨h.la,h.lb,h.ra,h.rb,h.bad,k,h.has⟩
open Go.RowKit Go.Lib
theorem xyk{P:Program}(w:World)(base:Nat)(t u ty e:TypeId)(i:TypeInfo)(ht:P.underlying t=some (.slice e))(hu:P.underlying u=some .string)(hi:P.info? e=some i)(hz:i.zero=some (.int .u8 0))
  (hsize:i.size=1) (hby:i.bytes=1) (v:Value) (n:Nat) (xs:List Value) (hown:w.ownsRow base e 1 v n xs) (s:ByteArray)
  (h63:n+s.size<=maxLen) (hbytes:n+s.size<=140737488355328) (hbase:base<=w.heap.size) :
  ∃ v' w',(Builtin.append_ #[t,u] ty #[v, .string s]).run P w= .ok v' w'∧w'.ownsRow base e 1 v' (n+s.size) (xs++strCells s)∧w.grownBy w' v.ownBlock∧(∀ g,v'.ownBlock=some g->v.ownBlock=some g∨w.heap.size<=g):=by
 obtain ⟨v',w',hr,h2,h3,_⟩:=run_append_own_string (P:=P) w base t u ty e i ht hu hi hz hsize hby v n xs hown s h63 hbytes hbase;refine ⟨v',w',hr,h2,h3,fun g hg=>?_⟩;have hxl:xs.length=n:=by simpa using hown.1
 rcases hown.2 with ⟨e1,e2⟩ | ⟨g0,cap,cur,e1,hbg,hg0,hnc,hcm,hcs,htake⟩
 ·subst e1;subst e2;have hx:xs=[]:=List.eq_nil_of_length_eq_zero hxl;subst hx;obtain ⟨v2,w2,hr2,k2,_,_⟩:=run_append_own_string (P:=P) w w.heap.size t u ty e i ht hu hi hz hsize hby (.slice none 0 0) 0 [] (World.ownsRow_nil _ _ _ _) s h63 hbytes (Nat.le_refl _);have:=hr.symm.trans hr2;cases this
  exact Or.inr (k2.lt g hg).1
 ·subst e1;have hcs':cur.size=cap:=by simpa using hcs
  by_cases hroom:n+s.size<=cap
  ·have hr2:=run_append_room_string (P:=P) w t u ty e i ht hu hi hsize g0 n cap cur hg0 s hroom (by omega);have:=hr.symm.trans hr2;cases this
   exact Or.inl hg
  ·have holds:∀ j u,xs[j]?=some u->w.cell? ((⟨g0,0,none⟩:Addr).add j)=some u:=hown.cells (g:=g0) rfl;have hr2:=run_append_grow_string (P:=P) w t u ty e i (.int .u8 0) ht hu hi hz ⟨g0,0,none⟩ n cap xs (by rw [hsize];simpa using hxl) holds s (by omega) (by unfold maxLen at h63;omega) (by rw [hby];exact growslice_fits (by omega) (by omega));have:=hr.symm.trans hr2;cases this
   simp [Value.ownBlock] at hg;exact Or.inr (by omega)
theorem yfj{P:Program}(w:World){ops:Array Oper}{rest:List Oper}{o:Oper}{a:Go.Act}{Q:Exit->Go.Act->World->Prop}(hgd:o.guard=none)(sl x:Operand)(t u:TypeId)
  (ho:o.op= .call { callee:= .builtin .append,args:=#[sl,x],argTypes:=#[t,u] })
  (base:Nat) (e:TypeId) (i:TypeInfo) (ht:P.underlying t=some (.slice e)) (hu:P.underlying u=some .string) (hi:P.info? e=some i) (hz:i.zero=some (.int .u8 0))
  (hsize:i.size=1) (hby:i.bytes=1)
  (v:Value) (n:Nat) (xs:List Value) (hs:a.eval sl=v) (hown:w.ownsRow base e 1 v n xs) (s:ByteArray) (hx:a.eval x= .string s)
  (h63:n+s.size<=maxLen) (hbytes:n+s.size<=140737488355328) (hbase:base<=w.heap.size)
  (h:∀ v' w',w'.ownsRow base e 1 v' (n+s.size) (xs++strCells s)->w.grownBy w' v.ownBlock->(∀ g,v'.ownBlock=some g->v.ownBlock=some g∨w.heap.size<=g)->wpList P ops Q rest (a.put o.dst v') w'):wpList P ops Q (o :: rest) a w:=by
 refine wpList_plain hgd fun K hK=>?_
 obtain ⟨v',w',hr,h2,h3,h4⟩:=xyk (P:=P) w base t u o.type e i ht hu hi hz hsize hby v n xs hown s h63 hbytes hbase;unfold Oper.wp execOp;simp only [ho,resolve,invoke,builtin,Sem.run_bind,Sem.run_pure,Result.andThen_ok,List.map_toArray,List.map_cons,List.map_nil,hs,hx,hr];exact hK _ _ (h v' w' h2 h3 h4)
theorem zsj(s:ByteArray):strCells s=keg (xpg s):=by
 simp [strCells,keg,xpg]
theorem MemI.text{B p:Nat}{v vo vo':Value}{bits o:List Nat}{w w':World}{s:ByteArray}(h:MemI B p v vo bits o w)(ho:w'.ownsRow B 5 1 vo' (o.length+s.size) (keg o++strCells s))(hg:w.grownBy w' vo.ownBlock)(hat:∀ g,vo'.ownBlock=some g->vo.ownBlock=some g∨w.heap.size<=g) :
  MemI B p v vo' bits (o++xpg s) w'∧Below B w w':=by
 have hB:=h.bb.lt.1;have bl:Below B w w':=(Below.refl _ _).grown hg hB (fun x hx=>(h.out.lt x hx).1);refine ⟨h.grown ⟨hg.size,fun k hk hne=>hg.block k hk (fun e=>hne e.symm),hat,bl⟩ ?_,bl⟩;rw [List.length_append,kev];have e:keg (o++xpg s)=keg o++strCells s:=by rw [zsj];simp [keg]
 rw [e];exact ho
theorem zph{B:Nat}{v:Value}{l:List Nat}{w:World}(h:w.ownsRow B 5 1 v l.length (keg l)):∃ ad cap,v= .slice ad l.length cap∧∀ q,(convert 34 9 (.slice ad l.length cap)).run Tryz.prog (w.drewN q)= .ok (.string (xu6 l)) (w.drewN q):=by
 rcases h.2 with ⟨e,h0⟩ | ⟨g,cp,cur,e,hb,hg,hn,hm,hs,ht⟩
 ·refine ⟨none,0,by rw [e,h0],fun q=>?_⟩;have e0:l=[]:=List.length_eq_zero_iff.1 h0;rw [run_convert_bytes_nil (w.drewN q) 34 5 Tryz.underlying34 Tryz.underlying5 _ _ 9 Tryz.underlying9,e0];rfl
 ·refine ⟨some ⟨g,0,none⟩,cp,e,fun q=>?_⟩;refine run_convert_bytes_arg (w.drewN q) 34 5 Tryz.underlying34 Tryz.underlying5 g 0 l.length cp (l.map fun (n:Nat)=>(n:Int)) (by simp) ?_ 9 Tryz.underlying9;intro i hi;rw [e] at h;rw [Nat.zero_add,World.cell?_drewN,World.ownsRow.cellAt h i (by omega)];simp [keg,hi]
structure MeE(w:World)(p n:Nat)(vo:Value)(wr:World)(s o:ByteArray):Prop where
 ex:∃ (ab:Option Addr) (nb cb:Nat) (ao:Option Addr) (no co:Nat),wr.cell? ⟨p,0,none⟩=some (.slice ab nb cb)∧vo= .slice ao no co∧(∀ q,(convert 34 9 (.slice ab nb cb)).run Tryz.prog (wr.drewN q)= .ok (.string s) (wr.drewN q))∧(∀ q,(convert 34 9 (.slice ao no co)).run Tryz.prog (wr.drewN q)= .ok (.string o) (wr.drewN q))
 packs:x56 (xpg s) (xpg o)
 small:s.size<=875*n+20∧o.size<=66*n
 bel:Below w.heap.size w wr
theorem MeE.of{w wr:World}{n:Nat}{v vo:Value}{bits out:List Nat}(m:MemI w.heap.size w.heap.size v vo bits out wr)(hp:∀ l left,Pk l left bits->x56 l out)(L:bits.length<=7000*n+100)(L2:out.length<=66*n)(ho:∀ x∈out,x<256)(hb:Below w.heap.size w wr):∃ s o,MeE w w.heap.size n vo wr s o:=by
 obtain ⟨l,left,i,pk⟩:=m.bb.inv;obtain ⟨ab,cb,e1,c1⟩:=zph i.own;obtain ⟨ao,co,e2,c2⟩:=zph m.out;have hl:∀ x∈l,x<256:=pk.byte;refine ⟨xu6 l,xu6 out,⟨ab,_,cb,ao,_,co,?_,e2,c1,c2⟩,?_,?_,hb⟩
 ·rw [← e1];exact i.row.cell (i:=0) (by omega)
 ·rw [y7p hl,y7p ho];exact hp l left pk
 ·rw [x8r,x8r];have:=pk.len;have:=pk.lt;exact ⟨by omega,L2⟩
theorem z6r(far n:Nat):∀ {o:List Nat},(∀ x∈o,x<256)->∀ x∈kl5 far n o,x<256:=by
 induction n with
 | zero=>exact fun h=>h
 | succ n ih=>
  intro o h;refine ih (o:=o++[o.getD (o.length - far) 0]) fun x hx=>?_
  rcases List.mem_append.1 hx with hx | hx
  ·exact h x hx
  ·rw [List.mem_singleton.1 hx];by_cases hl:o.length - far<o.length
   ·have:o.getD (o.length - far) 0=o[o.length - far]:=by simp [hl]
    rw [this];exact h _ (List.getElem_mem hl)
   ·have:o.getD (o.length - far) 0=0:=by simp [hl]
    rw [this];decide
theorem yqq(l:List It):∀ {o:List Nat},jg0 0 o l->(∀ x∈o,x<256)->∀ x∈xg4 o l,x<256:=by
 induction l with
 | nil=>exact fun _ h=>h
 | cons y ys ih=>
  intro o hk h;refine ih hk.2 ?_;cases y with
  | byte b=>
   intro x hx;rcases List.mem_append.1 hx with hx | hx
   ·exact h x hx
   ·rw [List.mem_singleton.1 hx];exact hk.1
  | copy n far=>exact z6r far n h
theorem kje(ps:List Pt):∀ {o:List Nat},OkPs 0 o ps->(∀ x∈o,x<256)->∀ x∈xcr o ps,x<256:=by
 induction ps with
 | nil=>exact fun _ h=>h
 | cons p ps ih=>
  intro o hk h;refine ih hk.2 ?_;have hp:=hk.1;cases p with
  | plain s=>
   intro x hx;rcases List.mem_append.1 hx with hx | hx
   ·exact h x hx
   ·exact hp.2 x hx
  | fixed items=>exact yqq items hp h
  | own r a b items=>exact yqq items hp.2.2.2.2.2.1 h
structure MrI(w:World)(n k wt:Nat)(vo:Value)(wr:World):Prop where
 ex:∃ v bits o,MemI w.heap.size w.heap.size v vo bits o wr∧Made n k bits o∧bits.length<=7000*wt∧o.length<=66*wt
 bel:Below w.heap.size w wr
theorem MrI.start(w:World)(n:Nat):MrI w n 0 0 (.slice none 0 0) (w.alloc (.cells #[.slice none 0 0, .int .i64 0] 83)):=by
 refine ⟨⟨.slice none 0 0,[],[],⟨⟨[],0,⟨Nat.le_refl _,by simp,?_,World.ownsRow_nil _ _ _ _,fun e=>(by cases e)⟩,Pk.nil⟩,World.ownsRow_nil _ _ _ _,fun e=>(by cases e),fun _ e=>(by cases e)⟩,Made.none n,Nat.zero_le _,Nat.zero_le _⟩,(Below.refl _ _).alloc (Nat.le_refl _) _⟩;exact World.rowIs_alloc w #[.slice none 0 0, .int .i64 0] _ _ (two2 rfl rfl)
theorem MrI.next{w w1 w2:World}{n k wt dw:Nat}{v vo:Value}{bits out out':List Nat}{last:Bool}{q:Pt}(m:MemI w.heap.size w.heap.size v vo bits out' w1)(hb:Below w.heap.size w w1)(MD:Made n k bits out)(hk:k<n)(hl:last=true↔k+1=n)(ok:OkP 0 out q)(ho:out'=yfa out q)
  (k2:BBE w.heap.size w.heap.size v (bits++blkB bits.length (if last then 1 else 0) q) w1 w2) (L1:bits.length<=7000*wt) (L2:(blkB bits.length (if last then 1 else 0) q).length<=7000*dw) (L3:out'.length<=66*(wt+dw)):MrI w n (k+1) (wt+dw) vo w2:=by
 obtain ⟨v',m',f⟩:=m.packed k2;refine ⟨⟨v',_,_,m',?_,?_,L3⟩,hb.trans f.bel⟩
 ·rw [ho];exact MD.next hk hl ok
 ·rw [List.length_append];omega
theorem v6t(l:List PtD):l.length<=wts l:=by
 induction l with
 | nil=>exact Nat.zero_le _
 | cons d ds ih=>
  have e:wts (d :: ds)=d.wt+wts ds:=rfl;have:d.wt=d.s.size+d.ni+1:=rfl;rw [e,List.length_cons];omega
theorem yws:(Tryz.prog.info? 89).map (fun i=>(i.zero,i.size,i.bytes))=some (some (.agg #[.int .i64 0, .int .i64 0, .int .i64 0]),3,24):=by kernel_rfl
structure InI(w:World)(gb:Nat)(X:Obj)(v:Value)(bits out:List Nat)(vo vl:Value)(j:Nat)(wr:World):Prop where
 ex:∃ ds:List C3,ds.length=j∧MemI w.heap.size w.heap.size v vo bits (xg4 out (ds.map itOf)) wr∧ItR w.heap.size w.heap.size v vo vl ds wr∧(∀ d∈ds,∃ n,Fit n d)∧jg0 0 out (ds.map itOf)∧(xg4 out (ds.map itOf)).length<=out.length+66*j
 bel:Below w.heap.size w wr
 box:wr.heap[gb]?=some X
 no:vo.ownBlock≠some gb
 nl:vl.ownBlock≠some gb
theorem InI.grown{w:World}{gb:Nat}{X:Obj}{v:Value}{bits out:List Nat}{vo vl:Value}{j:Nat}{wr W2 w3:World}{ds:List C3}{d:C3}{vo3:Value}
  (m:MemI w.heap.size w.heap.size v vo bits (xg4 out (ds.map itOf)) wr) (r:ItR w.heap.size w.heap.size v vo vl ds wr) (hb:Below wr.heap.size wr W2) (hou:OuF w.heap.size vo vo3 W2 w3)
  (hown:w3.ownsRow w.heap.size 5 1 vo3 (grow (xg4 out (ds.map itOf)) (itOf d)).length (keg (grow (xg4 out (ds.map itOf)) (itOf d)))) :
  MemI w.heap.size w.heap.size v vo3 bits (xg4 out ((ds++[d]).map itOf)) w3∧ItR w.heap.size w.heap.size v vo3 vl ds w3:=by
 have e:xg4 out ((ds++[d]).map itOf)=grow (xg4 out (ds.map itOf)) (itOf d):=by rw [List.map_append];exact v8t _ _ _
 rw [e];exact ⟨(m.made hb).grown hou hown,(r.made hb).grown hou⟩
theorem v3p{ad:Option Addr}(cap:Nat)(parts:List PtD)(w:World)(hP:PartsO w ad parts)(hW:wts parts<=1048576) :
  Calls Tryz.prog 14 #[.slice ad parts.length cap] w fun e w'=>∃ s o,e= .returned (.tuple #[.string s, .string o])∧x56 (xpg s) (xpg o)∧(s.size<=875*wts parts+20∧o.size<=66*wts parts)∧Below w.heap.size w w':=by
 have HP:Hid (PartsO w ad parts∧wts parts<=1048576):=⟨hP,hW⟩
 have H0:Hid (MrI w parts.length 0 (wts (parts.take 0)) (.slice none 0 0) (w.alloc (.cells #[.slice none 0 0, .int .i64 0] 83))):=MrI.start w _;have hpl:parts.length<=1048576:=Nat.le_trans (v6t parts) hW;clear hP hW;go_enter Tryz.func14,Tryz.ntmps14
 go_wp2_with fail
 go_loopw [5,6,7,8,9,10,11,12,13,14] (fun vo i _ _ _ _ _ _ _ _ wr=>∃ k:Nat,k<=parts.length∧i= .int .i64 k∧Hid (MrI w parts.length k (wts (parts.take k)) vo wr)) (fun _ i _ _ _ _ _ _ _ _ _=>parts.length - (intOf i).toNat)
 case atStart=>exact ⟨0,Nat.zero_le _,rfl,H0⟩
 case round=>
  obtain ⟨k,hk,rfl,HR⟩:=hrel;clear H0;by_cases hlt:k<parts.length
  ·obtain ⟨bl,o,rfl,hbl,hc,hit,hpk⟩:=HP.out.1 k hlt;obtain ⟨D,hD⟩:∃ D,D=parts[k]:=⟨_,rfl⟩
   have HD:Hid (wts (parts.take (k+1))=wts (parts.take k)+D.wt∧ItO w D.ai D.ni∧yas w D.ap D.np):=by rw [hD];exact ⟨yop hlt,hit,hpk⟩
   rw [← hD] at hc;have ce:∀ j (u:Value),w.cell? ⟨bl,o+k*5+j,none⟩=some u->wr.cell? ⟨bl,o+k*5+j,none⟩=some u:=fun j u h=>(HR.out.bel.cell (p:=⟨bl,o+k*5+j,none⟩) hbl).trans h
   have c0:wr.cell? ⟨bl,o+k*5,none⟩=some (.int .i64 D.kind):=ce 0 _ (hc 0 (by decide));have c1:wr.cell? ⟨bl,o+k*5+1,none⟩=some (.string D.s):=ce 1 _ (hc 1 (by decide));have c2:wr.cell? ⟨bl,o+k*5+2,none⟩=some (.slice D.ai D.ni D.ci):=ce 2 _ (hc 2 (by decide));have c3:wr.cell? ⟨bl,o+k*5+3,none⟩=some (.slice D.ap D.np D.cp):=ce 3 _ (hc 3 (by decide));have c4:wr.cell? ⟨bl,o+k*5+4,none⟩=some (.bool D.runs):=ce 4 _ (hc 4 (by decide));clear hc ce hit hpk hD;obtain ⟨i5,hi5,hx0,hx1,hx2⟩:=info_parts kh5;obtain ⟨W,hW⟩:∃ W,W=wr.alloc (.cells #[.int .i64 D.kind, .string D.s, .slice D.ai D.ni D.ci, .slice D.ap D.np D.cp, .bool D.runs] 86):=⟨_,rfl⟩
   have MW:Hid ((∃ v bits out,MemI w.heap.size w.heap.size v u5 bits out W∧Made parts.length k bits out∧bits.length<=7000*wts (parts.take k)∧out.length<=66*wts (parts.take k))∧Below w.heap.size w W):=by
    obtain ⟨v,bits,out,m,md,l1,l2⟩:=HR.out.ex;have bw:Below wr.heap.size wr W:=by rw [hW];exact (Below.refl _ _).alloc (Nat.le_refl _) _
    exact ⟨⟨v,bits,out,m.made bw,md,l1,l2⟩,HR.out.bel.trans (bw.mono HR.out.bel.size)⟩
   have gx:W.heap[wr.heap.size]?=some (.cells #[.int .i64 D.kind, .string D.s, .slice D.ai D.ni D.ci, .slice D.ap D.np D.cp, .bool D.runs] 86 (0,0)):=by rw [hW];exact heap_alloc_new wr _
   have HX:Hid (W.heap[wr.heap.size]?=some (.cells #[.int .i64 D.kind, .string D.s, .slice D.ai D.ni D.ci, .slice D.ap D.np D.cp, .bool D.runs] 86 (0,0))∧w.heap.size<wr.heap.size∧u5.ownBlock≠some wr.heap.size):=by
    obtain ⟨v,bits,out,m,_⟩:=HR.out.ex;exact ⟨gx,m.bb.lt.2.1,fun e=>by have:=(m.out.lt _ e).2;omega⟩
   go_upto_region 7 with fail
   rw [← hW];have d0:W.cell? ⟨wr.heap.size,0,none⟩=some (.int .i64 D.kind):=by rw [cell_of_row _ _ 0 _ _ _ gx];rfl
   have d1:W.cell? ⟨wr.heap.size,1,none⟩=some (.string D.s):=by rw [cell_of_row _ _ 1 _ _ _ gx];rfl
   have d2:W.cell? ⟨wr.heap.size,2,none⟩=some (.slice D.ai D.ni D.ci):=by rw [cell_of_row _ _ 2 _ _ _ gx];rfl
   clear HR hW c0 c1 c2 c3 c4 gx;obtain ⟨gb,hgb⟩:∃ gb,gb=wr.heap.size:=⟨_,rfl⟩
   rw [← hgb] at d0 d1 d2 HX ⊢;clear hgb;by_cases h0:D.kind.tmod 3=0
   ·have hb:(D.kind.tmod 3==0)=true:=by simp [h0]
    by_cases hs:65535<D.s.size
    ·obtain ⟨v,bits,out,M,MD,L1,L2⟩:=MW.out.1;go_upto_region 8 with fail
     generalize hla:((k:Int)==(parts.length:Int) - 1)=last;have HLA:Hid (last=true↔k+1=parts.length):=by
      show _↔_;rw [← hla];simp;omega
     clear hla;go_upto_region 12 with fail
     obtain ⟨s,hse⟩:∃ s,s=D.s.extract 0 65535:=⟨_,rfl⟩
     have hsz:s.size<=65535:=by rw [hse];simp;omega
     have hsz2:s.size<=D.s.size:=by rw [hse];simp;omega
     rw [← hse];clear hse;have hol:out.length<=69206016:=by have:=vd5 parts k;have:=HP.out.2;omega
     have hbl2:bits.length<=7340032000:=by have:=vd5 parts k;have:=HP.out.2;omega
     go_upto_region 13 with (at_builtin;refine yfj _ rfl _ _ 34 9 rfl w.heap.size 5 i5 Tryz.underlying34 Tryz.underlying9 hi5 hx0 hx1 hx2 u5 out.length (keg out) rfl M.out s rfl (by unfold maxLen;omega) (by omega) M.bb.lt.1 ?_;intro vo2 w1 hown2 hgrow2 hat2)
     obtain ⟨M2,B2⟩:=M.text hown2 hgrow2 hat2;have HC:Hid (Calls Tryz.prog 37 #[.pointer (some ⟨w.heap.size,0,none⟩), .bool last, .string s] w1 fun e w'=>e= .returned (.tuple #[])∧BBE w.heap.size w.heap.size v (bits++blkB bits.length (if last then 1 else 0) (.plain (xpg s))) w1 w'):=xaa last s w1 M2.bb hsz (by omega);have HN:Hid (∀ w2,BBE w.heap.size w.heap.size v (bits++blkB bits.length (if last then 1 else 0) (.plain (xpg s))) w1 w2->MrI w parts.length (k+1) (wts (parts.take (k+1))) vo2 w2):=fun w2 k2=>by
      rw [HD.out.1];refine MrI.next M2 (MW.out.2.trans B2) MD hlt HLA.out (q:= .plain (xpg s)) ⟨by rw [kev];exact hsz,jn7 s⟩ rfl k2 L1 ?_ ?_
      ·have:=jks bits.length (if last then 1 else 0) (xpg s);rw [kev] at this;have:D.wt=D.s.size+D.ni+1:=rfl;omega
      ·rw [List.length_append,kev];have:D.wt=D.s.size+D.ni+1:=rfl;omega
     clear hown2 hgrow2 hat2 M2 B2 M MD L1 L2 MW HX;go_wp2_with (go_at_call 37;refine HC.out.mono ?_;rintro e w2 ⟨rfl,k2⟩;have HM:Hid (MrI w parts.length (k+1) (wts (parts.take (k+1))) vo2 w2):=HN.out w2 k2;clear k2)
     go_roundw
     case rel=>exact ⟨k+1,by omega,by go_num,HM⟩
     case measure=>simp [intOf];omega
    ·obtain ⟨v,bits,out,M,MD,L1,L2⟩:=MW.out.1;go_upto_region 8 with fail
     generalize hla:((k:Int)==(parts.length:Int) - 1)=last;have HLA:Hid (last=true↔k+1=parts.length):=by
      show _↔_;rw [← hla];simp;omega
     clear hla;go_upto_region 12 with fail
     obtain ⟨s,hse⟩:∃ s,s=D.s:=⟨_,rfl⟩
     have hsz:s.size<=65535:=by rw [hse];omega
     have hsz2:s.size<=D.s.size:=by rw [hse];exact Nat.le_refl _
     rw [← hse];clear hse;have hol:out.length<=69206016:=by have:=vd5 parts k;have:=HP.out.2;omega
     have hbl2:bits.length<=7340032000:=by have:=vd5 parts k;have:=HP.out.2;omega
     go_upto_region 13 with (at_builtin;refine yfj _ rfl _ _ 34 9 rfl w.heap.size 5 i5 Tryz.underlying34 Tryz.underlying9 hi5 hx0 hx1 hx2 u5 out.length (keg out) rfl M.out s rfl (by unfold maxLen;omega) (by omega) M.bb.lt.1 ?_;intro vo2 w1 hown2 hgrow2 hat2)
     obtain ⟨M2,B2⟩:=M.text hown2 hgrow2 hat2;have HC:Hid (Calls Tryz.prog 37 #[.pointer (some ⟨w.heap.size,0,none⟩), .bool last, .string s] w1 fun e w'=>e= .returned (.tuple #[])∧BBE w.heap.size w.heap.size v (bits++blkB bits.length (if last then 1 else 0) (.plain (xpg s))) w1 w'):=xaa last s w1 M2.bb hsz (by omega);have HN:Hid (∀ w2,BBE w.heap.size w.heap.size v (bits++blkB bits.length (if last then 1 else 0) (.plain (xpg s))) w1 w2->MrI w parts.length (k+1) (wts (parts.take (k+1))) vo2 w2):=fun w2 k2=>by
      rw [HD.out.1];refine MrI.next M2 (MW.out.2.trans B2) MD hlt HLA.out (q:= .plain (xpg s)) ⟨by rw [kev];exact hsz,jn7 s⟩ rfl k2 L1 ?_ ?_
      ·have:=jks bits.length (if last then 1 else 0) (xpg s);rw [kev] at this;have:D.wt=D.s.size+D.ni+1:=rfl;omega
      ·rw [List.length_append,kev];have:D.wt=D.s.size+D.ni+1:=rfl;omega
     clear hown2 hgrow2 hat2 M2 B2 M MD L1 L2 MW HX;go_wp2_with (go_at_call 37;refine HC.out.mono ?_;rintro e w2 ⟨rfl,k2⟩;have HM:Hid (MrI w parts.length (k+1) (wts (parts.take (k+1))) vo2 w2):=HN.out w2 k2;clear k2)
     go_roundw
     case rel=>exact ⟨k+1,by omega,by go_num,HM⟩
     case measure=>simp [intOf];omega
   ·have hb:(D.kind.tmod 3==0)=false:=by simp [h0]
    obtain ⟨v,bits,out,M,MD,L1,L2⟩:=MW.out.1;go_upto_region 8 with fail
    generalize hla:((k:Int)==(parts.length:Int) - 1)=last;have HLA:Hid (last=true↔k+1=parts.length):=by
     show _↔_;rw [← hla];simp;omega
    clear hla;have hdw:D.wt=D.s.size+D.ni+1:=rfl;have hni:D.ni<=1048576:=by have:=vd5 parts (k+1);have:=HP.out.2;have:=HD.out.1;omega
    have hol:out.length<=69206016:=by have:=vd5 parts k;have:=HP.out.2;omega
    have hbl2:bits.length<=7340032000:=by have:=vd5 parts k;have:=HP.out.2;omega
    obtain ⟨X,hX⟩:∃ X:Obj,X= .cells #[.int .i64 D.kind, .string D.s, .slice D.ai D.ni D.ci, .slice D.ap D.np D.cp, .bool D.runs] 86 (0,0):=⟨_,rfl⟩
    have HI0:Hid (InI w gb X v bits out u5 (.slice none 0 0) 0 W):=⟨⟨[],rfl,M,ItR.nil _ _ _ _ _,fun _ h=>(by cases h),trivial,Nat.le_refl _⟩,MW.out.2,by rw [hX];exact HX.out.1,HX.out.2.2,fun e=>(by cases e)⟩
    have HMD:Hid (Made parts.length k bits out∧bits.length<=7000*wts (parts.take k)∧out.length<=66*wts (parts.take k)):=⟨MD,L1,L2⟩
    have HXX:Hid (X= .cells #[.int .i64 D.kind, .string D.s, .slice D.ai D.ni D.ci, .slice D.ap D.np D.cp, .bool D.runs] 86 (0,0)):=hX;clear M MD L1 L2 MW HX hX;go_wp2_with fail
    clear d0 d1 d2;go_loopw [5,10,11,12] (fun vo vl j _ wr=>∃ i:Nat,i<=D.ni∧j= .int .i64 i∧Hid (InI w gb X v bits out vo vl i wr)) (fun _ _ j _ _=>D.ni - (intOf j).toNat)
    case atStart=>exact ⟨0,Nat.zero_le _,rfl,HI0⟩
    case round=>
     obtain ⟨i,hi,rfl,HJ⟩:=hrel;clear HI0;have gx:=HJ.out.box;rw [HXX.out] at gx;have d0:wr.cell? ⟨gb,0,none⟩=some (.int .i64 D.kind):=by rw [cell_of_row _ _ 0 _ _ _ gx];rfl
     have d3:wr.cell? ⟨gb,3,none⟩=some (.slice D.ap D.np D.cp):=by rw [cell_of_row _ _ 3 _ _ _ gx];rfl
     have d4:wr.cell? ⟨gb,4,none⟩=some (.bool D.runs):=by rw [cell_of_row _ _ 4 _ _ _ gx];rfl
     have d2:wr.cell? ⟨gb,2,none⟩=some (.slice D.ai D.ni D.ci):=by rw [cell_of_row _ _ 2 _ _ _ gx];rfl
     clear gx;obtain ⟨ds,hdl,M,R,hfd,hok,hlen⟩:=HJ.out.ex;by_cases hil:i<D.ni
     ·obtain ⟨bl2,o2,xb,xm,xf,hai,hbl3,q0,q1,q2⟩:=HD.out.2.1 i hil;rw [hai] at d2;clear hai;have c0:wr.cell? ⟨bl2,o2+i*3,none⟩=some (.int .i64 xb):=(HJ.out.bel.cell (p:=⟨bl2,o2+i*3,none⟩) hbl3).trans q0;have c1:wr.cell? ⟨bl2,o2+i*3+1,none⟩=some (.int .i64 xm):=(HJ.out.bel.cell (p:=⟨bl2,o2+i*3+1,none⟩) hbl3).trans q1;have c2:wr.cell? ⟨bl2,o2+i*3+2,none⟩=some (.int .i64 xf):=(HJ.out.bel.cell (p:=⟨bl2,o2+i*3+2,none⟩) hbl3).trans q2;clear q0 q1 q2 d0 d3 d4;obtain ⟨ao,co,hvo,_⟩:=zph M.out;have HV:Hid (u5= .slice ao (xg4 out (ds.map itOf)).length co):=hvo;have hgl:(xg4 out (ds.map itOf)).length<=200000000:=by omega
      have HF:Hid (Calls Tryz.prog 38 #[.agg #[.int .i64 xb, .int .i64 xm, .int .i64 xf],u5] wr fun e w'=>∃ db dm df,e= .returned (.agg #[.int .i64 db, .int .i64 dm, .int .i64 df])∧Fit (xg4 out (ds.map itOf)).length (db,dm,df)∧Below wr.heap.size wr w'):=by
       show Calls _ _ _ _ _;rw [hvo];exact (km0 (xb,xm,xf) ao _ co wr).mono fun e w' ⟨d,h1,h2,h3⟩=>⟨d.1,d.2.1,d.2.2,h1,h2,h3⟩
      clear hvo;go_upto_region 19 with (go_at_call 38;refine HF.out.mono ?_;rintro e w1 ⟨db,dm,df,rfl,hfit,hb1⟩)
      obtain ⟨W2,hW2⟩:∃ W2,W2=w1.alloc (.cells #[.int .i64 db, .int .i64 dm, .int .i64 df] 89):=⟨_,rfl⟩
      rw [← hW2];have hb12:Below w1.heap.size w1 W2:=by rw [hW2];exact (Below.refl _ _).alloc (Nat.le_refl _) _
      have hb2:Below wr.heap.size wr W2:=hb1.trans (hb12.mono hb1.size);have gi:W2.heap[w1.heap.size]?=some (.cells #[.int .i64 db, .int .i64 dm, .int .i64 df] 89 (0,0)):=by rw [hW2];exact heap_alloc_new w1 _
      have y0:W2.cell? ⟨w1.heap.size,0,none⟩=some (.int .i64 db):=by rw [cell_of_row _ _ 0 _ _ _ gi];rfl
      have y1:W2.cell? ⟨w1.heap.size,1,none⟩=some (.int .i64 dm):=by rw [cell_of_row _ _ 1 _ _ _ gi];rfl
      have y2:W2.cell? ⟨w1.heap.size,2,none⟩=some (.int .i64 df):=by rw [cell_of_row _ _ 2 _ _ _ gi];rfl
      have HG:Hid (Calls Tryz.prog 39 #[u5, .agg #[.int .i64 db, .int .i64 dm, .int .i64 df]] W2 fun e w'=>∃ v',e= .returned v'∧w'.ownsRow w.heap.size 5 1 v' (grow (xg4 out (ds.map itOf)) (itOf (db,dm,df))).length (keg (grow (xg4 out (ds.map itOf)) (itOf (db,dm,df))))∧OuF w.heap.size u5 v' W2 w'):=yji (db,dm,df) W2 (M.made hb2).out (M.made hb2).bb.lt.1 hfit (by omega);have hgi:w1.heap.size<W2.heap.size:=by rw [hW2];simp
      have hnv:u5.ownBlock≠some w1.heap.size:=fun e=>by have:=(M.out.lt _ e).2;have:=hb1.size;omega
      obtain ⟨gi0,hgi0⟩:∃ g,g=w1.heap.size:=⟨_,rfl⟩
      rw [← hgi0] at gi y0 y1 y2 hgi hnv ⊢;have HB:Hid (Below wr.heap.size wr W2):=hb2;clear hgi0 hb12 hb1 hb2 hW2 c0 c1 c2 d2;go_upto_region 20 with (go_at_call 39;refine HG.out.mono ?_;rintro e w3 ⟨vo3,rfl,hown3,hou⟩)
      obtain ⟨M3,R3⟩:=InI.grown (d:=(db,dm,df)) (X:=X) (j:=i) (gb:=gb) M R HB.out hou hown3;have gi3:w3.heap[gi0]?=some (.cells #[.int .i64 db, .int .i64 dm, .int .i64 df] 89 (0,0)):=(hou.blk gi0 hgi hnv).trans gi;have z0:w3.cell? ⟨gi0,0,none⟩=some (.int .i64 db):=by rw [cell_of_row _ _ 0 _ _ _ gi3];rfl
      have z1:w3.cell? ⟨gi0,1,none⟩=some (.int .i64 dm):=by rw [cell_of_row _ _ 1 _ _ _ gi3];rfl
      have z2:w3.cell? ⟨gi0,2,none⟩=some (.int .i64 df):=by rw [cell_of_row _ _ 2 _ _ _ gi3];rfl
      have H3:Hid (MemI w.heap.size w.heap.size v vo3 bits (xg4 out ((ds++[(db,dm,df)]).map itOf)) w3∧ItR w.heap.size w.heap.size v vo3 u10 ds w3∧w3.heap[gb]?=some X∧vo3.ownBlock≠some gb∧Below w.heap.size w w3):=by
       have hgl2:gb<wr.heap.size:=by have:=HJ.out.box;exact (Array.getElem?_eq_some_iff.1 this).1
       have hgl3:gb<W2.heap.size:=Nat.lt_of_lt_of_le hgl2 HB.out.size;refine ⟨M3,R3,((hou.blk gb hgl3 HJ.out.no).trans (j1i HB.out hgl2)).trans HJ.out.box,fun e=>?_,(HJ.out.bel.trans (HB.out.mono HJ.out.bel.size)).trans hou.bel⟩;rcases hou.nw gb e with e | e
       ·exact HJ.out.no e
       ·omega
      have HFD:Hid ((∀ d∈ds++[(db,dm,df)],∃ n,Fit n d)∧jg0 0 out ((ds++[(db,dm,df)]).map itOf)∧(xg4 out ((ds++[(db,dm,df)]).map itOf)).length<=out.length+66*(i+1)):=by
       refine ⟨fun d hd=>?_,?_,?_⟩
       ·rcases List.mem_append.1 hd with hd | hd
        ·exact hfd d hd
        ·rw [List.mem_singleton.1 hd];exact ⟨_,hfit⟩
       ·rw [List.map_append];exact z65 _ hok hfit.ok
       ·rw [List.map_append];have:=hfit.len;show (xg4 out (ds.map itOf++[itOf (db,dm,df)])).length<=_;rw [v8t];omega
      have hrow:=H3.out.2.1.row;have hBw3:w.heap.size<=w3.heap.size:=H3.out.2.2.2.2.size;have HNL:Hid (u10.ownBlock≠some gb):=HJ.out.nl;obtain ⟨i9,hi9,hq0,hq1,hq2⟩:=info_parts yws;have HDL:Hid (ds.length=i):=hdl;have hnews:∀ (j:Nat) (u:Value),([.int .i64 db, .int .i64 dm, .int .i64 df]:List Value)[j]?=some u->(w3.alloc (.cells #[.int .i64 db, .int .i64 dm, .int .i64 df] 89)).cell? ((⟨w3.heap.size,0,none⟩:Addr).add j)=some u:=by
       intro j u hu;have hj:j<3:=(List.getElem?_eq_some_iff.1 hu).1;have hh:(w3.alloc (.cells #[.int .i64 db, .int .i64 dm, .int .i64 df] 89)).heap[w3.heap.size]?=some (.cells #[.int .i64 db, .int .i64 dm, .int .i64 df] 89 (0,0)):=heap_alloc_new w3 _;have:j=0∨j=1∨j=2:=by omega
       rw [Addr.add_lit];rcases this with rfl | rfl | rfl <;> (cases hu;rw [cell_of_row _ _ _ _ _ _ hh];rfl)
      clear M3 R3 gi3 gi y0 y1 y2 hou hown3 M R hfd hok hlen HJ HG HF HB hfit HV;go_wp2_with (at_builtin;refine wpList_append_lies _ rfl _ _ 84 rfl w.heap.size 89 i9 _ 3 24 Tryz.underlying84 hi9 hq0 hq1 hq2 rfl (by decide) u10 ds.length (ds.flatMap c3s) rfl (hrow.alloc _) ⟨w3.heap.size,0,none⟩ 1 1 [.int .i64 db, .int .i64 dm, .int .i64 df] rfl rfl hnews (by simp [Value.oneCell']) (by omega) (by unfold maxLen;omega) (by omega) (by simp;omega) (w3.heap.size+1) (by simp) ?_;intro g2 p2 w5 hown2 hgrow2 hat2 hlt2)
      have hcs:ds.flatMap c3s++[.int .i64 db, .int .i64 dm, .int .i64 df]=(ds++[(db,dm,df)]).flatMap c3s:=by rw [List.flatMap_append];rfl
      have HP2:=H3.out.2.1.push (d:=(db,dm,df)) (g:=g2) (c:=p2) (n:=ds.length+1) H3.out.1 ((Below.refl _ _).alloc (Nat.le_refl _) _) hgrow2 (hat2.imp id (fun e=>by omega)) (by rw [← hcs,List.length_append];exact hown2);have HN:Hid (InI w gb X v bits out vo3 (.slice (some ⟨g2,0,none⟩) (ds.length+1) p2) (i+1) w5):=by
       have hgl3:gb<w3.heap.size:=(Array.getElem?_eq_some_iff.1 H3.out.2.2.1).1;refine ⟨⟨ds++[(db,dm,df)],by rw [List.length_append,HDL.out];rfl,HP2.1,HP2.2.1,HFD.out⟩,H3.out.2.2.2.2.trans HP2.2.2,?_,H3.out.2.2.2.1,fun e=>?_⟩
       ·rw [hgrow2.block gb (by simp;omega) (fun e=>HNL.out e.symm),j1i ((Below.refl _ _).alloc (Nat.le_refl _) _) hgl3];exact H3.out.2.2.1
       ·simp [Value.ownBlock] at e;rcases hat2 with e2 | e2
        ·exact HNL.out (by rw [e2,e])
        ·omega
      clear hown2 hgrow2 hat2 hlt2 HP2 hcs hnews hrow H3 HFD;rw [HDL.out] at HN;go_roundw
      case rel=>exact ⟨i+1,by omega,by go_num,HN⟩
      case measure=>simp [intOf];omega
     ·obtain rfl:i=D.ni:=by omega
      obtain ⟨ai,ci,hvl,hIO,hCl⟩:=R.items M hfd;have hok3:∀ x∈ds.map itOf,kg7 x:=fun x hx=>by
       obtain ⟨d,hd,rfl⟩:=List.mem_map.1 hx;obtain ⟨n,hn⟩:=hfd d hd;exact hn.ok3
      have hlm:(ds.map itOf).length=D.ni:=by rw [List.length_map,hdl]
      have HX2:Hid (MemI w.heap.size w.heap.size v u5 bits (xg4 out (ds.map itOf)) wr∧k1n wr ai (ds.map itOf)∧k3a wr w.heap.size v ai∧(∀ x∈ds.map itOf,kg7 x)∧jg0 0 out (ds.map itOf)∧(xg4 out (ds.map itOf)).length<=out.length+66*D.ni∧Below w.heap.size w wr∧(ds.map itOf).length=D.ni):=⟨M,hIO,hCl,hok3,hok,hlen,HJ.out.bel,hlm⟩
      clear M R hfd hok hlen HJ hIO hCl hok3 hdl;subst hvl;rw [hlm];clear hlm;generalize ds.map itOf=L at *;clear ds;by_cases h2:D.kind.tmod 3=2
      ·have hb2:(D.kind.tmod 3==2)=true:=by simp [h2]
       have HC:Hid (Calls Tryz.prog 40 #[.pointer (some ⟨w.heap.size,0,none⟩), .bool last, .slice ai D.ni ci, .slice D.ap D.np D.cp, .bool D.runs] wr fun e w'=>e= .returned (.tuple #[])∧∃ a b,OwnK L a b∧BBE w.heap.size w.heap.size v (bits++blkB bits.length (if last then 1 else 0) (.own D.runs a b L)) wr w'):=by
        obtain ⟨M,hIO,hCl,hok3,hok,hlen,hbel,hlm⟩:=HX2.out;have h:=zij last D.runs ai D.ap ci D.np D.cp L wr M.bb hIO hCl (HD.out.2.2.below hbel) hok3 (by omega) (by omega);rw [hlm] at h;exact h
       have HN:Hid (∀ w2,(∃ a b,OwnK L a b∧BBE w.heap.size w.heap.size v (bits++blkB bits.length (if last then 1 else 0) (.own D.runs a b L)) wr w2)->MrI w parts.length (k+1) (wts (parts.take (k+1))) u5 w2):=fun w2 ⟨a,b,ho,k2⟩=>by
        obtain ⟨M,hIO,hCl,hok3,hok,hlen,hbel,hlm⟩:=HX2.out;obtain ⟨MD,L1,L2⟩:=HMD.out;rw [HD.out.1];refine MrI.next M hbel MD hlt HLA.out (q:= .own D.runs a b L) (ho.okP hok D.runs) rfl k2 L1 ?_ ?_
        ·have:=kt5 bits.length (if last then 1 else 0) D.runs ho;omega
        ·omega
       clear HX2 HMD;go_wp2_with (go_at_call 40;refine HC.out.mono ?_;rintro e w2 ⟨rfl,k2⟩;have HM:Hid (MrI w parts.length (k+1) (wts (parts.take (k+1))) u5 w2):=HN.out w2 k2;clear k2)
       go_roundw
       case rel=>exact ⟨k+1,by omega,by go_num,HM⟩
       case measure=>simp [intOf];omega
      ·have hb2:(D.kind.tmod 3==2)=false:=by simp [h2]
       have HFX:=vob wr;go_upto_region 24 with (go_at_call 41;refine HFX.mono ?_;rintro e w1 ⟨g1,c1,g2,c2,rfl,n1,n2⟩)
       have H1:Hid (MemI w.heap.size w.heap.size v u5 bits (xg4 out L) w1∧k1n w1 ai L∧k3a w1 w.heap.size v ai∧xin w1 (some ⟨g1,0,none⟩) Tr.fixedA∧xin w1 (some ⟨g2,0,none⟩) Tr.fixedB∧k3a w1 w.heap.size v (some ⟨g1,0,none⟩)∧k3a w1 w.heap.size v (some ⟨g2,0,none⟩)∧Below w.heap.size w w1):=by
        obtain ⟨M,hIO,hCl,hok3,hok,hlen,hbel,hlm⟩:=HX2.out;exact ⟨M.made n1.bel,hIO.below n1.bel,hCl.next (M.bb.made n1.bel).2,n1.cells,n2.cells,M.bb.clear n1.new n1.lt,M.bb.clear n2.new n2.lt,hbel.trans (n1.bel.mono hbel.size)⟩
       clear n1 n2 HFX;have HB1:=jpq last 1 w1 H1.out.1.bb (by decide) (by omega);go_upto_region 25 with (go_at_call 42;refine HB1.mono ?_;rintro e w2 ⟨rfl,k2⟩)
       have H2:Hid (BBE w.heap.size w.heap.size v (bits++((if last then 1 else 0) :: v06 1 2)) w1 w2):=k2;clear k2 HB1;have HC:Hid (Calls Tryz.prog 43 #[.pointer (some ⟨w.heap.size,0,none⟩), .slice ai D.ni ci, .slice (some ⟨g1,0,none⟩) 269 c1, .slice (some ⟨g2,0,none⟩) 16 c2] w2 fun e w'=>e= .returned (.tuple #[])∧BBE w.heap.size w.heap.size v (bits++blkB bits.length (if last then 1 else 0) (.fixed L)) w1 w'):=by
        obtain ⟨_,_,_,hok3,hok,hlen,hbel,hlm⟩:=HX2.out;obtain ⟨M,hIO,hCl,e1,e2,e3,e4,_⟩:=H1.out;obtain ⟨v2,i2,f2⟩:=H2.out;have h:=xlj ai (some ⟨g1,0,none⟩) (some ⟨g2,0,none⟩) ci c1 c2 L Tr.fixedA Tr.fixedB w2 i2 (hIO.next hCl f2) (e1.next e3 f2) (e2.next e4 f2) (hCl.next f2) (e3.next f2) (e4.next f2) vrw (vsn (by omega)) (fun x hx=>vvs (hok3 x hx)) (by omega) (by rw [List.length_append,List.length_cons,vxm];omega);rw [hlm,xgg,v02] at h;refine h.mono fun e w' ⟨q1,q2⟩=>⟨q1,?_⟩
        have q3:=BBE.trans f2 q2;rw [List.append_assoc] at q3;exact q3
       have HN:Hid (∀ w3,BBE w.heap.size w.heap.size v (bits++blkB bits.length (if last then 1 else 0) (.fixed L)) w1 w3->MrI w parts.length (k+1) (wts (parts.take (k+1))) u5 w3):=fun w3 k3=>by
        obtain ⟨_,_,_,hok3,hok,hlen,hbel,hlm⟩:=HX2.out;obtain ⟨MD,L1,L2⟩:=HMD.out;rw [HD.out.1];refine MrI.next H1.out.1 H1.out.2.2.2.2.2.2.2 MD hlt HLA.out (q:= .fixed L) hok rfl k3 L1 ?_ ?_
        ·have:=xey bits.length (if last then 1 else 0) hok3;omega
        ·omega
       clear HX2 HMD H1 H2;go_wp2_with (go_at_call 43;refine HC.out.mono ?_;rintro e w3 ⟨rfl,k3⟩;have HM:Hid (MrI w parts.length (k+1) (wts (parts.take (k+1))) u5 w3):=HN.out w3 k3;clear k3)
       go_roundw
       case rel=>exact ⟨k+1,by omega,by go_num,HM⟩
       case measure=>simp [intOf];omega
  ·obtain rfl:k=parts.length:=by omega
   obtain ⟨v,bits,out,M,MD,L1,L2⟩:=HR.out.ex;have hw:=HP.out.2;rw [List.take_length] at L1 L2;have ho:∀ x∈out,x<256:=by
    obtain ⟨ps,_,e2,e3,_⟩:=MD;rw [e3];exact kje ps e2 (fun x hx=>by cases hx)
   by_cases hn:0<parts.length
   ·obtain ⟨s,os,E⟩:=MeE.of (n:=wts parts) M (fun l left pk=>MD.packs hn pk) (by omega) L2 ho HR.out.bel;have HE:Hid (x56 (xpg s) (xpg os)∧(s.size<=875*wts parts+20∧os.size<=66*wts parts)∧Below w.heap.size w wr):=⟨E.packs,E.small,E.bel⟩
    obtain ⟨ab,nb,cb,ao,no,co,c0,rfl,hc1,hc2⟩:=E.ex;clear E M MD L1 L2 ho HR hw HP;go_upto_region 28 with fail
    have hc3:(convert 34 9 (.slice ab nb cb)).run Tryz.prog wr.drew= .ok (.string s) wr.drew:=hc1 1;have hc4:(convert 34 9 (.slice ao no co)).run Tryz.prog wr.drew= .ok (.string os) wr.drew:=hc2 1;go_region
    go_wp2_with fail
    go_ret2
    exact ⟨s,os,rfl,HE.out.1,HE.out.2.1,⟨HE.out.2.2.os,HE.out.2.2.tape,HE.out.2.2.output,HE.out.2.2.size,HE.out.2.2.block⟩⟩
   ·have hz:parts.length=0:=by omega
    have HC:Hid (Calls Tryz.prog 37 #[.pointer (some ⟨w.heap.size,0,none⟩), .bool true, .string ⟨#[]⟩] wr fun e w'=>e= .returned (.tuple #[])∧BBE w.heap.size w.heap.size v (bits++blkB bits.length 1 (.plain [])) wr w'):=xaa true ⟨#[]⟩ wr M.bb (by decide) (by omega);have HN:Hid (∀ w2,BBE w.heap.size w.heap.size v (bits++blkB bits.length 1 (.plain [])) wr w2->∃ s o,MeE w w.heap.size (wts parts) u5 w2 s o):=fun w2 k2=>by
     obtain ⟨v',m',f⟩:=M.packed k2;rw [hz] at MD;refine MeE.of m' (fun l left pk=>MD.packs0 pk) ?_ L2 ho (HR.out.bel.trans f.bel);have:=jks bits.length 1 [];rw [List.length_append];simp only [List.length_nil] at this;omega
    clear M MD L1 L2 ho HR hw HP;have hz2:((parts.length:Int)==0)=true:=by rw [hz];rfl
    go_upto_region 28 with (go_at_call 37;refine HC.out.mono ?_;rintro e w2 ⟨rfl,k2⟩;have HM:Hid (∃ s o,MeE w w.heap.size (wts parts) u5 w2 s o):=HN.out w2 k2;clear k2)
    obtain ⟨s,os,E⟩:=HM.out;have HE:Hid (x56 (xpg s) (xpg os)∧(s.size<=875*wts parts+20∧os.size<=66*wts parts)∧Below w.heap.size w w2):=⟨E.packs,E.small,E.bel⟩
    obtain ⟨ab,nb,cb,ao,no,co,c0,rfl,hc1,hc2⟩:=E.ex;clear E HM;have hc3:(convert 34 9 (.slice ab nb cb)).run Tryz.prog w2.drew= .ok (.string s) w2.drew:=hc1 1;have hc4:(convert 34 9 (.slice ao no co)).run Tryz.prog w2.drew= .ok (.string os) w2.drew:=hc2 1;go_region
    go_wp2_with fail
    go_ret2
    exact ⟨s,os,rfl,HE.out.1,HE.out.2.1,⟨HE.out.2.2.os,HE.out.2.2.tape,HE.out.2.2.output,HE.out.2.2.size,HE.out.2.2.block⟩⟩
theorem y51(s:ByteArray):xu6 (xpg s)=s:=by
 have h:xpg (xu6 (xpg s))=xpg s:=y7p (jn7 s);have inj:∀ l m:List UInt8,l.map UInt8.toNat=m.map UInt8.toNat->l=m:=by
  intro l;induction l with
  | nil=>intro m e;cases m with
   | nil=>rfl
   | cons x xs=>cases e
  | cons y ys ih=>
   intro m e;cases m with
   | nil=>cases e
   | cons x xs=>
    rw [List.map_cons,List.map_cons,List.cons.injEq] at e;rw [UInt8.toNat_inj.1 e.1,ih xs e.2]
 have h2:=inj _ _ h;exact ByteArray.ext (Array.ext' h2)
theorem PartsO.below{w w':World}{ad:Option Addr}{l:List PtD}(h:PartsO w ad l)(b:Below w.heap.size w w'):PartsO w' ad l:=fun k hk=>by
 obtain ⟨bl,o,e,hlt,hc,hi,hp⟩:=h k hk;exact ⟨bl,o,e,Nat.lt_of_lt_of_le hlt b.size,fun j hj=>(b.cell (p:=⟨bl,o+k*5+j,none⟩) hlt).trans (hc j hj),hi.below b,hp.below b⟩
theorem xc3(s:ByteArray):ksp s (xpg s):=by
 refine ⟨⟨Nat.le_of_eq (kev s),fun k hk=>?_⟩,(kev s).symm⟩;have hk':k<s.data.toList.length:=by simpa [xpg] using hk
 unfold k0w xpg;rw [List.getD_eq_getElem?_getD,List.getD_eq_getElem?_getD,List.getElem?_map,List.getElem?_eq_getElem hk'];rfl
end Go.Proofs.YtbcjmakpempkiaaGreatDoor
