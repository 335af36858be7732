import Derived.Laws.BytesArg
import Derived.Test.YtbcjmakpempkiaaGreatDoorX10
set_option maxRecDepth 100000
set_option maxHeartbeats 8000000
set_option linter.all false
namespace Go.Proofs.YtbcjmakpempkiaaGreatDoor
open Go.RowKit
def Tr.start(s:ByteArray)(limit:Nat):Tr:={ out:=[],ats:=[],inn:=0,starts:=[],err:=0,needs:=false,s:=s,cur:=0,left:=0,frm:=0,head:=0,many:=0,limit:=limit }
def Tr.trail(t:Tr):Tr:=if t.ended=false∧t.inn<t.s.size then ({ t with inn:=t.inn+1 }:Tr).fail 14 else t
def Tr.readRaw(s:ByteArray)(limit:Nat):Tr:=if s.size=0 then { Tr.start s limit with needs:=true } else ({ Tr.start s limit with starts:=[0] }:Tr).blocks.trail
def xu6(l:List Nat):ByteArray:=strOfNums (l.map fun (n:Nat)=>(n:Int))
def Tr.mean(t:Tr):ByteArray×Nat:=if t.err≠0 then (⟨#[]⟩,t.err) else if t.needs then (⟨#[]⟩,15) else (xu6 t.out,0)
theorem v7g{B p:Nat}{vo va vs vs':Value}{t:Tr}{w w':World}{l:List Nat}(h:TrI B p vo va vs t w)(hk:Sole p w w')(hrow:w'.rowIs p 235 13 (tfld { t with starts:=l } vo va vs'))(hs:w'.ownsRow B 3 1 vs' l.length (yqv l))(hp:vs'.ownBlock≠some p)(ho:∀ g,vo.ownBlock=some g->vs'.ownBlock≠some g)(ha:∀ g,va.ownBlock=some g->vs'.ownBlock≠some g):TrI B p vo va vs' { t with starts:=l } w' where
 pB:=h.pB
 hB:=Nat.le_trans h.hB hk.size
 row:=hrow
 out:=jhg h.out hk h.po
 ats:=jhg h.ats hk h.pa
 sts:=hs
 po:=h.po
 pa:=h.pa
 ps:=hp
 oa:=h.oa
 os:=ho
 sa:=ha
def kh8(s:ByteArray)(limit:Nat):Array Value:=#[.slice none 0 0, .slice none 0 0, .int .i64 0, .slice none 0 0, .int .i64 0, .bool false, .string s, .int .i64 0, .int .i64 0, .int .i64 0, .int .i64 0, .int .i64 0, .int .i64 limit]
theorem joj(s:ByteArray)(limit:Nat)(i:Nat)(hi:i<13):(kh8 s limit)[i]?=some (tfld (Tr.start s limit) (.slice none 0 0) (.slice none 0 0) (.slice none 0 0) i):=by
 revert i
 exact vhp rfl rfl rfl rfl rfl rfl rfl rfl rfl rfl rfl rfl rfl
theorem vb0(s:ByteArray)(limit:Nat)(w:World):TrI w.heap.size w.heap.size (.slice none 0 0) (.slice none 0 0) (.slice none 0 0) (Tr.start s limit) (w.alloc (.cells (kh8 s limit) 235)) where
 pB:=Nat.le_refl _
 hB:=by simp
 row:=⟨kh8 s limit,heap_alloc_new _ _,rfl,joj s limit⟩
 out:=World.ownsRow_nil _ _ _ _
 ats:=World.ownsRow_nil _ _ _ _
 sts:=World.ownsRow_nil _ _ _ _
 po:=by simp [Value.ownBlock]
 pa:=by simp [Value.ownBlock]
 ps:=by simp [Value.ownBlock]
 oa:=fun g h=>by simp [Value.ownBlock] at h
 os:=fun g h=>by simp [Value.ownBlock] at h
 sa:=fun g h=>by simp [Value.ownBlock] at h
theorem kak(s:ByteArray)(limit:Nat):(Tr.start s limit).Fine:=⟨by show 0<=8;omega,by show 0<256;omega,Nat.zero_le _,Nat.le_refl _,rfl,by show 0<=18;omega⟩
theorem jqo(s:ByteArray)(limit:Nat)(hs:s.size<=1000000000):(Tr.start s limit).cost<=900000000000:=by
 unfold Tr.cost Tr.mu Tr.ended Tr.start;simp;omega
def jmy(w:World)(t:Tr)(x:Ending)(w':World):Prop:=∃ p vo va vs,x= .returned (.pointer (some ⟨p,0,none⟩))∧TrI w.heap.size p vo va vs t w'∧Below w.heap.size w w'
theorem kui(s:ByteArray)(m:Int)(limit:Nat)(w:World)(hs:s.size<=1000000000)(hO:y4t w w.heap.size) :
  Calls Tryz.prog 155 #[.int .i64 0, .int .i64 m, .int .i64 limit, .string s] w fun x w'=>jmy w (Tr.readRaw s limit) x w':=by
 obtain ⟨W0,hW0⟩:∃ W0,W0=w.alloc (.cells (kh8 s limit) 235):=⟨_,rfl⟩
 have I0:TrI w.heap.size w.heap.size (.slice none 0 0) (.slice none 0 0) (.slice none 0 0) (Tr.start s limit) W0:=by rw [hW0];exact vb0 s limit w
 have B0:Below w.heap.size w W0:=by rw [hW0];exact (Below.refl _ _).alloc (Nat.le_refl _) _
 have hsz0:W0.heap.size=w.heap.size+1:=by rw [hW0];simp
 have c5:W0.cell? ⟨w.heap.size,5,none⟩=some (.bool false):=I0.row.cell (i:=5) (by omega);have f5:=I0.row.frozen 5;have c3:W0.cell? ⟨w.heap.size,3,none⟩=some (.slice none 0 0):=I0.row.cell (i:=3) (by omega);have f3:=I0.row.frozen 3;have HI0:Hid (TrI w.heap.size w.heap.size (.slice none 0 0) (.slice none 0 0) (.slice none 0 0) (Tr.start s limit) W0∧Below w.heap.size w W0):=⟨I0,B0⟩
 have HO0:Hid (y4t W0 w.heap.size):=hO.below B0;have HS:Hid (s.size<=1000000000):=hs;clear I0 B0 hO hs;by_cases hz:s.size=0
 ·have he:s=⟨#[]⟩:=by
   cases s with
   | mk d=>
    have:d.size=0:=hz;rw [Array.size_eq_zero_iff.1 this]
  subst he;have e:Tr.readRaw ⟨#[]⟩ limit={ Tr.start ⟨#[]⟩ limit with needs:=true }:=by unfold Tr.readRaw;rw [if_pos (show (⟨#[]⟩:ByteArray).size=0 from rfl)]
  rw [e];have HK:Hid (Kept w.heap.size w.heap.size (.slice none 0 0) (.slice none 0 0) (.slice none 0 0) { Tr.start ⟨#[]⟩ limit with needs:=true } W0 (W0.setCell ⟨w.heap.size,5,none⟩ (.bool true))):=kk4 (Kept.refl HI0.out.1);clear e hz;go_enter Tryz.func155,Tryz.ntmps155
  go_upto_region 2 with fail
  change Code.wp _ _ _ _ (w.alloc (.cells (kh8 ⟨#[]⟩ limit) 235))
  rw [← hW0];clear hW0;go_wp2_with fail
  go_ret
  exact ⟨w.heap.size,_,_,_,rfl,HK.out.inv,HI0.out.2.trans HK.out.bel⟩
 ·go_enter Tryz.func155,Tryz.ntmps155
  go_upto_region 2 with fail
  change Code.wp _ _ _ _ (w.alloc (.cells (kh8 s limit) 235))
  rw [← hW0];clear hW0;have hne:¬ s=⟨#[]⟩:=by
   intro e;rw [e] at hz;exact hz rfl
  have hemp:s.toList.isEmpty=false:=by
   rw [ByteArray.toList_eq];cases hl:s.data.toList with
   | nil=>exact absurd (by show s.data.size=0;rw [← Array.length_toList,hl];rfl) hz
   | cons _ _=>rfl
  obtain ⟨W1,hW1⟩:∃ W1,W1=(W0.setCell ⟨w.heap.size,3,none⟩ (.slice (some ⟨w.heap.size+1,0,none⟩) 1 1)).alloc (.cells #[.int .i64 0] 3):=⟨_,rfl⟩
  have hsc:(W0.setCell ⟨w.heap.size,3,none⟩ (.slice (some ⟨w.heap.size+1,0,none⟩) 1 1)).heap.size=w.heap.size+1:=by simp [World.setCell,hsz0]
  have BW:Below (w.heap.size+1) (W0.setCell ⟨w.heap.size,3,none⟩ (.slice (some ⟨w.heap.size+1,0,none⟩) 1 1)) W1:=by rw [hW1];exact (Below.refl _ _).alloc (by omega) _
  have hk1:Sole w.heap.size W0 W1:=(Sole.set _ _ _ _).trans (Sole.of_below (by rw [hsc];exact BW));have hnew:W1.heap[w.heap.size+1]?=some (.cells #[.int .i64 0] 3 (0,0)):=by
   have h:=heap_alloc_new (W0.setCell ⟨w.heap.size,3,none⟩ (.slice (some ⟨w.heap.size+1,0,none⟩) 1 1)) (.cells #[.int .i64 0] 3);rw [hsc,← hW1] at h;exact h
  have T1:TrI w.heap.size w.heap.size (.slice none 0 0) (.slice none 0 0) (.slice (some ⟨w.heap.size+1,0,none⟩) 1 1) { Tr.start s limit with starts:=[0] } W1:=by
   refine v7g HI0.out.1 hk1 ?_ ?_ (by simp [Value.ownBlock]) (fun g h=>by simp [Value.ownBlock] at h) (fun g h=>by simp [Value.ownBlock] at h)
   ·have r:=(HI0.out.1.row.set 3 (.slice (some ⟨w.heap.size+1,0,none⟩) 1 1)).of_block (BW.block w.heap.size (by omega));refine r.congr ?_;intro j hj;revert j
    exact vhp rfl rfl rfl rfl rfl rfl rfl rfl rfl rfl rfl rfl rfl
   ·exact ⟨rfl,Or.inr ⟨w.heap.size+1,1,#[.int .i64 0],rfl,by omega,hnew,Nat.le_refl _,by unfold maxLen;omega,rfl,rfl⟩⟩
  have B01:Below w.heap.size W0 W1:=((Below.refl _ _).setCell (Nat.le_refl _) _).trans (BW.mono (show w.heap.size<=w.heap.size+1 by omega));have BB:Below w.heap.size w W1:=HI0.out.2.trans B01;have HT1:Hid (TrI w.heap.size w.heap.size (.slice none 0 0) (.slice none 0 0) (.slice (some ⟨w.heap.size+1,0,none⟩) 1 1) { Tr.start s limit with starts:=[0] } W1∧Below w.heap.size w W1):=⟨T1,BB⟩
  have HO1:Hid (y4t W1 w.heap.size):=HO0.out.below B01;have HFC:Hid (({ Tr.start s limit with starts:=[0] }:Tr).Fine∧({ Tr.start s limit with starts:=[0] }:Tr).cost<=900000000000):=by
   have f:=kak s limit;exact ⟨⟨f.left,f.cur,f.inn,f.frm,f.ats,f.err⟩,jqo s limit HS.out⟩
  clear BW hk1 hnew T1 BB hsc B01;have HRD:Hid (Tr.readRaw s limit=({ Tr.start s limit with starts:=[0] }:Tr).blocks.trail):=by show _=_;unfold Tr.readRaw;rw [if_neg hz]
  have HSM:Hid (({ Tr.start s limit with starts:=[0] }:Tr).s=s):=rfl;generalize ({ Tr.start s limit with starts:=[0] }:Tr)=t0 at *;go_upto_region 17 with fail
  rw [← hW1];clear hW1 c5 f5 c3 f3 hne;go_wp2_with fail
  refine (y7t W1 HT1.out.1 HFC.out.1 (by rw [HSM.out];unfold maxLen;have:=HS.out;omega) HFC.out.2 HO1.out).mono ?_;rintro e w2 ⟨rfl,vo2,va2,m2⟩;have HM2:Hid (jkl w.heap.size w.heap.size (.slice none 0 0) (.slice none 0 0) (.slice (some ⟨w.heap.size+1,0,none⟩) 1 1) vo2 va2 t0.blocks W1 w2):=m2;have HBF:Hid (t0.blocks.s=s∧t0.blocks.Fine):=by
   have f:=Tr.blocks_facts HFC.out.1;exact ⟨f.1.trans HSM.out,f.2.2.2.2.1⟩
  clear m2;generalize t0.blocks=T at *;have c2:w2.cell? ⟨w.heap.size,2,none⟩=some (.int .i64 T.inn):=HM2.out.inv.row.cell (i:=2) (by omega);have f2:=HM2.out.inv.row.frozen 2;have hin:T.inn<=s.size:=by have:=HBF.out.2.inn;rw [HBF.out.1] at this;exact this
  have hss:=HS.out;cases he:T.ended
  ·have HE:Hid (T.ended=false):=he;clear he;by_cases hlt:T.inn<s.size
   ·have HTR:Hid (T.trail=({ T with inn:=T.inn+1 }:Tr).fail 14):=by show _=_;unfold Tr.trail;rw [if_pos ⟨HE.out,by rw [HBF.out.1];exact hlt⟩]
    have HKI:Hid (Kept w.heap.size w.heap.size vo2 va2 (.slice (some ⟨w.heap.size+1,0,none⟩) 1 1) { T with inn:=T.inn+1 } w2 (w2.setCell ⟨w.heap.size,2,none⟩ (.int .i64 ((T.inn:Int)+1)))):=x3v (Kept.refl HM2.out.inv) (T.inn+1);go_wp2_with (first | (go_at_call 182;refine (ywm _ HM2.out.inv).mono ?_;rw [HE.out];rintro e w' ⟨rfl,rfl⟩))
    refine (j0n 14 _ HKI.out.inv).mono ?_;rintro e w3 ⟨rfl,q3⟩;have HK3:Hid (Kept w.heap.size w.heap.size vo2 va2 (.slice (some ⟨w.heap.size+1,0,none⟩) 1 1) (({ T with inn:=T.inn+1 }:Tr).fail 14) w2 w3):=HKI.out.trans q3;clear q3;go_wp2_with fail
    go_ret
    rw [HRD.out,HTR.out];exact ⟨w.heap.size,vo2,va2,_,rfl,HK3.out.inv,HT1.out.2.trans (HM2.out.bel.trans HK3.out.bel)⟩
   ·have HTR:Hid (T.trail=T):=by show _=_;unfold Tr.trail;rw [if_neg (by rw [HBF.out.1];omega)]
    go_wp2_with (first | (go_at_call 182;refine (ywm _ HM2.out.inv).mono ?_;rw [HE.out];rintro e w' ⟨rfl,rfl⟩))
    go_ret
    rw [HRD.out,HTR.out];exact ⟨w.heap.size,vo2,va2,_,rfl,HM2.out.inv,HT1.out.2.trans HM2.out.bel⟩
  ·have HE:Hid (T.ended=true):=he;clear he;have HTR:Hid (T.trail=T):=by show _=_;unfold Tr.trail;rw [if_neg (by rw [HE.out];simp)]
   go_wp2_with (first | (go_at_call 182;refine (ywm _ HM2.out.inv).mono ?_;rw [HE.out];rintro e w' ⟨rfl,rfl⟩))
   go_ret
   rw [HRD.out,HTR.out];exact ⟨w.heap.size,vo2,va2,_,rfl,HM2.out.inv,HT1.out.2.trans HM2.out.bel⟩
theorem zew{B p:Nat}{vo va vs:Value}{t:Tr}{w:World}(h:TrI B p vo va vs t w):∃ ad cap,vo= .slice ad t.out.length cap∧(convert 34 9 (.slice ad t.out.length cap)).run Tryz.prog w= .ok (.string (xu6 t.out)) w:=by
 rcases h.out.2 with ⟨e,h0⟩ | ⟨g,cp,cur,e,hb,hg,hn,hm,hs,ht⟩
 ·refine ⟨none,0,by rw [e,h0],?_⟩;have e0:t.out=[]:=List.length_eq_zero_iff.1 h0;rw [run_convert_bytes_nil w 34 5 Tryz.underlying34 Tryz.underlying5 _ _ 9 Tryz.underlying9,e0];rfl
 ·refine ⟨some ⟨g,0,none⟩,cp,e,?_⟩;refine run_convert_bytes_arg w 34 5 Tryz.underlying34 Tryz.underlying5 g 0 t.out.length cp (t.out.map fun (n:Nat)=>(n:Int)) (by simp) ?_ 9 Tryz.underlying9;intro i hi;have h':=h.out;rw [e] at h';rw [Nat.zero_add,World.ownsRow.cellAt h' i (by omega)];simp [keg,hi]
def vht(w:World)(q:ByteArray×Nat)(x:Ending)(w':World):Prop:=x= .returned (.tuple #[.string q.1, .int .i64 q.2])∧Below w.heap.size w w'
namespace Tr
def sumL(l:List Nat):Int:=65536*(sxy (fun k=>((l.getD k 0:Nat):Int)) l.length).2+(sxy (fun k=>((l.getD k 0:Nat):Int)) l.length).1
def four(t:Tr):Nat->Nat×Tr
 | 0=>(0,t)
 | k+1=>(256*(t.four k).1+(t.four k).2.octet.1,(t.four k).2.octet.2)
def sum(t:Tr):Tr:=if ((t.four 4).1:Int)=sumL ((t.four 4).2.out.drop (t.four 4).2.frm) then (t.four 4).2 else (t.four 4).2.fail 12
def crowned(t:Tr)(b:Nat):Tr:={ (if t.limit<=t.many then t.fail 5 else t) with many:=t.many+1,head:=(t.head+b)%256 }
def crown(t:Tr):Nat×Tr:=(t.octet.1,t.octet.2.crowned t.octet.1)
def isB(t:Tr)(b:Nat):Tr:=if t.crown.1=b then t.crown.2 else t.crown.2.fail 4
def text(t:Tr):Tr:=
 if t.ended then t
 else if t.crown.1=0 then t.crown.2
 else if _h:t.crown.2.mu<t.mu then text t.crown.2
 else t
 termination_by t.mu
def marked(t:Tr)(m:Nat):Tr:=
 let t2:=if 7<m then t.fail 4 else t
 let t3:=if m%2=1 then t2.text else t2
 let t4:=if m / 2%2=1 then t3.text else t3
 if m / 4=1 then t4.isB t4.head else t4
def sized(t:Tr):Tr:=if t.octet.1+256*t.octet.2.octet.1=(t.octet.2.octet.2.out.length - t.octet.2.octet.2.frm)%65536 then t.octet.2.octet.2 else t.octet.2.octet.2.fail 13
def headed(t:Tr):Tr:=((({ t with head:=0,many:=0 }:Tr).isB 76).isB 2)
def member(t:Tr):Tr:=(t.headed.crown.2.marked t.headed.crown.1).blocks.sum.sized
theorem mu_crowned(t:Tr)(b:Nat):(t.crowned b).mu<=t.mu:=by
 have e:(t.crowned b).mu=(if t.limit<=t.many then t.fail 5 else t).mu:=rfl;rw [e];split
 ·exact (fwd_fail t (by decide)).mu
 ·exact Nat.le_refl _
theorem fwd_crowned(t:Tr)(b:Nat):Fwd t (t.crowned b):=by
 have f:Fwd t (if t.limit<=t.many then t.fail 5 else t):=fwd_ite_fail _ t (by decide);exact ⟨f.out,f.ats,f.starts,f.s,f.frm,f.limit,f.mu,f.ended⟩
theorem fwd_crown(t:Tr):Fwd t t.crown.2:=(fwd_octet t).trans (fwd_crowned _ _)
theorem mu_octet_lt{t:Tr}(h:t.ended=false):t.octet.2.mu<t.mu:=by
 cases h2:t.octet.2.ended
 ·have:=mu_octet h2;omega
 ·rw [mu_ended h2];exact mu_pos h
theorem mu_crown{t:Tr}(h:t.ended=false):t.crown.2.mu<t.mu:=Nat.lt_of_le_of_lt (mu_crowned _ _) (mu_octet_lt h)
theorem Fine.crowned{t:Tr}(h:Fine t)(b:Nat):Fine (t.crowned b):=by
 have f:Fine (if t.limit<=t.many then t.fail 5 else t):=Fine.ite_fail _ h (by decide);exact ⟨f.left,f.cur,f.inn,f.frm,f.ats,f.err⟩
theorem Fine.crown{t:Tr}(h:Fine t):Fine t.crown.2:=h.octet.crowned _
theorem fwd_isB(t:Tr)(b:Nat):Fwd t (t.isB b):=by
 unfold isB;split
 ·exact fwd_crown t
 ·exact (fwd_crown t).trans (fwd_fail _ (by decide))
theorem Fine.isB{t:Tr}(h:Fine t)(b:Nat):Fine (t.isB b):=by
 unfold Tr.isB;split
 ·exact h.crown
 ·exact h.crown.fail (by decide)
theorem text_end{t:Tr}(h:t.ended=true):t.text=t:=by rw [text,if_pos h]
theorem text_stop{t:Tr}(h:t.ended=false)(h2:t.crown.1=0):t.text=t.crown.2:=by rw [text,if_neg (by rw [h];simp),if_pos h2]
theorem text_go{t:Tr}(h:t.ended=false)(h2:t.crown.1≠0):t.text=t.crown.2.text:=by rw [text,if_neg (by rw [h];simp),if_neg h2,dif_pos (mu_crown h)]
structure Low(n:Nat)(t:Tr):Prop where
 head:t.head<256
 many:t.many+t.mu<=n
theorem octet_head(t:Tr):t.octet.2.head=t.head∧t.octet.2.many=t.many:=by
 cases hd:t.ended
 ·by_cases hs:t.s.size<=t.inn
  ·rw [octet_none hd hs];exact ⟨rfl,rfl⟩
  ·rw [octet_some hd (by omega)];exact ⟨rfl,rfl⟩
 ·rw [octet_ended hd];exact ⟨rfl,rfl⟩
theorem fail_head(t:Tr)(e:Nat):(t.fail e).head=t.head∧(t.fail e).many=t.many:=by
 cases hd:t.ended
 ·rw [fail_going hd];exact ⟨rfl,rfl⟩
 ·rw [fail_ended hd];exact ⟨rfl,rfl⟩
theorem Low.mono{n m:Nat}{t:Tr}(h:Low n t)(hm:n<=m):Low m t:=⟨h.head,Nat.le_trans h.many hm⟩
theorem Low.fail{n:Nat}{t:Tr}(h:Low n t){e:Nat}(he:e≠0):Low n (t.fail e):=⟨by rw [(fail_head t e).1];exact h.head,by rw [(fail_head t e).2,mu_fail t he];have:=h.many;omega⟩
theorem Low.crown{n:Nat}{t:Tr}(h:Low n t):Low (n+1) t.crown.2:=by
 refine ⟨Nat.mod_lt _ (by decide),?_⟩;have h1:t.crown.2.many=t.many+1:=by show t.octet.2.many+1=_;rw [(octet_head t).2]
 have h2:=(fwd_crown t).mu;have h3:=h.many;omega
theorem Low.crown_go{n:Nat}{t:Tr}(h:Low n t)(he:t.ended=false):Low n t.crown.2:=by
 refine ⟨Nat.mod_lt _ (by decide),?_⟩;have h1:t.crown.2.many=t.many+1:=by show t.octet.2.many+1=_;rw [(octet_head t).2]
 have h2:=mu_crown he;have h3:=h.many;omega
theorem Low.isB{n:Nat}{t:Tr}(h:Low n t)(b:Nat):Low (n+1) (t.isB b):=by
 unfold Tr.isB;split
 ·exact h.crown
 ·exact h.crown.fail (by decide)
theorem text_facts:∀ (m:Nat) (t:Tr),t.mu<=m->Fwd t t.text∧(Fine t->Fine t.text)∧(∀ n,Low n t->Low n t.text):=by
 intro m;induction m with
 | zero=>
  intro t hm;have he:t.ended=true:=by
   cases h:t.ended
   ·have:=mu_pos h;omega
   ·rfl
  rw [text_end he];exact ⟨Fwd.refl t,fun h=>h,fun _ h=>h⟩
 | succ m ih=>
  intro t hm;cases he:t.ended
  ·by_cases h0:t.crown.1=0
   ·rw [text_stop he h0];exact ⟨fwd_crown t,fun h=>h.crown,fun _ h=>h.crown_go he⟩
   ·rw [text_go he h0];have hmu:=mu_crown he;obtain ⟨a,b,c⟩:=ih t.crown.2 (by omega);exact ⟨(fwd_crown t).trans a,fun h=>b h.crown,fun n h=>c n (h.crown_go he)⟩
  ·rw [text_end he];exact ⟨Fwd.refl t,fun h=>h,fun _ h=>h⟩
theorem fwd_text(t:Tr):Fwd t t.text:=(text_facts t.mu t (Nat.le_refl _)).1
theorem Fine.text{t:Tr}(h:Fine t):Fine t.text:=(text_facts t.mu t (Nat.le_refl _)).2.1 h
theorem Low.text{n:Nat}{t:Tr}(h:Low n t):Low n t.text:=(text_facts t.mu t (Nat.le_refl _)).2.2 n h
theorem fwd_four(t:Tr)(k:Nat):Fwd t (t.four k).2:=by
 induction k with
 | zero=>exact Fwd.refl t
 | succ k ih=>exact ih.trans (fwd_octet _)
theorem Fine.four{t:Tr}(h:Fine t)(k:Nat):Fine (t.four k).2:=by
 induction k with
 | zero=>exact h
 | succ k ih=>exact ih.octet
theorem four_lt(t:Tr)(k:Nat):(t.four k).1<256^k:=by
 induction k with
 | zero=>simp [four]
 | succ k ih=>
  have h1:=octet_lt (t.four k).2;show 256*(t.four k).1+(t.four k).2.octet.1<256^(k+1);rw [Nat.pow_succ];omega
theorem fwd_sum(t:Tr):Fwd t t.sum:=by
 unfold sum;split
 ·exact fwd_four t 4
 ·exact (fwd_four t 4).trans (fwd_fail _ (by decide))
theorem Fine.sum{t:Tr}(h:Fine t):Fine t.sum:=by
 unfold Tr.sum;split
 ·exact h.four 4
 ·exact (h.four 4).fail (by decide)
end Tr
theorem ka2{B p:Nat}{vo va vs:Value}{t:Tr}{a b:World}(h:Kept B p vo va vs t a b)(n:Nat):Kept B p vo va vs { t with head:=n } a (b.setCell ⟨p,10,none⟩ (.int .i64 n)):=
 h.set 10 _ rfl rfl rfl (fun j hj=>by revert j;exact vhp rfl rfl rfl rfl rfl rfl rfl rfl rfl rfl rfl rfl rfl)
theorem k6k{B p:Nat}{vo va vs:Value}{t:Tr}{a b:World}(h:Kept B p vo va vs t a b)(n:Nat):Kept B p vo va vs { t with many:=n } a (b.setCell ⟨p,11,none⟩ (.int .i64 n)):=
 h.set 11 _ rfl rfl rfl (fun j hj=>by revert j;exact vhp rfl rfl rfl rfl rfl rfl rfl rfl rfl rfl rfl rfl rfl)
theorem xdt{B p:Nat}{vo va vs:Value}{t:Tr}(n:Nat)(w:World)(h:TrI B p vo va vs t w)(hs:t.s.size<=maxLen)(hl:t.Low n)(hn:n<=1000000000000000) :
  Calls Tryz.prog 204 #[.pointer (some ⟨p,0,none⟩)] w fun x w'=>x= .returned (.int .i64 t.crown.1)∧Kept B p vo va vs t.crown.2 w w':=by
 have HI:Hid (TrI B p vo va vs t w):=h;have HS:Hid (t.s.size<=maxLen):=hs;have hh:=hl.head;have hm:t.many<=1000000000000000:=by have:=hl.many;omega
 have ho:=Tr.octet_head t;have hb:=Tr.octet_lt t;clear h hs hl hn;go_enter Tryz.func204,Tryz.ntmps204
 go_wp2_with fail
 refine (x5o _ HI.out HS.out).mono ?_;rintro e w1 ⟨rfl,k1⟩;rw [← ho.1] at hh;rw [← ho.2] at hm;have HC:Hid (t.crown=(t.octet.1,t.octet.2.crowned t.octet.1)):=by show _=_;rfl
 have HK1:Hid (Kept B p vo va vs t.octet.2 w w1):=k1;clear k1 ho;generalize t.octet=o at *;have c10:w1.cell? ⟨p,10,none⟩=some (.int .i64 o.2.head):=HK1.out.inv.row.cell (i:=10) (by omega);have c11:w1.cell? ⟨p,11,none⟩=some (.int .i64 o.2.many):=HK1.out.inv.row.cell (i:=11) (by omega);have c12:w1.cell? ⟨p,12,none⟩=some (.int .i64 o.2.limit):=HK1.out.inv.row.cell (i:=12) (by omega);have hmi:((o.2.many+1:Nat):Int)=(o.2.many:Int)+1:=by omega
 have hhi:(((o.2.head+o.1)%256:Nat):Int)=((o.2.head:Int)+o.1)%256:=by omega
 by_cases hlm:o.2.limit<=o.2.many
 ·have hd:decide ((o.2.limit:Int)<=(o.2.many:Int))=true:=by simp;omega
  have HT:Hid (o.2.crowned o.1={ o.2.fail 5 with many:=o.2.many+1,head:=(o.2.head+o.1)%256 }):=by show _=_;unfold Tr.crowned;rw [if_pos hlm]
  go_wp2_with fail
  go_quiet (fail)
  go_wp2_with fail
  refine (j0n 5 _ (HK1.out.inv.drewN _)).mono ?_;rintro e w2 ⟨rfl,k2⟩;have HK2:Hid (Kept B p vo va vs (o.2.fail 5) w w2):=(HK1.out.drewN _).trans k2;have d10:w2.cell? ⟨p,10,none⟩=some (.int .i64 o.2.head):=by have:=HK2.out.inv.row.cell (i:=10) (by omega);rw [this];show some (Value.int .i64 ((o.2.fail 5).head:Int))=_;rw [(Tr.fail_head o.2 5).1]
  have d11:w2.cell? ⟨p,11,none⟩=some (.int .i64 o.2.many):=by have:=HK2.out.inv.row.cell (i:=11) (by omega);rw [this];show some (Value.int .i64 ((o.2.fail 5).many:Int))=_;rw [(Tr.fail_head o.2 5).2]
  have z10:=HK2.out.inv.row.frozen 10;have z11:=HK2.out.inv.row.frozen 11;clear k2 c10 c11 c12 hd;go_wp2_with fail
  go_ret
  rw [HC.out,HT.out];have K:=ka2 (k6k HK2.out (o.2.many+1)) ((o.2.head+o.1)%256);rw [hmi,hhi] at K;exact ⟨rfl,K⟩
 ·have hd:decide ((o.2.limit:Int)<=(o.2.many:Int))=false:=by simp;omega
  have HT:Hid (o.2.crowned o.1={ o.2 with many:=o.2.many+1,head:=(o.2.head+o.1)%256 }):=by show _=_;unfold Tr.crowned;rw [if_neg hlm]
  have z10:=HK1.out.inv.row.frozen 10;have z11:=HK1.out.inv.row.frozen 11;go_wp2_with fail
  go_quiet (fail)
  go_wp2_with fail
  go_ret
  rw [HC.out,HT.out];have K:=ka2 (k6k (HK1.out.drewN nq) (o.2.many+1)) ((o.2.head+o.1)%256);rw [hmi,hhi] at K;exact ⟨rfl,K⟩
theorem trIs{B p:Nat}{vo va vs:Value}{t:Tr}(n b:Nat)(w:World)(h:TrI B p vo va vs t w)(hs:t.s.size<=maxLen)(hl:t.Low n)(hn:n<=1000000000000000) :
  Calls Tryz.prog 180 #[.pointer (some ⟨p,0,none⟩), .int .i64 b] w fun x w'=>x= .returned (.tuple #[])∧Kept B p vo va vs (t.isB b) w w':=by
 have HJ:Hid (TrI B p vo va vs t w∧t.s.size<=maxLen∧t.Low n):=⟨h,hs,hl⟩
 have HT:Hid (t.isB b=if t.crown.1=b then t.crown.2 else t.crown.2.fail 4):=by show _=_;rfl
 clear h hs hl;go_enter Tryz.func180,Tryz.ntmps180
 go_wp2_with fail
 refine (xdt n _ HJ.out.1 HJ.out.2.1 HJ.out.2.2 hn).mono ?_;rintro e w1 ⟨rfl,k1⟩;have HK1:Hid (Kept B p vo va vs t.crown.2 w w1):=k1;clear k1 HJ;generalize t.crown=c at *;by_cases he:c.1=b
 ·have hd:((c.1:Int) !=(b:Int))=false:=by simp;omega
  have HE:Hid (c.1=b):=he;clear he;go_wp2_with fail
  go_end0
  rw [HT.out,if_pos HE.out];exact ⟨rfl,HK1.out⟩
 ·have hd:((c.1:Int) !=(b:Int))=true:=by simp;omega
  go_wp2_with fail
  refine (j0n 4 _ HK1.out.inv).mono ?_;rintro e w2 ⟨rfl,k2⟩;have HK2:Hid (Kept B p vo va vs (c.2.fail 4) w w2):=HK1.out.trans k2;clear k2;go_wp2_with fail
  go_end0
  rw [HT.out,if_neg he];exact ⟨rfl,HK2.out⟩
theorem ztx{B p:Nat}{vo va vs:Value}{t:Tr}(n:Nat)(w:World)(h:TrI B p vo va vs t w)(hs:t.s.size<=maxLen)(hl:t.Low n)(hn:n<=1000000000000000) :
  Calls Tryz.prog 206 #[.pointer (some ⟨p,0,none⟩)] w fun x w'=>x= .returned (.tuple #[])∧Kept B p vo va vs t.text w w':=by
 have H0:Hid (Kept B p vo va vs t w w∧t.Low n):=⟨Kept.refl h,hl⟩
 have HS:Hid (t.s.size<=maxLen):=hs;clear h hs hl;go_enter Tryz.func206,Tryz.ntmps206
 go_wp2_with fail
 go_loopw [2] (fun _ wr=>∃ t1:Tr,Hid (t1.text=t.text∧Kept B p vo va vs t1 w wr∧t1.s=t.s∧t1.Low n)) (fun _ wr=>muW p wr)
 case atStart=>exact ⟨t,⟨rfl,H0.out.1,rfl,H0.out.2⟩⟩
 case round=>
  obtain ⟨t1,HH⟩:=hrel;clear H0;cases he:t1.ended
  ·have HE:Hid (t1.ended=false):=he;clear he;go_wp2_with (go_at_call 182;refine (ywm _ HH.out.2.1.inv).mono ?_;rw [HE.out];rintro e w' ⟨rfl,rfl⟩)
   refine (xdt n _ HH.out.2.1.inv (by rw [HH.out.2.2.1];exact HS.out) HH.out.2.2.2 hn).mono ?_;rintro e w1 ⟨rfl,k1⟩;have HK1:Hid (Kept B p vo va vs t1.crown.2 w w1):=HH.out.2.1.trans k1;have HM:Hid (t1.crown.2.mu<t1.mu):=Tr.mu_crown HE.out;have HST:Hid (t1.crown.1=0->t1.crown.2=t.text):=fun h0=>by rw [← HH.out.1,Tr.text_stop HE.out h0]
   have HGO:Hid (t1.crown.1≠0->t1.crown.2.text=t.text):=fun h0=>by rw [← HH.out.1,Tr.text_go HE.out h0]
   have HLW:Hid (t1.crown.2.Low n∧t1.crown.2.s=t.s):=⟨HH.out.2.2.2.crown_go HE.out,(Tr.fwd_crown t1).s.trans HH.out.2.2.1⟩
   clear k1;generalize t1.crown=c at *;by_cases h0:c.1=0
   ·have hd:((c.1:Int)==0)=true:=by simp;omega
    have HZ:Hid (c.1=0):=h0;clear h0;go_wp2_with fail
    refine bodyPost_ret (results_none rfl _ _ _) rfl ?_;rw [← HST.out HZ.out];exact ⟨rfl,HK1.out⟩
   ·have hd:((c.1:Int)==0)=false:=by simp;omega
    have HN:Hid (c.2.text=t.text∧Kept B p vo va vs c.2 w w1∧c.2.s=t.s∧c.2.Low n):=⟨HGO.out h0,HK1.out,HLW.out.2,HLW.out.1⟩
    go_wp2_with fail
    go_roundw
    case rel=>exact ⟨c.2,HN⟩
    case measure=>rw [HK1.out.inv.muW,HH.out.2.1.inv.muW];exact HM.out
  ·have HE:Hid (t1.ended=true):=he;clear he;go_wp2_with (go_at_call 182;refine (ywm _ HH.out.2.1.inv).mono ?_;rw [HE.out];rintro e w' ⟨rfl,rfl⟩)
   go_end0
   have e1:=HH.out.1;rw [Tr.text_end HE.out] at e1;rw [← e1];exact ⟨rfl,HH.out.2.1⟩
theorem jkz(ad:Option Addr)(n cap:Nat)(f:Nat->Int)(w:World)(hn:n<=maxLen)(hf:∀ k,0<=f k∧f k<=255)(hc:∀ k,k<n->∃ b o,ad=some ⟨b,o,none⟩∧w.cell? ⟨b,o+k,none⟩=some (.int .u8 (f k))) :
  Calls Tryz.prog 81 #[.slice ad n cap] w fun e w'=>e= .returned (.int .i64 (65536*(sxy f n).2+(sxy f n).1))∧w'=w:=by
 unfold maxLen at hn;go_enter Tryz.func81,Tryz.ntmps81
 go_wp2
 go_loop [3,4,5] (fun x y i=>∃ k:Nat,k<=n∧i= .int .i64 k∧x= .int .i64 (sxy f k).1∧y= .int .i64 (sxy f k).2) (fun _ _ i=>n - (intOf i).toNat)
 case atStart=>exact ⟨0,Nat.zero_le _,rfl,rfl,rfl⟩
 case round=>
  obtain ⟨k,hk,rfl,rfl,rfl⟩:=hrel;have hb:=zz9 f k;have h1:=hf k;by_cases hlt:k<n
  ·obtain ⟨b,o,rfl,g⟩:=hc k hlt;go_wp2
   go_round
   case rel=>exact ⟨k+1,by omega,by go_num,rfl,rfl⟩
   case measure=>simp [intOf];omega
  ·obtain rfl:k=n:=by omega
   go_wp2
   go_ret
   exact ⟨rfl,rfl⟩
def xeo(t:Tr):Prop:=∀ b∈t.out,b<256
theorem xeo.get{t:Tr}(h:xeo t)(k:Nat):0<=((t.out.getD k 0:Nat):Int)∧((t.out.getD k 0:Nat):Int)<=255:=by
 by_cases hk:k<t.out.length
 ·have:=h t.out[k] (List.getElem_mem hk);have e:t.out.getD k 0=t.out[k]:=by simp [hk]
  rw [e];omega
 ·have e:t.out.getD k 0=0:=by rw [List.getD_eq_getElem?_getD,List.getElem?_eq_none (by omega)];rfl
  rw [e];omega
theorem v8i(l:List Nat)(m k:Nat):(l.drop m).getD k 0=l.getD (m+k) 0:=by
 rw [List.getD_eq_getElem?_getD,List.getD_eq_getElem?_getD,List.getElem?_drop]
theorem x27{B p:Nat}{vo va vs:Value}{t:Tr}(w:World)(h:TrI B p vo va vs t w)(hf:t.Fine)(hs:t.s.size<=maxLen)(hlo:t.out.length<=1000000000000)(hbo:xeo t) :
  Calls Tryz.prog 181 #[.pointer (some ⟨p,0,none⟩)] w fun x w'=>x= .returned (.tuple #[])∧Kept B p vo va vs t.sum w w':=by
 have HZ:Hid (t.Fine∧t.s.size<=maxLen∧t.out.length<=1000000000000∧xeo t):=⟨hf,hs,hlo,hbo⟩
 have H0:Hid (Kept B p vo va vs t w w):=Kept.refl h;clear h hf hs hlo hbo;go_enter Tryz.func181,Tryz.ntmps181
 go_wp2_with fail
 go_loopw [2,3] (fun v i wr=>∃ k x:Nat,k<=4∧i= .int .i64 k∧v= .int .i64 x∧Hid (x=(t.four k).1∧Kept B p vo va vs (t.four k).2 w wr)) (fun _ i _=>4 - (intOf i).toNat)
 case atStart=>exact ⟨0,0,Nat.zero_le _,rfl,rfl,⟨rfl,H0.out⟩⟩
 case round=>
  obtain ⟨k,x,hk,rfl,rfl,HH⟩:=hrel;clear H0;have hx:x<4294967296:=by
   rw [HH.out.1];have h1:=Tr.four_lt t k;have h2:256^k<=256^4:=Nat.pow_le_pow_right (by decide) hk;omega
  by_cases hlt:k<4
  ·go_wp2_with fail
   refine (x5o _ HH.out.2.inv (by rw [(Tr.fwd_four t k).s];exact HZ.out.2.1)).mono ?_;rintro e w1 ⟨rfl,k1⟩;have HK1:Hid (256*x+(t.four k).2.octet.1=(t.four (k+1)).1∧Kept B p vo va vs (t.four (k+1)).2 w w1):=⟨by rw [HH.out.1];rfl,HH.out.2.trans k1⟩
   have hb:=Tr.octet_lt (t.four k).2;clear k1;generalize (t.four k).2.octet.1=b at *;go_wp2_with fail
   go_roundw
   case rel=>exact ⟨k+1,256*x+b,by omega,by go_num,by go_num,HK1⟩
   case measure=>simp [intOf];omega
  ·have HK4:Hid (k=4):=by show k=4;omega
   have F4:=Tr.fwd_four t 4;have Fi:=HZ.out.1.four 4;have HX:Hid (x=(t.four 4).1∧Kept B p vo va vs (t.four 4).2 w wr):=by have:=HH.out;rw [HK4.out] at this;exact this
   have HT:Hid (t.sum=if ((t.four 4).1:Int)=Tr.sumL ((t.four 4).2.out.drop (t.four 4).2.frm) then (t.four 4).2 else (t.four 4).2.fail 12):=by show _=_;rfl
   have hol:(t.four 4).2.out.length<=1000000000000:=by rw [F4.out];exact HZ.out.2.2.1
   have HBO:Hid (xeo (t.four 4).2):=by show xeo _;unfold xeo;rw [F4.out];exact HZ.out.2.2.2
   have hfr:=Fi.frm;clear F4 Fi HH;generalize t.four 4=q at *;have HSUM:Hid (Tr.sumL (q.2.out.drop q.2.frm)=65536*(sxy (fun k=>((q.2.out.getD (q.2.frm+k) 0:Nat):Int)) (q.2.out.length - q.2.frm)).2+(sxy (fun k=>((q.2.out.getD (q.2.frm+k) 0:Nat):Int)) (q.2.out.length - q.2.frm)).1):=by
    show _=_;unfold Tr.sumL;rw [List.length_drop];have e:(fun k=>(((q.2.out.drop q.2.frm).getD k 0:Nat):Int))=(fun k=>((q.2.out.getD (q.2.frm+k) 0:Nat):Int)):=by funext k;rw [v8i]
    rw [e]
   obtain ⟨SV,hSV⟩:∃ SV,SV=65536*(sxy (fun k=>((q.2.out.getD (q.2.frm+k) 0:Nat):Int)) (q.2.out.length - q.2.frm)).2+(sxy (fun k=>((q.2.out.getD (q.2.frm+k) 0:Nat):Int)) (q.2.out.length - q.2.frm)).1:=⟨_,rfl⟩
   have HSV:Hid (SV=65536*(sxy (fun k=>((q.2.out.getD (q.2.frm+k) 0:Nat):Int)) (q.2.out.length - q.2.frm)).2+(sxy (fun k=>((q.2.out.getD (q.2.frm+k) 0:Nat):Int)) (q.2.out.length - q.2.frm)).1):=hSV;have c9:wr.cell? ⟨p,9,none⟩=some (.int .i64 q.2.frm):=HX.out.2.inv.row.cell (i:=9) (by omega);have c0:wr.cell? ⟨p,0,none⟩=some vo:=HX.out.2.inv.row.cell (i:=0) (by omega);have HRS:Hid (∀ (ad:Option Addr) (cap:Nat) (w':World),(∀ k,k<q.2.out.length - q.2.frm->∃ b o,ad=some ⟨b,o,none⟩∧w'.cell? ⟨b,o+k,none⟩=some (.int .u8 ((q.2.out.getD (q.2.frm+k) 0:Nat):Int)))->Calls Tryz.prog 81 #[.slice ad (q.2.out.length - q.2.frm) cap] w' fun e w''=>e= .returned (.int .i64 SV)∧w''=w'):=fun ad cap w' hc=>by
    rw [hSV];exact jkz ad (q.2.out.length - q.2.frm) cap (fun k=>((q.2.out.getD (q.2.frm+k) 0:Nat):Int)) w' (by unfold maxLen;omega) (fun k=>HBO.out.get _) hc
   clear hSV;rcases HX.out.2.inv.out.2 with ⟨e,h0⟩ | ⟨g,cp,cur,e,hgb,hg,hn,hm,hsz,ht⟩
   ·have hfz:q.2.frm=0:=by omega
    have c0':wr.cell? ⟨p,0,none⟩=some (.slice none 0 0):=by rw [c0,e]
    have c9':wr.cell? ⟨p,9,none⟩=some (.int .i64 0):=by rw [c9,hfz];rfl
    have HR0:Hid (∀ w',Calls Tryz.prog 81 #[.slice none 0 0] w' fun e w''=>e= .returned (.int .i64 SV)∧w''=w'):=fun w'=>by
     have:=HRS.out none 0 w' (fun k hk=>by omega);rw [h0,hfz] at this;exact this
    clear c0 c9 e;by_cases he:(x:Int)=SV
    ·have hd:((x:Int) !=SV)=false:=by simpa using he
     have HE:Hid ((x:Int)=SV):=he;clear he;go_wp2_with fail
     go_quiet ((go_at_call 81;exact Calls.quiet_of_same (HR0.out _)))
     go_wp2_with fail
     go_end0
     rw [HT.out,if_pos (by rw [← HX.out.1,HSUM.out,← HSV.out];exact HE.out)];exact ⟨rfl,HX.out.2.drewN _⟩
    ·have hd:((x:Int) !=SV)=true:=by simpa using he
     have HE:Hid (¬ (x:Int)=SV):=he;clear he;go_wp2_with fail
     go_quiet ((go_at_call 81;exact Calls.quiet_of_same (HR0.out _)))
     go_wp2_with fail
     refine (j0n 12 _ (HX.out.2.inv.drewN _)).mono ?_;rintro e w2 ⟨rfl,k2⟩;have HK2:Hid (Kept B p vo va vs (q.2.fail 12) w w2):=(HX.out.2.drewN _).trans k2;clear k2;go_wp2_with fail
     go_end0
     rw [HT.out,if_neg (by rw [← HX.out.1,HSUM.out,← HSV.out];exact HE.out)];exact ⟨rfl,HK2.out⟩
   ·have hi1:(q.2.frm:Int)<=(q.2.out.length:Int):=by omega
    have hi2:(q.2.out.length:Int)<=(cp:Int):=by omega
    unfold maxLen at hm;have c0':wr.cell? ⟨p,0,none⟩=some (.slice (some ⟨g,0,none⟩) q.2.out.length cp):=by rw [c0,e]
    have HCL:Hid (∀ i,i<q.2.out.length->wr.cell? ⟨g,i,none⟩=some (.int .u8 ((q.2.out.getD i 0:Nat):Int))):=fun i hi=>by
     obtain ⟨g',cap',e',hc⟩:=HX.out.2.inv.byteAt hi;rw [e] at e';cases e'
     exact hc
    by_cases hcf:cp=q.2.frm
    ·have hn0:q.2.out.length - q.2.frm=0:=by omega
     have HR0:Hid (∀ ad cap w',Calls Tryz.prog 81 #[.slice ad 0 cap] w' fun e w''=>e= .returned (.int .i64 SV)∧w''=w'):=fun ad cap w'=>by
      have:=HRS.out ad cap w' (fun k hk=>by omega);rw [hn0] at this;exact this
     have hlf:q.2.out.length=q.2.frm:=by omega
     have c0'':wr.cell? ⟨p,0,none⟩=some (.slice (some ⟨g,0,none⟩) q.2.frm q.2.frm):=by rw [c0',hlf,hcf]
     clear c0' hi1 hi2 hlf hn0 hcf hm hn hsz ht hg HCL;clear c0 e;by_cases he:(x:Int)=SV
     ·have hd:((x:Int) !=SV)=false:=by simpa using he
      have HE:Hid ((x:Int)=SV):=he;clear he;go_wp2_with fail
      go_quiet ((go_at_call 81;exact Calls.quiet_of_same (HR0.out _ _ _)))
      go_wp2_with fail
      go_end0
      rw [HT.out,if_pos (by rw [← HX.out.1,HSUM.out,← HSV.out];exact HE.out)];exact ⟨rfl,HX.out.2.drewN _⟩
     ·have hd:((x:Int) !=SV)=true:=by simpa using he
      have HE:Hid (¬ (x:Int)=SV):=he;clear he;go_wp2_with fail
      go_quiet ((go_at_call 81;exact Calls.quiet_of_same (HR0.out _ _ _)))
      go_wp2_with fail
      refine (j0n 12 _ (HX.out.2.inv.drewN _)).mono ?_;rintro e w2 ⟨rfl,k2⟩;have HK2:Hid (Kept B p vo va vs (q.2.fail 12) w w2):=(HX.out.2.drewN _).trans k2;clear k2;go_wp2_with fail
      go_end0
      rw [HT.out,if_neg (by rw [← HX.out.1,HSUM.out,← HSV.out];exact HE.out)];exact ⟨rfl,HK2.out⟩
    ·have HR0:Hid (∀ cap nq,Calls Tryz.prog 81 #[.slice (some ⟨g,q.2.frm,none⟩) (q.2.out.length - q.2.frm) cap] (wr.drewN nq) fun e w''=>e= .returned (.int .i64 SV)∧w''=wr.drewN nq):=fun cap nq=>HRS.out _ cap _ (fun k hk=>⟨g,q.2.frm,rfl,HCL.out (q.2.frm+k) (by omega)⟩)
     clear c0 e;by_cases he:(x:Int)=SV
     ·have hd:((x:Int) !=SV)=false:=by simpa using he
      have HE:Hid ((x:Int)=SV):=he;clear he;go_wp2_with fail
      go_quiet ((go_at_call 81;exact Calls.quiet_of_same (HR0.out _ _)))
      go_wp2_with fail
      go_end0
      rw [HT.out,if_pos (by rw [← HX.out.1,HSUM.out,← HSV.out];exact HE.out)];exact ⟨rfl,HX.out.2.drewN _⟩
     ·have hd:((x:Int) !=SV)=true:=by simpa using he
      have HE:Hid (¬ (x:Int)=SV):=he;clear he;go_wp2_with fail
      go_quiet ((go_at_call 81;exact Calls.quiet_of_same (HR0.out _ _)))
      go_wp2_with fail
      refine (j0n 12 _ (HX.out.2.inv.drewN _)).mono ?_;rintro e w2 ⟨rfl,k2⟩;have HK2:Hid (Kept B p vo va vs (q.2.fail 12) w w2):=(HX.out.2.drewN _).trans k2;clear k2;go_wp2_with fail
      go_end0
      rw [HT.out,if_neg (by rw [← HX.out.1,HSUM.out,← HSV.out];exact HE.out)];exact ⟨rfl,HK2.out⟩
end Go.Proofs.YtbcjmakpempkiaaGreatDoor
