import Derived.Test.YtbcjmakpempkiaaGreatDoorX04
set_option maxRecDepth 100000
set_option maxHeartbeats 8000000
set_option linter.all false
namespace Go.Proofs.YtbcjmakpempkiaaGreatDoor
open Go.RowKit
def setC(S:RSet)(ad:Option Addr)(cap:Nat)(ad':Option Addr)(cap':Nat):Array Value:=#[.slice ad S.l.length cap, .slice ad' S.l.length cap', .int .i64 S.many, .bool S.one]
structure SetI(w:World)(S:RSet)(ad ad':Option Addr):Prop where
 len:xin w ad S.l
 cds:xin w ad' (vol S.l S.l.length)
theorem SetI.below{w w':World}{S:RSet}{ad ad':Option Addr}(h:SetI w S ad ad')(hb:Below w.heap.size w w'):SetI w' S ad ad':=⟨h.len.below hb (Nat.le_refl _),h.cds.below hb (Nat.le_refl _)⟩
theorem x63{l:List Int}{n c:Int}{r i:Nat}(h:l.getD i 0=n∧rv l i=c):x66 l n c (r+1) i=i:=by simp only [x66];rw [if_pos h]
theorem x0t{l:List Int}{n c:Int}{r i:Nat}(h:¬ (l.getD i 0=n∧rv l i=c)):x66 l n c (r+1) i=x66 l n c r (i+1):=by rw [x66,if_neg h]
theorem xin.atLt{w:World}{ad:Option Addr}{l:List Int}(h:xin w ad l){k:Nat}(hk:k<l.length):∃ b o x,ad=some ⟨b,o,none⟩∧b<w.heap.size∧w.cell? ⟨b,o+k,none⟩=some (.int .i64 x)∧Hid (l[k]=x):=by
 obtain ⟨b,o,e,hb,hc⟩:=h k hk;exact ⟨b,o,l[k],e,hb,by rw [hc];simp [hk],show l[k]=l[k] from rfl⟩
theorem kt8{l:List Int}{k:Nat}(h:k<(vol l l.length).length):(vol l l.length)[k]=rv l k:=by simp [vol]
theorem xrx(S:RSet)(ad ad':Option Addr)(cap cap':Nat)(n c:Int)(w:World)(h:SetI w S ad ad')(hl:S.l.length<=1000000) :
  Calls Tryz.prog 221 #[.agg (setC S ad cap ad' cap'), .int .i64 n, .int .i64 c] w fun e w'=>e= .returned (.int .i64 (find S n c))∧Below w.heap.size w w':=by
 have HI:Hid (SetI w S ad ad'):=h;have HB:Hid (Below w.heap.size w (w.alloc (.cells #[.slice ad S.l.length cap, .slice ad' S.l.length cap', .int .i64 S.many, .bool S.one] 273))):=(Below.refl _ _).alloc (Nat.le_refl _) _;clear h;unfold setC;go_enter Tryz.func221,Tryz.ntmps221
 go_wp2_with fail
 go_loop [7] (fun i=>∃ k:Nat,k<=S.l.length∧i= .int .i64 k∧x66 S.l n c (S.l.length - k) k=find S n c) (fun i=>S.l.length - (intOf i).toNat)
 case atStart=>exact ⟨0,Nat.zero_le _,rfl,rfl⟩
 case round=>
  obtain ⟨k,hk,rfl,hr⟩:=hrel;have HR:Hid (x66 S.l n c (S.l.length - k) k=find S n c):=hr;clear hr;by_cases hlt:k<S.l.length
  ·have hr1:S.l.length - k=(S.l.length - (k+1))+1:=by omega
   have hk2:k<(vol S.l S.l.length).length:=by rw [kjj];exact hlt
   obtain ⟨b,o,x,hb,hbl,g1,hx⟩:=HI.out.len.atLt hlt;obtain ⟨b',o',y,hb',hbl',g2,hy⟩:=HI.out.cds.atLt hk2;have hx':S.l.getD k 0=x:=by rw [← hx.out];simp [hlt]
   have hy':rv S.l k=y:=by rw [← hy.out];exact (kt8 hk2).symm
   have HX:Hid (S.l.getD k 0=x):=hx';have HY:Hid (rv S.l k=y):=hy';have HQ:Hid (S.l.length - k=(S.l.length - (k+1))+1):=hr1;subst hb hb';clear hx hy hx' hy' hr1 hk2;by_cases h1:x=n
   ·subst h1;by_cases h2:y=c
    ·subst h2;go_wp2_with fail
     go_ret
     exact ⟨by rw [← HR.out,HQ.out,x63 ⟨HX.out,HY.out⟩];rfl,HB.out⟩
    ·have h2':(y==c)=false:=by simpa using h2
     go_wp2_with fail
     go_round
     case rel=>exact ⟨k+1,by omega,by go_num,by rw [← HR.out,HQ.out,x0t (fun e=>h2 (by rw [← HY.out,e.2]))]⟩
     case measure=>simp [intOf];omega
   ·have h1':(x==n)=false:=by simpa using h1
    go_wp2_with fail
    go_round
    case rel=>exact ⟨k+1,by omega,by go_num,by rw [← HR.out,HQ.out,x0t (fun e=>h1 (by rw [← HX.out,e.1]))]⟩
    case measure=>simp [intOf];omega
  ·obtain rfl:k=S.l.length:=by omega
   have e:=HR.out;rw [Nat.sub_self] at e;have HE:Hid (find S n c= -1):=by show find S n c= -1;rw [← e];rfl
   clear e;go_wp2_with fail
   go_ret
   exact ⟨by rw [HE.out];rfl,HB.out⟩
theorem vo8(S:RSet)(ad ad':Option Addr)(cap cap':Nat):(Tryz.prog.info? 273).map (·.size)=some (setC S ad cap ad' cap').size:=by kernel_rfl
theorem kqo(S:RSet)(ad ad':Option Addr)(cap cap':Nat):(setC S ad cap ad' cap').all (·.oneCell')=true:=by simp [setC,Value.oneCell']
def v3o(n:Nat)(ad:Option Addr):Prop:=∀ b o f,ad=some ⟨b,o,f⟩->n<=b
theorem xin.of_blocks{w w':World}{ad:Option Addr}{l:List Int}(h:xin w ad l)(hs:w.heap.size<=w'.heap.size)(hb:∀ b o f,ad=some ⟨b,o,f⟩->b<w.heap.size->w'.heap[b]?=w.heap[b]?):xin w' ad l:=fun k hk=>by
 obtain ⟨b,o,e,hlt,hc⟩:=h k hk;exact ⟨b,o,e,Nat.lt_of_lt_of_le hlt hs,by rw [World.cell?_of_block (w:=w) (hb b o none e hlt),hc]⟩
theorem yxc{w:World}{B:Nat}{e:TypeId}{sz:Nat}{ad:Option Addr}{m cap n:Nat}{xs:List Value}(h:w.ownsRow B e sz (.slice ad m cap) n xs):v3o B ad:=fun b o f hb=>by
 subst hb;exact (h.lt b rfl).1
theorem yww(ad:Option Addr)(cap:Nat)(l:List Int)(w:World)(hl:l.length<=269)(hc:xin w ad l)(hr:inRange l=true) :
  Calls Tryz.prog 213 #[.slice ad l.length cap] w fun e w'=>∃ ad' cap',e= .returned (.agg (setC (rset l) ad cap ad' cap'))∧SetI w' (rset l) ad ad'∧v3o w.heap.size ad'∧Below w.heap.size w w':=by
 have HB:Hid (Below w.heap.size w (w.alloc (.cells #[.slice none 0 0, .slice none 0 0, .int .i64 0, .bool false] 273))):=(Below.refl _ _).alloc (Nat.le_refl _) _;have HCw:Hid (xin w ad l):=hc;have HC:Hid (xin (w.alloc (.cells #[.slice none 0 0, .slice none 0 0, .int .i64 0, .bool false] 273)) ad l):=hc.below HB.out (Nat.le_refl _);clear hc;go_enter Tryz.func213,Tryz.ntmps213
 go_wp2_with fail
 refine (y6k ad cap l _ hl HC.out hr).mono ?_;rintro e w1 ⟨v,rfl,hown,hb1⟩;obtain ⟨ad',cap',rfl,hcd⟩:=OI.cells (w:=w1) (l:=vol l l.length) (by rw [OI,kjj];exact hown);rw [kjj] at *;have HO:=yxc hown;have HC1:Hid (xin w1 ad l):=HC.out.below hb1 (Nat.le_refl _);have h0:w1.heap[w.heap.size]?=some (.cells #[.slice none 0 0, .slice none 0 0, .int .i64 0, .bool false] 273 (0,0)):=(hb1.block _ (by simp)).trans (heap_alloc_new _ _);have HCD:Hid (xin w1 ad' (vol l l.length)):=hcd;have HB1:Hid (Below w.heap.size w w1):=y6y HB.out hb1;have HN:Hid (v3o (w.heap.size+1) ad'):=fun b o f e=>by have:=HO b o f e;simp at this;omega
 clear hown hcd hb1 HO;go_wp2_with fail
 refine (klo ad cap l _ hl HC1.out).mono ?_;rintro e w2 ⟨rfl,rfl⟩;go_wp2_with fail
 refine (yyh ad cap l _ hl HC1.out hr).mono ?_;rintro e w2 ⟨rfl,rfl⟩;have hs:=setRow_heap w1 w.heap.size _ (setC (rset l) ad cap ad' cap') 273 _ h0;go_wp2_with (refine wpList_store_row rfl 273 _ _ rfl _ (setC (rset l) ad cap ad' cap') rfl rfl 273 _ h0 (vo8 _ _ _ _ _) rfl (kqo _ _ _ _ _) ?_)
 refine bodyPost_ret (v:= .agg (setC (rset l) ad cap ad' cap')) ?_ ?_ ?_
 ·exact results_cell_row Tryz.results213 _ _ _ 273 _ _ _ rfl hs Tryz.underlying273 rfl (vo8 _ _ _ _ _)
 ·rfl
 ·have B2:=below_setRow HB1.out (Nat.le_refl _) (setC (rset l) ad cap ad' cap');refine ⟨ad',cap',rfl,⟨HCw.out.below B2 (Nat.le_refl _),HCD.out.of_blocks (by simp [World.setRow]) (fun b o f e _=>setRow_other w1 w.heap.size b _ (by have:=HN.out b o f e;omega))⟩,fun b o f e=>by have:=HN.out b o f e;omega,B2⟩
theorem TrI.below{B p:Nat}{vo va vs:Value}{t:Tr}{w w':World}(h:TrI B p vo va vs t w)(hb:Below w.heap.size w w'):TrI B p vo va vs t w':=h.upd (Sole.of_below hb) rfl rfl rfl (h.row.of_block (hb.block p h.row.lt))
theorem Kept.below{B p:Nat}{vo va vs:Value}{t:Tr}{a b c:World}(h:Kept B p vo va vs t a b)(hb:Below b.heap.size b c):Kept B p vo va vs t a c:=⟨h.inv.below hb,h.kp.trans (Sole.of_below hb),h.bel.trans (hb.mono h.inv.hB)⟩
def Off(p:Nat)(ad:Option Addr):Prop:=∀ b o f,ad=some ⟨b,o,f⟩->b≠p
theorem xin.sole{w w':World}{p:Nat}{ad:Option Addr}{l:List Int}(h:xin w ad l)(hk:Sole p w w')(ho:Off p ad):xin w' ad l:=h.of_blocks hk.size (fun b o f e hlt=>hk.block b hlt (ho b o f e))
theorem SetI.sole{w w':World}{p:Nat}{S:RSet}{ad ad':Option Addr}(h:SetI w S ad ad')(hk:Sole p w w')(ho:Off p ad)(ho':Off p ad'):SetI w' S ad ad':=⟨h.len.sole hk ho,h.cds.sole hk ho'⟩
theorem Tr.sym_ended{S:RSet}{r n c:Nat}{t:Tr}(h:t.bit.2.ended=true):Tr.sym S (r+1) n c t=(-1,t.bit.2):=by rw [Tr.sym,if_pos h]
theorem Tr.sym_hit{S:RSet}{r n c:Nat}{t:Tr}(h:t.bit.2.ended=false)(h2:0<=find S n (2*c+t.bit.1:Nat)):Tr.sym S (r+1) n c t=(find S n (2*c+t.bit.1:Nat),t.bit.2):=by rw [Tr.sym,if_neg (by rw [h];simp),if_pos h2]
theorem Tr.sym_one{S:RSet}{r n c:Nat}{t:Tr}(h:t.bit.2.ended=false)(h2:¬ 0<=find S n (2*c+t.bit.1:Nat))(h3:S.one=true):Tr.sym S (r+1) n c t=(-1,t.bit.2):=by rw [Tr.sym,if_neg (by rw [h];simp),if_neg h2,if_pos h3]
theorem Tr.sym_next{S:RSet}{r n c:Nat}{t:Tr}(h:t.bit.2.ended=false)(h2:¬ 0<=find S n (2*c+t.bit.1:Nat))(h3:S.one=false):Tr.sym S (r+1) n c t=Tr.sym S r (n+1) (2*c+t.bit.1) t.bit.2:=by rw [Tr.sym,if_neg (by rw [h];simp),if_neg h2,if_neg (by rw [h3];simp)]
theorem Tr.bit_le(t:Tr):t.bit.1<=1:=by show _%2<=1;omega
theorem jwz{B p:Nat}{vo va vs:Value}{t:Tr}(S:RSet)(ad ad':Option Addr)(cap cap':Nat)(w:World)(h:TrI B p vo va vs t w)(hf:t.Fine)(hs:t.s.size<=maxLen)(hS:SetI w S ad ad')(ho:Off p ad)(ho':Off p ad')(hl:S.l.length<=1000000) :
  Calls Tryz.prog 214 #[.pointer (some ⟨p,0,none⟩), .agg (setC S ad cap ad' cap')] w fun x w'=>x= .returned (.int .i64 (t.symbol S).1)∧Kept B p vo va vs (t.symbol S).2 w w':=by
 have HO:Hid (Off p ad∧Off p ad'):=⟨ho,ho'⟩
 have HL:Hid (S.l.length<=1000000):=hl;have hp0:=h.row.lt;obtain ⟨W0,hW0⟩:∃ W0,W0=w.alloc (.cells (setC S ad cap ad' cap') 273):=⟨_,rfl⟩
 have B0:Below w.heap.size w W0:=by rw [hW0];exact (Below.refl _ _).alloc (Nat.le_refl _) _
 have hbox:W0.heap[w.heap.size]?=some (.cells (setC S ad cap ad' cap') 273 (0,0)):=by rw [hW0];exact heap_alloc_new w _
 have HK0:Hid (Kept B p vo va vs t w W0):=(Kept.refl h).below B0;have HS0:Hid (SetI W0 S ad ad'):=hS.below B0;have HB0:Hid (W0.heap[w.heap.size]?=some (.cells (setC S ad cap ad' cap') 273 (0,0))):=hbox;have HF:Hid t.Fine:=hf;have HZ:Hid (t.s.size<=maxLen):=hs;clear h hf hs hS ho ho' hl B0 hbox;go_enter Tryz.func214,Tryz.ntmps214
 go_wp2_with fail
 rw [← hW0];clear hW0;go_loopw [5,6] (fun cs ns wr=>∃ (k c:Nat) (t1:Tr),k<=11∧c<=2048∧ns= .int .i64 (k+1)∧cs= .int .i64 c∧Hid (c<2^k∧t1.Fine∧t1.s=t.s∧Tr.sym S (11 - k) (k+1) c t1=t.symbol S∧Kept B p vo va vs t1 w wr∧wr.heap[w.heap.size]?=some (.cells (setC S ad cap ad' cap') 273 (0,0))∧SetI wr S ad ad')) (fun _ ns _=>12 - (intOf ns).toNat)
 case atStart=>exact ⟨0,0,t,by omega,by omega,rfl,rfl,⟨by decide,HF.out,rfl,rfl,HK0.out,HB0.out,HS0.out⟩⟩
 case round=>
  obtain ⟨k,c,t1,hk,hc,rfl,rfl,HH⟩:=hrel;clear HK0 HS0 HB0;by_cases hlt:k<11
  ·have HR:Hid (11 - k=(10 - k)+1):=by show 11 - k=_;omega
   go_wp2_with fail
   refine (zvl _ HH.out.2.2.2.2.1.inv HH.out.2.1 (by rw [HH.out.2.2.1];exact HZ.out)).mono ?_;rintro e w1 ⟨rfl,k1⟩;have hb1:=Tr.bit_le t1;have hbx:w1.heap[w.heap.size]?=some (.cells (setC S ad cap ad' cap') 273 (0,0)):=(k1.kp.block _ (x8r HH.out.2.2.2.2.2.1) (by show w.heap.size≠p;omega)).trans HH.out.2.2.2.2.2.1;have HBX:Hid (w1.heap[w.heap.size]?=some (.cells (setC S ad cap ad' cap') 273 (0,0))):=hbx;have HS1:Hid (SetI w1 S ad ad'):=HH.out.2.2.2.2.2.2.sole k1.kp HO.out.1 HO.out.2;have HK1:Hid (Kept B p vo va vs t1.bit.2 w w1):=HH.out.2.2.2.2.1.trans k1;have HC1:Hid (2*c+t1.bit.1<2^(k+1)):=by show _<_;rw [Nat.pow_succ];have:=HH.out.1;omega
   have hc1:2*c+t1.bit.1<=2048:=by have h1:=HC1.out;have:2^(k+1)<=2^11:=Nat.pow_le_pow_right (by decide) (by omega);omega
   have HSM:Hid (Tr.sym S (11 - k) (k+1) c t1=t.symbol S):=HH.out.2.2.2.1;have HT1:Hid (t1.Fine∧t1.s=t.s):=⟨HH.out.2.1,HH.out.2.2.1⟩
   clear k1 HH hbx;obtain ⟨b,hb⟩:∃ b,b=t1.bit.1:=⟨_,rfl⟩
   rw [← hb] at hb1 hc1 ⊢;have HBB:Hid (b=t1.bit.1):=hb;clear hb;cases he:t1.bit.2.ended
   ·have HE:Hid (t1.bit.2.ended=false):=he;clear he;go_wp2_with (first | (go_at_call 182;refine (ywm _ HK1.out.inv).mono ?_;rw [HE.out];rintro e w' ⟨rfl,rfl⟩) | (refine wpList_load_row rfl 273 _ rfl _ rfl 273 _ _ _ HBX.out Tryz.underlying273 rfl (vo8 _ _ _ _ _) ?_))
    refine (xrx S ad ad' cap cap' _ _ _ HS1.out HL.out).mono ?_;rintro e w2 ⟨rfl,hb2⟩;have HK2:Hid (Kept B p vo va vs t1.bit.2 w w2):=HK1.out.below hb2;have hbx2:w2.heap[w.heap.size]?=some (.cells (setC S ad cap ad' cap') 273 (0,0)):=(hb2.block _ (x8r HBX.out)).trans HBX.out;have HS2:Hid (SetI w2 S ad ad'):=HS1.out.below hb2;have c3:w2.cell? ⟨w.heap.size,3,none⟩=some (.bool S.one):=by rw [cell_of_row _ _ 3 _ _ _ hbx2];rfl
    have HBX2:Hid (w2.heap[w.heap.size]?=some (.cells (setC S ad cap ad' cap') 273 (0,0))):=hbx2;have HFX:Hid (find S ((k:Int)+1) (2*(c:Int)+b)=find S ((k+1:Nat):Int) ((2*c+t1.bit.1:Nat):Int)):=by
     show _=_;rw [← HBB.out];simp
    clear hb2 hbx2 HS1 HK1 HBX;obtain ⟨x,hx⟩:∃ x,x=find S ((k:Int)+1) (2*(c:Int)+b):=⟨_,rfl⟩
    rw [← hx];rw [← hx] at HFX;clear hx;by_cases h0:0<=x
    ·go_wp2_with fail
     go_ret
     have e1:=HSM.out;rw [HR.out,Tr.sym_hit HE.out (by rw [← HFX.out];omega),← HFX.out] at e1;rw [← e1];exact ⟨rfl,HK2.out⟩
    ·cases h1:S.one
     ·rw [h1] at c3;have HO1:Hid (S.one=false):=h1;clear h1;have e1:=HSM.out;rw [HR.out,Tr.sym_next HE.out (by rw [← HFX.out];omega) HO1.out,← HBB.out] at e1;have HN:Hid (Tr.sym S (11 - (k+1)) (k+1+1) (2*c+b) t1.bit.2=t.symbol S):=by
       show _=_;rw [← e1,show 11 - (k+1)=10 - k by omega]
      have HC2:Hid (2*c+b<2^(k+1)):=by show _<_;rw [HBB.out];exact HC1.out
      have HT2:Hid (t1.bit.2.Fine∧t1.bit.2.s=t.s):=⟨HT1.out.1.bit,(Tr.fwd_bit t1).s.trans HT1.out.2⟩
      clear e1;go_wp2_with fail
      go_roundw
      case rel=>exact ⟨k+1,2*c+b,t1.bit.2,by omega,hc1,by go_num,by go_num,⟨HC2.out,HT2.out.1,HT2.out.2,HN.out,HK2.out,HBX2.out,HS2.out⟩⟩
      case measure=>simp [intOf];omega
     ·rw [h1] at c3;have HO1:Hid (S.one=true):=h1;clear h1;go_wp2_with fail
      go_ret
      have e1:=HSM.out;rw [HR.out,Tr.sym_one HE.out (by rw [← HFX.out];omega) HO1.out] at e1;rw [← e1];exact ⟨rfl,HK2.out⟩
   ·have HE:Hid (t1.bit.2.ended=true):=he;clear he;go_wp2_with (first | (go_at_call 182;refine (ywm _ HK1.out.inv).mono ?_;rw [HE.out];rintro e w' ⟨rfl,rfl⟩))
    go_ret
    have e1:=HSM.out;rw [HR.out,Tr.sym_ended HE.out] at e1;rw [← e1];exact ⟨rfl,HK1.out⟩
  ·obtain rfl:k=11:=by omega
   go_wp2_with fail
   go_ret
   have e1:=HH.out.2.2.2.1;rw [← e1];exact ⟨rfl,HH.out.2.2.2.2.1⟩
theorem Tr.bytes_ended(n:Nat){t:Tr}(h:t.ended=true):Tr.bytes n t=t:=by
 cases n with
 | zero=>rfl
 | succ n=>rw [Tr.bytes,if_pos h]
theorem Tr.bytes_next(n:Nat){t:Tr}(h:t.ended=false):Tr.bytes (n+1) t=Tr.bytes n (t.octet.2.put t.octet.1):=by rw [Tr.bytes,if_neg (by rw [h];simp)]
theorem Tr.out_le{t:Tr}{K:Nat}(h:t.cost<=K):t.out.length<=K:=by unfold Tr.cost at h;omega
def y0x(B p:Nat)(vo va vs:Value)(t0:Tr)(w:World)(fin:Tr)(n k:Nat)(wr:World):Prop:=
 ∃ (t1:Tr) (vo' va':Value),Tr.bytes (n - k) t1=fin∧jkl B p vo va vs vo' va' t1 w wr∧t1.Fine∧t1.cost<=1000000000000∧t1.s=t0.s
theorem zj3{B p:Nat}{vo va vs:Value}{t:Tr}(w:World)(h:TrI B p vo va vs t w)(hf:t.Fine)(hs:t.s.size<=maxLen)(hc:t.cost<=1000000000000) :
  Calls Tryz.prog 199 #[.pointer (some ⟨p,0,none⟩)] w fun x w'=>x= .returned (.tuple #[])∧∃ vo' va',jkl B p vo va vs vo' va' t.plain w w':=by
 have HZ:Hid (t.s.size<=maxLen∧t.Fine∧t.cost<=1000000000000):=⟨hs,hf,hc⟩
 have HI:Hid (TrI B p vo va vs t w):=h;clear h hf hs hc;have s0:=(Tr.fwd_skip t).s;have s1:=(Tr.fwd_octet t.skip).s;have s2:=(Tr.fwd_octet t.skip.octet.2).s;have s3:=(Tr.fwd_octet t.skip.octet.2.octet.2).s;have HS:Hid (t.skip.s.size<=maxLen∧t.skip.octet.2.s.size<=maxLen∧t.skip.octet.2.octet.2.s.size<=maxLen∧t.skip.octet.2.octet.2.octet.2.s.size<=maxLen):=by
  have:=HZ.out.1;show _∧_;rw [s3,s2,s1,s0];exact ⟨this,this,this,this⟩
 clear s0 s1 s2 s3;go_enter Tryz.func199,Tryz.ntmps199
 go_wp2_with fail
 refine (zfl _ HI.out).mono ?_;rintro e w1 ⟨rfl,k1⟩;have HK1:Hid (Kept B p vo va vs t.skip w w1):=k1;clear k1;go_wp2_with fail
 refine (x5o _ HK1.out.inv HS.out.1).mono ?_;rintro e w2 ⟨rfl,k2⟩;have HK2:Hid (Kept B p vo va vs t.skip.octet.2 w w2):=HK1.out.trans k2;clear k2;go_wp2_with fail
 refine (x5o _ HK2.out.inv HS.out.2.1).mono ?_;rintro e w3 ⟨rfl,k3⟩;have HK3:Hid (Kept B p vo va vs t.skip.octet.2.octet.2 w w3):=HK2.out.trans k3;clear k3;go_wp2_with fail
 refine (x5o _ HK3.out.inv HS.out.2.2.1).mono ?_;rintro e w4 ⟨rfl,k4⟩;have HK4:Hid (Kept B p vo va vs t.skip.octet.2.octet.2.octet.2 w w4):=HK3.out.trans k4;clear k4;go_wp2_with fail
 refine (x5o _ HK4.out.inv HS.out.2.2.2).mono ?_;rintro e w5 ⟨rfl,k5⟩;have HK5:Hid (Kept B p vo va vs t.skip.octet.2.octet.2.octet.2.octet.2 w w5):=HK4.out.trans k5;clear k5 HK1 HK2 HK3 HK4;obtain ⟨a,ha⟩:∃ a,a=t.skip.octet.1:=⟨_,rfl⟩
 obtain ⟨b,hb⟩:∃ b,b=t.skip.octet.2.octet.1:=⟨_,rfl⟩
 obtain ⟨c,hc⟩:∃ c,c=t.skip.octet.2.octet.2.octet.1:=⟨_,rfl⟩
 obtain ⟨d,hd⟩:∃ d,d=t.skip.octet.2.octet.2.octet.2.octet.1:=⟨_,rfl⟩
 have la:a<256:=by rw [ha];exact Tr.octet_lt _
 have lb:b<256:=by rw [hb];exact Tr.octet_lt _
 have lc:c<256:=by rw [hc];exact Tr.octet_lt _
 have ld:d<256:=by rw [hd];exact Tr.octet_lt _
 rw [← ha,← hb,← hc,← hd];have HP1:Hid (t.plainHead.1=a+256*b):=by show t.plainHead.1=_;rw [ha,hb];rfl
 have HP2:Hid (t.plainHead.2=if c+256*d=65535 - (a+256*b) then t.skip.octet.2.octet.2.octet.2.octet.2 else t.skip.octet.2.octet.2.octet.2.octet.2.fail 9):=by show t.plainHead.2=_;rw [ha,hb,hc,hd];rfl
 clear ha hb hc hd;by_cases hq:c+256*d=65535 - (a+256*b)
 case' pos=>
  have HK6:Hid (Kept B p vo va vs t.plainHead.2 w w5):=by show Kept _ _ _ _ _ _ _ _;rw [HP2.out,if_pos hq];exact HK5.out
  have hq':((c:Int)+256*d !=65535 - ((a:Int)+256*b))=false:=by simp;omega
  clear HK5 HP2 hq;go_wp2_with fail
 case' neg=>
  have HK5':Hid (∀ w6,Kept B p vo va vs (t.skip.octet.2.octet.2.octet.2.octet.2.fail 9) w5 w6->Kept B p vo va vs t.plainHead.2 w w6):=fun w6 k6=>by rw [HP2.out,if_neg hq];exact HK5.out.trans k6
  have hq':((c:Int)+256*d !=65535 - ((a:Int)+256*b))=true:=by simp;omega
  clear HP2 hq;go_wp2_with fail
  refine (j0n 9 _ HK5.out.inv).mono ?_;rintro e w6 ⟨rfl,k6⟩;have HK6:Hid (Kept B p vo va vs t.plainHead.2 w w6):=HK5'.out w6 k6;clear k6 HK5 HK5';go_wp2_with fail
 all_goals
  clear hq';go_loopw [7] (fun i wr=>∃ k:Nat,k<=a+256*b∧i= .int .i64 k∧Hid (y0x B p vo va vs t w t.plain (a+256*b) k wr)) (fun i _=>a+256*b - (intOf i).toNat)
  case atStart=>
   refine ⟨0,Nat.zero_le _,rfl,?_⟩;have f:=Tr.fwd_plainHead t;exact ⟨t.plainHead.2,vo,va,by rw [Nat.sub_zero,← HP1.out];rfl,HK6.out.moved,HZ.out.2.1.plainHead,Nat.le_trans f.cost HZ.out.2.2,f.s⟩
  case round=>
   obtain ⟨k,hk,rfl,HH⟩:=hrel;clear HK6;obtain ⟨t1,vo1,va1,hb1,hM,hF,hC,hs1⟩:=HH.out;have HB1:Hid (Tr.bytes (a+256*b - k) t1=t.plain):=hb1;have HM:Hid (jkl B p vo va vs vo1 va1 t1 w wr):=hM;have HF:Hid (t1.Fine∧t1.cost<=1000000000000∧t1.s=t.s):=⟨hF,hC,hs1⟩
   clear HH hb1 hM hF hC hs1;by_cases hlt:k<a+256*b
   ·cases he:t1.ended
    ·have HE:Hid (t1.ended=false):=he;clear he;have HN:Hid (Tr.bytes (a+256*b - (k+1)) (t1.octet.2.put t1.octet.1)=t.plain):=by
      show _=_;rw [← HB1.out,show a+256*b - k=(a+256*b - (k+1))+1 by omega,Tr.bytes_next _ HE.out]
     go_wp2_with (first | (go_at_call 182;refine (ywm _ HM.out.inv).mono ?_;rw [HE.out];rintro e w' ⟨rfl,rfl⟩) | (go_at_call 205;refine (x5o _ HM.out.inv (by rw [HF.out.2.2];exact HZ.out.1)).mono ?_;rintro e w7 ⟨rfl,k7⟩;have HK7:Hid (jkl B p vo va vs vo1 va1 t1.octet.2 w w7):=HM.out.then k7;clear k7))
     rw [show ((t1.octet.1:Nat):Int)%256=((t1.octet.1:Nat):Int) by have:=Tr.octet_lt t1;omega];have hle:t1.octet.2.out.length<=1000000000000∧t1.octet.2.ats.length<=1000000000000:=by
      have h1:=Tr.out_le (Nat.le_trans (Tr.fwd_octet t1).cost HF.out.2.1);have h2:=HF.out.1.octet.ats;exact ⟨h1,by rw [h2];exact h1⟩
     refine (v6a _ _ HK7.out.inv hle.1 hle.2).mono ?_;rintro e w8 ⟨rfl,vo2,va2,m8⟩;have HI8:Hid (y0x B p vo va vs t w t.plain (a+256*b) (k+1) w8):=⟨_,vo2,va2,HN.out,HK7.out.trans m8,HF.out.1.octet.put _,Nat.le_trans (Tr.run_byte t1).cost HF.out.2.1,(Tr.run_byte t1).s.trans HF.out.2.2⟩
     clear m8 hle;go_wp2_with fail
     go_roundw
     case rel=>exact ⟨k+1,by omega,by go_num,HI8⟩
     case measure=>simp [intOf];omega
    ·have HE:Hid (t1.ended=true):=he;clear he;go_wp2_with (first | (go_at_call 182;refine (ywm _ HM.out.inv).mono ?_;rw [HE.out];rintro e w' ⟨rfl,rfl⟩))
     go_end0
     have e1:=HB1.out;rw [Tr.bytes_ended _ HE.out] at e1;rw [← e1];exact ⟨rfl,vo1,va1,HM.out⟩
   ·obtain rfl:k=a+256*b:=by omega
    go_wp2_with fail
    go_end0
    have e1:=HB1.out;rw [Nat.sub_self] at e1;rw [← e1];exact ⟨rfl,vo1,va1,HM.out⟩
theorem vm5(base k:Nat)(w:World)(hb:base<=3)(hk:k<=15) :
  Calls Tryz.prog 222 #[.int .i64 base, .int .i64 k] w fun e w'=>e= .returned (.tuple #[.int .i64 (Tr.spanLeast base k), .int .i64 (Tr.spanBits k)])∧w=w':=by
 by_cases h4:k<4
 ·have e1:Tr.spanLeast base k=base+k:=if_pos h4;have e2:Tr.spanBits k=0:=if_pos h4;rw [e1,e2];clear e1 e2;go_enter Tryz.func222,Tryz.ntmps222
  go_wp2_with fail
  go_ret2
  exact ⟨by simp,rfl⟩
 ·have e1:Tr.spanLeast base k=base+(2+k%2)*2^((k - 2) / 2):=if_neg h4;have e2:Tr.spanBits k=(k - 2) / 2:=if_neg h4;obtain ⟨j,hj⟩:∃ j,j=(k - 2) / 2:=⟨_,rfl⟩
  have hj7:j<=7:=by omega
  have hjk:((k:Int) - 2) / 2=(j:Int):=by omega
  have HJ:Hid (Tr.spanBits k=j):=by show _=_;rw [e2,hj]
  have hz2:=(zq1 j (by omega)).2;have HE1:Hid (Tr.spanLeast base k=base+(2+k%2)*kj3 j):=by show _=_;rw [e1,hj];rfl
  have hz3:kj3 j<=128:=by
   have:kj3 j<=2^7:=Nat.pow_le_pow_right (n:=2) (by decide) hj7;omega
  clear e1 e2 hj hz2;have hpar:k%2=0∨k%2=1:=by omega
  rcases hpar with hp | hp
  ·have hp':(k:Int)%2=0:=by omega
   rw [hp] at HE1;go_enter Tryz.func222,Tryz.ntmps222
   go_wp2_with (go_at_call 211;refine (zza j _ (by omega)).mono ?_;rintro e w' ⟨rfl,rfl⟩)
   go_ret2
   rw [HE1.out,HJ.out];exact ⟨by simp,rfl⟩
  ·have hp':(k:Int)%2=1:=by omega
   rw [hp] at HE1;go_enter Tryz.func222,Tryz.ntmps222
   go_wp2_with (go_at_call 211;refine (zza j _ (by omega)).mono ?_;rintro e w' ⟨rfl,rfl⟩)
   go_ret2
   rw [HE1.out,HJ.out];exact ⟨by simp,rfl⟩
def y5c(b k:Nat):Array Value:=#[.int .i64 (Tr.spanLeast b k), .int .i64 (Tr.spanBits k)]
theorem xtd(cs:Array Value)(h:cs.size=2):(Tryz.prog.info? 125).map (·.size)=some cs.size:=by rw [h];kernel_rfl
theorem kqk{b k:Nat}(hb:b<=3)(h4:¬ k<4)(hk:k<=15):wrap64 ((b:Int)+wrap64 ((2+(k:Int)%2)*2^((k - 2) / 2)))=(Tr.spanLeast b k:Int)∧((k:Int) - 2) / 2=(Tr.spanBits k:Int):=by
 have:k=4∨k=5∨k=6∨k=7∨k=8∨k=9∨k=10∨k=11∨k=12∨k=13∨k=14∨k=15:=by omega
 rcases this with rfl | rfl | rfl | rfl | rfl | rfl | rfl | rfl | rfl | rfl | rfl | rfl <;> (simp [Tr.spanLeast,Tr.spanBits,wrap64];try omega)
theorem jbk(b k:Nat)(w:World)(hb:b<=3)(hk:k<=15) :
  Calls Tryz.prog 210 #[.int .i64 k, .int .i64 b] w fun x w'=>x= .returned (.agg (y5c b k))∧Below w.heap.size w w':=by
 by_cases h4:k<4
 ·have e:y5c b k=#[.int .i64 ((b:Int)+k), .int .i64 0]:=by unfold y5c;rw [show Tr.spanLeast b k=b+k from if_pos h4,show Tr.spanBits k=0 from if_pos h4];simp
  rw [e];clear e;go_enter Tryz.func210,Tryz.ntmps210
  go_wp2_with fail
  refine bodyPost_ret (v:= .agg #[.int .i64 ((b:Int)+k), .int .i64 0]) ?_ rfl ?_
  ·exact results_cell_row Tryz.results210 _ _ _ 125 _ _ _ rfl (heap_alloc_new _ _) Tryz.underlying125 rfl (xtd _ rfl)
  ·exact ⟨rfl,(Below.refl _ _).alloc (Nat.le_refl _) _⟩
 ·have HN:Hid (True->y5c b k=#[.int .i64 (wrap64 ((b:Int)+wrap64 ((2+(k:Int)%2)*2^((k - 2) / 2)))), .int .i64 (((k:Int) - 2) / 2)]):=fun _=>by
   have h:=kqk hb h4 hk;unfold y5c;rw [h.1,h.2]
  go_enter Tryz.func210,Tryz.ntmps210
  go_wp2_with fail
  refine bodyPost_ret (v:= .agg #[.int .i64 (wrap64 ((b:Int)+wrap64 ((2+(k:Int)%2)*2^((k - 2) / 2)))), .int .i64 (((k:Int) - 2) / 2)]) ?_ rfl ?_
  ·exact results_cell_row Tryz.results210 _ _ _ 125 _ _ _ rfl (heap_alloc_new _ _) Tryz.underlying125 rfl (xtd _ rfl)
  ·exact ⟨by rw [HN.out trivial],(Below.refl _ _).alloc (Nat.le_refl _) _⟩
theorem x00(k:Nat)(w:World)(hk:k<=15) :
  Calls Tryz.prog 194 #[.int .i64 k] w fun x w'=>x= .returned (.agg (y5c 1 k))∧Below w.heap.size w w':=by
 have B0:Below w.heap.size w (w.alloc (.cells #[.int .i64 0, .int .i64 0] 125)):=(Below.refl _ _).alloc (Nat.le_refl _) _;have HB0:Hid (Below w.heap.size w (w.alloc (.cells #[.int .i64 0, .int .i64 0] 125))):=B0;clear B0;go_enter Tryz.func194,Tryz.ntmps194
 go_wp2_with fail
 refine (jbk 1 k _ (by omega) hk).mono ?_;rintro e w1 ⟨rfl,hb1⟩;have h1:w1.heap[w.heap.size]?=some (.cells #[.int .i64 0, .int .i64 0] 125 (0,0)):=(hb1.block _ (by simp)).trans (heap_alloc_new _ _);have HB1:Hid (Below w.heap.size w w1):=y6y HB0.out hb1;obtain ⟨cs,hcs⟩:∃ cs,cs=y5c 1 k:=⟨_,rfl⟩
 have hsz:cs.size=2:=by rw [hcs];rfl
 have hone:cs.all (·.oneCell')=true:=by rw [hcs];simp [y5c,Value.oneCell']
 rw [← hcs];have HCS:Hid (True->cs=y5c 1 k):=fun _=>hcs
 clear hcs hb1;go_wp2_with (refine wpList_store_row rfl 125 _ _ rfl w.heap.size cs rfl rfl 125 _ h1 (xtd _ hsz) hsz.symm hone ?_)
 refine bodyPost_ret (v:= .agg cs) ?_ rfl ?_
 ·exact results_cell_row Tryz.results194 _ _ _ 125 _ _ _ rfl (setRow_heap _ _ _ _ 125 _ h1) Tryz.underlying125 rfl (xtd _ hsz)
 ·exact ⟨by rw [HCS.out trivial],below_setRow HB1.out (Nat.le_refl _) _⟩
def litC(k:Nat):Array Value:=
 if k<256 then #[.int .i64 0, .int .u8 k, .int .i64 0, .int .i64 0]
 else if k=256 then #[.int .i64 1, .int .u8 0, .int .i64 0, .int .i64 0]
 else #[.int .i64 2, .int .u8 0, .int .i64 (Tr.spanLeast 3 (k - 257)), .int .i64 (Tr.spanBits (k - 257))]
def v3q(k:Nat):Array Value:=
 if k=12 then #[.int .i64 0, .bool true, .int .i64 3, .int .i64 2]
 else if k=13 then #[.int .i64 0, .bool false, .int .i64 3, .int .i64 3]
 else if k=14 then #[.int .i64 0, .bool false, .int .i64 11, .int .i64 6]
 else #[.int .i64 k, .bool false, .int .i64 1, .int .i64 0]
theorem yes(cs:Array Value)(h:cs.size=4):(Tryz.prog.info? 218).map (·.size)=some cs.size:=by rw [h];kernel_rfl
theorem yfc(cs:Array Value)(h:cs.size=4):(Tryz.prog.info? 127).map (·.size)=some cs.size:=by rw [h];kernel_rfl
theorem k82(k:Nat)(w:World)(hk:k<=268) :
  Calls Tryz.prog 192 #[.int .i64 k] w fun x w'=>x= .returned (.agg (litC k))∧Below w.heap.size w w':=by
 by_cases h1:k<256
 ·have HC:Hid (True->litC k=#[.int .i64 0, .int .u8 k, .int .i64 0, .int .i64 0]):=fun _=>by unfold litC;rw [if_pos h1]
  have hmod:(k:Int)%256=(k:Int):=by omega
  go_enter Tryz.func192,Tryz.ntmps192
  go_wp2_with fail
  refine bodyPost_ret (v:= .agg #[.int .i64 0, .int .u8 k, .int .i64 0, .int .i64 0]) ?_ rfl ?_
  ·exact results_cell_row Tryz.results192 _ _ _ 218 _ _ _ rfl (heap_alloc_new _ _) Tryz.underlying218 rfl (yes _ rfl)
  ·exact ⟨by rw [HC.out trivial],(Below.refl _ _).alloc (Nat.le_refl _) _⟩
 ·by_cases h2:k=256
  ·have HC:Hid (True->litC k=#[.int .i64 1, .int .u8 0, .int .i64 0, .int .i64 0]):=fun _=>by unfold litC;rw [if_neg h1,if_pos h2]
   have hd:((k:Int)==256)=true:=by simp;omega
   clear h2;go_enter Tryz.func192,Tryz.ntmps192
   go_wp2_with fail
   refine bodyPost_ret (v:= .agg #[.int .i64 1, .int .u8 0, .int .i64 0, .int .i64 0]) ?_ rfl ?_
   ·exact results_cell_row Tryz.results192 _ _ _ 218 _ _ _ rfl (heap_alloc_new _ _) Tryz.underlying218 rfl (yes _ rfl)
   ·exact ⟨by rw [HC.out trivial],(Below.refl _ _).alloc (Nat.le_refl _) _⟩
  ·have HC:Hid (True->litC k=#[.int .i64 2, .int .u8 0, .int .i64 (Tr.spanLeast 3 (k - 257)), .int .i64 (Tr.spanBits (k - 257))]):=fun _=>by unfold litC;rw [if_neg h1,if_neg h2]
   have hd:((k:Int)==256)=false:=by simp;omega
   obtain ⟨j,hj⟩:∃ j,j=k - 257:=⟨_,rfl⟩
   have hji:(k:Int) - 257=(j:Int):=by omega
   have hj11:j<=15:=by omega
   rw [← hj] at HC;clear hj;have HB0:Hid (Below w.heap.size w (w.alloc (.cells #[.int .i64 0, .int .u8 0, .int .i64 0, .int .i64 0] 218))):=(Below.refl _ _).alloc (Nat.le_refl _) _;go_enter Tryz.func192,Tryz.ntmps192
   go_wp2_with fail
   refine (jbk 3 j _ (by omega) hj11).mono ?_;rintro e w1 ⟨rfl,hb1⟩;have h1':w1.heap[w.heap.size]?=some (.cells #[.int .i64 0, .int .u8 0, .int .i64 0, .int .i64 0] 218 (0,0)):=(hb1.block _ (by simp)).trans (heap_alloc_new _ _);have HB1:Hid (Below w.heap.size w w1):=y6y HB0.out hb1;clear hb1;unfold y5c;have hone:(#[.int .i64 2, .int .u8 0, .int .i64 (Tr.spanLeast 3 j), .int .i64 (Tr.spanBits j)]:Array Value).all (·.oneCell')=true:=by simp [Value.oneCell']
   go_wp2_with (refine wpList_store_row rfl 218 _ _ rfl w.heap.size #[.int .i64 2, .int .u8 0, .int .i64 (Tr.spanLeast 3 j), .int .i64 (Tr.spanBits j)] rfl rfl 218 _ h1' (yes _ rfl) rfl hone ?_)
   refine bodyPost_ret (v:= .agg #[.int .i64 2, .int .u8 0, .int .i64 (Tr.spanLeast 3 j), .int .i64 (Tr.spanBits j)]) ?_ rfl ?_
   ·exact results_cell_row Tryz.results192 _ _ _ 218 _ _ _ rfl (setRow_heap _ _ _ _ 218 _ h1') Tryz.underlying218 rfl (yes _ rfl)
   ·exact ⟨by rw [HC.out trivial],below_setRow HB1.out (Nat.le_refl _) _⟩
theorem yhm(k:Nat)(w:World) :
  Calls Tryz.prog 169 #[.int .i64 k] w fun x w'=>x= .returned (.agg (v3q k))∧Below w.heap.size w w':=by
 by_cases h1:k=12
 ·have HC:Hid (True->v3q k=#[.int .i64 0, .bool true, .int .i64 3, .int .i64 2]):=fun _=>by unfold v3q;rw [if_pos h1]
  have hd:((k:Int)==12)=true:=by simp;omega
  clear h1;go_enter Tryz.func169,Tryz.ntmps169
  go_wp2_with fail
  refine bodyPost_ret (v:= .agg #[.int .i64 0, .bool true, .int .i64 3, .int .i64 2]) ?_ rfl ?_
  ·exact results_cell_row Tryz.results169 _ _ _ 127 _ _ _ rfl (heap_alloc_new _ _) Tryz.underlying127 rfl (yfc _ rfl)
  ·exact ⟨by rw [HC.out trivial],(Below.refl _ _).alloc (Nat.le_refl _) _⟩
 ·have d1:((k:Int)==12)=false:=by simp;omega
  by_cases h2:k=13
  ·have HC:Hid (True->v3q k=#[.int .i64 0, .bool false, .int .i64 3, .int .i64 3]):=fun _=>by unfold v3q;rw [if_neg h1,if_pos h2]
   have hd:((k:Int)==13)=true:=by simp;omega
   clear h1 h2;go_enter Tryz.func169,Tryz.ntmps169
   go_wp2_with fail
   refine bodyPost_ret (v:= .agg #[.int .i64 0, .bool false, .int .i64 3, .int .i64 3]) ?_ rfl ?_
   ·exact results_cell_row Tryz.results169 _ _ _ 127 _ _ _ rfl (heap_alloc_new _ _) Tryz.underlying127 rfl (yfc _ rfl)
   ·exact ⟨by rw [HC.out trivial],(Below.refl _ _).alloc (Nat.le_refl _) _⟩
  ·have d2:((k:Int)==13)=false:=by simp;omega
   by_cases h3:k=14
   ·have HC:Hid (True->v3q k=#[.int .i64 0, .bool false, .int .i64 11, .int .i64 6]):=fun _=>by unfold v3q;rw [if_neg h1,if_neg h2,if_pos h3]
    have hd:((k:Int)==14)=true:=by simp;omega
    clear h1 h2 h3;go_enter Tryz.func169,Tryz.ntmps169
    go_wp2_with fail
    refine bodyPost_ret (v:= .agg #[.int .i64 0, .bool false, .int .i64 11, .int .i64 6]) ?_ rfl ?_
    ·exact results_cell_row Tryz.results169 _ _ _ 127 _ _ _ rfl (heap_alloc_new _ _) Tryz.underlying127 rfl (yfc _ rfl)
    ·exact ⟨by rw [HC.out trivial],(Below.refl _ _).alloc (Nat.le_refl _) _⟩
   ·have HC:Hid (True->v3q k=#[.int .i64 k, .bool false, .int .i64 1, .int .i64 0]):=fun _=>by unfold v3q;rw [if_neg h1,if_neg h2,if_neg h3]
    have d3:((k:Int)==14)=false:=by simp;omega
    go_enter Tryz.func169,Tryz.ntmps169
    go_wp2_with fail
    refine bodyPost_ret (v:= .agg #[.int .i64 k, .bool false, .int .i64 1, .int .i64 0]) ?_ rfl ?_
    ·exact results_cell_row Tryz.results169 _ _ _ 127 _ _ _ rfl (heap_alloc_new _ _) Tryz.underlying127 rfl (yfc _ rfl)
    ·exact ⟨by rw [HC.out trivial],(Below.refl _ _).alloc (Nat.le_refl _) _⟩
end Go.Proofs.YtbcjmakpempkiaaGreatDoor
