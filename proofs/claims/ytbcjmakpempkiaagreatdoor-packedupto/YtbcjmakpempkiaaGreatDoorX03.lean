import Derived.Laws.OwnMore
import Derived.Test.YtbcjmakpempkiaaGreatDoorX02
set_option maxRecDepth 100000
set_option maxHeartbeats 8000000
set_option linter.all false
namespace Go.Proofs.YtbcjmakpempkiaaGreatDoor
open Go.RowKit
def k3a(w:World)(p:Nat)(v:Value)(ad:Option Addr):Prop:=∀ b o f,ad=some ⟨b,o,f⟩->b<w.heap.size∧b≠p∧v.ownBlock≠some b
theorem k3a.next{B p:Nat}{v v':Value}{w w':World}{ad:Option Addr}(h:k3a w p v ad)(hf:BtF B p v v' w w'):k3a w' p v' ad:=fun b o f e=>by
 obtain ⟨h1,h2,h3⟩:=h b o f e;refine ⟨Nat.lt_of_lt_of_le h1 hf.size,h2,fun e'=>?_⟩;rcases hf.nw b e' with e2 | e2
 ·exact h3 e2
 ·omega
theorem xin.next{B p:Nat}{v v':Value}{w w':World}{ad:Option Addr}{l:List Int}(h:xin w ad l)(hc:k3a w p v ad)(hf:BtF B p v v' w w'):xin w' ad l:=
 h.of_blocks hf.size (fun b o f e hlt=>hf.blk b hlt (hc b o f e).2.1 (hc b o f e).2.2)
theorem jvf{l:List Int}(hr:inRange l=true)(k:Nat):(symB l k).length<=11:=by
 unfold symB;rw [jqc];have h:=yyi hr k;unfold yuc at h;have:=of_decide_eq_true h;omega
theorem jse{B p:Nat}{v:Value}{bits:List Nat}(ad:Option Addr)(cap:Nat)(l:List Int)(s:Nat)(w:World)(h:BB B p v bits w)(hl:l.length<=269)(hc:xin w ad l)(hr:inRange l=true)(hh:Has l s)(hlen:bits.length<=900000000000) :
  Calls Tryz.prog 71 #[.pointer (some ⟨p,0,none⟩), .slice ad l.length cap, .int .i64 s] w fun e w'=>e= .returned (.tuple #[])∧BBE B p v (bits++symB l s) w w':=by
 obtain ⟨hs,hp⟩:=hh;have es:l.getD s 0=l[s]:=by simp [hs]
 obtain ⟨n,hn⟩:∃ n:Nat,l[s]=(n:Int):=⟨l[s].toNat,by rw [es] at hp;omega⟩
 have hn0:0<n:=by rw [es,hn] at hp;omega
 have hn11:n<=11:=by
  have:=(vto l).1 hr l[s] (List.getElem_mem hs);omega
 obtain ⟨b,o,hab,_,hcell⟩:=hc s hs;rw [es,hn] at hcell;have HV:Hid (∀ W,W.heap=w.heap->Calls Tryz.prog 99 #[.slice ad l.length cap, .int .i64 s] W fun e w'=>e= .returned (.int .i64 (yu0 l s))∧W=w'):=fun W hW=>ztr ad cap l s n W hl (hc.same hW) hr hs hn0 hn
 have hcb:yu0 l s<=1000000:=by
  have h1:=vfp hs hn0 hn hn11;have h2:=j7w hl s n hn11;rw [xr5 l s hn0] at h2;omega
 have HB:Hid (∀ W,W.heap=w.heap->Calls Tryz.prog 98 #[.pointer (some ⟨p,0,none⟩), .int .i64 (yu0 l s), .int .i64 n] W fun e w'=>e= .returned (.tuple #[])∧BBE B p v (bits++krl (yu0 l s) n) W w'):=by
  intro W hW;obtain ⟨l',left,i1,i2⟩:=h.inv;have hW':BtI B p v l' left W:=by
   refine ⟨i1.pB,by rw [hW];exact i1.hB,?_,?_,i1.po⟩
   ·exact i1.row.of_block (by rw [hW])
   ·exact kcz (R:=fun _=>False) (ρ:=fun k=>k) i1.own ⟨by rw [hW];exact Nat.le_refl _,fun k _ _=>by rw [hW]⟩ (fun _ _ x=>x)
  exact xh3 _ n W ⟨_,_,hW',i2⟩ hcb hn0 hn11 (by omega)
 have HS:Hid (symB l s=krl (yu0 l s) n):=by show _=_;unfold symB;rw [es,hn];rfl
 clear hc h;subst hab;generalize yu0 l s=C at *;go_enter Tryz.func71,Tryz.ntmps71
 go_wp2_with fail
 go_region_with (first | (go_at_call 99;refine (HV.out w.drew rfl).mono ?_;rintro e w' ⟨rfl,rfl⟩) | (go_at_call 98;refine (HB.out w.drew rfl).mono ?_;rintro e w2 ⟨rfl,v2,b2,f2⟩))
 all_goals
  go_wp2_with fail
  go_end0
  rw [HS.out];exact ⟨rfl,v2,b2,⟨f2.size,f2.blk,f2.nw,((Below.refl _ _).drew).trans f2.bel⟩⟩
theorem BBE.trans{B p:Nat}{v v1:Value}{b2:List Nat}{a b c:World}(hf:BtF B p v v1 a b)(k:BBE B p v1 b2 b c):BBE B p v b2 a c:=by
 obtain ⟨v2,i2,f2⟩:=k;exact ⟨v2,i2,hf.trans f2⟩
theorem jpq{B p:Nat}{v:Value}{bits:List Nat}(last:Bool)(kind:Nat)(w:World)(h:BB B p v bits w)(hk:kind<=2)(hlen:bits.length<=900000000000) :
  Calls Tryz.prog 42 #[.pointer (some ⟨p,0,none⟩), .bool last, .int .i64 kind] w fun e w'=>e= .returned (.tuple #[])∧BBE B p v (bits++((if last then 1 else 0) :: v06 kind 2)) w w':=by
 have HC:Hid (∀ b:Nat,b<=1->Calls Tryz.prog 70 #[.pointer (some ⟨p,0,none⟩), .int .i64 b] w fun e w'=>e= .returned (.tuple #[])∧BBE B p v (bits++[b]) w w'):=fun b hb=>z3z b hb w h (by omega)
 clear h;cases last
 ·go_enter Tryz.func42,Tryz.ntmps42
  go_wp2_with (first | (go_at_call 70;refine (HC.out 0 (by omega)).mono ?_;rintro e w1 ⟨rfl,v1,i1,f1⟩))
  refine (xsy kind 2 w1 i1 (by omega) (by omega) (by simp;omega)).mono ?_;rintro e w2 ⟨rfl,k2⟩;have HX:Hid (BBE B p v (bits++[0]++v06 kind 2) w w2):=BBE.trans f1 k2;clear i1 f1 k2;go_wp2_with fail
  go_end0
  have:=HX.out;rw [List.append_assoc] at this;exact ⟨rfl,this⟩
 ·go_enter Tryz.func42,Tryz.ntmps42
  go_wp2_with (first | (go_at_call 70;refine (HC.out 1 (by omega)).mono ?_;rintro e w1 ⟨rfl,v1,i1,f1⟩))
  refine (xsy kind 2 w1 i1 (by omega) (by omega) (by simp;omega)).mono ?_;rintro e w2 ⟨rfl,k2⟩;have HX:Hid (BBE B p v (bits++[1]++v06 kind 2) w w2):=BBE.trans f1 k2;clear i1 f1 k2;go_wp2_with fail
  go_end0
  have:=HX.out;rw [List.append_assoc] at this;exact ⟨rfl,this⟩
def xpg(s:ByteArray):List Nat:=s.data.toList.map UInt8.toNat
theorem kev(s:ByteArray):(xpg s).length=s.size:=by simp [xpg]
theorem jn7(s:ByteArray):∀ x∈xpg s,x<256:=by
 intro x hx;simp [xpg] at hx;obtain ⟨y,_,rfl⟩:=hx;exact y.toNat_lt
theorem z1i{s:ByteArray}{k:Nat}(h:k<s.size):(xpg s).take (k+1)=(xpg s).take k++[(s[k]).toNat]:=by
 have hl:k<(xpg s).length:=by rw [kev];exact h
 rw [List.take_succ_eq_append_getElem hl];congr 2
 simp [xpg];rfl
theorem Pk.aligned{l:List Nat}{left:Nat}{bits:List Nat}(h:Pk l left bits):Pk l 0 (bits++xpo (padN bits.length)):=by
 have hl:=h.len;have hlt:=h.lt;have e:padN bits.length=left:=by unfold padN;omega
 refine ⟨?_,by decide,h.byte⟩;rw [h.oct,e,show xpo 0=[] from rfl,List.append_nil]
theorem ze3{B p:Nat}{v:Value}{bits:List Nat}(s:ByteArray)(w:World)(h:BB B p v bits w)(hs:s.size<=1000000000)(hlen:bits.length<=900000000000) :
  Calls Tryz.prog 64 #[.pointer (some ⟨p,0,none⟩), .string s] w fun e w'=>e= .returned (.tuple #[])∧BBE B p v (bits++(xpo (padN bits.length)++octB (xpg s))) w w':=by
 obtain ⟨l,left,i1,i2⟩:=h.inv;have c1:w.cell? ⟨p,1,none⟩=some (.int .i64 left):=i1.row.cell (i:=1) (by omega);have f1:=i1.row.frozen 1;have hll:l.length<=200000000000:=by have:=i2.len;have:=i2.lt;omega
 obtain ⟨W0,hW0⟩:∃ W0,W0=w.setCell ⟨p,1,none⟩ (.int .i64 0):=⟨_,rfl⟩
 have H0:Hid (∃ v',BtI B p v' (l++(xpg s).take 0) 0 W0∧BtF B p v v' w W0):=by
  have:=i1.setLeft 0;rw [← show W0=w.setCell ⟨p,1,none⟩ (.int .i64 (0:Nat)) from hW0] at this;exact ⟨v,by rw [List.take_zero,List.append_nil];exact this.1,this.2⟩
 have HP:Hid (Pk (l++xpg s) 0 (bits++(xpo (padN bits.length)++octB (xpg s)))):=by
  have ha:=i2.aligned;refine ⟨?_,by decide,?_⟩
  ·have:=ha.oct;rw [show xpo 0=[] from rfl,List.append_nil] at this ⊢;rw [Tr.octB_append,this,List.append_assoc]
  ·intro y hy;rcases List.mem_append.1 hy with hy | hy
   ·exact i2.byte y hy
   ·exact jn7 s y hy
 clear h i1 i2;obtain ⟨i5,hi5,hx0,hx1,hx2⟩:=info_parts kh5;go_enter Tryz.func64,Tryz.ntmps64
 go_upto_region 1 with fail
 rw [← hW0];clear hW0 c1 f1;go_wp2_with fail
 go_loopw [4] (fun i wr=>∃ k:Nat,k<=s.size∧i= .int .i64 k∧Hid (∃ v',BtI B p v' (l++(xpg s).take k) 0 wr∧BtF B p v v' w wr)) (fun i _=>s.size - (intOf i).toNat)
 case atStart=>exact ⟨0,Nat.zero_le _,rfl,H0⟩
 case round=>
  obtain ⟨k,hk,rfl,HR⟩:=hrel;clear H0;by_cases hlt:k<s.size
  ·obtain ⟨v1,j1,f1⟩:=HR.out;have HI:Hid (BtI B p v1 (l++(xpg s).take k) 0 wr∧BtF B p v v1 w wr):=⟨j1,f1⟩
   have HT:Hid ((xpg s).take (k+1)=(xpg s).take k++[(s[k]).toNat]):=z1i hlt;have hpl:=j1.row.lt;have hBs:=j1.hB;have c0:wr.cell? ⟨p,0,none⟩=some v1:=j1.row.cell (i:=0) (by omega);have f0:=j1.row.frozen 0;have hwo:=j1.own;have hpo:=j1.po;have hln:(l++(xpg s).take k).length<=300000000000:=by rw [List.length_append,List.length_take];omega
   clear j1 f1 HR;obtain ⟨L,hL⟩:∃ L,L=l++(xpg s).take k:=⟨_,rfl⟩
   have HLL:Hid (l++(xpg s).take k=L):=hL.symm;rw [← hL] at HI hwo hln;clear hL;go_wp2_with fail
   go_region_law
    ((refine step_append_lies _ (by rfl) _ _ _ (by rfl) B 5 i5 _ 1 1 Tryz.underlying34 hi5 hx0 hx1 hx2 rfl (by omega) v1 L.length (keg L) (by rfl) ((hwo.alloc _).drew) ⟨wr.heap.size,0,none⟩ 1 1 [.int .u8 (s[k]).toNat] (by rfl) (by rfl) (cell_one_new wr _ _) (by simp [Value.oneCell']) (by omega) (by unfold maxLen;omega) (by omega) (by simp;omega) (wr.heap.size+1) (by simp) ?_;intro g2 p2 w2 hown2 hgrow2 hat2 hlt2;have k1:=x1k hgrow2 hpl hpo c0;have z1:=xg8 hgrow2 hpl hpo f0))
   all_goals
    have M2:=HI.out.1.push (b:=(s[k]).toNat) (((Below.refl _ _).alloc (Nat.le_refl _) _).drew) hgrow2 (hat2.imp id (fun e=>by omega)) rfl hown2;have HN:Hid (∃ v',BtI B p v' (L++[(s[k]).toNat]) 0 (w2.setCell ⟨p,0,none⟩ (.slice (some ⟨g2,0,none⟩) (L.length+1) p2))∧BtF B p v v' w (w2.setCell ⟨p,0,none⟩ (.slice (some ⟨g2,0,none⟩) (L.length+1) p2))):=⟨_,M2.1,HI.out.2.trans M2.2⟩
    clear M2 hown2 hgrow2 hat2 hlt2;go_wp2_with fail
    go_roundw
    case rel=>exact ⟨k+1,by omega,by go_num,by rw [HT.out,← List.append_assoc,HLL.out];exact HN⟩
    case measure=>simp [intOf];omega
  ·obtain rfl:k=s.size:=by omega
   go_wp2_with fail
   go_end0
   obtain ⟨v1,j1,f1⟩:=HR.out;rw [List.take_of_length_le (by rw [kev];omega)] at j1;exact ⟨rfl,v1,⟨_,_,j1,HP.out⟩,f1⟩
theorem yzt{base n:Nat}:splF base n 16 0=splK base n:=rfl
theorem kdq{base n f k:Nat}(h:n<Tr.spanLeast base k+2^Tr.spanBits k):splF base n (f+1) k=k:=by rw [splF,if_pos h]
theorem v5r{base n f k:Nat}(h:¬ n<Tr.spanLeast base k+2^Tr.spanBits k):splF base n (f+1) k=splF base n f (k+1):=by rw [splF,if_neg h]
theorem z6j(n base:Nat)(w:World)(hb:base<=n)(hu:n<Tr.spanLeast base 16)(hb3:base<=3) :
  Calls Tryz.prog 72 #[.int .i64 n, .int .i64 base] w fun e w'=>e= .returned (.tuple #[.int .i64 (splK base n), .int .i64 ((n:Int) - Tr.spanLeast base (splK base n)), .int .i64 (Tr.spanBits (splK base n))])∧w=w':=by
 have hu2:n<=300:=by
  have e:Tr.spanLeast base 16=base+256:=by unfold Tr.spanLeast;rfl
  omega
 have HU:Hid (n<Tr.spanLeast base 16):=hu;have HP:Hid (∀ k,2^(k+1)=2*2^k):=fun k=>by rw [Nat.pow_succ,Nat.mul_comm]
 have HL:Hid (∀ k,k<=6->1<=2^k∧2^k<=64):=fun k hk=>by
  have h1:2^k<=2^6:=Nat.pow_le_pow_right (by decide) hk;have h2:0<2^k:=Nat.pow_pos (by decide);omega
 clear hu;go_enter Tryz.func72,Tryz.ntmps72
 go_wp2_with fail
 go_loop [7,8,9,10,11,12] (fun s _ _ _ _ _=>∃ k:Nat,k<=16∧s= .int .i64 k∧Hid (splF base n (16 - k) k=splK base n∧Tr.spanLeast base k<=n)) (fun s _ _ _ _ _=>16 - (intOf s).toNat)
 case atStart=>exact ⟨0,by omega,rfl,yzt,by show base+0<=n;omega⟩
 case round=>
  obtain ⟨k,hk16,rfl,HS⟩:=hrel;have hk:k<16:=by
   apply Classical.byContradiction;intro hc;obtain rfl:k=16:=by omega
   have:=HS.out.2;have:=HU.out;omega
  obtain ⟨f,hf⟩:∃ f,16 - k=f+1:=⟨15 - k,by omega⟩
  have HF:Hid (splF base n (f+1) k=splK base n∧Tr.spanLeast base k<=n∧f=16 - (k+1)):=⟨by rw [← hf];exact HS.out.1,HS.out.2,by omega⟩
  clear HS hf;by_cases hk4:k<4
  ·have HLe:Hid (Tr.spanLeast base k=base+k∧Tr.spanBits k=0):=by
    constructor
    ·unfold Tr.spanLeast;rw [if_pos hk4]
    ·unfold Tr.spanBits;rw [if_pos hk4]
   have hd4:decide ((4:Int)<=(k:Int))=false:=by simp;omega
   go_wp2_with fail
   go_loop [11,12] (fun s i=>s= .int .i64 1∧i= .int .i64 0) (fun _ _=>0)
   case atStart=>exact ⟨rfl,rfl⟩
   case round=>
    obtain ⟨rfl,rfl⟩:=hrel;by_cases hit:n<base+k+1
    ·have HK:Hid (splK base n=k):=by
      show _=_;rw [← HF.out.1];exact kdq (by rw [HLe.out.1,HLe.out.2];simpa using hit)
     have hle:base+k<=n:=by have:=HF.out.2.1;rw [HLe.out.1] at this;exact this
     go_wp2_with fail
     refine bodyPost_ret (v:= .tuple #[.int .i64 k, .int .i64 ((n:Int) - ((base:Int)+k)), .int .i64 0]) (by simp [results,Tryz.results72,go_sem]) rfl ⟨?_,rfl⟩;rw [HK.out,HLe.out.1,HLe.out.2];simp
    ·have HN:Hid (splF base n (16 - (k+1)) (k+1)=splK base n∧Tr.spanLeast base (k+1)<=n):=by
      have h1:=v5r (base:=base) (n:=n) (f:=f) (k:=k) (by rw [HLe.out.1,HLe.out.2];simpa using hit);exact ⟨by rw [← HF.out.2.2,← h1];exact HF.out.1,by rw [jfv,HLe.out.1,HLe.out.2];simp;omega⟩
     go_wp2_with fail
     go_round
     case rel=>exact ⟨k+1,by omega,by go_num,HN⟩
     case measure=>simp [intOf];omega
  ·obtain ⟨E,hE⟩:∃ E,E=(k - 2) / 2:=⟨_,rfl⟩
   have hEi:((k:Int) - 2) / 2=(E:Int):=by omega
   have hE6:E<=6:=by omega
   have HLe0:Hid (Tr.spanLeast base k=base+(2+k%2)*2^E∧Tr.spanBits k=E):=by
    constructor
    ·unfold Tr.spanLeast;rw [if_neg hk4,← hE]
    ·unfold Tr.spanBits;rw [if_neg hk4,← hE]
   have hd4:decide ((4:Int)<=(k:Int))=true:=by simp;omega
   obtain ⟨c,hc⟩:∃ c,c=2+k%2:=⟨_,rfl⟩
   have hci:(2:Int)+(k:Int)%2=(c:Int):=by omega
   have hc3:c<=3:=by omega
   rw [← hc] at HLe0;clear hE hc;go_wp2_with fail
   go_loop [8,10] (fun s i=>∃ j y:Nat,j<=E∧i= .int .i64 j∧s= .int .i64 y∧y<=192∧Hid (y=c*2^j)) (fun _ i=>E - (intOf i).toNat)
   case atStart=>exact ⟨0,c,Nat.zero_le _,rfl,rfl,by omega,by show _=_;simp⟩
   case round=>
    obtain ⟨j,y,hj,rfl,rfl,hy,HY⟩:=hrel;by_cases hjl:j<E
    ·have HY2:Hid (2*y=c*2^(j+1)):=by show _=_;rw [HY.out,HP.out,← Nat.mul_assoc,← Nat.mul_assoc,Nat.mul_comm 2 c]
     have hy2:2*y<=192:=by
      rw [HY2.out];have:=(HL.out (j+1) (by omega)).2;have:=Nat.mul_le_mul hc3 this;omega
     go_wp2_with fail
     go_round
     case rel=>exact ⟨j+1,2*y,by omega,by go_num,by go_num,hy2,HY2⟩
     case measure=>simp [intOf];omega
    ·obtain rfl:j=E:=by omega
     have HLe:Hid (Tr.spanLeast base k=base+y∧Tr.spanBits k=j):=⟨by rw [HLe0.out.1,HY.out],HLe0.out.2⟩
     clear HLe0 HY;go_wp2_with fail
     go_loop [11,12] (fun s i=>∃ m z:Nat,m<=j∧i= .int .i64 m∧s= .int .i64 z∧z<=64∧Hid (z=2^m)) (fun _ i=>j - (intOf i).toNat)
     case atStart=>exact ⟨0,1,Nat.zero_le _,rfl,rfl,by omega,rfl⟩
     case round=>
      obtain ⟨m,z,hm,rfl,rfl,hz,HZ⟩:=hrel;by_cases hml:m<j
      ·have HZ2:Hid (2*z=2^(m+1)):=by show _=_;rw [HZ.out,HP.out]
       have hz2:2*z<=64:=by rw [HZ2.out];exact (HL.out (m+1) (by omega)).2
       go_wp2_with fail
       go_round
       case rel=>exact ⟨m+1,2*z,by omega,by go_num,by go_num,hz2,HZ2⟩
       case measure=>simp [intOf];omega
      ·obtain rfl:m=j:=by omega
       by_cases hit:n<base+y+z
       ·have HK:Hid (splK base n=k):=by
         show _=_;rw [← HF.out.1];exact kdq (by rw [HLe.out.1,HLe.out.2];rw [← HZ.out];exact hit)
        have hle:base+y<=n:=by have:=HF.out.2.1;rw [HLe.out.1] at this;exact this
        go_wp2_with fail
        refine bodyPost_ret (v:= .tuple #[.int .i64 k, .int .i64 ((n:Int) - ((base:Int)+y)), .int .i64 m]) (by simp [results,Tryz.results72,go_sem]) rfl ⟨?_,rfl⟩;rw [HK.out,HLe.out.1,HLe.out.2];simp
       ·have HN:Hid (splF base n (16 - (k+1)) (k+1)=splK base n∧Tr.spanLeast base (k+1)<=n):=by
         have h1:=v5r (base:=base) (n:=n) (f:=f) (k:=k) (by rw [HLe.out.1,HLe.out.2];rw [← HZ.out];exact hit);exact ⟨by rw [← HF.out.2.2,← h1];exact HF.out.1,by rw [jfv,HLe.out.1,HLe.out.2];rw [← HZ.out];omega⟩
        go_wp2_with fail
        go_round
        case rel=>exact ⟨k+1,by omega,by go_num,HN⟩
        case measure=>simp [intOf];omega
def ItC:It->Int->Int->Int->Prop
 | .byte x,b,n,_=>b=(x:Int)∧n<3
 | .copy m far,_,n,f=>n=(m:Int)∧f=(far:Int)
def k1n(w:World)(ad:Option Addr)(items:List It):Prop:=∀ k (hk:k<items.length),∃ (bl o:Nat) (b n f:Int),ad=some ⟨bl,o,none⟩∧bl<w.heap.size∧w.cell? ⟨bl,o+k*3,none⟩=some (.int .i64 b)∧w.cell? ⟨bl,o+k*3+1,none⟩=some (.int .i64 n)∧w.cell? ⟨bl,o+k*3+2,none⟩=some (.int .i64 f)∧ItC items[k] b n f
theorem k1n.next{B p:Nat}{v v':Value}{w w':World}{ad:Option Addr}{l:List It}(h:k1n w ad l)(hc:k3a w p v ad)(hf:BtF B p v v' w w'):k1n w' ad l:=fun k hk=>by
 obtain ⟨bl,o,b,n,f,e,hlt,c0,c1,c2,hi⟩:=h k hk;have hb:=hf.blk bl hlt (hc bl o none e).2.1 (hc bl o none e).2.2;exact ⟨bl,o,b,n,f,e,Nat.lt_of_lt_of_le hlt hf.size,by rw [World.cell?_of_block hb];exact c0,by rw [World.cell?_of_block hb];exact c1,by rw [World.cell?_of_block hb];exact c2,hi⟩
theorem BB.made{B p:Nat}{v:Value}{bits:List Nat}{w w':World}(h:BB B p v bits w)(hb:Below w.heap.size w w'):BB B p v bits w'∧BtF B p v v w w':=by
 obtain ⟨l,left,i1,i2⟩:=h.inv;refine ⟨⟨l,left,⟨i1.pB,Nat.le_trans i1.hB hb.size,i1.row.of_block (hb.block p i1.row.lt),?_,i1.po⟩,i2⟩,hb.size,fun k hk _ _=>hb.block k hk,fun _ hg=>Or.inl hg,hb.mono i1.hB⟩;exact kcz (R:=fun _=>False) (ρ:=fun k=>k) i1.own ⟨hb.size,fun k hk _=>hb.block k hk⟩ (fun _ _ x=>x)
def x04(a b:List Int):It->Prop
 | .byte x=>x<256∧Has a x
 | .copy n far=>(3<=n∧n<=66∧1<=far∧far<=256)∧Has a (257+splK 3 n)∧Has b (splK 1 far)
theorem y6k{a b:List Int}(ra:inRange a=true)(rb:inRange b=true){x:It}(h:x04 a b x):(itB a b x).length<=40:=by
 cases x with
 | byte y=>have:=jvf ra y;show (symB a y).length<=40;omega
 | copy n far=>
  obtain ⟨⟨h1,h2,h3,h4⟩,_⟩:=h;have s1:=(zj7 (y1z h1 h2).1).1;have s2:=(v3i (xx4 h3 h4).1).1;have c1:=jvf ra (257+splK 3 n);have c2:=jvf rb (splK 1 far);show (symB a (257+splK 3 n)++(v06 _ (Tr.spanBits (splK 3 n))++(symB b (splK 1 far)++v06 _ (Tr.spanBits (splK 1 far))))).length<=40;rw [List.length_append,List.length_append,List.length_append,vxm,vxm];omega
theorem vnr(a b:List Int):∀ items:List It,itsB a b items=items.flatMap (itB a b)++symB a 256
 | []=>rfl
 | x :: xs=>by rw [itsB,vnr a b xs,List.flatMap_cons,List.append_assoc]
theorem ve8{a b:List Int}{items:List It}{k:Nat}(hk:k<items.length):(items.take (k+1)).flatMap (itB a b)=(items.take k).flatMap (itB a b)++itB a b items[k]:=by
 rw [List.take_succ_eq_append_getElem hk,List.flatMap_append];simp
theorem x6l{a b:List Int}(ra:inRange a=true)(rb:inRange b=true){items:List It}(h:∀ x∈items,x04 a b x):∀ k,((items.take k).flatMap (itB a b)).length<=40*items.length:=by
 intro k;have:∀ l:List It,(∀ x∈l,x04 a b x)->(l.flatMap (itB a b)).length<=40*l.length:=by
  intro l;induction l with
  | nil=>intro _;simp
  | cons x xs ih=>
   intro hx;rw [List.flatMap_cons,List.length_append,List.length_cons];have:=y6k ra rb (hx x (by simp));have:=ih (fun y hy=>hx y (by simp [hy]));omega
 have h1:=this (items.take k) (fun x hx=>h x (List.mem_of_mem_take hx));have h2:=List.length_take_le' k items;omega
theorem xlj{B p:Nat}{v:Value}{bits:List Nat}(ai aa ab:Option Addr)(ci ca cb:Nat)(items:List It)(a b:List Int)(w:World)(h:BB B p v bits w)(hI:k1n w ai items)(hA:xin w aa a)(hB:xin w ab b)(xi:k3a w p v ai)(xa:k3a w p v aa)(xb:k3a w p v ab)
  (T:Two2 a b) (h256:Has a 256) (hok:∀ x∈items,x04 a b x) (hil:items.length<=10000000) (hlen:bits.length<=800000000000) :
  Calls Tryz.prog 43 #[.pointer (some ⟨p,0,none⟩), .slice ai items.length ci, .slice aa a.length ca, .slice ab b.length cb] w fun e w'=>e= .returned (.tuple #[])∧BBE B p v (bits++itsB a b items) w w':=by
 have H0:Hid (BBE B p v (bits++(items.take 0).flatMap (itB a b)) w w):=by show BBE _ _ _ _ _ _;rw [List.take_zero,List.flatMap_nil,List.append_nil];exact BBE.refl h
 have HE:Hid (∀ (v1:Value) (wr:World),BtF B p v v1 w wr->k1n wr ai items∧xin wr aa a∧xin wr ab b∧k3a wr p v1 ai∧k3a wr p v1 aa∧k3a wr p v1 ab):=fun v1 wr f=>⟨hI.next xi f,hA.next xa f,hB.next xb f,xi.next f,xa.next f,xb.next f⟩
 have HT:Hid (Two2 a b∧Has a 256∧∀ x∈items,x04 a b x):=⟨T,h256,hok⟩
 have HL:Hid (∀ k,(bits++(items.take k).flatMap (itB a b)).length<=800400000000):=fun k=>by
  have:=x6l T.ra T.rb hok k;rw [List.length_append];omega
 have hna:=T.na;have hnb:=T.nb;clear h hI hA hB xi xa xb T h256 hok;go_enter Tryz.func43,Tryz.ntmps43
 go_wp2_with fail
 go_loopw [8,9,10,11,12] (fun i _ _ _ _ wr=>∃ k:Nat,k<=items.length∧i= .int .i64 k∧Hid (BBE B p v (bits++(items.take k).flatMap (itB a b)) w wr)) (fun i _ _ _ _ _=>items.length - (intOf i).toNat)
 case atStart=>exact ⟨0,Nat.zero_le _,rfl,H0⟩
 case round=>
  obtain ⟨k,hk,rfl,HR⟩:=hrel;clear H0;obtain ⟨v1,j1,f1⟩:=HR.out;obtain ⟨e1,e2,e3,e4,e5,e6⟩:=HE.out v1 wr f1;by_cases hlt:k<items.length
  ·obtain ⟨bl,o,xb,xn,xf,rfl,hbl,c0,c1,c2,hit⟩:=e1 k hlt;have hok:=HT.out.2.2 items[k] (List.getElem_mem hlt);have HFT:Hid ((items.take (k+1)).flatMap (itB a b)=(items.take k).flatMap (itB a b)++itB a b items[k]):=ve8 hlt;obtain ⟨W,hW⟩:∃ W,W=wr.alloc (.cells #[.int .i64 xb, .int .i64 xn, .int .i64 xf] 89):=⟨_,rfl⟩
   have hbw:Below wr.heap.size wr W:=by rw [hW];exact (Below.refl _ _).alloc (Nat.le_refl _) _
   obtain ⟨J,F⟩:=j1.made hbw;have HJ:Hid (BB B p v1 (bits++(items.take k).flatMap (itB a b)) W∧BtF B p v v1 w W):=⟨J,f1.trans F⟩
   have hll:=HL.out k;clear HR;have HLL:Hid (∀ y,bits++((items.take k).flatMap (itB a b)++y)=(bits++(items.take k).flatMap (itB a b))++y):=fun y=>by rw [List.append_assoc]
   obtain ⟨g1,g2,g3,g4,g5,g6⟩:=HE.out v1 W (f1.trans F);have gx:W.heap[wr.heap.size]?=some (.cells #[.int .i64 xb, .int .i64 xn, .int .i64 xf] 89 (0,0)):=by rw [hW];exact heap_alloc_new wr _
   have d0:W.cell? ⟨wr.heap.size,0,none⟩=some (.int .i64 xb):=by rw [cell_of_row _ _ 0 _ _ _ gx];rfl
   have d1:W.cell? ⟨wr.heap.size,1,none⟩=some (.int .i64 xn):=by rw [cell_of_row _ _ 1 _ _ _ gx];rfl
   have d2:W.cell? ⟨wr.heap.size,2,none⟩=some (.int .i64 xf):=by rw [cell_of_row _ _ 2 _ _ _ gx];rfl
   have hxlt:wr.heap.size<W.heap.size:=by rw [hW];simp
   have hpx:wr.heap.size≠p:=by obtain ⟨_,_,i1,_⟩:=j1.inv;have:=i1.row.lt;omega
   have hvx:v1.ownBlock≠some wr.heap.size:=fun e=>by obtain ⟨_,_,i1,_⟩:=j1.inv;have:=(i1.own.lt _ e).2;omega
   clear e1 e2 e3 e4 e5 e6 j1 f1 hbw;generalize bits++(items.take k).flatMap (itB a b)=L at *;cases hx:items[k] with
   | byte x=>
    rw [hx] at hit hok HFT;obtain ⟨rfl,hn3⟩:=hit;have HS:Hid (Calls Tryz.prog 71 #[.pointer (some ⟨p,0,none⟩), .slice aa a.length ca, .int .i64 x] W fun e w'=>e= .returned (.tuple #[])∧BBE B p v1 (L++symB a x) W w'):=jse aa ca a x W J hna g2 HT.out.1.ra hok.2 (by omega);clear J F g1 g2 g3 g4 g5 g6 gx hok;go_upto_region 4 with fail
    rw [← hW];clear hW c0 c1 c2;go_wp2_with (go_at_call 71;refine HS.out.mono ?_;rintro e w2 ⟨rfl,k2⟩;have HN:Hid (BBE B p v (L++symB a x) w w2):=BBE.trans HJ.out.2 k2;clear k2)
    go_roundw
    case rel=>exact ⟨k+1,by omega,by go_num,by rw [HFT.out,HLL.out];exact HN⟩
    case measure=>simp [intOf];omega
   | copy n far=>
    rw [hx] at hit hok HFT;obtain ⟨rfl,rfl⟩:=hit;obtain ⟨⟨q1,q2,q3,q4⟩,q5,q6⟩:=hok;obtain ⟨s1,s2,s3⟩:=y1z q1 q2;obtain ⟨t1,t2,t3⟩:=xx4 q3 q4;have HSP:Hid (∀ X,Calls Tryz.prog 72 #[.int .i64 n, .int .i64 3] X fun e w'=>e= .returned (.tuple #[.int .i64 (splK 3 n), .int .i64 (n - Tr.spanLeast 3 (splK 3 n):Nat), .int .i64 (Tr.spanBits (splK 3 n))])∧X=w'):=fun X=>by
     have:=z6j n 3 X q1 (Nat.lt_of_le_of_lt q2 (by decide)) (by omega);rw [show ((n - Tr.spanLeast 3 (splK 3 n):Nat):Int)=(n:Int) - Tr.spanLeast 3 (splK 3 n) by omega];exact this
    have HSQ:Hid (∀ X,Calls Tryz.prog 72 #[.int .i64 far, .int .i64 1] X fun e w'=>e= .returned (.tuple #[.int .i64 (splK 1 far), .int .i64 (far - Tr.spanLeast 1 (splK 1 far):Nat), .int .i64 (Tr.spanBits (splK 1 far))])∧X=w'):=fun X=>by
     have:=z6j far 1 X q3 (Nat.lt_of_le_of_lt q4 (by decide)) (by omega);rw [show ((far - Tr.spanLeast 1 (splK 1 far):Nat):Int)=(far:Int) - Tr.spanLeast 1 (splK 1 far) by omega];exact this
    have HIB:Hid (itB a b (.copy n far)=symB a (257+splK 3 n)++(v06 (n - Tr.spanLeast 3 (splK 3 n)) (Tr.spanBits (splK 3 n))++(symB b (splK 1 far)++v06 (far - Tr.spanLeast 1 (splK 1 far)) (Tr.spanBits (splK 1 far))))):=rfl;have u1:=(zj7 s1).1;have u2:=(v3i t1).1;have hm1:n - Tr.spanLeast 3 (splK 3 n)<=66:=by omega
    have hm2:far - Tr.spanLeast 1 (splK 1 far)<=256:=by omega
    have hn3:decide ((n:Int)<3)=false:=by simp;omega
    have c1len:=jvf HT.out.1.ra (257+splK 3 n);have c2len:=jvf HT.out.1.rb (splK 1 far);clear s2 s3 t2 t3;generalize n - Tr.spanLeast 3 (splK 3 n)=m1 at *;generalize far - Tr.spanLeast 1 (splK 1 far)=m2 at *;generalize splK 3 n=K1 at *;generalize splK 1 far=K2 at *;generalize Tr.spanBits K1=E1 at *;generalize Tr.spanBits K2=E2 at *;have e257:(257:Int)+(K1:Int)=((257+K1:Nat):Int):=by omega
    have HS:Hid (Calls Tryz.prog 71 #[.pointer (some ⟨p,0,none⟩), .slice aa a.length ca, .int .i64 ((257:Int)+(K1:Int))] W fun e w'=>e= .returned (.tuple #[])∧BBE B p v1 (L++symB a (257+K1)) W w'):=by rw [e257];exact jse aa ca a (257+K1) W J hna g2 HT.out.1.ra q5 (by omega)
    clear J F g1 g2 g3 g4 g5 g6 gx e257;go_upto_region 4 with fail
    rw [← hW];clear hW c0 c1 c2;go_wp2_with (first | (go_at_call 72;refine (HSP.out _).mono ?_;rintro e w' ⟨rfl,rfl⟩) | (go_at_call 71;refine HS.out.mono ?_;rintro e w2 ⟨rfl,v2,J2,F2⟩))
    have hl2:(L++symB a (257+K1)).length<=800500000000:=by rw [List.length_append];omega
    refine (xsy m1 E1 w2 J2 (by omega) (by omega) (by omega)).mono ?_;rintro e w3 ⟨rfl,v3,J3,F3⟩;have F23:=F2.trans F3;have d2':w3.cell? ⟨wr.heap.size,2,none⟩=some (.int .i64 far):=by rw [World.cell?_of_block (F23.blk _ hxlt hpx hvx)];exact d2
    have HF3:Hid (BtF B p v v3 w w3):=HJ.out.2.trans F23;have HJ3:Hid (BB B p v3 (L++symB a (257+K1)++v06 m1 E1) w3):=J3;clear J2 F2 J3 F3 F23 HS d0 d1 d2;obtain ⟨r1,r2,r3,r4,r5,r6⟩:=HE.out v3 w3 HF3.out;have hl3:(L++symB a (257+K1)++v06 m1 E1).length<=800600000000:=by rw [List.length_append,vxm];omega
    have HS2:Hid (Calls Tryz.prog 71 #[.pointer (some ⟨p,0,none⟩), .slice ab b.length cb, .int .i64 K2] w3 fun e w'=>e= .returned (.tuple #[])∧BBE B p v3 (L++symB a (257+K1)++v06 m1 E1++symB b K2) w3 w'):=jse ab cb b K2 w3 HJ3.out (by omega) r3 HT.out.1.rb q6 (by omega);clear r1 r2 r3 r4 r5 r6;go_wp2_with (first | (go_at_call 72;refine (HSQ.out _).mono ?_;rintro e w' ⟨rfl,rfl⟩) | (go_at_call 71;refine HS2.out.mono ?_;rintro e w4 ⟨rfl,v4,J4,F4⟩))
    have hl4:(L++symB a (257+K1)++v06 m1 E1++symB b K2).length<=800700000000:=by rw [List.length_append];omega
    refine (xsy m2 E2 w4 J4 (by omega) (by omega) (by omega)).mono ?_;rintro e w5 ⟨rfl,v5,J5,F5⟩;have HN:Hid (BBE B p v (L++itB a b (.copy n far)) w w5):=by
     refine ⟨v5,?_,HF3.out.trans (F4.trans F5)⟩;rw [HIB.out];have:=J5;simp only [List.append_assoc] at this;exact this
    clear J4 F4 J5 F5;go_wp2_with fail
    go_roundw
    case rel=>exact ⟨k+1,by omega,by go_num,by rw [HFT.out,HLL.out];exact HN⟩
    case measure=>simp [intOf];omega
  ·obtain rfl:k=items.length:=by omega
   have HS:Hid (Calls Tryz.prog 71 #[.pointer (some ⟨p,0,none⟩), .slice aa a.length ca, .int .i64 256] wr fun e w'=>e= .returned (.tuple #[])∧BBE B p v1 (bits++(items.take items.length).flatMap (itB a b)++symB a 256) wr w'):=jse aa ca a 256 wr j1 hna e2 HT.out.1.ra HT.out.2.1 (by have:=HL.out items.length;omega);have HF1:Hid (BtF B p v v1 w wr):=f1;clear e1 e2 e3 e4 e5 e6 j1 f1 HR;go_wp2_with (go_at_call 71;refine HS.out.mono ?_;rintro e w2 ⟨rfl,k2⟩;have HN:Hid (BBE B p v (bits++(items.take items.length).flatMap (itB a b)++symB a 256) w w2):=BBE.trans HF1.out k2;clear k2)
   go_end0
   have:=HN.out;rw [List.take_length,List.append_assoc,← vnr] at this;exact ⟨rfl,this⟩
theorem yo4(W:World)(a b c d:Nat):(convert 34 9 (.slice (some ⟨W.heap.size,0,none⟩) 4 4)).run Tryz.prog (W.alloc (.cells #[.int .u8 a, .int .u8 b, .int .u8 c, .int .u8 d] 5))= .ok (.string (xu6 [a,b,c,d])) (W.alloc (.cells #[.int .u8 a, .int .u8 b, .int .u8 c, .int .u8 d] 5)):=by
 have hx:(W.alloc (.cells #[.int .u8 a, .int .u8 b, .int .u8 c, .int .u8 d] 5)).heap[W.heap.size]?=some (.cells #[.int .u8 a, .int .u8 b, .int .u8 c, .int .u8 d] 5 (0,0)):=heap_alloc_new W _;refine run_convert_bytes_arg _ 34 5 Tryz.underlying34 Tryz.underlying5 W.heap.size 0 4 4 [(a:Int),b,c,d] rfl ?_ 9 Tryz.underlying9;intro i hi;have:i=0∨i=1∨i=2∨i=3:=by omega
 rcases this with rfl | rfl | rfl | rfl <;> (rw [cell_of_row _ _ _ _ _ _ hx];rfl)
theorem x8r(l:List Nat):(xu6 l).size=l.length:=by
 unfold xu6;simp [strOfNums,ByteArray.size]
theorem y7p{l:List Nat}(h:∀ x∈l,x<256):xpg (xu6 l)=l:=by
 unfold xpg xu6;simp [strOfNums];conv=>rhs;rw [← List.map_id l]
 apply List.map_congr_left;intro x hx;simp;exact h x hx
theorem krw(a b:ByteArray):xpg (a++b)=xpg a++xpg b:=by
 unfold xpg;simp
theorem xaa{B p:Nat}{v:Value}{bits:List Nat}(last:Bool)(s:ByteArray)(w:World)(h:BB B p v bits w)(hs:s.size<=65535)(hlen:bits.length<=800000000000) :
  Calls Tryz.prog 37 #[.pointer (some ⟨p,0,none⟩), .bool last, .string s] w fun e w'=>e= .returned (.tuple #[])∧BBE B p v (bits++blkB bits.length (if last then 1 else 0) (.plain (xpg s))) w w':=by
 have HC:Hid (Calls Tryz.prog 42 #[.pointer (some ⟨p,0,none⟩), .bool last, .int .i64 0] w fun e w'=>e= .returned (.tuple #[])∧BBE B p v (bits++((if last then 1 else 0) :: v06 0 2)) w w'):=jpq last 0 w h (by omega) (by omega);clear h;generalize (if last=true then 1 else 0)=u at *;have hcv:∀ W:World,(convert 34 9 (.slice (some ⟨W.heap.size,0,none⟩) 4 4)).run Tryz.prog (W.alloc (.cells #[.int .u8 ((s.size:Int)%256), .int .u8 ((s.size:Int) / 256), .int .u8 ((65535 - (s.size:Int))%256), .int .u8 ((65535 - (s.size:Int)) / 256)] 5))= .ok (.string (xu6 [s.size%256,s.size / 256,(65535 - s.size)%256,(65535 - s.size) / 256])) (W.alloc (.cells #[.int .u8 ((s.size:Int)%256), .int .u8 ((s.size:Int) / 256), .int .u8 ((65535 - (s.size:Int))%256), .int .u8 ((65535 - (s.size:Int)) / 256)] 5)):=by
  intro W;have:=yo4 W (s.size%256) (s.size / 256) ((65535 - s.size)%256) ((65535 - s.size) / 256);rw [show ((s.size%256:Nat):Int)=(s.size:Int)%256 by omega,show ((s.size / 256:Nat):Int)=(s.size:Int) / 256 by omega,show (((65535 - s.size)%256:Nat):Int)=(65535 - (s.size:Int))%256 by omega,show (((65535 - s.size) / 256:Nat):Int)=(65535 - (s.size:Int)) / 256 by omega] at this;exact this
 have hS4:(xu6 [s.size%256,s.size / 256,(65535 - s.size)%256,(65535 - s.size) / 256]).size=4:=x8r _;have hz:(xu6 [s.size%256,s.size / 256,(65535 - s.size)%256,(65535 - s.size) / 256]++s).size<=65539:=by
  rw [ByteArray.size_append,x8r];simp;omega
 have HY:Hid (xpg (xu6 [s.size%256,s.size / 256,(65535 - s.size)%256,(65535 - s.size) / 256]++s)=[s.size%256,s.size / 256,(65535 - s.size)%256,(65535 - s.size) / 256]++xpg s):=by
  show _=_;rw [krw,y7p];intro x hx;simp at hx;omega
 generalize xu6 [s.size%256,s.size / 256,(65535 - s.size)%256,(65535 - s.size) / 256]=S at *;go_enter Tryz.func37,Tryz.ntmps37
 go_wp2_with (first | (go_at_call 42;refine HC.out.mono ?_;rintro e w1 ⟨rfl,v1,i1,f1⟩))
 obtain ⟨W,hW⟩:∃ W,W=w1.alloc (.cells #[.int .u8 ((s.size:Int)%256), .int .u8 ((s.size:Int) / 256), .int .u8 ((65535 - (s.size:Int))%256), .int .u8 ((65535 - (s.size:Int)) / 256)] 5):=⟨_,rfl⟩
 rw [← hW];obtain ⟨i2,f2⟩:=i1.made (w':=W) (by rw [hW];exact (Below.refl _ _).alloc (Nat.le_refl _) _);have HF:Hid (BtF B p v v1 w W):=f1.trans f2;refine (ze3 (S++s) W i2 (by omega) (by rw [List.length_append,List.length_cons,vxm];omega)).mono ?_;rintro e w2 ⟨rfl,k2⟩;have HN:=BBE.trans HF.out k2;clear i1 f1 i2 f2 hW HC k2;go_wp2_with fail
 go_end0
 refine ⟨rfl,?_⟩;rw [HY.out] at HN;have e:blkB bits.length u (.plain (xpg s))=(u :: v06 0 2)++(xpo (padN (bits++(u :: v06 0 2)).length)++octB ([s.size%256,s.size / 256,(65535 - s.size)%256,(65535 - s.size) / 256]++xpg s)):=by
  show u :: (v06 0 2++(xpo (padN (bits.length+3))++yj0 (xpg s)))=_;unfold yj0;rw [List.length_append,List.length_cons,vxm,Tr.octB_append,kev];rfl
 rw [e,← List.append_assoc];exact HN
def lenV:Value->Nat
 | .slice _ n _=>n
 | _=>0
theorem ys1{k:Nat}(h1:1<=k)(h2:k<15):xg3.take (k+1)=xg3.take k++[4]:=by
 have:k=1∨k=2∨k=3∨k=4∨k=5∨k=6∨k=7∨k=8∨k=9∨k=10∨k=11∨k=12∨k=13∨k=14:=by omega
 rcases this with rfl | rfl | rfl | rfl | rfl | rfl | rfl | rfl | rfl | rfl | rfl | rfl | rfl | rfl <;> rfl
structure NewL(w w':World)(g c:Nat)(l:List Int):Prop where
 cells:xin w' (some ⟨g,0,none⟩) l
 new:w.heap.size<=g
 lt:g<w'.heap.size
 bel:Below w.heap.size w w'
theorem LayI.done{w wr:World}{l:List Int}{g c:Nat}(h:LayI w l (.slice (some ⟨g,0,none⟩) l.length c) wr l.length)(hne:0<l.length):NewL w wr g c l:=by
 have ho:=h.own;rw [List.take_length] at ho;obtain ⟨ad,cap,e,hc⟩:=OI.cells (w:=wr) (B:=w.heap.size) (v:= .slice (some ⟨g,0,none⟩) l.length c) (l:=l) ho;cases e
 obtain ⟨g1,p1,hv1,hg1,hl1⟩:=ho.form hne;cases hv1
 exact ⟨hc,hg1,hl1,h.bel⟩
theorem y6m(w:World) :
  Calls Tryz.prog 68 #[] w fun e w'=>∃ g c,e= .returned (.slice (some ⟨g,0,none⟩) 15 c)∧NewL w w' g c xg3:=by
 have H0:Hid (LayI w xg3 (.slice (some ⟨w.heap.size,0,none⟩) 1 1) (w.alloc (.cells #[.int .i64 3] 3)) 1):=⟨World.ownsRow_lit w _ 1 (Nat.le_refl _) (by decide) rfl,(Below.refl _ _).alloc (Nat.le_refl _) _⟩
 obtain ⟨i3,hi3,hy0,hy1,hy2⟩:=info_parts ve2;go_enter Tryz.func68,Tryz.ntmps68
 go_wp2_with fail
 go_loopw [1] (fun v wr=>∃ g c k:Nat,v= .slice (some ⟨g,0,none⟩) k c∧1<=k∧k<=15∧Hid (LayI w xg3 (.slice (some ⟨g,0,none⟩) k c) wr k)) (fun v _=>15 - lenV v)
 case atStart=>exact ⟨_,_,1,rfl,by omega,by omega,H0⟩
 case round=>
  obtain ⟨g,c,k,rfl,hk1,hk,HH⟩:=hrel;clear H0;by_cases hlt:k<15
  ·have hown0:=HH.out.own;have hszw:w.heap.size<=wr.heap.size:=HH.out.bel.size;go_wp2_with (at_builtin;refine wpList_append_lies _ rfl _ _ 69 rfl w.heap.size 3 i3 (.int .i64 0) 1 8 Tryz.underlying69 hi3 hy0 hy1 hy2 rfl (by decide) _ k (k2f (xg3.take k)) rfl (hown0.alloc _) ⟨wr.heap.size,0,none⟩ 1 1 [.int .i64 4] rfl rfl (cell_one_new _ _ _) (by simp [Value.oneCell']) (by omega) (by unfold maxLen;omega) (by omega) (by simp;omega) (wr.heap.size+1) (by simp) ?_;intro g2 p2 w5 hown2 hgrow2 hat2 hlt2)
   have HN:Hid (LayI w xg3 (.slice (some ⟨g2,0,none⟩) (k+1) p2) w5 (k+1)):=HH.out.next (ys1 hk1 hlt) hown2 hgrow2;clear hown2 hgrow2 hat2 hlt2 hown0;go_roundw
   case rel=>exact ⟨g2,p2,k+1,rfl,by omega,by omega,HN⟩
   case measure=>simp [lenV];omega
  ·obtain rfl:k=15:=by omega
   go_wp2_with fail
   go_ret
   exact ⟨g,c,rfl,HH.out.done (by decide)⟩
theorem ybl(ad:Option Addr)(cap:Nat)(l:List Int)(i:Nat)(w:World)(hl:l.length<=300)(hc:xin w ad l)(hi:i<l.length) :
  Calls Tryz.prog 97 #[.slice ad l.length cap, .int .i64 i] w fun e w'=>e= .returned (.int .i64 (kmg l i))∧∃ q,w'=w.drewN q:=by
 have HC:Hid (xin w ad l):=hc;obtain ⟨b,o,hab,_,_⟩:=hc i hi;subst hab;clear hc;have H0:Hid (xbm l i (l.length+1 - 1) 1=kmg l i):=rfl;go_enter Tryz.func97,Tryz.ntmps97
 go_wp2_with fail
 go_loopw [5] (fun v wr=>∃ n q:Nat,1<=n∧i+n<=l.length∧v= .int .i64 n∧Hid (xbm l i (l.length+1 - n) n=kmg l i)∧wr=w.drewN q) (fun v _=>l.length - (intOf v).toNat)
 case atStart=>exact ⟨1,0,by omega,by omega,rfl,H0,rfl⟩
 case round=>
  obtain ⟨n,q,h1,hn,rfl,HA,rfl⟩:=hrel;clear H0;have HF:Hid (xbm l i (l.length+1 - n) n=if i+n<l.length∧l.getD (i+n) 0=l.getD i 0 then xbm l i (l.length+1 - (n+1)) (n+1) else n):=by
   show _=_;rw [show l.length+1 - n=(l.length+1 - (n+1))+1 by omega];rfl
  by_cases hlt:i+n<l.length
  ·obtain ⟨b1,o1,e1,_,c1⟩:=HC.out (i+n) hlt;obtain ⟨b2,o2,e2,_,c2⟩:=HC.out i hi;cases e1
   cases e2
   have hd:decide ((i:Int)+(n:Int)<(l.length:Int))=true:=by simp;omega
   by_cases he:l.getD (i+n) 0=l.getD i 0
   ·have HN:Hid (xbm l i (l.length+1 - (n+1)) (n+1)=kmg l i):=by show _=_;rw [← HA.out,HF.out,if_pos ⟨hlt,he⟩]
    rw [he] at c1;clear he HA HF;generalize l.getD i 0=x at *;go_wp2_with fail
    go_quiet (fail)
    go_wp2_with fail
    go_roundw
    case rel=>exact ⟨n+1,_,by omega,by omega,by go_num,HN,rfl⟩
    case measure=>simp [intOf];omega
   ·have HN:Hid (n=kmg l i):=by show _=_;rw [← HA.out,HF.out,if_neg (fun x=>he x.2)]
    clear HA HF;generalize l.getD i 0=x at *;generalize l.getD (i+n) 0=y at *;go_wp2_with fail
    go_quiet (fail)
    go_wp2_with fail
    go_ret
    exact ⟨by rw [← HN.out];rfl,_,World.drewN_drewN ..⟩
  ·have HN:Hid (n=kmg l i):=by show _=_;rw [← HA.out,HF.out,if_neg (fun x=>hlt x.1)]
   have hd:decide ((i:Int)+(n:Int)<(l.length:Int))=false:=by simp;omega
   clear HA HF;go_wp2_with fail
   go_quiet (fail)
   go_wp2_with fail
   go_ret
   exact ⟨by rw [← HN.out];rfl,_,World.drewN_drewN ..⟩
theorem xmj{B:Nat}{w w':World}(h:Below B w w')(n:Nat):Below B w (w'.drewN n):=⟨h.os,h.tape,h.output,h.size,h.block⟩
theorem zom{B p:Nat}{v:Value}{bits:List Nat}{y:Int}(x n:Nat)(w:World)(hy:y=(x:Int))(h:BB B p v bits w)(hx:x<=1000000000)(hn:n<=64)(hlen:bits.length+n<=1000000000000) :
  Calls Tryz.prog 67 #[.pointer (some ⟨p,0,none⟩), .int .i64 y, .int .i64 n] w fun e w'=>e= .returned (.tuple #[])∧BBE B p v (bits++v06 x n) w w':=by
 subst hy;exact xsy x n w h hx hn hlen
theorem BB.clear{B p:Nat}{v:Value}{bits:List Nat}{w w':World}{g:Nat}(h:BB B p v bits w)(h1:w.heap.size<=g)(h2:g<w'.heap.size):k3a w' p v (some ⟨g,0,none⟩):=fun b o f e=>by
 cases e
 obtain ⟨l,left,i1,i2⟩:=h.inv;have:=i1.row.lt;exact ⟨h2,by omega,fun e=>by have:=(i1.own.lt _ e).2;omega⟩
def PRow(B p:Nat)(v:Value)(bits:List Nat)(runs:Bool)(l:List Int)(w:World)(i:Nat)(wr:World):Prop:=
 ∃ f pre v1,rowB runs l l.length 0=pre++rowB runs l f i∧l.length - i<=f∧BB B p v1 (bits++pre) wr∧BtF B p v v1 w wr∧pre.length<=20*i
theorem x62{runs:Bool}{l:List Int}{f i:Nat}(hi:i<l.length)(h:runs=true∧l.getD i 0=0∧11<=kmg l i):rowB runs l (f+1) i=symB xg3 14++(v06 (min (kmg l i) 74 - 11) 6++rowB runs l f (i+min (kmg l i) 74)):=by
 rw [rowB,if_pos hi,if_pos h]
theorem jon{runs:Bool}{l:List Int}{f i:Nat}(hi:i<l.length)(h:runs=true∧l.getD i 0=0∧3<=kmg l i)(h0:kmg l i<11):rowB runs l (f+1) i=symB xg3 13++(v06 (kmg l i - 3) 3++rowB runs l f (i+kmg l i)):=by
 rw [rowB,if_pos hi,if_neg (by omega),if_pos h]
theorem xsn{runs:Bool}{l:List Int}{f i:Nat}(hi:i<l.length)(hr:runs=true)(h1:l.getD i 0≠0)(h2:0<i)(h3:l.getD i 0=l.getD (i - 1) 0)(h4:3<=kmg l i):rowB runs l (f+1) i=symB xg3 12++(v06 (min (kmg l i) 6 - 3) 2++rowB runs l f (i+min (kmg l i) 6)):=by
 rw [rowB,if_pos hi,if_neg (fun x=>h1 x.2.1),if_neg (fun x=>h1 x.2.1),if_pos ⟨hr,h2,h3,h4⟩]
theorem vms{runs:Bool}{l:List Int}{f i:Nat}(hi:i<l.length)(h2:¬ (runs=true∧l.getD i 0=0∧3<=kmg l i))(h3:¬ (runs=true∧0<i∧l.getD i 0=l.getD (i - 1) 0∧3<=kmg l i)):rowB runs l (f+1) i=symB xg3 (l.getD i 0).toNat++rowB runs l f (i+1):=by
 rw [rowB,if_pos hi,if_neg (fun x=>h2 ⟨x.1,x.2.1,by omega⟩),if_neg h2,if_neg h3]
theorem PRow.more{B p:Nat}{v v1 v2:Value}{bits pre piece:List Nat}{runs:Bool}{l:List Int}{w wr w2:World}{i f s:Nat}(e:rowB runs l l.length 0=pre++rowB runs l (f+1) i)(hf:l.length - i<=f+1)(hp:pre.length<=20*i)
  (hs:1<=s) (hr:rowB runs l (f+1) i=piece++rowB runs l f (i+s)) (hl:piece.length<=20) (F1:BtF B p v v1 w wr) (J:BB B p v2 (bits++pre++piece) w2) (F2:BtF B p v1 v2 wr w2):PRow B p v bits runs l w (i+s) w2:=by
 refine ⟨f,pre++piece,v2,by rw [e,hr,List.append_assoc],by omega,by rw [← List.append_assoc];exact J,F1.trans F2,by rw [List.length_append];omega⟩
theorem xnr{B p:Nat}{v:Value}{bits:List Nat}(ad:Option Addr)(cap:Nat)(l:List Int)(runs:Bool)(w:World)(h:BB B p v bits w)(hl:l.length<=300)(hc:xin w ad l)(hx:k3a w p v ad)(hr:inRange l=true)(hlen:bits.length<=800000000000) :
  Calls Tryz.prog 69 #[.pointer (some ⟨p,0,none⟩), .slice ad l.length cap, .bool runs] w fun e w'=>e= .returned (.tuple #[])∧BBE B p v (bits++rowB runs l l.length 0) w w':=by
 have HB:Hid (BB B p v bits w∧xin w ad l∧k3a w p v ad∧inRange l=true):=⟨h,hc,hx,hr⟩
 have HH:Hid (∀ W:World,Calls Tryz.prog 68 #[] W fun e w'=>∃ g c,e= .returned (.slice (some ⟨g,0,none⟩) 15 c)∧NewL W w' g c xg3):=fun W=>y6m W
 clear h hc hx hr;go_enter Tryz.func69,Tryz.ntmps69
 go_wp2_with (go_at_call 68;refine (HH.out _).mono ?_;rintro e w1 ⟨g,c,rfl,hN⟩)
 have H1:Hid (BB B p v bits w1∧BtF B p v v w w1∧xin w1 ad l∧k3a w1 p v ad∧xin w1 (some ⟨g,0,none⟩) xg3∧k3a w1 p v (some ⟨g,0,none⟩)∧inRange l=true):=by
  obtain ⟨h1,h2,h3,h4⟩:=HB.out;obtain ⟨j1,f1⟩:=h1.made hN.bel;exact ⟨j1,f1,h2.below hN.bel (Nat.le_refl _),h3.next f1,hN.cells,h1.clear hN.new hN.lt,h4⟩
 have H0:Hid (PRow B p v bits runs l w1 0 w1):=⟨l.length,[],v,rfl,by omega,by rw [List.append_nil];exact H1.out.1,BtF.refl _ _ _ _,by simp⟩
 clear hN HB HH;go_loopw [7,8,26,51,74] (fun i _ _ _ _ wr=>∃ k:Nat,k<=l.length∧i= .int .i64 k∧Hid (PRow B p v bits runs l w1 k wr)) (fun i _ _ _ _ _=>l.length - (intOf i).toNat)
 case atStart=>exact ⟨0,Nat.zero_le _,rfl,H0⟩
 case round=>
  obtain ⟨i,hi,rfl,HR⟩:=hrel;clear H0;by_cases hlt:i<l.length
  ·obtain ⟨f0,pre,v1,e,hf,J,F,hp⟩:=HR.out;obtain ⟨f,rfl⟩:∃ f,f0=f+1:=⟨f0 - 1,by omega⟩
   clear HR;have HE:Hid (rowB runs l l.length 0=pre++rowB runs l (f+1) i∧l.length - i<=f+1∧pre.length<=20*i∧BtF B p v v1 w1 wr):=⟨e,hf,hp,F⟩
   have hll:(bits++pre).length<=800000010000:=by rw [List.length_append];omega
   have HLn:Hid (∀ k,(bits++pre++symB xg3 k).length<=800000020000):=fun k=>by
    rw [List.length_append];have:=jvf y5q.1 k;omega
   obtain ⟨_,_,h3,h4,h5,h6,hrl⟩:=H1.out;have g3:=h3.next h4 F;have g5:=h5.next h6 F;have HAg:Hid (Calls Tryz.prog 97 #[.slice ad l.length cap, .int .i64 i] wr fun e w'=>e= .returned (.int .i64 (kmg l i))∧∃ q,w'=wr.drewN q):=ybl ad cap l i wr hl g3 hlt;have HS:Hid (∀ (k:Nat),k<15->∀ q,Calls Tryz.prog 71 #[.pointer (some ⟨p,0,none⟩), .slice (some ⟨g,0,none⟩) 15 c, .int .i64 k] (wr.drewN q) fun e w'=>e= .returned (.tuple #[])∧BBE B p v1 (bits++pre++symB xg3 k) wr w'):=by
    intro k hk q;obtain ⟨j1,j2⟩:=J.made (xmj (Below.refl _ _) q);refine (jse (some ⟨g,0,none⟩) c xg3 k (wr.drewN q) j1 (by decide) (g5.same rfl) y5q.1 (kav hk) (by omega)).mono ?_;rintro e w' ⟨rfl,hb⟩;exact ⟨rfl,BBE.trans j2 hb⟩
   obtain ⟨b,o,m,hab,cm,hm,HM⟩:=g3.atNat hrl hlt;have hmd:l.getD i 0=(m:Int):=by have:=HM.out;simp [hlt,this]
   obtain ⟨a1,a2,a3⟩:=x66 hlt;have HR1:Hid (runs=true->m=0->11<=kmg l i->rowB runs l (f+1) i=symB xg3 14++(v06 (min (kmg l i) 74 - 11) 6++rowB runs l f (i+min (kmg l i) 74))):=fun x y z=>x62 hlt ⟨x,by rw [hmd];omega,z⟩
   have HR2:Hid (runs=true->m=0->3<=kmg l i->kmg l i<11->rowB runs l (f+1) i=symB xg3 13++(v06 (kmg l i - 3) 3++rowB runs l f (i+kmg l i))):=fun x y z u=>jon hlt ⟨x,by rw [hmd];omega,z⟩ u
   have HR3:Hid (∀ y:Nat,l.getD (i - 1) 0=(y:Int)->runs=true->m≠0->0<i->m=y->3<=kmg l i->rowB runs l (f+1) i=symB xg3 12++(v06 (min (kmg l i) 6 - 3) 2++rowB runs l f (i+min (kmg l i) 6))):=fun y hy x z u t s=>xsn hlt x (by rw [hmd];omega) u (by rw [hmd,hy,t]) s
   have HR4:Hid (¬ (runs=true∧m=0∧3<=kmg l i)->¬ (runs=true∧0<i∧(m:Int)=l.getD (i - 1) 0∧3<=kmg l i)->rowB runs l (f+1) i=symB xg3 m++rowB runs l f (i+1)):=fun x y=>by
    have:=vms (f:=f) hlt (fun z=>x ⟨z.1,by have:=z.2.1;rw [hmd] at this;omega,z.2.2⟩) (fun z=>y ⟨z.1,z.2.1,by rw [← hmd];exact z.2.2.1,z.2.2.2⟩);rw [hmd] at this;exact this
   have hGY:∀ j,i=j+1->∃ y:Nat,l.getD j 0=(y:Int)∧y<=11∧wr.cell? ⟨b,o+j,none⟩=some (.int .i64 y):=fun j ej=>by
    obtain ⟨b',o',y,hab',cy,hy,HY⟩:=g3.atNat hrl (k:=j) (by omega);rw [hab] at hab';cases hab'
    exact ⟨y,by have:=HY.out;simp [show j<l.length by omega,this],hy,cy⟩
   subst hab;clear a2 e hf F J h3 h4 h5 h6 g3 g5 HM hmd hp;generalize kmg l i=N at *;cases runs with
   | false=>
    clear hGY;have HP:Hid (rowB false l (f+1) i=symB xg3 m++rowB false l f (i+1)):=by
     show _=_;have:=HR4.out (fun x=>by cases x.1) (fun x=>by cases x.1);exact this
    clear HR1 HR2 HR3 HR4;go_wp2_with (go_at_call 97;refine HAg.out.mono ?_;rintro e w' ⟨rfl,q,rfl⟩;clear HAg)
    go_quiet (fail)
    go_wp2_with (go_at_call 71;refine (HS.out m (by omega) _).mono ?_;rintro e w2 ⟨rfl,v2,J2,F2⟩;have HN:Hid (PRow B p v bits false l w1 (i+1) w2):=PRow.more HE.out.1 HE.out.2.1 HE.out.2.2.1 (by omega) HP.out (by have:=jvf y5q.1 m;omega) HE.out.2.2.2 J2 F2;clear J2 F2 HS HE HP H1)
    go_roundw
    case rel=>exact ⟨i+1,by omega,by go_num,HN⟩
    case measure=>simp [intOf];omega
   | true=>
    by_cases hm0:m=0
    ·subst hm0;have cm0:wr.cell? ⟨b,o+i,none⟩=some (.int .i64 0):=cm;clear cm;by_cases hn11:11<=N
     ·have hd11:decide ((11:Int)<=(N:Int))=true:=by simp;omega
      clear hGY;by_cases hn74:74<N
      ·have hd74:decide ((74:Int)<(N:Int))=true:=by simp;omega
       have HP:Hid (rowB true l (f+1) i=(symB xg3 14++v06 (74 - 11) 6)++rowB true l f (i+74)):=by
        show _=_;rw [List.append_assoc];have:=HR1.out rfl rfl hn11;rw [show min N 74=74 by omega] at this;exact this
       clear HR1 HR2 HR3 HR4;go_wp2_with (first | (go_at_call 97;refine HAg.out.mono ?_;rintro e w' ⟨rfl,q,rfl⟩;clear HAg) | (go_at_call 71;refine (HS.out 14 (by omega) _).mono ?_;rintro e w2 ⟨rfl,v2,J2,F2⟩;skip))
       refine (zom (74 - 11) 6 w2 (by omega) J2 (by omega) (by omega) (by have:=HLn.out 14;omega)).mono ?_;rintro e w3 ⟨rfl,v3,J3,F3⟩;have HN:Hid (PRow B p v bits true l w1 (i+74) w3):=PRow.more HE.out.1 HE.out.2.1 HE.out.2.2.1 (by omega) HP.out (by have:=jvf y5q.1 14;rw [List.length_append,vxm];omega) HE.out.2.2.2 (by rw [← List.append_assoc];exact J3) (F2.trans F3);clear J2 F2 J3 F3 HS HE HP H1;go_wp2_with fail
       go_roundw
       case rel=>exact ⟨i+74,by omega,by go_num,HN⟩
       case measure=>simp [intOf];omega
      ·have hd74:decide ((74:Int)<(N:Int))=false:=by simp;omega
       have HP:Hid (rowB true l (f+1) i=(symB xg3 14++v06 (N - 11) 6)++rowB true l f (i+N)):=by
        show _=_;rw [List.append_assoc];have:=HR1.out rfl rfl hn11;rw [show min N 74=N by omega] at this;exact this
       clear HR1 HR2 HR3 HR4;go_wp2_with (first | (go_at_call 97;refine HAg.out.mono ?_;rintro e w' ⟨rfl,q,rfl⟩;clear HAg) | (go_at_call 71;refine (HS.out 14 (by omega) _).mono ?_;rintro e w2 ⟨rfl,v2,J2,F2⟩;skip))
       refine (zom (N - 11) 6 w2 (by omega) J2 (by omega) (by omega) (by have:=HLn.out 14;omega)).mono ?_;rintro e w3 ⟨rfl,v3,J3,F3⟩;have HN:Hid (PRow B p v bits true l w1 (i+N) w3):=PRow.more HE.out.1 HE.out.2.1 HE.out.2.2.1 (by omega) HP.out (by have:=jvf y5q.1 14;rw [List.length_append,vxm];omega) HE.out.2.2.2 (by rw [← List.append_assoc];exact J3) (F2.trans F3);clear J2 F2 J3 F3 HS HE HP H1;go_wp2_with fail
       go_roundw
       case rel=>exact ⟨i+N,by omega,by go_num,HN⟩
       case measure=>simp [intOf];omega
     ·have hd11:decide ((11:Int)<=(N:Int))=false:=by simp;omega
      by_cases hn3:3<=N
      ·have hd3:decide ((3:Int)<=(N:Int))=true:=by simp;omega
       clear hGY;have HP:Hid (rowB true l (f+1) i=(symB xg3 13++v06 (N - 3) 3)++rowB true l f (i+N)):=by
        show _=_;rw [List.append_assoc];have:=HR2.out rfl rfl hn3 (by omega);exact this
       clear HR1 HR2 HR3 HR4;go_wp2_with (first | (go_at_call 97;refine HAg.out.mono ?_;rintro e w' ⟨rfl,q,rfl⟩;clear HAg) | (go_at_call 71;refine (HS.out 13 (by omega) _).mono ?_;rintro e w2 ⟨rfl,v2,J2,F2⟩;skip))
       refine (zom (N - 3) 3 w2 (by omega) J2 (by omega) (by omega) (by have:=HLn.out 13;omega)).mono ?_;rintro e w3 ⟨rfl,v3,J3,F3⟩;have HN:Hid (PRow B p v bits true l w1 (i+N) w3):=PRow.more HE.out.1 HE.out.2.1 HE.out.2.2.1 (by omega) HP.out (by have:=jvf y5q.1 13;rw [List.length_append,vxm];omega) HE.out.2.2.2 (by rw [← List.append_assoc];exact J3) (F2.trans F3);clear J2 F2 J3 F3 HS HE HP H1;go_wp2_with fail
       go_roundw
       case rel=>exact ⟨i+N,by omega,by go_num,HN⟩
       case measure=>simp [intOf];omega
      ·have hd3:decide ((3:Int)<=(N:Int))=false:=by simp;omega
       by_cases hi0:i=0
       ·have hd0:decide ((0:Int)<(i:Int))=false:=by simp;omega
        have hd0n:decide (0<i)=false:=by simp;omega
        clear hGY;have HP:Hid (rowB true l (f+1) i=symB xg3 0++rowB true l f (i+1)):=by
         show _=_;have:=HR4.out (fun x=>hn3 x.2.2) (fun x=>hn3 x.2.2.2);exact this
        clear HR1 HR2 HR3 HR4 hi0;go_wp2_with (go_at_call 97;refine HAg.out.mono ?_;rintro e w' ⟨rfl,q,rfl⟩;clear HAg)
        go_quiet (fail)
        go_wp2_with (go_at_call 71;refine (HS.out 0 (by omega) _).mono ?_;rintro e w2 ⟨rfl,v2,J2,F2⟩;have HN:Hid (PRow B p v bits true l w1 (i+1) w2):=PRow.more HE.out.1 HE.out.2.1 HE.out.2.2.1 (by omega) HP.out (by have:=jvf y5q.1 0;omega) HE.out.2.2.2 J2 F2;clear J2 F2 HS HE HP H1)
        go_roundw
        case rel=>exact ⟨i+1,by omega,by go_num,HN⟩
        case measure=>simp [intOf];omega
       ·obtain ⟨j,ej⟩:∃ j,i=j+1:=⟨i - 1,by omega⟩
        obtain ⟨y,hyd,hy11,cy⟩:=hGY j ej;have HJ:Hid (i=j+1):=ej;have HYv:Hid (l.getD j 0=(y:Int)):=hyd;have hj:(i:Int) - 1=(j:Int):=by omega
        have hjl:j<l.length:=by omega
        have hi1:0<i:=by omega
        have hd0:decide ((0:Int)<(i:Int))=true:=by simp;omega
        clear hGY ej hyd;by_cases hy0:y=0
        ·subst hy0;have HP:Hid (rowB true l (f+1) i=symB xg3 0++rowB true l f (i+1)):=by
          show _=_;have:=HR4.out (fun x=>hn3 x.2.2) (fun x=>hn3 x.2.2.2);exact this
         clear HR1 HR2 HR3 HR4;go_wp2_with (go_at_call 97;refine HAg.out.mono ?_;rintro e w' ⟨rfl,q,rfl⟩;clear HAg)
         go_quiet (fail)
         go_wp2_with (go_at_call 71;refine (HS.out 0 (by omega) _).mono ?_;rintro e w2 ⟨rfl,v2,J2,F2⟩;have HN:Hid (PRow B p v bits true l w1 (i+1) w2):=PRow.more HE.out.1 HE.out.2.1 HE.out.2.2.1 (by omega) HP.out (by have:=jvf y5q.1 0;omega) HE.out.2.2.2 J2 F2;clear J2 F2 HS HE HP H1)
         go_roundw
         case rel=>exact ⟨i+1,by omega,by go_num,HN⟩
         case measure=>simp [intOf];omega
        ·have hye:((0:Int)==(y:Int))=false:=by simp;omega
         have HP:Hid (rowB true l (f+1) i=symB xg3 0++rowB true l f (i+1)):=by
          show _=_;have:=HR4.out (fun x=>hn3 x.2.2) (fun x=>hn3 x.2.2.2);exact this
         clear HR1 HR2 HR3 HR4;go_wp2_with (go_at_call 97;refine HAg.out.mono ?_;rintro e w' ⟨rfl,q,rfl⟩;clear HAg)
         go_quiet (fail)
         go_wp2_with (go_at_call 71;refine (HS.out 0 (by omega) _).mono ?_;rintro e w2 ⟨rfl,v2,J2,F2⟩;have HN:Hid (PRow B p v bits true l w1 (i+1) w2):=PRow.more HE.out.1 HE.out.2.1 HE.out.2.2.1 (by omega) HP.out (by have:=jvf y5q.1 0;omega) HE.out.2.2.2 J2 F2;clear J2 F2 HS HE HP H1)
         go_roundw
         case rel=>exact ⟨i+1,by omega,by go_num,HN⟩
         case measure=>simp [intOf];omega
    ·have hmz:((m:Int)==0)=false:=by simp;omega
     by_cases hi0:i=0
     ·have hd0:decide ((0:Int)<(i:Int))=false:=by simp;omega
      have hd0n:decide (0<i)=false:=by simp;omega
      clear hGY;have HP:Hid (rowB true l (f+1) i=symB xg3 m++rowB true l f (i+1)):=by
       show _=_;have:=HR4.out (fun x=>hm0 x.2.1) (fun x=>by have:=x.2.1;omega);exact this
      clear HR1 HR2 HR3 HR4 hi0;go_wp2_with (go_at_call 97;refine HAg.out.mono ?_;rintro e w' ⟨rfl,q,rfl⟩;clear HAg)
      go_quiet (fail)
      go_wp2_with (go_at_call 71;refine (HS.out m (by omega) _).mono ?_;rintro e w2 ⟨rfl,v2,J2,F2⟩;have HN:Hid (PRow B p v bits true l w1 (i+1) w2):=PRow.more HE.out.1 HE.out.2.1 HE.out.2.2.1 (by omega) HP.out (by have:=jvf y5q.1 m;omega) HE.out.2.2.2 J2 F2;clear J2 F2 HS HE HP H1)
      go_roundw
      case rel=>exact ⟨i+1,by omega,by go_num,HN⟩
      case measure=>simp [intOf];omega
     ·obtain ⟨j,ej⟩:∃ j,i=j+1:=⟨i - 1,by omega⟩
      obtain ⟨y,hyd,hy11,cy⟩:=hGY j ej;have HJ:Hid (i=j+1):=ej;have HYv:Hid (l.getD j 0=(y:Int)):=hyd;have hj:(i:Int) - 1=(j:Int):=by omega
      have hjl:j<l.length:=by omega
      have hi1:0<i:=by omega
      have hd0:decide ((0:Int)<(i:Int))=true:=by simp;omega
      clear hGY ej hyd;by_cases hy0:m=y
      ·subst hy0;by_cases hn3:3<=N
       ·have hd3:decide ((3:Int)<=(N:Int))=true:=by simp;omega
        by_cases hn6:6<N
        ·have hd6:decide ((6:Int)<(N:Int))=true:=by simp;omega
         have HP:Hid (rowB true l (f+1) i=(symB xg3 12++v06 (6 - 3) 2)++rowB true l f (i+6)):=by
          show _=_;rw [List.append_assoc];have:=HR3.out m (by rw [show i - 1=j by have:=HJ.out;omega];exact HYv.out) rfl hm0 (by omega) rfl hn3;rw [show min N 6=6 by omega] at this;exact this
         clear HR1 HR2 HR3 HR4;go_wp2_with (go_at_call 97;refine HAg.out.mono ?_;rintro e w' ⟨rfl,q,rfl⟩;clear HAg)
         go_quiet (fail)
         go_wp2_with (go_at_call 71;refine (HS.out 12 (by omega) _).mono ?_;rintro e w2 ⟨rfl,v2,J2,F2⟩;skip)
         refine (zom (6 - 3) 2 w2 (by omega) J2 (by omega) (by omega) (by have:=HLn.out 12;omega)).mono ?_;rintro e w3 ⟨rfl,v3,J3,F3⟩;have HN:Hid (PRow B p v bits true l w1 (i+6) w3):=PRow.more HE.out.1 HE.out.2.1 HE.out.2.2.1 (by omega) HP.out (by have:=jvf y5q.1 12;rw [List.length_append,vxm];omega) HE.out.2.2.2 (by rw [← List.append_assoc];exact J3) (F2.trans F3);clear J2 F2 J3 F3 HS HE HP H1;go_wp2_with fail
         go_roundw
         case rel=>exact ⟨i+6,by omega,by go_num,HN⟩
         case measure=>simp [intOf];omega
        ·have hd6:decide ((6:Int)<(N:Int))=false:=by simp;omega
         have HP:Hid (rowB true l (f+1) i=(symB xg3 12++v06 (N - 3) 2)++rowB true l f (i+N)):=by
          show _=_;rw [List.append_assoc];have:=HR3.out m (by rw [show i - 1=j by have:=HJ.out;omega];exact HYv.out) rfl hm0 (by omega) rfl hn3;rw [show min N 6=N by omega] at this;exact this
         clear HR1 HR2 HR3 HR4;go_wp2_with (go_at_call 97;refine HAg.out.mono ?_;rintro e w' ⟨rfl,q,rfl⟩;clear HAg)
         go_quiet (fail)
         go_wp2_with (go_at_call 71;refine (HS.out 12 (by omega) _).mono ?_;rintro e w2 ⟨rfl,v2,J2,F2⟩;skip)
         refine (zom (N - 3) 2 w2 (by omega) J2 (by omega) (by omega) (by have:=HLn.out 12;omega)).mono ?_;rintro e w3 ⟨rfl,v3,J3,F3⟩;have HN:Hid (PRow B p v bits true l w1 (i+N) w3):=PRow.more HE.out.1 HE.out.2.1 HE.out.2.2.1 (by omega) HP.out (by have:=jvf y5q.1 12;rw [List.length_append,vxm];omega) HE.out.2.2.2 (by rw [← List.append_assoc];exact J3) (F2.trans F3);clear J2 F2 J3 F3 HS HE HP H1;go_wp2_with fail
         go_roundw
         case rel=>exact ⟨i+N,by omega,by go_num,HN⟩
         case measure=>simp [intOf];omega
       ·have hd3:decide ((3:Int)<=(N:Int))=false:=by simp;omega
        have HP:Hid (rowB true l (f+1) i=symB xg3 m++rowB true l f (i+1)):=by
         show _=_;have:=HR4.out (fun x=>hm0 x.2.1) (fun x=>hn3 x.2.2.2);exact this
        clear HR1 HR2 HR3 HR4;go_wp2_with (go_at_call 97;refine HAg.out.mono ?_;rintro e w' ⟨rfl,q,rfl⟩;clear HAg)
        go_quiet (fail)
        go_wp2_with (go_at_call 71;refine (HS.out m (by omega) _).mono ?_;rintro e w2 ⟨rfl,v2,J2,F2⟩;have HN:Hid (PRow B p v bits true l w1 (i+1) w2):=PRow.more HE.out.1 HE.out.2.1 HE.out.2.2.1 (by omega) HP.out (by have:=jvf y5q.1 m;omega) HE.out.2.2.2 J2 F2;clear J2 F2 HS HE HP H1)
        go_roundw
        case rel=>exact ⟨i+1,by omega,by go_num,HN⟩
        case measure=>simp [intOf];omega
      ·have hye:((m:Int)==(y:Int))=false:=by simp;omega
       have HP:Hid (rowB true l (f+1) i=symB xg3 m++rowB true l f (i+1)):=by
        show _=_;have:=HR4.out (fun x=>hm0 x.2.1) (fun x=>by have h:=x.2.2.1;rw [show i - 1=j by have:=HJ.out;omega,HYv.out] at h;omega);exact this
       clear HR1 HR2 HR3 HR4;go_wp2_with (go_at_call 97;refine HAg.out.mono ?_;rintro e w' ⟨rfl,q,rfl⟩;clear HAg)
       go_quiet (fail)
       go_wp2_with (go_at_call 71;refine (HS.out m (by omega) _).mono ?_;rintro e w2 ⟨rfl,v2,J2,F2⟩;have HN:Hid (PRow B p v bits true l w1 (i+1) w2):=PRow.more HE.out.1 HE.out.2.1 HE.out.2.2.1 (by omega) HP.out (by have:=jvf y5q.1 m;omega) HE.out.2.2.2 J2 F2;clear J2 F2 HS HE HP H1)
       go_roundw
       case rel=>exact ⟨i+1,by omega,by go_num,HN⟩
       case measure=>simp [intOf];omega
  ·obtain rfl:i=l.length:=by omega
   have HX:Hid (BBE B p v (bits++rowB runs l l.length 0) w wr):=by
    obtain ⟨f,pre,v1,e,hf,J,F,hp⟩:=HR.out;have e2:rowB runs l f l.length=[]:=by cases f with
     | zero=>rfl
     | succ f=>rw [rowB,if_neg (Nat.lt_irrefl _)]
    rw [e2,List.append_nil] at e;show BBE _ _ _ _ _ _;rw [e];exact ⟨v1,J,H1.out.2.1.trans F⟩
   clear HR;go_wp2_with fail
   go_end0
   exact ⟨rfl,HX.out⟩
theorem LayI.ends{w wr:World}{l:List Int}{v:Value}{k:Nat}(h:LayI w l v wr k)(hk:k=l.length)(hne:0<l.length):∃ g c,v= .slice (some ⟨g,0,none⟩) l.length c∧NewL w wr g c l:=by
 subst hk;obtain ⟨g1,p1,hv1,hg1,hl1⟩:=h.own.form hne;subst hv1;exact ⟨g1,p1,rfl,h.done hne⟩
theorem vob(w:World) :
  Calls Tryz.prog 41 #[] w fun e w'=>∃ g1 c1 g2 c2,e= .returned (.tuple #[.slice (some ⟨g1,0,none⟩) 269 c1, .slice (some ⟨g2,0,none⟩) 16 c2])∧NewL w w' g1 c1 Tr.fixedA∧NewL w w' g2 c2 Tr.fixedB:=by
 have H0:Hid (LayI w Tr.fixedA (.slice none 0 0) w 0):=⟨World.ownsRow_nil _ _ _ _,Below.refl _ _⟩
 obtain ⟨i3,hi3,hy0,hy1,hy2⟩:=info_parts ve2;go_enter Tryz.func41,Tryz.ntmps41
 go_wp2_with fail
 go_loopw [2,3,4] (fun v i _ wr=>∃ k:Nat,k<=269∧i= .int .i64 k∧Hid (LayI w Tr.fixedA v wr k)) (fun _ i _ _=>269 - (intOf i).toNat)
 case atStart=>exact ⟨0,Nat.zero_le _,rfl,H0⟩
 case round=>
  obtain ⟨k,hk,rfl,HH⟩:=hrel;clear H0;have hown0:=HH.out.own;have hszw:w.heap.size<=wr.heap.size:=HH.out.bel.size;by_cases hlt:k<269
  ·by_cases h242:242<k
   ·go_wp2_with (at_builtin;refine wpList_append_lies _ rfl _ _ 69 rfl w.heap.size 3 i3 (.int .i64 0) 1 8 Tryz.underlying69 hi3 hy0 hy1 hy2 rfl (by decide) u2 k (k2f (Tr.fixedA.take k)) rfl (hown0.alloc _) ⟨wr.heap.size,0,none⟩ 1 1 [.int .i64 9] rfl rfl (cell_one_new _ _ _) (by simp [Value.oneCell']) (by omega) (by unfold maxLen;omega) (by omega) (by simp;omega) (wr.heap.size+1) (by simp) ?_;intro g2 p2 w5 hown2 hgrow2 hat2 hlt2)
    have HN:Hid (LayI w Tr.fixedA (.slice (some ⟨g2,0,none⟩) (k+1) p2) w5 (k+1)):=HH.out.next (z1l h242 hlt) hown2 hgrow2;clear hown2 hgrow2 hat2 hlt2 hown0;go_roundw
    case rel=>exact ⟨k+1,by omega,by go_num,HN⟩
    case measure=>simp [intOf];omega
   ·go_wp2_with (at_builtin;refine wpList_append_lies _ rfl _ _ 69 rfl w.heap.size 3 i3 (.int .i64 0) 1 8 Tryz.underlying69 hi3 hy0 hy1 hy2 rfl (by decide) u2 k (k2f (Tr.fixedA.take k)) rfl (hown0.alloc _) ⟨wr.heap.size,0,none⟩ 1 1 [.int .i64 8] rfl rfl (cell_one_new _ _ _) (by simp [Value.oneCell']) (by omega) (by unfold maxLen;omega) (by omega) (by simp;omega) (wr.heap.size+1) (by simp) ?_;intro g2 p2 w5 hown2 hgrow2 hat2 hlt2)
    have HN:Hid (LayI w Tr.fixedA (.slice (some ⟨g2,0,none⟩) (k+1) p2) w5 (k+1)):=HH.out.next (x2c (by omega)) hown2 hgrow2;clear hown2 hgrow2 hat2 hlt2 hown0;go_roundw
    case rel=>exact ⟨k+1,by omega,by go_num,HN⟩
    case measure=>simp [intOf];omega
  ·have HK:Hid (k=269):=by show k=269;omega
   obtain ⟨g1,c1,hv,hN1⟩:=HH.out.ends (by rw [xgg];exact HK.out) (by rw [xgg];omega);rw [xgg] at hv;subst hv;have HA:Hid (NewL w wr g1 c1 Tr.fixedA):=hN1;obtain ⟨wA,hwA⟩:∃ wA,wA=wr:=⟨_,rfl⟩
   rw [← hwA] at HA;have H1:Hid (LayI wA Tr.fixedB (.slice none 0 0) wA 0):=⟨World.ownsRow_nil _ _ _ _,Below.refl _ _⟩
   clear HH hown0 hszw hN1;subst hwA;go_wp2_with fail
   go_loopw [5,6] (fun v i wr=>∃ k:Nat,k<=16∧i= .int .i64 k∧Hid (LayI wA Tr.fixedB v wr k)) (fun _ i _=>16 - (intOf i).toNat)
   case atStart=>exact ⟨0,Nat.zero_le _,rfl,H1⟩
   case round=>
    obtain ⟨k,hk,rfl,HH⟩:=hrel;clear H1;have hown0:=HH.out.own;have hszw:wA.heap.size<=wr.heap.size:=HH.out.bel.size;by_cases hlt:k<16
    ·go_wp2_with (at_builtin;refine wpList_append_lies _ rfl _ _ 69 rfl wA.heap.size 3 i3 (.int .i64 0) 1 8 Tryz.underlying69 hi3 hy0 hy1 hy2 rfl (by decide) u5 k (k2f (Tr.fixedB.take k)) rfl (hown0.alloc _) ⟨wr.heap.size,0,none⟩ 1 1 [.int .i64 4] rfl rfl (cell_one_new _ _ _) (by simp [Value.oneCell']) (by omega) (by unfold maxLen;omega) (by omega) (by simp;omega) (wr.heap.size+1) (by simp) ?_;intro g2 p2 w5 hown2 hgrow2 hat2 hlt2)
     have HN:Hid (LayI wA Tr.fixedB (.slice (some ⟨g2,0,none⟩) (k+1) p2) w5 (k+1)):=HH.out.next (yu1 hlt) hown2 hgrow2;clear hown2 hgrow2 hat2 hlt2 hown0;go_roundw
     case rel=>exact ⟨k+1,by omega,by go_num,HN⟩
     case measure=>simp [intOf];omega
    ·obtain rfl:k=16:=by omega
     obtain ⟨g2,c2,hv2,hN2⟩:=HH.out.ends (by rw [v02]) (by rw [v02];omega);rw [v02] at hv2;subst hv2;have HB:Hid (NewL wA wr g2 c2 Tr.fixedB):=hN2;clear HH hown0 hszw hN2;go_wp2_with fail
     refine bodyPost_ret (v:= .tuple #[.slice (some ⟨g1,0,none⟩) 269 c1, .slice (some ⟨g2,0,none⟩) 16 c2]) (by simp [results,Tryz.results41,go_sem]) rfl ⟨g1,c1,g2,c2,rfl,?_,?_⟩
     ·have a:=HA.out;have b:=HB.out;exact ⟨a.cells.below b.bel (Nat.le_refl _),a.new,Nat.lt_of_lt_of_le a.lt b.bel.size,a.bel.trans (b.bel.mono a.bel.size)⟩
     ·have a:=HA.out;have b:=HB.out;exact ⟨b.cells,Nat.le_trans a.bel.size b.new,b.lt,a.bel.trans (b.bel.mono a.bel.size)⟩
theorem v1k(b n f:Int)(ao:Option Addr)(len cap:Nat)(w:World)(h:n<3∨66<n∨f<1∨256<f∨(len:Int)<f) :
  Calls Tryz.prog 38 #[.agg #[.int .i64 b, .int .i64 n, .int .i64 f], .slice ao len cap] w fun e w'=>e= .returned (.agg #[.int .i64 (b%256), .int .i64 0, .int .i64 0])∧Below w.heap.size w w':=by
 by_cases h1:n<3
 ·clear h;go_enter Tryz.func38,Tryz.ntmps38
  go_wp2_with fail
  exact bodyPost_ret (v:= .agg #[.int .i64 (b%256), .int .i64 0, .int .i64 0]) (by simp [results,Tryz.results38,go_sem]) rfl ⟨rfl,((Below.refl _ _).alloc (Nat.le_refl _) _).alloc (by simp) _⟩
 ·have d1:decide (n<3)=false:=by simp;omega
  by_cases h2:66<n
  ·clear h;go_enter Tryz.func38,Tryz.ntmps38
   go_wp2_with fail
   exact bodyPost_ret (v:= .agg #[.int .i64 (b%256), .int .i64 0, .int .i64 0]) (by simp [results,Tryz.results38,go_sem]) rfl ⟨rfl,((Below.refl _ _).alloc (Nat.le_refl _) _).alloc (by simp) _⟩
  ·have d2:decide (66<n)=false:=by simp;omega
   by_cases h3:f<1
   ·clear h;go_enter Tryz.func38,Tryz.ntmps38
    go_wp2_with fail
    exact bodyPost_ret (v:= .agg #[.int .i64 (b%256), .int .i64 0, .int .i64 0]) (by simp [results,Tryz.results38,go_sem]) rfl ⟨rfl,((Below.refl _ _).alloc (Nat.le_refl _) _).alloc (by simp) _⟩
   ·have d3:decide (f<1)=false:=by simp;omega
    by_cases h4:256<f
    ·clear h;go_enter Tryz.func38,Tryz.ntmps38
     go_wp2_with fail
     exact bodyPost_ret (v:= .agg #[.int .i64 (b%256), .int .i64 0, .int .i64 0]) (by simp [results,Tryz.results38,go_sem]) rfl ⟨rfl,((Below.refl _ _).alloc (Nat.le_refl _) _).alloc (by simp) _⟩
    ·have d4:decide (256<f)=false:=by simp;omega
     have h5:(len:Int)<f:=by omega
     clear h;go_enter Tryz.func38,Tryz.ntmps38
     go_wp2_with fail
     exact bodyPost_ret (v:= .agg #[.int .i64 (b%256), .int .i64 0, .int .i64 0]) (by simp [results,Tryz.results38,go_sem]) rfl ⟨rfl,((Below.refl _ _).alloc (Nat.le_refl _) _).alloc (by simp) _⟩
theorem jw1(b n f:Int)(ao:Option Addr)(len cap:Nat)(w:World)(h1:3<=n)(h2:n<=66)(h3:1<=f)(h4:f<=256)(h5:f<=(len:Int)) :
  Calls Tryz.prog 38 #[.agg #[.int .i64 b, .int .i64 n, .int .i64 f], .slice ao len cap] w fun e w'=>e= .returned (.agg #[.int .i64 b, .int .i64 n, .int .i64 f])∧Below w.heap.size w w':=by
 have d1:decide (n<3)=false:=by simp;omega
 have d2:decide (66<n)=false:=by simp;omega
 have d3:decide (f<1)=false:=by simp;omega
 have d4:decide (256<f)=false:=by simp;omega
 have d5:decide ((len:Int)<f)=false:=by simp;omega
 go_enter Tryz.func38,Tryz.ntmps38
 go_wp2_with fail
 exact bodyPost_ret (v:= .agg #[.int .i64 b, .int .i64 n, .int .i64 f]) (by simp [results,Tryz.results38,go_sem]) rfl ⟨rfl,((Below.refl _ _).alloc (Nat.le_refl _) _).alloc (by simp) _⟩
structure OuF(B:Nat)(v v':Value)(w w':World):Prop where
 size:w.heap.size<=w'.heap.size
 blk:∀ k,k<w.heap.size->v.ownBlock≠some k->w'.heap[k]?=w.heap[k]?
 nw:∀ g,v'.ownBlock=some g->v.ownBlock=some g∨w.heap.size<=g
 bel:Below B w w'
theorem OuF.refl(B:Nat)(v:Value)(w:World):OuF B v v w w:=⟨Nat.le_refl _,fun _ _ _=>rfl,fun _ h=>Or.inl h,Below.refl _ _⟩
theorem OuF.trans{B:Nat}{v v1 v2:Value}{a b c:World}(h:OuF B v v1 a b)(k:OuF B v1 v2 b c):OuF B v v2 a c:=⟨Nat.le_trans h.size k.size,fun i hi hv=>by
  rw [k.blk i (Nat.lt_of_lt_of_le hi h.size) (fun e=>by
   rcases h.nw i e with e' | e'
   ·exact hv e'
   ·omega)]
  exact h.blk i hi hv,fun g hg=>by
  rcases k.nw g hg with e | e
  ·exact h.nw g e
  ·exact Or.inr (Nat.le_trans h.size e),h.bel.trans k.bel⟩
theorem OuF.made{B:Nat}{v:Value}{w X:World}(hB:B<=w.heap.size)(hX:Below w.heap.size w X):OuF B v v w X:=⟨hX.size,fun _ hk _=>j1i hX hk,fun _ h=>Or.inl h,hX.mono hB⟩
theorem OuF.push{B:Nat}{v:Value}{l:List Nat}{w X w1:World}{g c n:Nat}(h:w.ownsRow B 5 1 v l.length (keg l))(hB:B<=w.heap.size)(hX:Below w.heap.size w X)(hg:X.grownBy w1 v.ownBlock)(hat:v.ownBlock=some g∨w.heap.size<=g):OuF B v (.slice (some ⟨g,0,none⟩) n c) w w1:=by
 refine ⟨Nat.le_trans hX.size hg.size,fun k hk hne=>(hg.block k (Nat.lt_of_lt_of_le hk hX.size) (fun e=>hne e.symm)).trans (j1i hX hk),fun x hx=>?_,(hX.mono hB).grown hg (Nat.le_trans hB hX.size) (fun x hx=>(h.lt x hx).1)⟩;simp [Value.ownBlock] at hx;subst hx;exact hat
theorem vre{B:Nat}{v:Value}{o:List Nat}(x:Nat)(n f:Int)(w:World)(h:w.ownsRow B 5 1 v o.length (keg o))(hB:B<=w.heap.size)(hx:x<256)(hn:n<3)(hl:o.length<=200000000000) :
  Calls Tryz.prog 39 #[v, .agg #[.int .i64 x, .int .i64 n, .int .i64 f]] w fun e w'=>∃ v',e= .returned v'∧w'.ownsRow B 5 1 v' (o++[x]).length (keg (o++[x]))∧OuF B v v' w w':=by
 obtain ⟨i5,hi5,hx0,hx1,hx2⟩:=info_parts kh5;obtain ⟨W,hW⟩:∃ W,W=w.alloc (.cells #[.int .i64 x, .int .i64 n, .int .i64 f] 89):=⟨_,rfl⟩
 have hown:W.ownsRow B 5 1 v o.length (keg o):=by rw [hW];exact h.alloc _
 have HF:Hid (OuF B v v w W):=OuF.made hB (by rw [hW];exact (Below.refl _ _).alloc (Nat.le_refl _) _);have hBW:B<=W.heap.size:=Nat.le_trans hB HF.out.size;have d0:W.cell? ⟨w.heap.size,0,none⟩=some (.int .i64 x):=by rw [hW,cell_of_row _ _ 0 _ _ _ (heap_alloc_new w _)];rfl
 have d1:W.cell? ⟨w.heap.size,1,none⟩=some (.int .i64 n):=by rw [hW,cell_of_row _ _ 1 _ _ _ (heap_alloc_new w _)];rfl
 have hxm:(x:Int)%256=(x:Int):=by omega
 clear h;go_enter Tryz.func39,Tryz.ntmps39
 go_upto_region 1 with fail
 rw [← hW];clear hW;go_wp2_with (at_builtin;refine wpList_append_lies _ rfl _ _ 34 rfl B 5 i5 _ 1 1 Tryz.underlying34 hi5 hx0 hx1 hx2 rfl (by decide) v o.length (keg o) rfl (hown.alloc _) ⟨W.heap.size,0,none⟩ 1 1 [.int .u8 x] rfl rfl (cell_one_new _ _ _) (by simp [Value.oneCell']) (by omega) (by unfold maxLen;omega) (by omega) (by simp;omega) (W.heap.size+1) (by simp) ?_;intro g2 p2 w5 hown2 hgrow2 hat2 hlt2)
 have HP:Hid (OuF B v (.slice (some ⟨g2,0,none⟩) (o.length+1) p2) w w5):=HF.out.trans (OuF.push hown hBW ((Below.refl _ _).alloc (Nat.le_refl _) _) hgrow2 (hat2.imp id (fun e=>by omega)));have HO:Hid (w5.ownsRow B 5 1 (.slice (some ⟨g2,0,none⟩) (o.length+1) p2) (o++[x]).length (keg (o++[x]))):=by
  have e:keg (o++[x])=keg o++[.int .u8 x]:=by simp [keg]
  show World.ownsRow _ _ _ _ _ _ _;rw [e,List.length_append];exact hown2
 clear hown2 hgrow2 hat2 hlt2;go_wp2_with fail
 go_ret
 exact ⟨_,rfl,HO.out,HP.out⟩
theorem v2c{B:Nat}{v:Value}{o:List Nat}(b:Int)(n far:Nat)(w:World)(h:w.ownsRow B 5 1 v o.length (keg o))(hB:B<=w.heap.size)(h3:3<=n)(h66:n<=66)(hf1:1<=far)(hf:far<=o.length)(hl:o.length<=200000000000) :
  Calls Tryz.prog 39 #[v, .agg #[.int .i64 b, .int .i64 n, .int .i64 far]] w fun e w'=>∃ v',e= .returned v'∧w'.ownsRow B 5 1 v' (kl5 far n o).length (keg (kl5 far n o))∧OuF B v v' w w':=by
 obtain ⟨i5,hi5,hx0,hx1,hx2⟩:=info_parts kh5;obtain ⟨W,hW⟩:∃ W,W=w.alloc (.cells #[.int .i64 b, .int .i64 n, .int .i64 far] 89):=⟨_,rfl⟩
 have HF:Hid (OuF B v v w W):=OuF.made hB (by rw [hW];exact (Below.refl _ _).alloc (Nat.le_refl _) _);have hBW:B<=W.heap.size:=Nat.le_trans hB HF.out.size;have gx:W.heap[w.heap.size]?=some (.cells #[.int .i64 b, .int .i64 n, .int .i64 far] 89 (0,0)):=by rw [hW];exact heap_alloc_new w _
 have d1:W.cell? ⟨w.heap.size,1,none⟩=some (.int .i64 n):=by rw [cell_of_row _ _ 1 _ _ _ gx];rfl
 have H0:Hid (W.ownsRow B 5 1 v o.length (keg o)∧OuF B v v W W∧kl5 far (n - 0) o=kl5 far n o):=⟨by rw [hW];exact h.alloc _,OuF.refl _ _ _,rfl⟩
 have HX:Hid (∀ (v1:Value) (wr:World),OuF B v v1 W wr->wr.heap[w.heap.size]?=W.heap[w.heap.size]?):=fun v1 wr F=>F.blk _ (by rw [hW];simp) (fun e=>by have:=(h.lt _ e).2;omega)
 have HG:Hid (W.heap[w.heap.size]?=some (.cells #[.int .i64 b, .int .i64 n, .int .i64 far] 89 (0,0))):=gx;have d3:decide ((n:Int)<3)=false:=by simp;omega
 clear h gx;go_enter Tryz.func39,Tryz.ntmps39
 go_upto_region 1 with fail
 rw [← hW];clear hW;go_wp2_with fail
 go_loopw [0,5,6] (fun vo i _ wr=>∃ (k:Nat) (cur:List Nat),k<=n∧i= .int .i64 k∧cur.length=o.length+k∧Hid (wr.ownsRow B 5 1 vo cur.length (keg cur)∧OuF B v vo W wr∧kl5 far (n - k) cur=kl5 far n o)) (fun _ i _ _=>n - (intOf i).toNat)
 case atStart=>exact ⟨0,o,Nat.zero_le _,rfl,rfl,H0⟩
 case round=>
  obtain ⟨k,cur,hk,rfl,hcl,HH⟩:=hrel;clear H0 d1;have hblk:=HX.out _ _ HH.out.2.1;rw [HG.out] at hblk;have d1:wr.cell? ⟨w.heap.size,1,none⟩=some (.int .i64 n):=by rw [cell_of_row _ _ 1 _ _ _ hblk];rfl
  have d2:wr.cell? ⟨w.heap.size,2,none⟩=some (.int .i64 far):=by rw [cell_of_row _ _ 2 _ _ _ hblk];rfl
  clear hblk;by_cases hlt:k<n
  ·obtain ⟨g,c,hv,hg1,hg2⟩:=HH.out.1.form (by omega);subst hv;have hown:=HH.out.1;have hBr:B<=wr.heap.size:=Nat.le_trans hBW HH.out.2.1.size;obtain ⟨q,hq⟩:∃ q,q=cur.length - far:=⟨_,rfl⟩
   have hqi:(cur.length:Int) - (far:Int)=(q:Int):=by omega
   have hql:q<cur.length:=by omega
   have cq:wr.cell? ⟨g,q,none⟩=some (.int .u8 (cur.getD q 0:Nat)):=by
    rw [World.ownsRow.cellAt hown q (by omega)];simp [keg,hql]
   have HC:Hid (kl5 far (n - (k+1)) (cur++[cur.getD q 0])=kl5 far n o):=by
    show _=_;rw [← HH.out.2.2,show n - k=(n - (k+1))+1 by omega,kl5,hq]
   have HL:Hid (cur.length=o.length+k):=hcl;have hcl2:cur.length<=200000000100:=by omega
   clear hq hcl;generalize cur.getD q 0=y at *;go_wp2_with (at_builtin;refine wpList_append_lies _ rfl _ _ 34 rfl B 5 i5 _ 1 1 Tryz.underlying34 hi5 hx0 hx1 hx2 rfl (by decide) _ cur.length (keg cur) rfl (hown.alloc _) ⟨wr.heap.size,0,none⟩ 1 1 [.int .u8 y] rfl rfl (cell_one_new _ _ _) (by simp [Value.oneCell']) (by omega) (by unfold maxLen;omega) (by omega) (by simp;omega) (wr.heap.size+1) (by simp) ?_;intro g2 p2 w5 hown2 hgrow2 hat2 hlt2)
   have HN:Hid (w5.ownsRow B 5 1 (.slice (some ⟨g2,0,none⟩) (cur.length+1) p2) (cur++[y]).length (keg (cur++[y]))∧OuF B v (.slice (some ⟨g2,0,none⟩) (cur.length+1) p2) W w5∧kl5 far (n - (k+1)) (cur++[y])=kl5 far n o):=by
    refine ⟨?_,HH.out.2.1.trans (OuF.push hown hBr ((Below.refl _ _).alloc (Nat.le_refl _) _) hgrow2 (hat2.imp id (fun e=>by omega))),HC.out⟩;have e:keg (cur++[y])=keg cur++[.int .u8 y]:=by simp [keg]
    rw [e,List.length_append];exact hown2
   clear hown2 hgrow2 hat2 hlt2 hown;go_roundw
   case rel=>exact ⟨k+1,cur++[y],by omega,by go_num,by have:=HL.out;rw [List.length_append,List.length_singleton];omega,HN⟩
   case measure=>simp [intOf];omega
  ·obtain rfl:k=n:=by omega
   have HN:Hid (wr.ownsRow B 5 1 u0 (kl5 far k o).length (keg (kl5 far k o))∧OuF B v u0 w wr):=by
    obtain ⟨a1,a2,a3⟩:=HH.out;rw [Nat.sub_self,kl5] at a3;rw [← a3];exact ⟨a1,HF.out.trans a2⟩
   clear HH;go_wp2_with fail
   go_ret
   exact ⟨_,rfl,HN.out.1,HN.out.2⟩
theorem koh:(Tryz.prog.info? 4).map (fun i=>(i.zero,i.size,i.bytes))=some (some (.bool false),1,1):=by kernel_rfl
def upd(f:Nat->Bool)(k:Nat):Nat->Bool:=fun j=>if j=k then true else f j
def useA(f:Nat->Bool):It->Nat->Bool
 | .byte x=>upd f x
 | .copy n _=>upd f (257+splK 3 n)
def useB(f:Nat->Bool):It->Nat->Bool
 | .byte _=>f
 | .copy _ far=>upd f (splK 1 far)
def use0:Nat->Bool:=upd (upd (fun _=>false) 256) 0
def kg7:It->Prop
 | .byte x=>x<256
 | .copy n far=>3<=n∧n<=66∧1<=far∧far<=256
structure UsI(w:World)(fa fb:Nat->Bool)(wr:World):Prop where
 ra:wr.rowIs w.heap.size 4 269 (fun j=> .bool (fa j))
 rb:wr.rowIs (w.heap.size+1) 4 16 (fun j=> .bool (fb j))
 bel:Below w.heap.size w wr
theorem j3x{w:World}{g n k:Nat}{f:Nat->Bool}(h:w.rowIs g 4 n (fun j=> .bool (f j))):(w.setCell ⟨g,k,none⟩ (.bool true)).rowIs g 4 n (fun j=> .bool (upd f k j)):=by
 refine (h.set k (.bool true)).congr (fun j _=>?_);unfold upd;by_cases e:j=k <;> simp [e]
theorem UsI.setA{w wr:World}{fa fb:Nat->Bool}(h:UsI w fa fb wr)(k:Nat):UsI w (upd fa k) fb (wr.setCell ⟨w.heap.size,k,none⟩ (.bool true)):=⟨j3x h.ra,h.rb.setOther (by show w.heap.size+1≠w.heap.size;omega) _,h.bel.setCell (Nat.le_refl _) _⟩
theorem UsI.setB{w wr:World}{fa fb:Nat->Bool}(h:UsI w fa fb wr)(k:Nat):UsI w fa (upd fb k) (wr.setCell ⟨w.heap.size+1,k,none⟩ (.bool true)):=⟨h.ra.setOther (by show w.heap.size≠w.heap.size+1;omega) _,j3x h.rb,h.bel.setCell (by show w.heap.size<=w.heap.size+1;omega) _⟩
theorem k1n.below{w w':World}{ad:Option Addr}{l:List It}(h:k1n w ad l)(hb:Below w.heap.size w w'):k1n w' ad l:=fun k hk=>by
 obtain ⟨bl,o,b,n,f,e,hlt,c0,c1,c2,hi⟩:=h k hk;have hbk:=j1i hb hlt;exact ⟨bl,o,b,n,f,e,Nat.lt_of_lt_of_le hlt hb.size,by rw [World.cell?_of_block hbk];exact c0,by rw [World.cell?_of_block hbk];exact c1,by rw [World.cell?_of_block hbk];exact c2,hi⟩
theorem xra{items:List It}{k:Nat}(hk:k<items.length)(f:Nat->Bool):(items.take (k+1)).foldl useA f=useA ((items.take k).foldl useA f) items[k]:=by
 rw [List.take_succ_eq_append_getElem hk,List.foldl_append];rfl
theorem xga{items:List It}{k:Nat}(hk:k<items.length)(f:Nat->Bool):(items.take (k+1)).foldl useB f=useB ((items.take k).foldl useB f) items[k]:=by
 rw [List.take_succ_eq_append_getElem hk,List.foldl_append];rfl
theorem xkh(ai:Option Addr)(ci:Nat)(items:List It)(w:World)(hI:k1n w ai items)(hil:items.length<=10000000)(hok:∀ x∈items,kg7 x) :
  Calls Tryz.prog 65 #[.slice ai items.length ci] w fun e w'=>e= .returned (.tuple #[.slice (some ⟨w.heap.size,0,none⟩) 269 269, .slice (some ⟨w.heap.size+1,0,none⟩) 16 16])∧UsI w (items.foldl useA use0) (items.foldl useB (fun _=>false)) w':=by
 have hmk:∀ w:World,Sem.run Tryz.prog (Instr.makeSlice 148 (.int .i64 269) (.int .i64 269)) w= .ok (.slice (some ⟨w.heap.size,0,none⟩) 269 269) (w.alloc (.cells (madeCells #[.bool false] 269) 4)):=run_make_row' (P:=Tryz.prog) 148 4 (.bool false) 1 Tryz.underlying148 koh rfl .i64 .i64 269 (by omega) (by omega);have hmk2:∀ w:World,Sem.run Tryz.prog (Instr.makeSlice 148 (.int .i64 16) (.int .i64 16)) w= .ok (.slice (some ⟨w.heap.size,0,none⟩) 16 16) (w.alloc (.cells (madeCells #[.bool false] 16) 4)):=run_make_row' (P:=Tryz.prog) 148 4 (.bool false) 1 Tryz.underlying148 koh rfl .i64 .i64 16 (by omega) (by omega);obtain ⟨W,hW⟩:∃ W,W=(w.alloc (.cells (madeCells #[.bool false] 269) 4)).alloc (.cells (madeCells #[.bool false] 16) 4):=⟨_,rfl⟩
 have hU:UsI w (fun _=>false) (fun _=>false) W:=by
  rw [hW];refine ⟨(World.rowIs_made w _ 269 _).alloc _,?_,((Below.refl _ _).alloc (Nat.le_refl _) _).alloc (by simp) _⟩;have:=World.rowIs_made (w.alloc (.cells (madeCells #[.bool false] 269) 4)) (.bool false) 16 4;simpa using this
 have HI:Hid (∀ wr,Below w.heap.size w wr->k1n wr ai items):=fun wr hb=>hI.below hb
 have HK:Hid (∀ x∈items,kg7 x):=hok;have x256:W.cell? ⟨w.heap.size,256,none⟩=some (.bool false):=hU.ra.cell (i:=256) (by omega);have z256:=hU.ra.frozen 256;have hU1:=hU.setA 256;have x0:(W.setCell ⟨w.heap.size,256,none⟩ (.bool true)).cell? ⟨w.heap.size,0,none⟩=some (.bool false):=hU1.ra.cell (i:=0) (by omega);have z0:=hU1.ra.frozen 0;have H0:Hid (UsI w ((items.take 0).foldl useA use0) ((items.take 0).foldl useB (fun _=>false)) ((W.setCell ⟨w.heap.size,256,none⟩ (.bool true)).setCell ⟨w.heap.size,0,none⟩ (.bool true))):=hU1.setA 0;clear hI hok hU hU1;go_enter Tryz.func65,Tryz.ntmps65
 go_upto_region 3 with fail
 rw [← hW];clear hW hmk hmk2;go_upto_region 5 with fail
 obtain ⟨W1,hW1⟩:∃ W1,W1=(W.setCell ⟨w.heap.size,256,none⟩ (.bool true)).setCell ⟨w.heap.size,0,none⟩ (.bool true):=⟨_,rfl⟩
 rw [← hW1] at H0;rw [← hW1];clear hW1 x0 z0 x256 z256;go_wp2_with fail
 go_loopw [6,7,8,9] (fun i _ _ _ wr=>∃ k:Nat,k<=items.length∧i= .int .i64 k∧Hid (UsI w ((items.take k).foldl useA use0) ((items.take k).foldl useB (fun _=>false)) wr)) (fun i _ _ _ _=>items.length - (intOf i).toNat)
 case atStart=>exact ⟨0,Nat.zero_le _,rfl,H0⟩
 case round=>
  obtain ⟨k,hk,rfl,HR⟩:=hrel;clear H0;by_cases hlt:k<items.length
  ·have hbel:=HR.out.bel;obtain ⟨bl,o,xb,xn,xf,rfl,hbl,c0,c1,c2,hit⟩:=HI.out wr hbel k hlt;have hok:=HK.out items[k] (List.getElem_mem hlt);have HA:Hid ((items.take (k+1)).foldl useA use0=useA ((items.take k).foldl useA use0) items[k]):=xra hlt _;have HB:Hid ((items.take (k+1)).foldl useB (fun _=>false)=useB ((items.take k).foldl useB (fun _=>false)) items[k]):=xga hlt _;generalize (items.take k).foldl useA use0=fa at *;generalize (items.take k).foldl useB (fun _=>false)=fb at *;cases hx:items[k] with
   | byte x=>
    rw [hx] at hit hok HA HB;obtain ⟨rfl,hn3⟩:=hit;have hxl:x<256:=hok;have ca:wr.cell? ⟨w.heap.size,x,none⟩=some (.bool (fa x)):=HR.out.ra.cell (i:=x) (by omega);have za:=HR.out.ra.frozen x;have HN:Hid (UsI w (upd fa x) fb (wr.setCell ⟨w.heap.size,x,none⟩ (.bool true))):=HR.out.setA x;clear HR hbel hok;go_wp2_with fail
    go_roundw
    case rel=>exact ⟨k+1,by omega,by go_num,by rw [HA.out,HB.out];exact HN⟩
    case measure=>simp [intOf];omega
   | copy n far=>
    rw [hx] at hit hok HA HB;obtain ⟨rfl,rfl⟩:=hit;obtain ⟨q1,q2,q3,q4⟩:=hok;obtain ⟨s1,s2,s3⟩:=y1z q1 q2;obtain ⟨t1,t2,t3⟩:=xx4 q3 q4;have HSP:Hid (∀ X,Calls Tryz.prog 72 #[.int .i64 n, .int .i64 3] X fun e w'=>e= .returned (.tuple #[.int .i64 (splK 3 n), .int .i64 ((n:Int) - Tr.spanLeast 3 (splK 3 n)), .int .i64 (Tr.spanBits (splK 3 n))])∧X=w'):=fun X=>z6j n 3 X q1 (Nat.lt_of_le_of_lt q2 (by decide)) (by omega)
    have HSQ:Hid (∀ X,Calls Tryz.prog 72 #[.int .i64 far, .int .i64 1] X fun e w'=>e= .returned (.tuple #[.int .i64 (splK 1 far), .int .i64 ((far:Int) - Tr.spanLeast 1 (splK 1 far)), .int .i64 (Tr.spanBits (splK 1 far))])∧X=w'):=fun X=>z6j far 1 X q3 (Nat.lt_of_le_of_lt q4 (by decide)) (by omega)
    have HUA:Hid (useA fa (.copy n far)=upd fa (257+splK 3 n)∧useB fb (.copy n far)=upd fb (splK 1 far)):=⟨rfl,rfl⟩
    have hn3:decide ((n:Int)<3)=false:=by simp;omega
    have s1':=s1;clear s2 s3 t2 t3;generalize (n:Int) - Tr.spanLeast 3 (splK 3 n)=m1 at *;generalize (far:Int) - Tr.spanLeast 1 (splK 1 far)=m2 at *;generalize Tr.spanBits (splK 3 n)=E1 at *;generalize Tr.spanBits (splK 1 far)=E2 at *;generalize splK 3 n=K1 at *;generalize splK 1 far=K2 at *;have ca:wr.cell? ⟨w.heap.size,257+K1,none⟩=some (.bool (fa (257+K1))):=HR.out.ra.cell (i:=257+K1) (by omega);have za:=HR.out.ra.frozen (257+K1);obtain ⟨W2,hW2⟩:∃ W2,W2=wr.setCell ⟨w.heap.size,257+K1,none⟩ (.bool true):=⟨_,rfl⟩
    have hU2:UsI w (upd fa (257+K1)) fb W2:=by rw [hW2];exact HR.out.setA (257+K1)
    obtain ⟨bl',o',xb',xn',xf',eb,hbl',c0',c1',c2',hit'⟩:=HI.out W2 hU2.bel k hlt;cases eb
    rw [hx] at hit';obtain ⟨rfl,rfl⟩:=hit';have cb:W2.cell? ⟨w.heap.size+1,K2,none⟩=some (.bool (fb K2)):=hU2.rb.cell (i:=K2) (by omega);have zb:=hU2.rb.frozen K2;have HN:Hid (UsI w (upd fa (257+K1)) (upd fb K2) (W2.setCell ⟨w.heap.size+1,K2,none⟩ (.bool true))):=hU2.setB K2;clear HR hbel hU2 c0' c1';go_upto_region 12 with (go_at_call 72;refine (HSP.out _).mono ?_;rintro e w' ⟨rfl,rfl⟩)
    rw [← hW2];clear hW2 c0 c1 c2 ca za;go_wp2_with (go_at_call 72;refine (HSQ.out _).mono ?_;rintro e w' ⟨rfl,rfl⟩)
    go_roundw
    case rel=>exact ⟨k+1,by omega,by go_num,by rw [HA.out,HB.out,HUA.out.1,HUA.out.2];exact HN⟩
    case measure=>simp [intOf];omega
  ·obtain rfl:k=items.length:=by omega
   have HN:Hid (UsI w (items.foldl useA use0) (items.foldl useB (fun _=>false)) wr):=by have:=HR.out;rw [List.take_length] at this;exact this
   clear HR;go_wp2_with fail
   exact bodyPost_ret (v:= .tuple #[.slice (some ⟨w.heap.size,0,none⟩) 269 269, .slice (some ⟨w.heap.size+1,0,none⟩) 16 16]) (by simp [results,Tryz.results65,go_sem]) rfl ⟨rfl,HN.out⟩
def yas(w:World)(ad:Option Addr)(n:Nat):Prop:=
 n<=9223372036854775807∧∀ k,k<n->∃ b o x,ad=some ⟨b,o,none⟩∧b<w.heap.size∧w.cell? ⟨b,o+k,none⟩=some (.int .i64 x)∧ -9223372036854775808<=x∧x<=9223372036854775807
def Own(w:World)(B g cap:Nat)(l:List Int):Prop:=w.ownsRow B 3 1 (.slice (some ⟨g,0,none⟩) l.length cap) l.length (l.map (Value.int .i64))
theorem Own.cell{w:World}{B g cap:Nat}{l:List Int}(h:Own w B g cap l){k:Nat}(hk:k<l.length):w.cell? ⟨g,k,none⟩=some (.int .i64 l[k]):=by
 rw [World.ownsRow.cellAt h k (by omega)];simp [hk]
theorem Own.cellV{w:World}{B g cap:Nat}{l:List Int}(h:Own w B g cap l){k:Nat}(hk:k<l.length):∃ x,w.cell? ⟨g,k,none⟩=some (.int .i64 x)∧Hid (l[k]=x):=⟨_,h.cell hk,show l[k]=l[k] from rfl⟩
theorem kst{w wr w1:World}{g cp k:Nat}{l:List Int}{y:Int}{v':Value}(hk:k<l.length)(hy:l[k]=y)(hlt:y<11)(hgood:Good l)
  (hown:Own wr w.heap.size g cp l) (hbel:Below w.heap.size w wr)
  (hown':w1.ownsRow w.heap.size 3 1 v' (l.length+1) ((l.map (Value.int .i64)).set k (.int .i64 (y+1))++[.int .i64 (y+1)]))
  (hgrow:((wr.setCell ⟨g,k,none⟩ (.int .i64 (y+1))).alloc (.cells #[.int .i64 (y+1)] 3)).grownBy w1 (Value.slice (some ⟨g,0,none⟩) l.length cp).ownBlock) :
  ∃ (g' cp':Nat) (l':List Int),v'= .slice (some ⟨g',0,none⟩) l'.length cp'∧l'.length=l.length+1∧Good l'∧Own w1 w.heap.size g' cp' l'∧Below w.heap.size w w1:=by
 have hg:w.heap.size<=g:=(hown.lt g rfl).1;have hlen:(l.set k (y+1)++[y+1]).length=l.length+1:=by simp
 have hmap:(l.map (Value.int .i64)).set k (.int .i64 (y+1))++[.int .i64 (y+1)]=(l.set k (y+1)++[y+1]).map (Value.int .i64):=by simp [List.map_set]
 rw [hmap] at hown';have hbel':Below w.heap.size w w1:=by
  refine ((hbel.setCell (p:=⟨g,k,none⟩) hg (.int .i64 (y+1))).alloc ?_ (.cells #[.int .i64 (y+1)] 3)).grown hgrow ?_ ?_
  ·have:=hbel.size;simpa using this
  ·have:=hbel.size;simp;omega
  ·intro j hj;simp [Value.ownBlock] at hj;omega
 have hgd:Good (l.set k (y+1)++[y+1]):=by
  have:=hgood.step hk (by omega);rw [hy] at this;exact this
 rcases hown'.2 with ⟨_,h0⟩ | ⟨g',cp',cur,hv,_⟩
 ·omega
 ·refine ⟨g',cp',l.set k (y+1)++[y+1],by rw [hlen];exact hv,hlen,hgd,?_,hbel'⟩;unfold Own;rw [hlen,← hv];exact hown'
theorem z3b(n:Nat)(ad:Option Addr)(len cap:Nat)(w:World)(hn:2<=n)(hn2:n<=269)(hp:yas w ad len) :
  Calls Tryz.prog 96 #[.int .i64 n, .int .i64 11, .slice ad len cap] w fun e w'=>∃ g cap' l,e= .returned (.slice (some ⟨g,0,none⟩) l.length cap')∧l.length=n∧Good l∧Own w' w.heap.size g cap' l∧Below w.heap.size w w':=by
 have HP:Hid (yas w ad len):=hp;have hlen:len<=9223372036854775807:=hp.1;clear hp;obtain ⟨i0,hi,hz0,hz1,hz2⟩:=info_parts ve2;go_enter Tryz.func96,Tryz.ntmps96
 go_wp2_with fail
 go_loopw [7,8] (fun v i wr=>∃ (g cp:Nat) (l:List Int),v= .slice (some ⟨g,0,none⟩) l.length cp∧1<=l.length∧l.length<=n∧i= .int .i64 (l.length - 1)∧Good l∧Own wr w.heap.size g cp l∧Below w.heap.size w wr) (fun _ i _=>n - (intOf i).toNat)
 case atStart=>exact ⟨w.heap.size,1,[0],rfl,by simp,by simp;omega,rfl,Good.one,World.ownsRow_lit w _ 1 (Nat.le_refl _) (by decide) rfl,(Below.refl _ _).alloc (Nat.le_refl _) _⟩
 case round=>
  obtain ⟨g,cp,l,rfl,hl1,hl2,rfl,hgood,hown,hbel⟩:=hrel;have HG:Hid (Good l):=hgood;clear hgood;by_cases hlt:l.length<n
  ·by_cases hq:l.length - 1<len
   ·obtain ⟨b,o,x,rfl,hb,hcell,hx0,hx1⟩:=HP.out.2 (l.length - 1) hq;have hcell':=(hbel.cell (p:=⟨b,o+(l.length - 1),none⟩) hb).trans hcell;clear hcell;by_cases hneg:x<0
    ·obtain ⟨k0,hk0,hm⟩:=vmd x l.length hneg (by omega);go_wp2_with fail
     clear hneg hcell';clear hm;obtain ⟨j,hj,hj11⟩:=HG.out.small (by omega);have HJ:Hid (l[j]<11):=hj11;clear hj11;go_loop [9] (fun i=>∃ k:Nat,k<l.length∧i= .int .i64 k) (fun i=>dist l.length (intOf i).toNat j)
     case atStart=>first | exact ⟨k0,hk0,rfl⟩ | exact ⟨0,by omega,rfl⟩
     case round=>
      obtain ⟨k,hk,rfl⟩:=hrel;obtain ⟨y,hc,hy⟩:=hown.cellV hk;have ⟨hy0,hy1⟩:0<=y∧y<=11:=by have:=HG.out.1 _ (List.getElem_mem hk);rw [hy.out] at this;exact this
      by_cases h11:11<=y
      ·go_wp2_with fail
       go_round
       case rel=>exact ⟨(k+1)%l.length,Nat.mod_lt _ (by omega),by rw [y2g]⟩
       case measure=>
        have hne:k≠j:=by intro e;subst e;have:=HJ.out;have:=hy.out;omega
        simp only [intOf];rw [y2g];exact k1p hk hj hne
      ·have hfr:=World.ownsRow.frozenAt hown k;have HS:=(World.ownsRow.stored hown k (.int .i64 (y+1))).1;go_wp2_with (first | (at_builtin;refine wpList_append_own _ rfl _ _ 69 rfl w.heap.size 3 i0 (.int .i64 0) 1 8 Tryz.underlying69 hi hz0 hz1 hz2 rfl (by decide) _ _ _ rfl (HS.alloc _) ⟨wr.heap.size,0,none⟩ 1 1 [.int .i64 (y+1)] rfl rfl ?qc1 ?qc2 ?qc3 ?qc4 ?qc5 ?_) | fail)
       case qc2=>rfl
       case qc3=>unfold maxLen;omega
       case qc4=>omega
       case qc5=>have:=hbel.size;omega
       intro v' w1 hown' hgrow _;obtain ⟨g',cp',l',hv,hl',hgood',hown2,hbel2⟩:=kst hk hy.out (by omega) HG.out hown hbel hown' hgrow;clear hown' hgrow HS hfr hc;have HG':Hid (Good l'):=hgood';have HL:Hid (l'.length=l.length+1):=hl';clear hgood' hl';rw [hv];clear hv;go_wp2_with fail
       go_roundw
       case rel=>exact ⟨g',cp',l',rfl,by have:=HL.out;omega,by have:=HL.out;omega,by rw [HL.out];go_num,HG'.out,hown2,hbel2⟩
       case measure=>have:=HL.out;simp [intOf];omega
    ·obtain ⟨k0,hk0,hm⟩:=kfi x l.length (by omega);go_wp2_with fail
     clear hneg hcell';clear hm;obtain ⟨j,hj,hj11⟩:=HG.out.small (by omega);have HJ:Hid (l[j]<11):=hj11;clear hj11;go_loop [9] (fun i=>∃ k:Nat,k<l.length∧i= .int .i64 k) (fun i=>dist l.length (intOf i).toNat j)
     case atStart=>first | exact ⟨k0,hk0,rfl⟩ | exact ⟨0,by omega,rfl⟩
     case round=>
      obtain ⟨k,hk,rfl⟩:=hrel;obtain ⟨y,hc,hy⟩:=hown.cellV hk;have ⟨hy0,hy1⟩:0<=y∧y<=11:=by have:=HG.out.1 _ (List.getElem_mem hk);rw [hy.out] at this;exact this
      by_cases h11:11<=y
      ·go_wp2_with fail
       go_round
       case rel=>exact ⟨(k+1)%l.length,Nat.mod_lt _ (by omega),by rw [y2g]⟩
       case measure=>
        have hne:k≠j:=by intro e;subst e;have:=HJ.out;have:=hy.out;omega
        simp only [intOf];rw [y2g];exact k1p hk hj hne
      ·have hfr:=World.ownsRow.frozenAt hown k;have HS:=(World.ownsRow.stored hown k (.int .i64 (y+1))).1;go_wp2_with (first | (at_builtin;refine wpList_append_own _ rfl _ _ 69 rfl w.heap.size 3 i0 (.int .i64 0) 1 8 Tryz.underlying69 hi hz0 hz1 hz2 rfl (by decide) _ _ _ rfl (HS.alloc _) ⟨wr.heap.size,0,none⟩ 1 1 [.int .i64 (y+1)] rfl rfl ?qd1 ?qd2 ?qd3 ?qd4 ?qd5 ?_) | fail)
       case qd2=>rfl
       case qd3=>unfold maxLen;omega
       case qd4=>omega
       case qd5=>have:=hbel.size;omega
       intro v' w1 hown' hgrow _;obtain ⟨g',cp',l',hv,hl',hgood',hown2,hbel2⟩:=kst hk hy.out (by omega) HG.out hown hbel hown' hgrow;clear hown' hgrow HS hfr hc;have HG':Hid (Good l'):=hgood';have HL:Hid (l'.length=l.length+1):=hl';clear hgood' hl';rw [hv];clear hv;go_wp2_with fail
       go_roundw
       case rel=>exact ⟨g',cp',l',rfl,by have:=HL.out;omega,by have:=HL.out;omega,by rw [HL.out];go_num,HG'.out,hown2,hbel2⟩
       case measure=>have:=HL.out;simp [intOf];omega
   ·obtain ⟨k0,hk0,hm⟩:=kfi 0 l.length (by omega);go_wp2_with fail
    clear hm;obtain ⟨j,hj,hj11⟩:=HG.out.small (by omega);have HJ:Hid (l[j]<11):=hj11;clear hj11;go_loop [9] (fun i=>∃ k:Nat,k<l.length∧i= .int .i64 k) (fun i=>dist l.length (intOf i).toNat j)
    case atStart=>first | exact ⟨k0,hk0,rfl⟩ | exact ⟨0,by omega,rfl⟩
    case round=>
     obtain ⟨k,hk,rfl⟩:=hrel;obtain ⟨y,hc,hy⟩:=hown.cellV hk;have ⟨hy0,hy1⟩:0<=y∧y<=11:=by have:=HG.out.1 _ (List.getElem_mem hk);rw [hy.out] at this;exact this
     by_cases h11:11<=y
     ·go_wp2_with fail
      go_round
      case rel=>exact ⟨(k+1)%l.length,Nat.mod_lt _ (by omega),by rw [y2g]⟩
      case measure=>
       have hne:k≠j:=by intro e;subst e;have:=HJ.out;have:=hy.out;omega
       simp only [intOf];rw [y2g];exact k1p hk hj hne
     ·have hfr:=World.ownsRow.frozenAt hown k;have HS:=(World.ownsRow.stored hown k (.int .i64 (y+1))).1;go_wp2_with (first | (at_builtin;refine wpList_append_own _ rfl _ _ 69 rfl w.heap.size 3 i0 (.int .i64 0) 1 8 Tryz.underlying69 hi hz0 hz1 hz2 rfl (by decide) _ _ _ rfl (HS.alloc _) ⟨wr.heap.size,0,none⟩ 1 1 [.int .i64 (y+1)] rfl rfl ?qe1 ?qe2 ?qe3 ?qe4 ?qe5 ?_) | fail)
      case qe2=>rfl
      case qe3=>unfold maxLen;omega
      case qe4=>omega
      case qe5=>have:=hbel.size;omega
      intro v' w1 hown' hgrow _;obtain ⟨g',cp',l',hv,hl',hgood',hown2,hbel2⟩:=kst hk hy.out (by omega) HG.out hown hbel hown' hgrow;clear hown' hgrow HS hfr hc;have HG':Hid (Good l'):=hgood';have HL:Hid (l'.length=l.length+1):=hl';clear hgood' hl';rw [hv];clear hv;go_wp2_with fail
      go_roundw
      case rel=>exact ⟨g',cp',l',rfl,by have:=HL.out;omega,by have:=HL.out;omega,by rw [HL.out];go_num,HG'.out,hown2,hbel2⟩
      case measure=>have:=HL.out;simp [intOf];omega
  ·go_wp2_with fail
   go_ret
   exact ⟨g,cp,l,rfl,by omega,HG.out,hown,hbel⟩
def cnt(f:Nat->Bool):Nat->Nat
 | 0=>0
 | k+1=>cnt f k+if f k then 1 else 0
theorem kso{f:Nat->Bool}{k:Nat}(h:f k=true):cnt f (k+1)=cnt f k+1:=by rw [cnt,h];rfl
theorem ysl{f:Nat->Bool}{k:Nat}(h:f k=false):cnt f (k+1)=cnt f k:=by rw [cnt,h];rfl
theorem ztd(f:Nat->Bool):∀ k,cnt f k<=k
 | 0=>Nat.le_refl _
 | k+1=>by
  have:=ztd f k;rw [cnt];split <;> omega
theorem zqr(f:Nat->Bool)(k:Nat):∀ d,cnt f k<=cnt f (k+d)
 | 0=>Nat.le_refl _
 | d+1=>by
  have:=zqr f k d;show _<=cnt f (k+d)+_;omega
theorem jjz{f:Nat->Bool}{k n:Nat}(h:f k=true)(hk:k<n):cnt f k<cnt f n:=by
 have h1:=zqr f (k+1) (n - (k+1));rw [show k+1+(n - (k+1))=n by omega,kso h] at h1;omega
def sprI(f:Nat->Bool)(l:List Int)(i:Nat):Int:=if f i then l.getD (cnt f i) 0 else 0
def sprL(f:Nat->Bool)(l:List Int)(n:Nat):List Int:=(List.range n).map (sprI f l)
theorem z9w(f:Nat->Bool)(l:List Int)(n:Nat):(sprL f l n).length=n:=by simp [sprL]
theorem jny{f:Nat->Bool}{l:List Int}{n k:Nat}(h:k<n):(sprL f l n).getD k 0=sprI f l k:=by simp [sprL,h]
def SprK(c:Nat)(l:List Int):Prop:=c=0∨(c=1∧l=[1])∨(2<=c∧l.length=c∧Good l)
structure SprI(w WX:World)(f:Nat->Bool)(l:List Int)(n k:Nat)(wr:World):Prop where
 row:wr.rowIs w.heap.size 3 n (fun j=> .int .i64 (if j<k then sprI f l j else 0))
 blk:∀ b,b<WX.heap.size->b≠w.heap.size->wr.heap[b]?=WX.heap[b]?
 bel:Below w.heap.size w wr
theorem SprI.skip{w WX:World}{f:Nat->Bool}{l:List Int}{n k:Nat}{wr:World}(h:SprI w WX f l n k wr)(hf:f k=false):SprI w WX f l n (k+1) wr:=by
 refine ⟨h.row.congr (fun j _=>?_),h.blk,h.bel⟩;by_cases e:j=k
 ·subst e;have:sprI f l j=0:=by unfold sprI;rw [hf];rfl
  simp [this]
 ·by_cases e2:j<k
  ·rw [if_pos e2,if_pos (by omega)]
  ·rw [if_neg e2,if_neg (by omega)]
theorem SprI.put{w WX:World}{f:Nat->Bool}{l:List Int}{n k:Nat}{wr:World}(h:SprI w WX f l n k wr)(hf:f k=true):SprI w WX f l n (k+1) (wr.setCell ⟨w.heap.size,k,none⟩ (.int .i64 (l.getD (cnt f k) 0))):=by
 refine ⟨(h.row.set k _).congr (fun j _=>?_),fun b hb hne=>?_,h.bel.setCell (Nat.le_refl _) _⟩
 ·by_cases e:j=k
  ·subst e;have:sprI f l j=l.getD (cnt f j) 0:=by unfold sprI;rw [hf];rfl
   simp [this]
  ·by_cases e2:j<k
   ·simp [e,e2,show j<k+1 by omega]
   ·simp [e,e2,show ¬ j<k+1 by omega]
 ·rw [Below.heap_setCell _ _ _ _ hne];exact h.blk b hb hne
theorem SprI.done{w WX:World}{f:Nat->Bool}{l:List Int}{n:Nat}{wr:World}(h:SprI w WX f l n n wr):NewL w wr w.heap.size n (sprL f l n):=by
 refine ⟨fun k hk=>?_,Nat.le_refl _,h.row.lt,h.bel⟩;rw [z9w] at hk;refine ⟨w.heap.size,0,rfl,h.row.lt,?_⟩;have:=h.row.cell (i:=k) hk;simp only [hk,if_true] at this;rw [Nat.zero_add,jny hk];exact this
theorem jrg(f:Nat->Bool)(gu n:Nat)(ap:Option Addr)(np cp:Nat)(w:World)(hu:w.rowIs gu 4 n (fun j=> .bool (f j)))(hgu:gu<w.heap.size)(hn:n<=269)(hp:yas w ap np) :
  Calls Tryz.prog 66 #[.slice (some ⟨gu,0,none⟩) n n, .slice ap np cp, .int .i64 11] w fun e w'=>∃ g l,e= .returned (.slice (some ⟨g,0,none⟩) n n)∧SprK (cnt f n) l∧NewL w w' g n (sprL f l n):=by
 have HU:Hid (∀ k,k<n->w.cell? ⟨gu,k,none⟩=some (.bool (f k))):=fun k hk=>hu.cell (i:=k) hk
 have HP:Hid (yas w ap np):=hp;clear hu hp;have hmk:=run_make_row' (P:=Tryz.prog) 69 3 (.int .i64 0) 8 Tryz.underlying69 ve2 rfl .i64 .i64 n (by omega) (by omega);go_enter Tryz.func66,Tryz.ntmps66
 go_wp2_with fail
 go_loop [7,8] (fun x i=>∃ k:Nat,k<=n∧i= .int .i64 k∧x= .int .i64 (cnt f k)) (fun _ i=>n - (intOf i).toNat)
 case atStart=>exact ⟨0,Nat.zero_le _,rfl,rfl⟩
 case round=>
  obtain ⟨k,hk,rfl,rfl⟩:=hrel;have hcb:=ztd f k;by_cases hlt:k<n
  ·have cu:=HU.out k hlt;cases hf:f k with
   | false=>
    rw [hf] at cu;have HC:Hid (cnt f (k+1)=cnt f k):=ysl hf;clear hf;go_wp2_with fail
    go_round
    case rel=>exact ⟨k+1,by omega,by go_num,by rw [HC.out]⟩
    case measure=>simp [intOf];omega
   | true=>
    rw [hf] at cu;have HC:Hid (cnt f (k+1)=cnt f k+1):=kso hf;clear hf;generalize cnt f k=C at *;go_wp2_with fail
    go_round
    case rel=>exact ⟨k+1,by omega,by go_num,by rw [HC.out];go_num⟩
    case measure=>simp [intOf];omega
  ·obtain rfl:n=k:=by omega
   obtain ⟨W1,hW1⟩:∃ W1,W1=w.alloc (.cells (madeCells #[.int .i64 0] n) 3):=⟨_,rfl⟩
   have hz1:W1.heap.size=w.heap.size+1:=by rw [hW1];simp
   have hr1:W1.rowIs w.heap.size 3 n (fun _=> .int .i64 0):=by rw [hW1];exact World.rowIs_made w _ n _
   have hb1:Below w.heap.size w W1:=by rw [hW1];exact (Below.refl _ _).alloc (Nat.le_refl _) _
   by_cases h0:cnt f n=0
   ·have HN:Hid (NewL w W1 w.heap.size n (sprL f [] n)):=by
     refine SprI.done (WX:=W1) ⟨hr1.congr (fun j hj=>?_),fun _ _ _=>rfl,hb1⟩;have:sprI f [] j=0:=by unfold sprI;split <;> rfl
     simp [this]
    have HK:Hid (SprK (cnt f n) []):=Or.inl h0;rw [h0];clear h0 hr1 hb1;go_wp2_with fail
    rw [← hW1];go_ret
    exact ⟨w.heap.size,rfl,[],HK.out,HN.out⟩
   ·obtain ⟨W2,hW2⟩:∃ W2,W2=W1.alloc (.cells #[.int .i64 1] 3):=⟨_,rfl⟩
    have hz2:W2.heap.size=w.heap.size+2:=by rw [hW2];simp [hz1]
    have hb12:Below W1.heap.size W1 W2:=by rw [hW2];exact (Below.refl _ _).alloc (Nat.le_refl _) _
    have hb2:Below w.heap.size w W2:=hb1.trans (hb12.mono hb1.size);have hr2:W2.rowIs w.heap.size 3 n (fun _=> .int .i64 0):=by rw [hW2];exact hr1.alloc _
    by_cases h1:cnt f n=1
    ·obtain ⟨l,hl⟩:∃ l:List Int,l=[1]:=⟨_,rfl⟩
     obtain ⟨gl,hgl⟩:∃ gl,gl=W1.heap.size:=⟨_,rfl⟩
     obtain ⟨WX,hWX⟩:∃ WX,WX=W2:=⟨_,rfl⟩
     have HL1:Hid (l.length=1):=by show _=_;rw [hl];rfl
     have HLl:Hid (l.length=cnt f n):=by show _=_;rw [h1,hl];rfl
     have HG:Hid (gl<WX.heap.size∧gl≠w.heap.size):=⟨by rw [hWX];omega,by omega⟩
     have HLc:Hid (∀ j,j<l.length->WX.cell? ⟨gl,j,none⟩=some (.int .i64 (l.getD j 0))):=fun j hj=>by
      have:j=0:=by rw [hl] at hj;simpa using hj
      subst this;rw [hWX,hW2,hgl,hl,cell_of_row _ _ 0 _ _ _ (heap_alloc_new W1 _)];rfl
     have HS:Hid (SprI w WX f l n 0 WX):=⟨by rw [hWX];exact hr2.congr (fun j _=>by simp),fun _ _ _=>rfl,by rw [hWX];exact hb2⟩
     have HK:Hid (SprK (cnt f n) l):=Or.inr (Or.inl ⟨h1,hl⟩);rw [h1];clear h0 h1 hr1 hb1 hr2 hb2 hb12;have hgl2:w.heap.size+1=gl:=by omega
     have HW:Hid (W1=w.alloc (.cells (madeCells #[.int .i64 0] n) 3)∧W2=W1.alloc (.cells #[.int .i64 1] 3)∧WX=W2∧w.heap.size+1=gl):=⟨hW1,hW2,hWX,hgl2⟩
     clear hW1 hW2 hgl hWX hz1 hz2 hl hgl2;go_wp2_with fail
     rw [← HW.out.1,← HW.out.2.1,← HW.out.2.2.1,HW.out.2.2.2];clear HW;go_loopw [11,12] (fun a i wr=>∃ k:Nat,k<=n∧i= .int .i64 k∧a= .int .i64 (cnt f k)∧Hid (SprI w WX f l n k wr)) (fun _ i _=>n - (intOf i).toNat)
     case atStart=>exact ⟨0,Nat.zero_le _,rfl,rfl,HS⟩
     case round=>
      obtain ⟨k,hk,rfl,rfl,HR⟩:=hrel;clear HS;have hcb:=ztd f k;by_cases hlt:k<n
      ·have cu:wr.cell? ⟨gu,k,none⟩=some (.bool (f k)):=(HR.out.bel.cell (p:=⟨gu,k,none⟩) hgu).trans (HU.out k hlt);cases hf:f k with
       | false=>
        rw [hf] at cu;have HC:Hid (cnt f (k+1)=cnt f k):=ysl hf;have HN:Hid (SprI w WX f l n (k+1) wr):=HR.out.skip hf;clear HR hf;go_wp2_with fail
        go_roundw
        case rel=>exact ⟨k+1,by omega,by go_num,by rw [HC.out],HN⟩
        case measure=>simp [intOf];omega
       | true=>
        rw [hf] at cu;have HC:Hid (cnt f (k+1)=cnt f k+1):=kso hf;have hcl:cnt f k<l.length:=by rw [HLl.out];exact jjz hf hlt
        have hcl2:cnt f k<1:=by have:=HLl.out;have:=HL1.out;omega
        have cl:wr.cell? ⟨gl,cnt f k,none⟩=some (.int .i64 (l.getD (cnt f k) 0)):=by
         rw [World.cell?_of_block (HR.out.blk gl HG.out.1 HG.out.2)];exact HLc.out _ hcl
        have co:wr.cell? ⟨w.heap.size,k,none⟩=some (.int .i64 0):=by
         have:=HR.out.row.cell (i:=k) hlt;simpa using this
        have zo:=HR.out.row.frozen k;have HN:Hid (SprI w WX f l n (k+1) (wr.setCell ⟨w.heap.size,k,none⟩ (.int .i64 (l.getD (cnt f k) 0)))):=HR.out.put hf;generalize l.getD (cnt f k) 0=y at *;generalize cnt f k=C at *;clear HR hf;go_wp2_with fail
        go_roundw
        case rel=>exact ⟨k+1,by omega,by go_num,by rw [HC.out];go_num,HN⟩
        case measure=>simp [intOf];omega
      ·obtain rfl:n=k:=by omega
       have HN:Hid (NewL w wr w.heap.size n (sprL f l n)):=HR.out.done;clear HR;go_wp2_with fail
       go_ret
       first | exact ⟨w.heap.size,l,rfl,HK.out,HN.out⟩ | exact ⟨w.heap.size,rfl,l,HK.out,HN.out⟩
    ·have h2:2<=cnt f n:=by omega
     have hcn:=ztd f n;have HT:Hid (Calls Tryz.prog 96 #[.int .i64 (cnt f n), .int .i64 11, .slice ap np cp] W2 fun e w'=>∃ g cap' l,e= .returned (.slice (some ⟨g,0,none⟩) l.length cap')∧l.length=cnt f n∧Good l∧Own w' W2.heap.size g cap' l∧Below W2.heap.size W2 w'):=by
      refine z3b (cnt f n) ap np cp W2 h2 (by omega) ⟨HP.out.1,fun k hk=>?_⟩;obtain ⟨b,o,x,e,hb,hc,hx⟩:=HP.out.2 k hk;exact ⟨b,o,x,e,Nat.lt_of_lt_of_le hb hb2.size,(hb2.cell (p:=⟨b,o+k,none⟩) hb).trans hc,hx⟩
     have HW:Hid (W1=w.alloc (.cells (madeCells #[.int .i64 0] n) 3)∧W2=W1.alloc (.cells #[.int .i64 1] 3)∧W2.heap.size=w.heap.size+2∧W2.rowIs w.heap.size 3 n (fun _=> .int .i64 0)∧Below w.heap.size w W2):=⟨hW1,hW2,hz2,hr2,hb2⟩
     have HK2:Hid (2<=cnt f n):=h2;obtain ⟨c,hc⟩:∃ c,c=cnt f n:=⟨_,rfl⟩
     have HCN:Hid (c=cnt f n):=hc;rw [← hc] at HT h2 hcn;rw [← hc];clear hW1 hW2 hz1 hz2 hr1 hr2 hb1 hb2 hb12 h0 h1 hc hcb;have hce:((c:Int)==0)=false:=by simp;omega
     have hc1:decide ((1:Int)<(c:Int))=true:=by simp;omega
     go_wp2_with (go_at_call 96;rw [← HW.out.1,← HW.out.2.1];refine HT.out.mono ?_;rintro e WX ⟨gl,cl0,l,rfl,hll,hgood,hown,hbel⟩;have HO:Hid (l.length=c∧Good l∧Own WX W2.heap.size gl cl0 l∧Below W2.heap.size W2 WX):=⟨hll,hgood,hown,hbel⟩;clear hll hgood hown hbel)
     have HLl:Hid (l.length=cnt f n):=by show _=_;rw [← HCN.out];exact HO.out.1
     have HG:Hid (gl<WX.heap.size∧gl≠w.heap.size):=by
      obtain ⟨_,_,o1,o2⟩:=HO.out;have:=o1.lt gl rfl;have:=HW.out.2.2.1;exact ⟨by omega,by omega⟩
     have HLc:Hid (∀ j,j<l.length->WX.cell? ⟨gl,j,none⟩=some (.int .i64 (l.getD j 0))):=fun j hj=>by
      rw [HO.out.2.2.1.cell hj];simp [hj]
     have HS:Hid (SprI w WX f l n 0 WX):=by
      obtain ⟨_,_,z2,r2,b2⟩:=HW.out;obtain ⟨_,_,_,o2⟩:=HO.out;exact ⟨(r2.of_block (j1i o2 (by omega))).congr (fun j _=>by simp),fun _ _ _=>rfl,b2.trans (o2.mono b2.size)⟩
     have HK:Hid (SprK (cnt f n) l):=Or.inr (Or.inr ⟨HK2.out,HLl.out,HO.out.2.1⟩);have hll:l.length<=269:=by have:=HO.out.1;omega
     clear HW HT HO HCN HK2 hce hc1 h2 hcn;go_loopw [11,12] (fun a i wr=>∃ k:Nat,k<=n∧i= .int .i64 k∧a= .int .i64 (cnt f k)∧Hid (SprI w WX f l n k wr)) (fun _ i _=>n - (intOf i).toNat)
     case atStart=>exact ⟨0,Nat.zero_le _,rfl,rfl,HS⟩
     case round=>
      obtain ⟨k,hk,rfl,rfl,HR⟩:=hrel;clear HS;have hcb:=ztd f k;by_cases hlt:k<n
      ·have cu:wr.cell? ⟨gu,k,none⟩=some (.bool (f k)):=(HR.out.bel.cell (p:=⟨gu,k,none⟩) hgu).trans (HU.out k hlt);cases hf:f k with
       | false=>
        rw [hf] at cu;have HC:Hid (cnt f (k+1)=cnt f k):=ysl hf;have HN:Hid (SprI w WX f l n (k+1) wr):=HR.out.skip hf;clear HR hf;go_wp2_with fail
        go_roundw
        case rel=>exact ⟨k+1,by omega,by go_num,by rw [HC.out],HN⟩
        case measure=>simp [intOf];omega
       | true=>
        rw [hf] at cu;have HC:Hid (cnt f (k+1)=cnt f k+1):=kso hf;have hcl:cnt f k<l.length:=by rw [HLl.out];exact jjz hf hlt
        have cl:wr.cell? ⟨gl,cnt f k,none⟩=some (.int .i64 (l.getD (cnt f k) 0)):=by
         rw [World.cell?_of_block (HR.out.blk gl HG.out.1 HG.out.2)];exact HLc.out _ hcl
        have co:wr.cell? ⟨w.heap.size,k,none⟩=some (.int .i64 0):=by
         have:=HR.out.row.cell (i:=k) hlt;simpa using this
        have zo:=HR.out.row.frozen k;have HN:Hid (SprI w WX f l n (k+1) (wr.setCell ⟨w.heap.size,k,none⟩ (.int .i64 (l.getD (cnt f k) 0)))):=HR.out.put hf;generalize l.getD (cnt f k) 0=y at *;generalize cnt f k=C at *;clear HR hf;go_wp2_with fail
        go_roundw
        case rel=>exact ⟨k+1,by omega,by go_num,by rw [HC.out];go_num,HN⟩
        case measure=>simp [intOf];omega
      ·obtain rfl:n=k:=by omega
       have HN:Hid (NewL w wr w.heap.size n (sprL f l n)):=HR.out.done;clear HR;go_wp2_with fail
       go_ret
       first | exact ⟨w.heap.size,l,rfl,HK.out,HN.out⟩ | exact ⟨w.heap.size,rfl,l,HK.out,HN.out⟩
theorem vaz(f:Nat->Bool)(l:List Int)(n:Nat):sprL f l (n+1)=sprL f l n++[sprI f l n]:=by
 unfold sprL;rw [List.range_succ,List.map_append];rfl
theorem k1u(g:Nat->Int)(f:Nat->Bool)(l:List Int)(n:Nat)(h:cnt f n<=l.length):jwa g (sprL f l n)=jwa g (l.take (cnt f n)):=by
 induction n with
 | zero=>rfl
 | succ n ih=>
  rw [vaz,ypm];cases hf:f n with
  | false=>
   rw [ysl hf] at h ⊢;have e:sprI f l n=0:=by unfold sprI;rw [hf];rfl
   rw [ih h,e];simp [jwa]
  | true=>
   rw [kso hf] at h ⊢;have e:sprI f l n=l[cnt f n]:=by unfold sprI;rw [hf];simp [show cnt f n<l.length by omega]
   rw [ih (by omega),e,List.take_succ_eq_append_getElem (by omega),ypm]
theorem Good.sum{l:List Int}(h:Good l)(hl:2<=l.length):jwa gw l=2048:=by
 have e:gw=fun j=>2^(11 - j):=by
  funext j
  unfold gw;simp
 rw [e,z6q l (h.pos hl),h.2];rfl
theorem SprK.len{c:Nat}{l:List Int}(h:SprK c l):c=0∨c=l.length:=by
 rcases h with h | ⟨h,rfl⟩ | ⟨_,h,_⟩
 ·exact Or.inl h
 ·exact Or.inr h
 ·exact Or.inr h.symm
theorem SprK.sums{f:Nat->Bool}{n:Nat}{l:List Int}(h:SprK (cnt f n) l)(g:Nat->Int):jwa g (sprL f l n)=if cnt f n=0 then 0 else jwa g l:=by
 rcases h.len with e | e
 ·rw [k1u g f l n (by omega),e];rfl
 ·rw [k1u g f l n (by omega),e,List.take_length];split
  ·rename_i h0
   have:l=[]:=List.length_eq_zero_iff.1 h0;rw [this];rfl
  ·rfl
theorem SprK.full{f:Nat->Bool}{n:Nat}{l:List Int}(h:SprK (cnt f n) l)(h2:2<=cnt f n):jwa gw (sprL f l n)=2048:=by
 rw [h.sums,if_neg (by omega)];rcases h with h | ⟨h,_⟩ | ⟨_,h3,h4⟩
 ·omega
 ·omega
 ·exact h4.sum (by omega)
theorem SprK.any{f:Nat->Bool}{n:Nat}{l:List Int}(h:SprK (cnt f n) l):jwa gw (sprL f l n)=2048∨ky9 (sprL f l n)=true∨jwa (fun _=>1) (sprL f l n)=0:=by
 rcases h with h | ⟨h,e⟩ | ⟨h,h3,h4⟩
 ·exact Or.inr (Or.inr (by rw [SprK.sums (Or.inl h),if_pos h]))
 ·refine Or.inr (Or.inl ?_);have hk:SprK (cnt f n) l:=Or.inr (Or.inl ⟨h,e⟩);unfold ky9;rw [hk.sums,hk.sums,if_neg (by omega),if_neg (by omega),e];decide
 ·exact Or.inl (SprK.full (Or.inr (Or.inr ⟨h,h3,h4⟩)) h)
theorem SprK.pos{c:Nat}{l:List Int}(h:SprK c l){k:Nat}(hk:k<c):∃ hl:k<l.length,1<=l[k]∧l[k]<=11:=by
 rcases h with h | ⟨h,rfl⟩ | ⟨h,h3,h4⟩
 ·omega
 ·have:k=0:=by omega
  subst this;exact ⟨by decide,by decide,by decide⟩
 ·have hl:k<l.length:=by omega
  exact ⟨hl,h4.pos (by omega) _ (List.getElem_mem hl),(h4.1 _ (List.getElem_mem hl)).2⟩
theorem SprK.at{f:Nat->Bool}{n:Nat}{l:List Int}(h:SprK (cnt f n) l){j:Nat}(hj:j<n):(f j=true->1<=sprI f l j∧sprI f l j<=11)∧(f j=false->sprI f l j=0):=by
 refine ⟨fun hf=>?_,fun hf=>by unfold sprI;rw [hf];rfl⟩;obtain ⟨hl,h1,h2⟩:=h.pos (jjz hf hj);have e:sprI f l j=l[cnt f j]:=by unfold sprI;rw [hf];simp [hl]
 rw [e];exact ⟨h1,h2⟩
theorem SprK.range{f:Nat->Bool}{n:Nat}{l:List Int}(h:SprK (cnt f n) l):inRange (sprL f l n)=true:=by
 rw [vto];intro x hx;simp [sprL] at hx;obtain ⟨j,hj,rfl⟩:=hx;cases hf:f j with
 | true=>have:=(h.at hj).1 hf;omega
 | false=>rw [(h.at hj).2 hf];omega
theorem SprK.has{f:Nat->Bool}{n:Nat}{l:List Int}(h:SprK (cnt f n) l){j:Nat}(hj:j<n)(hf:f j=true):Has (sprL f l n) j:=by
 refine ⟨by rw [z9w];exact hj,?_⟩;rw [jny hj];have:=(h.at hj).1 hf;omega
theorem kit(f:Nat->Bool)(k:Nat):upd f k k=true:=if_pos rfl
theorem ym1{f:Nat->Bool}{k j:Nat}(h:f j=true):upd f k j=true:=by unfold upd;split <;> first | rfl | exact h
theorem kr8{f:Nat->Bool}{x:It}{j:Nat}(h:f j=true):useA f x j=true:=by cases x <;> exact ym1 h
theorem ymj{f:Nat->Bool}{x:It}{j:Nat}(h:f j=true):useB f x j=true:=by
 cases x with
 | byte x=>exact h
 | copy n far=>exact ym1 h
theorem zyq(items:List It):∀ {f:Nat->Bool} {j:Nat},f j=true->items.foldl useA f j=true:=by
 induction items with
 | nil=>exact fun h=>h
 | cons x xs ih=>exact fun h=>ih (kr8 h)
theorem ysx(items:List It):∀ {f:Nat->Bool} {j:Nat},f j=true->items.foldl useB f j=true:=by
 induction items with
 | nil=>exact fun h=>h
 | cons x xs ih=>exact fun h=>ih (ymj h)
def Asks(fa fb:Nat->Bool):It->Prop
 | .byte x=>fa x=true
 | .copy n far=>fa (257+splK 3 n)=true∧fb (splK 1 far)=true
theorem kwm(items:List It):∀ {fa fb:Nat->Bool},∀ x∈items,Asks (items.foldl useA fa) (items.foldl useB fb) x:=by
 induction items with
 | nil=>intro _ _ x hx;cases hx
 | cons y ys ih=>
  intro fa fb x hx;rcases List.mem_cons.1 hx with rfl | hx
  ·cases x with
   | byte b=>exact zyq ys (kit _ _)
   | copy n far=>exact ⟨zyq ys (kit _ _),ysx ys (kit _ _)⟩
  ·exact ih x hx
structure OwnK(items:List It)(a b:List Int):Prop where
 la:a.length=269
 lb:b.length=16
 ra:inRange a=true
 rb:inRange b=true
 bad:¬ jcj a b
 has:∀ x∈items,xqf a b x
 two:Two2 a b
 h256:Has a 256
 ok:∀ x∈items,x04 a b x
theorem vs9{f:Nat->Bool}(h0:f 0=true)(h1:f 256=true):2<=cnt f 269:=by
 have a1:cnt f 0<cnt f 256:=jjz h0 (by decide);have a2:cnt f 256<cnt f 269:=jjz h1 (by decide);omega
theorem vyz{n far:Nat}(h:3<=n∧n<=66∧1<=far∧far<=256):splK 3 n<12∧splK 1 far<16:=⟨(y1z h.1 h.2.1).1,(xx4 h.2.2.1 h.2.2.2).1⟩
theorem z08{f:Nat->Bool}{n:Nat}{l:List Int}(h:SprK (cnt f n) l):jwa gw (sprL f l n)<=2048:=by
 rw [h.sums];split
 ·decide
 ·rcases h with h | ⟨h,rfl⟩ | ⟨h,h3,h4⟩
  ·omega
  ·decide
  ·rw [h4.sum (by omega)];exact Int.le_refl _
theorem zab{items:List It}{la lb:List Int}(ha:SprK (cnt (items.foldl useA use0) 269) la)(hb:SprK (cnt (items.foldl useB (fun _=>false)) 16) lb)(hok:∀ x∈items,kg7 x) :
  OwnK items (sprL (items.foldl useA use0) la 269) (sprL (items.foldl useB (fun _=>false)) lb 16):=by
 have t0:items.foldl useA use0 0=true:=zyq items (kit _ _);have t1:items.foldl useA use0 256=true:=zyq items (ym1 (kit _ _));have full:=ha.full (vs9 t0 t1);have has:=fun x hx=>kwm items (fa:=use0) (fb:=fun _=>false) x hx
 have hIt:∀ x∈items,xqf (sprL (items.foldl useA use0) la 269) (sprL (items.foldl useB (fun _=>false)) lb 16) x:=fun x hx=>by
  have h1:=has x hx;have h2:=hok x hx;cases x with
  | byte y=>exact ha.has (by have h3:y<256:=h2;omega) h1
  | copy n far=>
   obtain ⟨b1,b2⟩:=vyz h2;exact ⟨ha.has (by omega) h1.1,hb.has (by omega) h1.2⟩
 refine ⟨z9w _ _ _,z9w _ _ _,ha.range,hb.range,?_,hIt,⟨ha.range,by omega,by rw [z9w];omega,hb.range,z08 hb,by rw [z9w];omega⟩,ha.has (by decide) t1,fun x hx=>?_⟩
 ·have h256:=(ha.has (j:=256) (by decide) t1).2;rintro (h | h | ⟨h1,h2,h3⟩)
  ·omega
  ·exact h full
  ·rcases hb.any with h | h | h
   ·exact h1 h
   ·rw [h] at h2;cases h2
   ·omega
 ·have h1:=hIt x hx;have h2:=hok x hx;cases x with
  | byte y=>exact ⟨h2,h1⟩
  | copy n far=>exact ⟨h2,h1⟩
end Go.Proofs.YtbcjmakpempkiaaGreatDoor
