import Derived.Test.YtbcjmakpempkiaaGreatDoorX36
set_option maxRecDepth 100000
set_option maxHeartbeats 8000000
set_option linter.all false
namespace Go.Proofs.YtbcjmakpempkiaaGreatDoor
open Go.RowKit
theorem zz2(l:List Nat):xu6 l=⟨(l.map UInt8.ofNat).toArray⟩:=by
 unfold xu6 strOfNums;simp [Function.comp_def]
theorem xcv{l:List Nat}(h:∀ x∈l,x<256):keg l=Lib.byteCells (l.map UInt8.ofNat):=by
 unfold keg Lib.byteCells;rw [List.map_map];apply List.map_congr_left;intro x hx;have:=h x hx;simp;omega
theorem vfo{B b:Nat}{p v:Value}{l:List Nat}{w:World}(h:BlI B b p v l w)(hB:B<=w.heap.size)(hl:∀ x∈l,x<256) :
  Calls Tryz.prog 54 #[.pointer (some ⟨b,0,none⟩)] w fun e w'=>e= .returned (.string (xu6 l))∧Below B w w':=by
 have mixed:Tryz.prog.follows Departure.mixedOrders=true:=by kernel_rfl
 have HB:Hid (BlI B b p v l w):=h;have c1:w.drew.cell? ⟨b,1,none⟩=some v:=h.cell1;have hown:=h.own;clear h;rcases hown.2 with ⟨rfl,h0⟩ | ⟨g,cap,cur,rfl,hbg,hg,hnc,hcm,hcs,htake⟩
 ·have hl0:l=[]:=List.eq_nil_of_length_eq_zero h0;subst hl0;have hSD:(Builtin.unsafeSliceData_ #[34] 165 #[.slice none 0 0]).run Tryz.prog w.drew= .ok (.pointer none) w.drew:=rfl;have hUS:=fun W=>Lib.run_unsafeString_none (P:=Tryz.prog) W 165 3 9 none
  clear hown;go_enter Tryz.func54,Tryz.ntmps54
  go_wp2_with fail
  go_region_o
  all_goals
   go_wp2_with fail
   go_ret
   exact ⟨rfl,Below.drew (Below.refl B w)⟩
 ·by_cases h0:l=[]
  ·subst h0;simp only [List.length_nil] at c1 HB hnc;by_cases hc0:cap=0
   ·subst hc0;have hg':w.drew.heap[g]?=some (.cells cur 5 (0,0)):=hg;have hSD:=Lib.run_unsafeSliceData_zero (P:=Tryz.prog) w.drew #[34] 165 5 Tryz.underlying165 ⟨g,0,none⟩ 0 (5,cur.size) (by simp [World.shape?,hg']);have hUS:=fun W=>Lib.run_unsafeString_none (P:=Tryz.prog) W 165 3 9 (some ⟨w.heap.size,0,none⟩)
    have hbl:=HB.out.lt;have c1w:w.cell? ⟨b,1,none⟩=some (.slice (some ⟨g,0,none⟩) 0 0):=HB.out.cell1;have c1':∀ o,(w.drew.alloc o).cell? ⟨b,1,none⟩=some (.slice (some ⟨g,0,none⟩) 0 0):=fun o=>by rw [xi1 (show b<w.drew.heap.size from hbl)];exact c1
    clear hown hg hg' htake hcs;go_enter Tryz.func54,Tryz.ntmps54
    go_wp2_with fail
    go_region_o
    all_goals
     go_wp2_with fail
     go_ret
     exact ⟨rfl,(Below.drew (Below.refl B w)).alloc hB _⟩
   ·have hSD:=Lib.run_unsafeSliceData_row (P:=Tryz.prog) w.drew #[34] 165 ⟨g,0,none⟩ 0 cap hc0;have hUS:=fun W=>Lib.run_unsafeString_none (P:=Tryz.prog) W 165 3 9 (some ⟨g,0,none⟩)
    clear hown hg htake hcs;go_enter Tryz.func54,Tryz.ntmps54
    go_wp2_with fail
    go_region_o
    all_goals
     go_wp2_with fail
     go_ret
     exact ⟨rfl,Below.drew (Below.refl B w)⟩
  ·have hll:l.length≠0:=by simpa using h0
   obtain ⟨lu,hlu⟩:∃ lu,lu=l.map UInt8.ofNat:=⟨_,rfl⟩
   have hlul:lu.length=l.length:=by rw [hlu];simp
   have hlu0:lu≠[]:=by intro e;rw [e] at hlul;simp at hlul;omega
   have hcells:∀ j x,lu[j]?=some x->w.drew.cell? (Addr.add ⟨g,0,none⟩ j)=some (.int .u8 x.toNat):=fun j x hx=>by
    refine hown.cells (g:=g) rfl j (.int .u8 x.toNat) ?_;rw [xcv hl,← hlu];simp [Lib.byteCells,hx]
   have hg':w.drew.heap[g]?=some (.cells cur 5 (0,0)):=hg;have hSD:=Lib.run_unsafeSliceData_row (P:=Tryz.prog) w.drew #[34] 165 ⟨g,0,none⟩ l.length cap (by omega);have hUS:=Lib.run_unsafeString_row (P:=Tryz.prog) w.drew 165 3 9 5 Tryz.underlying165 yuq g cur.size (by simp [World.shape?,hg']) lu hlu0 (by omega) (by unfold maxLen at hcm;omega) hcells;rw [hlul] at hUS;have HL:Hid (xu6 l=⟨lu.toArray⟩):=by show _=_;rw [zz2,hlu]
   generalize l.length=n at *;clear hown hg hg' htake hcs hcells hlu;go_enter Tryz.func54,Tryz.ntmps54
   go_wp2_with fail
   go_region_o
   all_goals
    go_wp2_with fail
    go_ret
    exact ⟨by rw [HL.out];rfl,Lib.below_freeze (Below.drew (Below.refl B w)) (p:=⟨g,0,none⟩) hbg _⟩
def MS.verdict(x:MS):Nat:=if x.er=0∧x.st≠24 then 15 else x.er
theorem z9n{ρ:Nat->Nat}{w:World}{p:Nat}{x:MS}(h:MM ρ w p x):Calls Tryz.prog 53 #[.pointer (some ⟨p,0,none⟩)] w fun e w'=>e= .returned (.int .i64 x.verdict)∧w'=w:=by
 have c7:=h.cell7.1;obtain ⟨L,B,_⟩:=h;have c8:w.cell? ⟨p,8,none⟩=some (.int .i64 x.er):=B.row.cell (i:=8) (by omega);clear B;unfold MS.verdict;by_cases h0:x.er=0
 ·by_cases h1:x.st=24
  ·rw [if_neg (fun h=>h.2 h1),h0];rw [h0] at c8;rw [h1] at c7;go_enter Tryz.func53,Tryz.ntmps53
   go_wp2_with fail
   go_ret
   exact ⟨rfl,rfl⟩
  ·rw [if_pos ⟨h0,h1⟩];rw [h0] at c8;have h1i:¬ (x.st:Int)=24:=by omega
   go_enter Tryz.func53,Tryz.ntmps53
   go_wp2_with fail
   go_ret
   exact ⟨rfl,rfl⟩
 ·rw [if_neg (fun h=>h0 h.1)];have h0i:¬ (x.er:Int)=0:=by omega
  go_enter Tryz.func53,Tryz.ntmps53
  go_wp2_with fail
  go_ret
  exact ⟨rfl,rfl⟩
theorem MQ.taken{ρ:Nat->Nat}{w:World}{p:Nat}{x:MS}(h:MQ ρ w p x)(most:Nat)(hm:most<=1000000):∃ r,w.cell? ⟨p,16,none⟩=some (.pointer (some ⟨r,0,none⟩))∧Calls Tryz.prog 52 #[.pointer (some ⟨r,0,none⟩), .int .i64 most] w fun e w'=>
  ∃ g,e= .returned (.slice (some ⟨g,0,none⟩) (min most x.qa.length) (min most x.qa.length))∧w.heap.size<=g∧w'.rowIs g 5 (min most x.qa.length) (fun j=> .int .u8 (x.qa.getD j 0:Nat))∧MQ ρ w' p { x with qa:=x.qa.drop (min most x.qa.length) }∧Fr mine ρ w w':=by
 obtain ⟨L,B,T,h1,h2⟩:=h;obtain ⟨o,f,k⟩:=B.ra;obtain ⟨r1,r2,_,_⟩:=B.rl;refine ⟨L.a,B.row.cell (i:=16) (by omega),(vv3 most k (T.lt _ (by rw [r2];decide)) hm).mono ?_⟩;rintro e w' ⟨g,rfl,hg,hrow,hI,hT⟩;have F:=Fr.five hT r1 r2 (by decide) (by decide);exact ⟨g,rfl,hg,hrow,⟨L,B.ringA hI hT,(T.fr5 F).same rfl rfl rfl rfl ⟨rfl,rfl⟩,h1,h2⟩,F.five_mine⟩
namespace St
def re(σ:St)(M L:Nat):St:={ σ with mem:=M,lim:=L }
structure Eff(σ σ':St):Prop where
 cnt:σ'.count<=σ.count
 hm:8*σ'.hmany+σ'.count<=8*σ.hmany+σ.count
 bg:σ.st≠23->σ'.begun=σ.begun∧σ'.st≠0∧(σ.st=0->σ'.count+8<=σ.count)
 bg2:σ.st=23->σ'.begun=σ.begun+1∧σ.fmt=2∧σ'.st=0∧σ'.count=σ.count
 fm:σ'.fmt=σ.fmt
end St
def Act.re(A:Act)(M L:Nat):Act:=
 match A with
 | .take=> .take
 | .put b σ=> .put b (σ.re M L)
 | .tau σ=> .tau (σ.re M L)
 | .fail e=> .fail e
namespace St
theorem eff_tau{σ σ':St}(W:Wf σ)(ha:σ.act= .tau σ'):Eff σ σ':=by
 rcases cases24 W.st with h | h | h | h | h | h | h | h | h | h | h | h | h | h | h | h | h | h | h | h | h | h | h | h
 all_goals
  rw [act_at h] at ha;simp only [actAt,need,headByte,text,kind,endBlock,rowNumber,endRow,symbol,literal] at ha;(repeat' split at ha)
  all_goals first
   | (cases ha;done)
   | (injection ha with ha;subst ha;exact ⟨by simp [crown,rd] <;> omega,by simp [crown,rd] <;> omega,fun h23=>by first | (exfalso;exact h23 h) | exact ⟨rfl,by simp [crown,rd,h] <;> (try split) <;> omega,fun h0=>by simp [crown,rd] <;> omega⟩,fun h23=>by first | (exfalso;omega) | exact ⟨rfl,by omega,rfl,rfl⟩,rfl⟩)
theorem eff_put{σ σ':St}{b:Nat}(W:Wf σ)(ha:σ.act= .put b σ'):Eff σ σ':=by
 rcases cases24 W.st with h | h | h | h | h | h | h | h | h | h | h | h | h | h | h | h | h | h | h | h | h | h | h | h
 all_goals
  rw [act_at h] at ha;simp only [actAt,need,headByte,text,kind,endBlock,rowNumber,endRow,symbol,literal] at ha;(repeat' split at ha)
  all_goals first
   | (cases ha;done)
   | (injection ha with _ ha;subst ha;exact ⟨by simp [crown,rd] <;> omega,by simp [crown,rd] <;> omega,fun h23=>⟨rfl,by simp [crown,rd,h],fun h0=>by omega⟩,fun h23=>by omega,rfl⟩)
theorem re_if{M L:Nat}{c c':Prop}[Decidable c][Decidable c']{A B A' B':Act}(hc:c'↔c)(ha:A'=A.re M L)(hb:B'=B.re M L):(if c' then A' else B')=(if c then A else B).re M L:=by
 by_cases h:c
 ·rw [if_pos h,if_pos (hc.2 h)];exact ha
 ·rw [if_neg h,if_neg (fun x=>h (hc.1 x))];exact hb
theorem re_need{M L:Nat}{σ:St}{k:Nat}{A A':Act}(h:A'=A.re M L):(σ.re M L).need k A'=(σ.need k A).re M L:=re_if Iff.rfl rfl h
theorem re_headByte{M L:Nat}{σ:St}{a b:Nat}(h:L<=σ.hmany↔σ.lim<=σ.hmany):(σ.re M L).headByte a b=(σ.headByte a b).re M L:=re_if h rfl (re_if Iff.rfl rfl rfl)
theorem re_text{M L:Nat}{σ:St}{a:Nat}(h:L<=σ.hmany↔σ.lim<=σ.hmany):(σ.re M L).text a=(σ.text a).re M L:=re_if h rfl rfl
theorem re_endBlock{M L:Nat}{σ:St}:(σ.re M L).endBlock=σ.endBlock.re M L:=re_if Iff.rfl (re_if Iff.rfl rfl rfl) rfl
theorem re_kind{M L:Nat}{σ:St}:(σ.re M L).kind=σ.kind.re M L:=re_if Iff.rfl (re_if Iff.rfl rfl rfl) (re_if Iff.rfl rfl (re_if Iff.rfl rfl rfl))
theorem re_endRow{M L:Nat}{σ:St}:(σ.re M L).endRow=σ.endRow.re M L:=re_if Iff.rfl rfl rfl
theorem re_rowNumber{M L:Nat}{σ:St}:(σ.re M L).rowNumber=σ.rowNumber.re M L:=re_if Iff.rfl rfl (re_if Iff.rfl rfl (re_if Iff.rfl (re_endRow (σ:={ σ.rd (hbits σ.hk) with row:=σ.row++List.replicate (hleast σ.hk+σ.num (hbits σ.hk)) (hval σ.hk σ.row),st:=13 }) (M:=M) (L:=L)) rfl))
theorem re_literal{M L:Nat}{σ:St}{k:Nat}:(σ.re M L).literal k=(σ.literal k).re M L:=by
 unfold literal;by_cases h1:k<256
 ·rw [if_pos h1,if_pos h1];rfl
 ·rw [if_neg h1,if_neg h1];by_cases h2:k=256
  ·rw [if_pos h2,if_pos h2];exact re_endBlock
  ·rw [if_neg h2,if_neg h2];rfl
theorem re_symbol{M L:Nat}{σ:St}{l:List Int}{f f':St->Nat->Act}(h:∀ τ k,f' (St.re τ M L) k=(f τ k).re M L):(σ.re M L).symbol l f'=(σ.symbol l f).re M L:=by
 show (match jcs l σ.held σ.count with | .hit k m=>f' ((σ.rd m).re M L) k | .more=>Act.take | .none=> .fail 11)=(match jcs l σ.held σ.count with | .hit k m=>f (σ.rd m) k | .more=>Act.take | .none=> .fail 11).re M L;cases jcs l σ.held σ.count with
 | hit k m=>exact h _ _
 | more=>rfl
 | none=>rfl
theorem act_re{σ:St}(W:Wf σ){M L:Nat}(h1:¬ σ.lim<=σ.hmany)(h1':¬ L<=σ.hmany)(h2:¬ σ.mem<=σ.begun)(h2':¬ M<=σ.begun):(σ.re M L).act=σ.act.re M L:=by
 have hL:L<=σ.hmany↔σ.lim<=σ.hmany:=⟨fun h=>absurd h h1',fun h=>absurd h h1⟩
 have hM:M<=σ.begun↔σ.mem<=σ.begun:=⟨fun h=>absurd h h2',fun h=>absurd h h2⟩
 rcases cases24 W.st with h | h | h | h | h | h | h | h | h | h | h | h | h | h | h | h | h | h | h | h | h | h | h | h
 ·rw [act_at h,act_at (show (σ.re M L).st=0 from h)];exact re_need (re_headByte hL)
 ·rw [act_at h,act_at (show (σ.re M L).st=1 from h)];exact re_need (re_headByte hL)
 ·rw [act_at h,act_at (show (σ.re M L).st=2 from h)];exact re_if Iff.rfl (re_need (re_if hL rfl (re_if Iff.rfl rfl rfl))) rfl
 ·rw [act_at h,act_at (show (σ.re M L).st=3 from h)];exact re_if Iff.rfl (re_need (re_text hL)) rfl
 ·rw [act_at h,act_at (show (σ.re M L).st=4 from h)];exact re_if Iff.rfl (re_need (re_text hL)) rfl
 ·rw [act_at h,act_at (show (σ.re M L).st=5 from h)];exact re_if Iff.rfl (re_need (re_headByte hL)) rfl
 ·rw [act_at h,act_at (show (σ.re M L).st=6 from h)];exact re_need re_kind
 ·rw [act_at h,act_at (show (σ.re M L).st=7 from h)];exact re_need (re_if Iff.rfl rfl rfl)
 ·rw [act_at h,act_at (show (σ.re M L).st=8 from h)];exact re_if Iff.rfl re_endBlock (re_need rfl)
 ·rw [act_at h,act_at (show (σ.re M L).st=9 from h)];exact re_need (re_if Iff.rfl rfl rfl)
 ·rw [act_at h,act_at (show (σ.re M L).st=10 from h)];exact re_need rfl
 ·rw [act_at h,act_at (show (σ.re M L).st=11 from h)];exact re_need (re_if Iff.rfl rfl rfl)
 ·rw [act_at h,act_at (show (σ.re M L).st=12 from h)];exact re_if Iff.rfl (re_need rfl) (re_if Iff.rfl rfl rfl)
 ·rw [act_at h,act_at (show (σ.re M L).st=13 from h)];show (σ.re M L).symbol σ.hs (fun τ k=> .tau { τ with hk:=k,st:=14 })=(σ.symbol σ.hs (fun τ k=> .tau { τ with hk:=k,st:=14 })).re M L;refine re_symbol ?_;intro τ k;rfl
 ·rw [act_at h,act_at (show (σ.re M L).st=14 from h)];exact re_need re_rowNumber
 ·rw [act_at h,act_at (show (σ.re M L).st=15 from h)];exact rfl
 ·rw [act_at h,act_at (show (σ.re M L).st=16 from h)];refine re_symbol ?_;intro τ k;exact re_literal
 ·rw [act_at h,act_at (show (σ.re M L).st=17 from h)];exact re_need rfl
 ·rw [act_at h,act_at (show (σ.re M L).st=18 from h)];show (σ.re M L).symbol σ.lb (fun τ k=> .tau { τ with least:=Tr.spanLeast 1 k,bits:=Tr.spanBits k,st:=19 })=(σ.symbol σ.lb (fun τ k=> .tau { τ with least:=Tr.spanLeast 1 k,bits:=Tr.spanBits k,st:=19 })).re M L;refine re_symbol ?_;intro τ k;rfl
 ·rw [act_at h,act_at (show (σ.re M L).st=19 from h)];exact re_need (re_if Iff.rfl rfl rfl)
 ·rw [act_at h,act_at (show (σ.re M L).st=20 from h)];exact re_if Iff.rfl rfl rfl
 ·rw [act_at h,act_at (show (σ.re M L).st=21 from h)];exact re_if Iff.rfl rfl (re_need (re_if Iff.rfl rfl rfl))
 ·rw [act_at h,act_at (show (σ.re M L).st=22 from h)];exact re_if Iff.rfl (re_need (re_if Iff.rfl rfl rfl)) rfl
 ·rw [act_at h,act_at (show (σ.re M L).st=23 from h)];exact re_need (re_if Iff.rfl rfl (re_if hM rfl rfl))
structure Cnt(c:Cf):Prop where
 hm:8*c.σ.hmany+c.σ.count<=8*c.pre.length
 bg:8*c.σ.begun+c.σ.count<=8*c.pre.length+8∨(c.σ.fmt≠2∧c.σ.begun=1)
 bg2:c.σ.st≠0->c.σ.fmt=2->8*c.σ.begun+c.σ.count<=8*c.pre.length
end St
theorem Cnt.begin(fm mem lim:Nat):St.Cnt (Cf.begin fm mem lim):=by
 refine ⟨by show 8*0+0<=8*0;omega,Or.inl (by show 8*1+0<=8*0+8;omega),fun h h2=>?_⟩;exfalso
 have h2':fm=2:=h2;apply h;show (if fm=0 then 6 else 0)=0;rw [if_neg (by omega)]
theorem Cnt.step{q:Quo}{D:Nat}{s:ByteArray}{c c':Cf}(W:St.Wf c.σ)(h:St.Cnt c)(st:j3w q D s c c'):St.Cnt c':=by
 obtain ⟨a1,a2,a3⟩:=h;have key:∀ σ',St.Eff c.σ σ'->(8*σ'.hmany+σ'.count<=8*c.pre.length)∧(8*σ'.begun+σ'.count<=8*c.pre.length+8∨(σ'.fmt≠2∧σ'.begun=1))∧(σ'.st≠0->σ'.fmt=2->8*σ'.begun+σ'.count<=8*c.pre.length):=fun σ' E=>by
  obtain ⟨e1,e2,e3,e4,e5⟩:=E;refine ⟨by omega,?_,fun g1 g2=>?_⟩
  ·by_cases h23:c.σ.st=23
   ·obtain ⟨f1,f2,f3,f4⟩:=e4 h23;have:=a3 (by omega) f2;left;omega
   ·obtain ⟨f1,f2,f3⟩:=e3 h23;rcases a2 with a2 | ⟨a2,a2'⟩
    ·left;omega
    ·right;exact ⟨by rw [e5];exact a2,by omega⟩
  ·by_cases h23:c.σ.st=23
   ·exact absurd (e4 h23).2.2.1 g1
   ·obtain ⟨f1,f2,f3⟩:=e3 h23;by_cases h0:c.σ.st=0
    ·have:=f3 h0;rcases a2 with a2 | ⟨a2,_⟩
     ·omega
     ·exact absurd (e5.symm.trans g2) a2
    ·have:=a3 h0 (by rw [← e5];exact g2);omega
 cases st with
 | take h1 h2 h3=>
  refine ⟨?_,?_,fun g1 g2=>?_⟩
  ·show 8*c.σ.hmany+(c.σ.count+8)<=8*(c.pre++[_]).length;rw [List.length_append,List.length_singleton];omega
  ·show 8*c.σ.begun+(c.σ.count+8)<=8*(c.pre++[_]).length+8∨(c.σ.fmt≠2∧c.σ.begun=1);rw [List.length_append,List.length_singleton];rcases a2 with a2 | a2
   ·left;omega
   ·right;exact a2
  ·show 8*c.σ.begun+(c.σ.count+8)<=8*(c.pre++[_]).length;rw [List.length_append,List.length_singleton];have:=a3 g1 g2;omega
 | put b σ' h1 h2 h3=>obtain ⟨k1,k2,k3⟩:=key σ' (St.eff_put W h1);exact ⟨k1,k2,k3⟩
 | tau σ' h1=>obtain ⟨k1,k2,k3⟩:=key σ' (St.eff_tau W h1);exact ⟨k1,k2,k3⟩
def Cf.re(c:Cf)(M L:Nat):Cf:={ c with σ:=c.σ.re M L }
structure Far(s:ByteArray)(c:Cf)(M L:Nat):Prop where
 m:s.size+1<c.σ.mem∧s.size+1<M
 l:s.size<c.σ.lim∧s.size<L
theorem Cnt.act_re{s:ByteArray}{c:Cf}{M L:Nat}(W:St.Wf c.σ)(h:St.Cnt c)(hl:c.pre.length<=s.size)(F:Far s c M L):(c.σ.re M L).act=c.σ.act.re M L:=by
 have h1:=h.hm;have h2:=h.bg;obtain ⟨f1,f2⟩:=F;refine St.act_re W (by omega) (by omega) ?_ ?_
 ·rcases h2 with h2 | h2 <;> omega
 ·rcases h2 with h2 | h2 <;> omega
theorem v44.re{q:Quo}{D:Nat}{s:ByteArray}{a b:Cf}{M L:Nat}(h:v44 q D s a b):St.Wf a.σ->St.Cnt a->a.pre.length<=s.size->Far s a M L->v44 q D s (a.re M L) (b.re M L)∧St.Cnt b∧b.pre.length<=s.size∧Far s b M L∧St.Wf b.σ:=by
 induction h with
 | refl c=>exact fun W C hl F=>⟨.refl _,C,hl,F,W⟩
 | step a b c h1 _ ih=>
  intro W C hl F;have N:=St.next W;have ha:=Cnt.act_re W C hl F;have C1:=Cnt.step W C h1;have key:j3w q D s (a.re M L) (b.re M L)∧St.Wf b.σ∧b.pre.length<=s.size∧b.σ.mem=a.σ.mem∧b.σ.lim=a.σ.lim:=by
   cases h1 with
   | take g1 g2 g3=>
    rw [g1] at ha N;refine ⟨j3w.take (a.re M L) ha g2 g3,N _ (z5g _ _),?_,rfl,rfl⟩;show (a.pre++[_]).length<=s.size;rw [List.length_append,List.length_singleton];omega
   | put y σ' g1 g2 g3=>
    rw [g1] at ha N;exact ⟨j3w.put (a.re M L) y (σ'.re M L) ha g2 g3,N.1,hl,N.2.2.2.2.1,N.2.2.2.2.2⟩
   | tau σ' g1=>
    rw [g1] at ha N;exact ⟨j3w.tau (a.re M L) (σ'.re M L) ha,N.1,hl,N.2.2.2.1,N.2.2.2.2.1⟩
  obtain ⟨k1,k2,k3,k4,k5⟩:=key;obtain ⟨i1,i2⟩:=ih k2 C1 k3 ⟨by rw [k4];exact F.m,by rw [k5];exact F.l⟩;exact ⟨.step _ _ _ k1 i1,i2⟩
namespace Tr
theorem mean_obs{t:Tr}{o a:List Nat}{i:Nat}{s:List Nat}{e:Nat}{n:Bool}(h:obs t=⟨o,a,i,s,e,n⟩):t.mean=if e≠0 then (⟨#[]⟩,e) else if n then (⟨#[]⟩,15) else (xu6 o,0):=by
 unfold obs at h;injection h with h1 h2 h3 h4 h5 h6
 unfold Tr.mean;rw [h1,h5,h6]
end Tr
theorem Sm.drain{q:Quo}{D:Nat}{s:ByteArray}{x:MS}{c:Cf}(h:Sm q D s x c)(k:Nat)(hk:D+k<=c.outs.length):Sm q (D+k) s { x with qa:=x.qa.drop k } c:=
 { h with
  qa:=by show x.qa.drop k=c.outs.drop (D+k);rw [h.qa,List.drop_drop]
  dle:=⟨hk,by have:=h.dle.2;omega⟩ }
theorem yvw.drain{q:Quo}{D:Nat}{s:ByteArray}{x:MS}{c:Cf}(h:yvw q D s x c)(k:Nat)(hk:D+k<=c.outs.length):yvw q (D+k) s { x with qa:=x.qa.drop k } c:=by
 cases h with
 | run h=>exact .run ⟨h.sm.drain k hk,h.st,h.mb,h.pre⟩
 | fresh h a b e=>exact .fresh (h.drain k hk) a b e
 | between h a b e f g i=>exact .between (h.drain k hk) a b e f g i
theorem Sm.feed{q:Quo}{D:Nat}{s:ByteArray}{x:MS}{c:Cf}(h:Sm q D s x c)(s':ByteArray)(hs:c.pre.length<=s'.size):Sm q D s' { x with rest:=jlo s' c.pre.length } c:=
 { h with
  rest:=rfl
  le:=hs }
theorem yvw.feed{q:Quo}{D:Nat}{s:ByteArray}{x:MS}{c:Cf}(h:yvw q D s x c)(s':ByteArray)(hs:c.pre.length<=s'.size):yvw q D s' { x with rest:=jlo s' c.pre.length } c:=by
 cases h with
 | run h=>exact .run ⟨h.sm.feed s' hs,h.st,h.mb,h.pre⟩
 | fresh h a b e=>exact .fresh (h.feed s' hs) a b e
 | between h a b e f g i=>exact .between (h.feed s' hs) a b e f g i
theorem yvw.first{q:Quo}{fm mem lim:Nat}(hfm:fm<3)(hm:1<=mem)(s:ByteArray):yvw q 0 s { MS.fresh fm q.out q.ratio q.slack mem lim q.steps with rest:=jlo s 0 } (Cf.begin fm mem lim):=by
 refine .fresh ?_ rfl rfl rfl;have hst:(Cf.begin fm mem lim).σ.st=if fm=0 then 6 else 0:=rfl;have h14:¬ 10<=(Cf.begin fm mem lim).σ.st:=by rw [hst];split <;> omega
 exact {
   wf:=St.begin_wf hfm
   fm:=rfl
   me:=rfl
   he:=rfl
   ou:=rfl
   ra:=rfl
   sl:=rfl
   sp:=rfl
   er:=rfl
   tk:=rfl
   pu:=rfl
   rest:=rfl
   le:=Nat.zero_le _
   held:=rfl
   count:=rfl
   qa:=rfl
   dle:=⟨Nat.zero_le _,Nat.zero_le _⟩
   qc:=by show ([]:List Nat)=List.drop _ [];rw [List.drop_nil]
   marks:=rfl
   head:=⟨rfl,Nat.zero_le _⟩
   hsum:=rfl
   sum:=fun h=>absurd rfl h
   sumle:=⟨Nat.zero_le _,Nat.zero_le _⟩
   stp:=Nat.zero_le _
   size:=rfl
   last:=rfl
   left:=rfl
   nl:=fun h=>absurd h.1 h14
   nd:=fun h=>absurd (Nat.le_trans (by decide) h.1) h14
   told:=fun h=>absurd (Nat.le_trans (by decide) h.1) h14
   hl:=rfl
   row:=rfl
   hs:=fun h=>absurd (Nat.le_trans (by decide) h.1) h14
   hk:=fun h=>absurd (by rw [h];decide) h14
   la:=fun h=>absurd (Nat.le_trans (by decide) h.1) h14
   lit:=rfl
   span:=⟨rfl,rfl⟩
   dist:=rfl
   mb:=⟨rfl,hm⟩ }
theorem j3w.outMu{q:Quo}{D:Nat}{s:ByteArray}{a b:Cf}(W:St.Wf a.σ)(h:j3w q D s a b):b.outs.length+muC s b<=a.outs.length+muC s a:=by
 have m:=(h.mu W).2;cases h with
 | take h1 h2 h3=>show a.outs.length+_<=_;omega
 | put y σ' h1 h2 h3=>
  show (a.outs++[y]).length+_<=_;rw [List.length_append,List.length_singleton];omega
 | tau σ' h1=>show a.outs.length+_<=_;omega
theorem v44.outMu{q:Quo}{D:Nat}{s:ByteArray}{a b:Cf}(h:v44 q D s a b):St.Wf a.σ->b.outs.length+muC s b<=a.outs.length+muC s a:=by
 induction h with
 | refl=>exact fun _=>Nat.le_refl _
 | step a b c h1 _ ih=>
  intro W;have:=h1.outMu W;have:=ih (h1.mu W).1;omega
theorem v44.bytes{q:Quo}{D:Nat}{s:ByteArray}{a b:Cf}(h:v44 q D s a b):St.Wf a.σ->(∀ y∈a.outs,y<256)->∀ y∈b.outs,y<256:=by
 induction h with
 | refl=>exact fun _ h=>h
 | step a b c h1 _ ih=>
  intro W hb;refine ih (h1.mu W).1 ?_;cases h1 with
  | take=>exact hb
  | put z σ' g1 g2 g3=>
   have N:=St.next W;rw [g1] at N;intro y hy;rcases List.mem_append.1 hy with hy | hy
   ·exact hb y hy
   ·rw [List.mem_singleton.1 hy];exact N.2.1
  | tau=>exact hb
inductive x0d(s:ByteArray):Nat->MS->List Nat->ByteArray×Nat->Prop
 | go (k n:Nat) (x:MS) (l:List Nat) (r:MS×Nat) (res:ByteArray×Nat):x.tk<=s.size->vgc n { x with rest:=jlo s x.tk } r->r.2=2->r.1.qa.length<=64->(∀ y∈l++r.1.qa,y<256)->l.length+64<=10000000000000->x0d s k { r.1 with rest:=[],qa:=[] } (l++r.1.qa) res->x0d s (k+1) x l res
 | stop (n:Nat) (x:MS) (l:List Nat) (r:MS×Nat):x.tk<=s.size->vgc n { x with rest:=jlo s x.tk } r->r.2≠2->r.1.qa.length<=64->(∀ y∈l++r.1.qa,y<256)->l.length+64<=10000000000000->x0d s 0 x l (if MS.verdict r.1≠0 then (⟨#[]⟩,MS.verdict r.1) else (xu6 (l++r.1.qa),0))
def kor:Quo:=⟨9223372036854775807,0,9223372036854775807,9223372036854775807⟩
theorem x3k:Lim kor 9223372036854775807 9223372036854775807:=⟨Nat.le_refl _,by show 0*9223372036854775807+9223372036854775807<=9223372036854775807;omega,Nat.le_refl _,Nat.le_refl _,Nat.le_refl _⟩
theorem Halt.cases{q:Quo}{D:Nat}{s:ByteArray}{c:Cf}{e:Nat}(h:Halt q D s false c e none):(e=0)∨(q.steps<=c.pre.length+c.outs.length)∨(∃ b σ',c.σ.act= .put b σ'∧vcn q c.pre.length c.outs.length=e∧e≠0)∨c.σ.act= .fail e:=by
 generalize hn:(none:Option Bool)=a at h;cases h with
 | hungry h1 h2=>left;rw [if_neg (fun h=>by cases h.1)]
 | steps h1 h2 h3=>right;left;exact h3
 | full b σ' h1 h2=>left;rfl
 | quota b σ' h1 h2 h3=>right;right;left;exact ⟨b,σ',h1,rfl,h3⟩
 | fail _ h1=>right;right;right;exact h1
theorem zjb(s:ByteArray)(fm mem lim:Nat)(h:fm<3):muC s (Cf.begin fm mem lim)<=1000*s.size+100:=by
 have:=St.loc_lt (St.begin_wf (mem:=mem) (lim:=lim) h);unfold muC St.phi;show 1000*(s.size - 0)+(100*0+_)<=_;have e:(Cf.begin fm mem lim).σ=St.begin fm mem lim:=rfl;rw [e];omega
structure Came(fm:Nat)(s:ByteArray)(c:Cf):Prop where
 path:v44 kor c.outs.length s (Cf.begin fm 9223372036854775807 9223372036854775807) c
theorem Came.begin(fm:Nat)(s:ByteArray):Came fm s (Cf.begin fm 9223372036854775807 9223372036854775807):=⟨.refl _⟩
theorem Came.facts{fm:Nat}{s:ByteArray}{c:Cf}(h:Came fm s c)(hfm:fm<3)(hs:s.size<=1000000000) :
  zi6 fm 9223372036854775807 9223372036854775807 c∧zik c.pre s∧c.outs.length<=1000*s.size+100∧(∀ y∈c.outs,y<256)∧GI fm 1152921504606846976 1152921504606846976 (c.re 1152921504606846976 1152921504606846976)∧(c.σ.re 1152921504606846976 1152921504606846976).act=c.σ.act.re 1152921504606846976 1152921504606846976:=by
 obtain ⟨G,T⟩:=zi6.steps h.path (zi6.begin hfm (by decide)) (zik.nil s);have W0:=St.begin_wf (mem:=9223372036854775807) (lim:=9223372036854775807) hfm;have h1:=h.path.outMu W0;have h2:=zjb s fm 9223372036854775807 9223372036854775807 hfm;have h3:(Cf.begin fm 9223372036854775807 9223372036854775807).outs.length=0:=rfl;have R:=v44.re (M:=1152921504606846976) (L:=1152921504606846976) h.path W0 (Cnt.begin _ _ _) (Nat.zero_le _) ⟨⟨by show s.size+1<9223372036854775807;omega,by omega⟩,⟨by show s.size<9223372036854775807;omega,by omega⟩⟩;obtain ⟨R1,R2,R3,R4,R5⟩:=R;have G':=(zi6.steps R1 (zi6.begin (fm:=fm) (mem:=1152921504606846976) (lim:=1152921504606846976) hfm (by decide)) (zik.nil s)).1;exact ⟨G,T,by omega,h.path.bytes W0 (fun y hy=>by cases hy),G'.gi,Cnt.act_re R5 R2 R3 R4⟩
theorem Came.go{fm:Nat}{s:ByteArray}{c c':Cf}(h:Came fm s c)(hfm:fm<3)(st:v44 kor c.outs.length s c c'):Came fm s c':=by
 have T:=(zi6.steps (h.path.trans st) (zi6.begin hfm (by decide)) (zik.nil s)).2;obtain ⟨k,hk⟩:=st.grows.outs;exact ⟨(h.path.trans st).mono (by rw [hk,List.length_append];omega) T⟩
theorem kmg{fm:Nat}{s:ByteArray}(h0:s.size=0):(Tr.readAll fm s).mean=(⟨#[]⟩,15):=by
 have hT:Tr.obs (Tr.readAll fm s)=⟨[],[],0,[],0,true⟩:=by
  unfold Tr.readAll Tr.read Tr.readRaw Tr.readShort Tr.readLong;simp only [if_pos h0];split
  ·rfl
  ·split <;> rfl
 rw [Tr.mean_obs hT,if_neg (by decide),if_pos rfl]
theorem xy1{fm:Nat}{s:ByteArray}{D:Nat}{x:MS}{c:Cf}(h:Came fm s c)(hfm:fm<3)(hs:s.size<=1000000000)(S:yvw kor D s x c)(ha:c.σ.act= .take)(hl:s.size<=c.pre.length) :
  (Tr.readAll fm s).mean=if MS.verdict x≠0 then (⟨#[]⟩,MS.verdict x) else (xu6 c.outs,0):=by
 obtain ⟨G,T,_,_,GI',hact⟩:=h.facts hfm hs;have hle:=S.sm.le;have her:=S.sm.er;have main:s.size≠0->(Tr.readAll fm s).mean=if c.σ.st<23 then (⟨#[]⟩,15) else (xu6 c.outs,0):=fun h0=>by
  have O:=GI'.hungry (show (c.σ.re _ _).act=_ by rw [hact,ha];rfl) h0 T (show s.size=c.pre.length by omega);unfold Tr.readAll;rw [Tr.mean_obs O,if_neg (by decide)];show (if decide (c.σ.st<23)=true then _ else (xu6 c.outs,0))=_;by_cases h1:c.σ.st<23
  ·rw [if_pos (by simpa using h1),if_pos h1]
  ·rw [if_neg (by simpa using h1),if_neg h1]
 cases S with
 | run N=>
  rw [main (by have:=N.pre;omega)];have hst:=N.st;have hw:=N.sm.wf.st;unfold MS.verdict;by_cases h1:c.σ.st<23
  ·rw [if_pos h1,if_pos (show x.er=0∧x.st≠24 from ⟨her,by omega⟩),if_pos (by decide)]
  ·rw [if_neg h1,if_neg (show ¬ (x.er=0∧x.st≠24) from fun h=>h.2 (by omega)),her,if_neg (by decide)]
 | fresh _ e1 _ e2=>
  have h0:c.pre.length=0:=by rw [e2];rfl
  rw [kmg (by omega)];unfold MS.verdict;rw [if_pos (show x.er=0∧x.st≠24 from ⟨her,by omega⟩),if_pos (by decide)]
 | between _ _ _ h23 _ h8 _=>
  exfalso
  rw [St.act_at h23] at ha;simp only [St.actAt,St.need] at ha;rw [if_neg (by omega)] at ha;(repeat' split at ha) <;> cases ha
theorem k0m{fm:Nat}{s:ByteArray}{D:Nat}{x:MS}{c:Cf}{e:Nat}(h:Came fm s c)(hfm:fm<3)(hs:s.size<=1000000000)(S:Dead kor x c e)(hst:Stop kor D s c e)(l:List Nat) :
  (Tr.readAll fm s).mean=if MS.verdict x≠0 then (⟨#[]⟩,MS.verdict x) else (xu6 l,0):=by
 obtain ⟨G,T,ho,_,GI',hact⟩:=h.facts hfm hs;have hT:=T.len;have hv:MS.verdict x=e:=by unfold MS.verdict;rw [if_neg (fun h=>S.ne (S.er.symm.trans h.1)),S.er]
 have hf:c.σ.act= .fail e:=by
  rcases (hst false).cases with h1 | h1 | ⟨b,σ',h1,h2,h3⟩ | h1
  ·exact absurd h1 S.ne
  ·have h2:9223372036854775807<=c.pre.length+c.outs.length:=h1;omega
  ·exfalso
   apply h3;rw [← h2];unfold vcn;show (if 9223372036854775807<=c.pre.length+c.outs.length then 16 else if 9223372036854775807<=c.outs.length then 17 else if 0*c.pre.length+9223372036854775807<=c.outs.length then 18 else 0)=0;rw [if_neg (by omega),if_neg (by omega),if_neg (by omega)]
  ·exact h1
 have h0:s.size≠0:=fun h0=>by
  have hp:c.pre=[]:=List.length_eq_zero_iff.1 (by omega);have:=(G.fs.act hp).1;rw [hf] at this;cases this
 have O:=GI'.fail (e:=e) (show (c.σ.re _ _).act=_ by rw [hact,hf];rfl) h0 T;unfold Tr.readAll;rw [Tr.mean_obs O.1,hv];rw [if_pos S.ne,if_pos S.ne]
theorem y2i{fm:Nat}{s:ByteArray}(hfm:fm<3)(hs:s.size<=1000000000)(m:Nat):∀ {x:MS} {c:Cf},muC s c<=m->yvw kor c.outs.length s { x with rest:=jlo s x.tk } c->Came fm s c->∃ k,x0d s k x c.outs (Tr.readAll fm s).mean:=by
 induction m using Nat.strongRecOn with
 | _ m ih=>
  intro x c hm S C;obtain ⟨G,T,ho,hb,_,_⟩:=C.facts hfm hs;have htk:x.tk=c.pre.length:=S.sm.tk;have hle:c.pre.length<=s.size:=S.sm.le;obtain ⟨n,r,R,E⟩:=S.runs (by rw [G.gi.memE,G.gi.limE];exact x3k);cases E with
  | full c' b σ' h1 h2 h3 h4 h5=>
   have C':=C.go hfm h1;obtain ⟨k,hk⟩:=h1.grows.outs;have hq:r.1.qa=k:=by rw [h3.sm.qa,hk,List.drop_left]
   have hd:=h3.sm.dle;have hl:k.length<=64:=by rw [hk,List.length_append] at hd;omega
   have hmu:=h1.outMu S.sm.wf;obtain ⟨_,_,_,hb',_,_⟩:=C'.facts hfm hs;have S':yvw kor c'.outs.length s { ({ r.1 with rest:=[],qa:=[] }:MS) with rest:=jlo s ({ r.1 with rest:=[],qa:=[] }:MS).tk } c':=by
    have h6:=h3.drain k.length (by rw [hk,List.length_append];exact Nat.le_refl _);have e1:c.outs.length+k.length=c'.outs.length:=by rw [hk,List.length_append]
    rw [e1,hq,List.drop_length] at h6;have h7:=h6.feed s h3.sm.le;rw [← h3.sm.tk] at h7;exact h7
   obtain ⟨j,hj⟩:=ih (muC s c') (by omega) (Nat.le_refl _) S' C';rw [hk,← hq] at hj;refine ⟨j+1, .go j n x c.outs r _ (by omega) R h2 (by rw [hq];exact hl) ?_ (by omega) hj⟩;rw [hq,← hk];exact hb'
  | hungry c' h1 h2 h3 h4 h5=>
   have C':=C.go hfm h1;obtain ⟨k,hk⟩:=h1.grows.outs;have hq:r.1.qa=k:=by rw [h3.sm.qa,hk,List.drop_left]
   have hd:=h3.sm.dle;have hl:k.length<=64:=by rw [hk,List.length_append] at hd;omega
   obtain ⟨_,_,_,hb',_,_⟩:=C'.facts hfm hs;refine ⟨0,?_⟩;rw [xy1 C' hfm hs h3 h4 h5,hk,← hq];exact .stop n x c.outs r (by omega) R (by omega) (by rw [hq];exact hl) (by rw [hq,← hk];exact hb') (by omega)
  | dead c' e h1 h2 h3 h4=>
   have C':=C.go hfm h1;refine ⟨0,?_⟩;rw [k0m C' hfm hs h3 h4 (c.outs++r.1.qa)];exact .stop n x c.outs r (by omega) R (by omega) (by rw [h3.qa];decide) (by rw [h3.qa,List.append_nil];exact hb) (by omega)
theorem y1x{fm:Nat}{s:ByteArray}(hfm:fm<3)(hs:s.size<=1000000000):∃ k,x0d s k (MS.fresh fm 9223372036854775807 0 9223372036854775807 9223372036854775807 9223372036854775807 9223372036854775807) [] (Tr.readAll fm s).mean:=
 y2i hfm hs _ (Nat.le_refl _) (c:=Cf.begin fm 9223372036854775807 9223372036854775807) (yvw.first (q:=kor) (mem:=9223372036854775807) (lim:=9223372036854775807) hfm (by decide) s) (Came.begin fm s)
theorem MB.fr0{ρ:Nat->Nat}{w w':World}{p:Nat}{x:MS}{L:Lo}(h:MB ρ w p x L)(f:Kp (fun r=>r=0) ρ w w'):MB ρ w' p x L where
 row:=zlz h.row f (by rw [h.rp];decide)
 ra:=by obtain ⟨o,g,k⟩:=h.ra;obtain ⟨r1,r2,r3,r4⟩:=h.rl;exact ⟨o,g,k.kp f (by rw [r1];decide) (by rw [r2];decide)⟩
 rc:=by obtain ⟨o,g,k⟩:=h.rc;obtain ⟨r1,r2,r3,r4⟩:=h.rl;exact ⟨o,g,k.kp f (by rw [r3];decide) (by rw [r4];decide)⟩
 rp:=h.rp
 rl:=h.rl
theorem MQ.fr0{ρ:Nat->Nat}{w w':World}{p:Nat}{x:MS}(h:MQ ρ w p x)(f:Kp (fun r=>r=0) ρ w w'):MQ ρ w' p x:=by
 obtain ⟨L,h1,h2,h3⟩:=h;exact ⟨L,h1.fr0 f,h2.fr f (fun r e=>by omega),h3⟩
theorem MQ.lt{ρ:Nat->Nat}{w:World}{p:Nat}{x:MS}(h:MQ ρ w p x):(∀ k,ρ k≠0->k<w.heap.size)∧ρ p=1∧p<w.heap.size:=by
 obtain ⟨L,h1,h2,_⟩:=h;exact ⟨h2.lt,h1.rp,h1.row.lt⟩
theorem MQ.tk{ρ:Nat->Nat}{w:World}{p:Nat}{x:MS}(h:MQ ρ w p x):w.cell? ⟨p,9,none⟩=some (.int .i64 x.tk):=by
 obtain ⟨L,h1,_,_⟩:=h;exact h1.row.cell (i:=9) (by omega)
theorem BlI.kp{R:Nat->Prop}{ρ:Nat->Nat}{B b:Nat}{p v:Value}{l:List Nat}{w w':World}(h:BlI B b p v l w)(k:Kp R ρ w w')(h1:¬ R (ρ b))(h2:∀ g,v.ownBlock=some g->¬ R (ρ g)):BlI B b p v l w':=⟨h.le,zlz h.at_ k h1,kcz h.own k h2,h.ne,h.self⟩
theorem x2f{s:ByteArray}{i:Nat}(h:i<=s.size):strN (s.extract i s.size)=jlo s i:=by
 unfold strN jlo strN;rw [ByteArray.data_extract,Array.toList_extract,List.extract_eq_take_drop,List.map_take,List.map_drop];apply List.take_of_length_le;rw [List.length_drop,List.length_map];exact Nat.le_refl _
structure xpd(w0:World)(p b:Nat)(s:ByteArray)(res:ByteArray×Nat)(ρ:Nat->Nat)(x:MS)(pb vb:Value)(l:List Nat)(w:World):Prop where
 mq:MQ ρ w p x
 bl:BlI w0.heap.size b pb vb l w
 rb:ρ b=0
 rv:∀ g,vb.ownBlock=some g->ρ g=0
 nw:∀ k,ρ k≠0->w0.heap.size<=k
 bel:Below w0.heap.size w0 w
theorem xpd.below{w0:World}{p b:Nat}{s:ByteArray}{res:ByteArray×Nat}{ρ:Nat->Nat}{x:MS}{pb vb:Value}{l:List Nat}{w w':World}(h:xpd w0 p b s res ρ x pb vb l w)(f:Below w.heap.size w w'):xpd w0 p b s res ρ x pb vb l w':=⟨h.mq.below f,h.bl.kp (R:=fun _=>False) (ρ:=ρ) (Kp.of_below f) (fun e=>e) (fun _ _ e=>e),h.rb,h.rv,h.nw,h.bel.trans (f.mono h.bel.size)⟩
theorem x6r{w0 w w':World}{ρ:Nat->Nat}{R:Nat->Prop}(h:Below w0.heap.size w0 w)(f:Fr R ρ w w')(hR:¬ R 0)(hn:∀ k,ρ k≠0->w0.heap.size<=k):Below w0.heap.size w0 w':=by
 refine h.trans ⟨f.os,f.tape,f.output,f.kp.size,fun k hk=>?_⟩;refine f.kp.block k (Nat.lt_of_lt_of_le hk h.size) ?_;have e:ρ k=0:=Classical.byContradiction fun hc=>by have:=hn k hc;omega
 rw [e];exact hR
theorem xpd.ran{w0:World}{p b:Nat}{s:ByteArray}{res:ByteArray×Nat}{ρ:Nat->Nat}{x y:MS}{pb vb:Value}{l:List Nat}{w w':World}(h:xpd w0 p b s res ρ x pb vb l w)(A:jvh ρ w p y w'):∃ ρ',xpd w0 p b s res ρ' y pb vb l w':=by
 obtain ⟨ρ',e,m⟩:=A.ex;have hm0:¬ mine 0:=by unfold mine;omega
 have hrow:∀ g,vb.ownBlock=some g->g<w.heap.size:=fun g hg=>xmo h.bl.own hg
 refine ⟨ρ',m,h.bl.kp A.fr.kp (by rw [h.rb];exact hm0) (fun g hg=>by rw [h.rv g hg];exact hm0),by rw [e b h.bl.lt];exact h.rb,fun g hg=>by rw [e g (hrow g hg)];exact h.rv g hg,fun k hk=>?_,x6r h.bel A.fr hm0 h.nw⟩;by_cases hl:k<w.heap.size
 ·rw [e k hl] at hk;exact h.nw k hk
 ·have:=h.bel.size;omega
theorem xpd.took{w0:World}{p b:Nat}{s:ByteArray}{res:ByteArray×Nat}{ρ:Nat->Nat}{x y:MS}{pb vb:Value}{l:List Nat}{w w':World}(h:xpd w0 p b s res ρ x pb vb l w)(m:MQ ρ w' p y)(f:Fr mine ρ w w'):xpd w0 p b s res ρ y pb vb l w':=by
 have hm0:¬ mine 0:=by unfold mine;omega
 exact ⟨m,h.bl.kp f.kp (by rw [h.rb];exact hm0) (fun g hg=>by rw [h.rv g hg];exact hm0),h.rb,h.rv,h.nw,x6r h.bel f hm0 h.nw⟩
theorem xpd.wrote{w0:World}{p b:Nat}{s:ByteArray}{res:ByteArray×Nat}{ρ:Nat->Nat}{x:MS}{pb vb vb':Value}{l l':List Nat}{w w':World}(h:xpd w0 p b s res ρ x pb vb l w)(k:BlI w0.heap.size b (.pointer (some ⟨b,0,none⟩)) vb' l' w')(hv:vb'.ownBlock=vb.ownBlock∨vb'.ownBlock=some w.heap.size)(f:BFr b vb.ownBlock w w'):xpd w0 p b s res ρ x (.pointer (some ⟨b,0,none⟩)) vb' l' w':=by
 have F:Kp (fun r=>r=0) ρ w w':=⟨f.size,fun k hk hr=>f.block k hk (fun e=>hr (by rw [e];exact h.rb)) (fun e=>hr (h.rv k e))⟩
 refine ⟨h.mq.fr0 F,k,h.rb,fun g hg=>?_,h.nw,h.bel.trans ⟨f.os,f.tape,f.output,f.size,fun k hk=>f.block k (Nat.lt_of_lt_of_le hk h.bel.size) (fun e=>?_) (fun e=>?_)⟩⟩
 ·rcases hv with e | e
  ·exact h.rv g (by rw [← e];exact hg)
  ·rw [e] at hg;injection hg with hg
   exact Classical.byContradiction fun hc=>by have:=h.mq.lt.1 g hc;omega
 ·have:=h.bl.le;omega
 ·have:=(h.bl.own.lt k e).1;omega
end Go.Proofs.YtbcjmakpempkiaaGreatDoor
