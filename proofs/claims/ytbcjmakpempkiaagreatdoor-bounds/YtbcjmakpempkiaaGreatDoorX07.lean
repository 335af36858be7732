import Derived.Lib.AppendZeros
import Derived.Test.YtbcjmakpempkiaaGreatDoorX06
set_option maxRecDepth 100000
set_option maxHeartbeats 8000000
set_option linter.all false
namespace Go.Proofs.YtbcjmakpempkiaaGreatDoor
open Go.RowKit
theorem ze8(w:World):Calls Tryz.prog 209 #[.int .u64 1, .int .u64 243] w fun e w'=>e= .returned (.tuple #[.int .u64 0, .int .u64 243])∧w=w':=by
 go_enter Tryz.func209,Tryz.ntmps209
 go_wp2_with fail
 go_ret2
 exact ⟨by kernel_rfl,rfl⟩
theorem xm5(w:World):Calls Tryz.prog 190 #[.int .u64 1, .int .u64 243] w fun e w'=>e= .returned (.tuple #[.int .u64 0, .int .u64 243])∧w=w':=by
 go_enter Tryz.func190,Tryz.ntmps190
 go_wp2_with fail
 refine (ze8 w).mono ?_;rintro e w' ⟨rfl,rfl⟩;go_wp2_with fail
 go_ret2
 exact ⟨rfl,rfl⟩
theorem vr8(w:World):Calls Tryz.prog 209 #[.int .u64 1, .int .u64 26] w fun e w'=>e= .returned (.tuple #[.int .u64 0, .int .u64 26])∧w=w':=by
 go_enter Tryz.func209,Tryz.ntmps209
 go_wp2_with fail
 go_ret2
 exact ⟨by kernel_rfl,rfl⟩
theorem xjv(w:World):Calls Tryz.prog 190 #[.int .u64 1, .int .u64 26] w fun e w'=>e= .returned (.tuple #[.int .u64 0, .int .u64 26])∧w=w':=by
 go_enter Tryz.func190,Tryz.ntmps190
 go_wp2_with fail
 refine (vr8 w).mono ?_;rintro e w' ⟨rfl,rfl⟩;go_wp2_with fail
 go_ret2
 exact ⟨rfl,rfl⟩
theorem vlh(w:World):Calls Tryz.prog 209 #[.int .u64 1, .int .u64 16] w fun e w'=>e= .returned (.tuple #[.int .u64 0, .int .u64 16])∧w=w':=by
 go_enter Tryz.func209,Tryz.ntmps209
 go_wp2_with fail
 go_ret2
 exact ⟨by kernel_rfl,rfl⟩
theorem kik(w:World):Calls Tryz.prog 190 #[.int .u64 1, .int .u64 16] w fun e w'=>e= .returned (.tuple #[.int .u64 0, .int .u64 16])∧w=w':=by
 go_enter Tryz.func190,Tryz.ntmps190
 go_wp2_with fail
 refine (vlh w).mono ?_;rintro e w' ⟨rfl,rfl⟩;go_wp2_with fail
 go_ret2
 exact ⟨rfl,rfl⟩
def repL(v:Int)(N m:Nat):List Value:=List.replicate m (.int .i64 v)++List.replicate (N - m) (.int .i64 0)
theorem ji6(v:Int)(N m:Nat)(h:m<=N):(repL v N m).length=N:=by unfold repL;simp;omega
theorem y7u(v:Int)(N m k:Nat)(h:m+k<=N):splice (repL v N m) m (List.replicate k (.int .i64 v))=repL v N (m+k):=by
 unfold splice repL;rw [List.take_append_of_le_length (by simp),List.take_of_length_le (by simp)];rw [List.drop_append,List.drop_eq_nil_of_le (by simp),List.nil_append];simp only [List.length_replicate,List.drop_replicate];rw [← List.append_assoc,List.replicate_append_replicate];congr 2
 omega
theorem v8c(v:Int)(N m i:Nat)(h:i<m):(repL v N m)[i]?=some (.int .i64 v):=by
 unfold repL;rw [List.getElem?_append_left (by simpa using h)];simp [h]
theorem jdm(N:Nat):madeCells #[.int .i64 0] N=(List.replicate N (Value.int .i64 0)).toArray:=by
 apply Array.ext
 ·simp [size_madeCells]
 ·intro i h1 h2;simp [madeCells];rw [Nat.mod_one];rfl
theorem zs2:(Tryz.prog.info? 3).map (·.size)=some 1:=by kernel_rfl
theorem vv5(b:Nat)(v:Int)(N:Nat)(w:World)(hN:1<=N∧N<=1000)(hc:w.cell? ⟨b,0,none⟩=some (.int .i64 v))(hb:b<w.heap.size)
  (hm:Calls Tryz.prog 190 #[.int .u64 1, .int .u64 N] w fun e w'=>e= .returned (.tuple #[.int .u64 0, .int .u64 N])∧w=w') :
  Calls Tryz.prog 162 #[.slice (some ⟨b,0,none⟩) 1 1, .int .i64 N] w fun e w'=>∃ g,e= .returned (.slice (some ⟨g,0,none⟩) N N)∧w.heap.size<=g∧g<w'.heap.size∧w'.heap[g]?=some (.cells (repL v N N).toArray 3 (0,0))∧Below w.heap.size w w':=by
 have HM:Hid (Calls Tryz.prog 190 #[.int .u64 1, .int .u64 N] w fun e w'=>e= .returned (.tuple #[.int .u64 0, .int .u64 N])∧w=w'):=hm;clear hm;have hmk:=run_make_row' (P:=Tryz.prog) 69 3 (.int .i64 0) 8 Tryz.underlying69 ve2 rfl .i64 .i64 N (by omega) (by omega);have hg0:(w.alloc (.cells (madeCells #[.int .i64 0] N) 3)).heap[w.heap.size]?=some (.cells (repL v N 0).toArray 3 (0,0)):=by
  rw [heap_alloc_new,jdm];unfold repL;simp
 have hcb:(w.alloc (.cells (madeCells #[.int .i64 0] N) 3)).cell? ⟨b,0,none⟩=some (.int .i64 v):=by
  unfold World.cell? at hc ⊢;rw [Go.heap_alloc_old _ _ hb];exact hc
 have hb0:Below w.heap.size w (w.alloc (.cells (madeCells #[.int .i64 0] N) 3)):=(Below.refl _ _).alloc (Nat.le_refl _) _;have hl0:w.heap.size<(w.alloc (.cells (madeCells #[.int .i64 0] N) 3)).heap.size:=by simp
 go_enter Tryz.func162,Tryz.ntmps162
 go_wp2_with fail
 refine HM.out.mono ?_;rintro e w' ⟨rfl,rfl⟩;go_wp2_with (refine wpList_copy_splice rfl _ _ 69 69 rfl 3 Tryz.underlying69 zs2 (some ⟨w.heap.size,0,none⟩) (some ⟨b,0,none⟩) N N 1 1 rfl rfl w.heap.size 0 (repL v N 0) 3 hg0 [.int .i64 v] (by show 1=Nat.min 1 N;have:=hN.1;simp [Nat.min_def];omega) (fun _=>⟨rfl,⟨b,0,none⟩,rfl,fun j u hu=>(by have:j=0:=by { have:=(List.getElem?_eq_some_iff.1 hu).1;simp at this;omega };subst this;simp at hu;subst hu;exact hcb)⟩) (by rw [ji6 v N 0 (by omega)];show 0+1<=N;omega) (by simp [Value.oneCell']) w.heap.size w hb0 (Nat.le_refl _) ?_;intro w4 hg4 hb4)
 have H0:Hid (w4.heap[w.heap.size]?=some (.cells (repL v N 1).toArray 3 (0,0))∧Below w.heap.size w w4):=by
  have:=hg4.out;rw [show ([.int .i64 v]:List Value)=List.replicate 1 (.int .i64 v) from rfl,y7u v N 0 1 (by omega)] at this;exact ⟨this,hb4⟩
 clear hg4 hb4 hg0 hcb hb0 hl0 hmk hc hb HM;generalize hG:w.heap.size=G at *;have HGE:Hid (w.heap.size=G):=hG;clear hG;go_loopw [8] (fun i wr=>∃ m:Nat,1<=m∧m<=N∧i= .int .i64 m∧Hid (wr.heap[G]?=some (.cells (repL v N m).toArray 3 (0,0))∧Below G w wr)) (fun i _=>N - (intOf i).toNat)
 case atStart=>exact ⟨1,by omega,by omega,rfl,H0⟩
 case round=>
  clear H0;obtain ⟨m,hm1,hm,rfl,HH⟩:=hrel;by_cases hlt:m<N
  ·have hne:¬ N=m:=by omega
   have hmi:(m:Int)<N:=by omega
   have hgm:wr.drew.heap[G]?=some (.cells (repL v N m).toArray 3 (0,0)):=HH.out.1;have hbm:Below G w wr.drew:=HH.out.2.drew;obtain ⟨k,hk⟩:∃ k,k=Nat.min m (N - m):=⟨_,rfl⟩
   have hk1:1<=k∧k<=m∧m+k<=N:=by have:k=min m (N - m):=hk;omega
   have hcells:∀ j,j<m->wr.drew.cell? ⟨G,j,none⟩=some (.int .i64 v):=fun j hj=>by
    rw [cell_of_row _ _ j _ _ _ hgm];simpa using v8c v N m j hj
   obtain ⟨cs,hcs⟩:∃ cs:List Value,cs=List.replicate k (.int .i64 v):=⟨_,rfl⟩
   obtain ⟨cur,hcur⟩:∃ cur:List Value,cur=repL v N m:=⟨_,rfl⟩
   have HC:Hid (wr.drew.heap[G]?=some (.cells cur.toArray 3 (0,0))):=by rw [hcur];exact hgm
   have HCs:Hid (cs.length=Nat.min m (N - m)):=by rw [hcs,List.length_replicate];exact hk
   have HP:Hid (∀ j u,cs[j]?=some u->wr.drew.cell? (Addr.add ⟨G,0,none⟩ j)=some u):=by
    intro j u hu;rw [hcs] at hu;have hj:j<k:=by { have:=(List.getElem?_eq_some_iff.1 hu).1;simpa using this }
    have hu2:u= .int .i64 v:=by { rw [List.getElem?_replicate,if_pos hj] at hu;exact (Option.some.inj hu).symm }
    subst hu2;have:=hcells j (by omega);have e1:Addr.add ⟨G,0,none⟩ j=⟨G,j,none⟩:=by unfold Addr.add;by_cases hj0:j=0 <;> simp [hj0]
    rw [e1];exact this
   have HF:Hid (m+cs.length<=cur.length):=by rw [hcur,hcs,ji6 v N m hm,List.length_replicate];exact hk1.2.2
   have H1:Hid (∀ u∈cs,u.oneCell'=true):=by
    intro u hu;rw [hcs] at hu;rw [List.eq_of_mem_replicate hu];rfl
   have HS:Hid (splice cur m cs=repL v N (m+k)):=by rw [hcur,hcs];exact y7u v N m k hk1.2.2
   have HL:Hid (cs.length=k):=by rw [hcs];exact List.length_replicate
   have HB:Hid (Below G w wr.drew):=hbm;clear hk hcs hcur hcells hgm hbm;obtain ⟨hki,hki0,hki2⟩:(m:Int)+cs.length<=1000∧0<cs.length∧m+cs.length<=N:=by rw [HL.out];omega
   have HS2:Hid (splice cur m cs=repL v N (m+cs.length)):=by rw [HL.out];exact HS.out
   clear HS HL hk1;go_wp2_with fail
   go_region_law
    ((refine step_copy_splice rfl (.tmp 41) (.tmp 44) 69 69 (by kernel_rfl) 3 Tryz.underlying69 zs2 (some ⟨G,m,none⟩) (some ⟨G,0,none⟩) (N - m) (N - m) m N (by kernel_rfl) (by kernel_rfl) G m cur 3 HC.out cs HCs.out (fun _=>⟨rfl,⟨G,0,none⟩,rfl,HP.out⟩) HF.out H1.out G w HB.out (Nat.le_refl _) ?_;intro w5 hg5 hb5))
   all_goals
    have HN:Hid (w5.heap[G]?=some (.cells (repL v N (m+cs.length)).toArray 3 (0,0))∧Below G w w5):=by
     have:=hg5.out;rw [HS2.out] at this;exact ⟨this,hb5⟩
    clear hg5 hb5;have hwr:IntKind.i64.wrap ((m:Int)+cs.length)=((m+cs.length:Nat):Int):=by rw [IntWalk.i64_left,IntWalk.wrap64_in _ ⟨by omega,by omega⟩];omega
    simp only [List.getElem_toArray,List.getElem_cons_succ,List.getElem_cons_zero,hwr];go_wp2_with fail
    go_roundw
    case rel=>exact ⟨_,_,_,_,_,_,_,_,_,_,_,_,_,_,⟨m+cs.length,by omega,by omega,rfl,HN⟩,rfl⟩
    case measure=>show N - ((m+cs.length:Nat):Int).toNat<N - ((m:Nat):Int).toNat;omega
  ·obtain rfl:m=N:=by omega
   go_wp2_with fail
   go_ret
   exact ⟨G,rfl,by rw [HGE.out];exact Nat.le_refl _,(Array.getElem?_eq_some_iff.1 HH.out.1).1,HH.out.1,by rw [HGE.out];exact HH.out.2⟩
theorem x8r(n:Nat):(Builtin.zeroCells #[.int .i64 0] n).size=n:=by simp [Builtin.zeroCells]
theorem j45(w:World):Calls Tryz.prog 195 #[.slice none 0 0, .int .i64 269] w fun e w'=>∃ g cap,e= .returned (.slice (some ⟨g,0,none⟩) 0 cap)∧w'.ownsRow w.heap.size 3 1 (.slice (some ⟨g,0,none⟩) 0 cap) 0 []∧g<w'.heap.size∧269<=cap∧Below w.heap.size w w':=by
 go_enter Tryz.func195,Tryz.ntmps195
 go_wp2_with fail
 go_ret
 have h1:=grownCap_ge w 269 0 3;have h2:=grownCap_le_maxLen w 269 0 3 (by unfold maxLen;omega);refine ⟨_,_,rfl,⟨rfl,Or.inr ⟨_,_,_,rfl,Nat.le_refl _,heap_alloc_new _ _,Nat.zero_le _,h2,?_,?_⟩⟩,?_,h1,?_⟩
 ·rw [Array.size_append,x8r,x8r];show 269+(grownCap w 269 0 3 - 269)=grownCap w 269 0 3*1;omega
 ·simp
 ·simp
 ·exact ((Below.refl w.heap.size w).alloc (Nat.le_refl _) _).drew
def RowL(w:World)(g:Nat)(l:List Int):Prop:=w.heap[g]?=some (.cells (k2f l).toArray 3 (0,0))
theorem RowL.lt{w:World}{g:Nat}{l:List Int}(h:RowL w g l):g<w.heap.size:=(Array.getElem?_eq_some_iff.1 h).1
theorem RowL.kept{w w':World}{g B:Nat}{l:List Int}(h:RowL w g l)(hb:Below B w w')(hg:g<B):RowL w' g l:=by
 unfold RowL at h ⊢;rw [hb.block g hg];exact h
theorem RowL.news{w:World}{g n:Nat}{l:List Int}(h:RowL w g l)(hl:l.length=n):(k2f l).length=n*1∧(∀ j u,(k2f l)[j]?=some u->w.cell? (Addr.add ⟨g,0,none⟩ j)=some u)∧∀ u∈k2f l,u.oneCell'=true:=by
 refine ⟨by simp [k2f,hl],World.news_of_block h,fun u hu=>?_⟩;unfold k2f at hu;obtain ⟨x,_,rfl⟩:=List.mem_map.1 hu;rfl
theorem ji3{w:World}{base n cap g:Nat}{e:TypeId}{xs:List Value}(h:w.ownsRow base e 1 (.slice (some ⟨g,0,none⟩) n cap) n xs):∀ k,(Value.slice (some ⟨g,0,none⟩) n cap).ownBlock=some k->base<=k:=by
 intro k hk;obtain rfl:g=k:=by simpa [Value.ownBlock] using hk
 rcases h.2 with ⟨e,_⟩ | ⟨g',c',cur,e,h1,_⟩
 ·cases e
 ·injection e with e1
  injection e1 with e1
  injection e1 with e1
  subst e1;exact h1
theorem zg8{w:World}{q a b:Nat}{A Bl:List Int}(hq:w.heap[q]?=some (.cells #[.slice (some ⟨a,0,none⟩) 243 243, .slice (some ⟨b,0,none⟩) 26 26] 69 (0,0)))
  (ha:RowL w a A) (hb:RowL w b Bl) (la:A.length=243) (lb:Bl.length=26) :
  Calls Tryz.prog 164 #[.slice (some ⟨q,0,none⟩) 2 2] w fun e w'=>∃ g cap,e= .returned (.slice (some ⟨g,0,none⟩) 269 cap)∧w'.ownsRow w.heap.size 3 1 (.slice (some ⟨g,0,none⟩) 269 cap) 269 (k2f (A++Bl))∧g<w'.heap.size∧Below w.heap.size w w':=by
 have HQ:Hid (∀ w',Below w.heap.size w w'->w'.cell? ⟨q,0,none⟩=some (.slice (some ⟨a,0,none⟩) 243 243)∧w'.cell? ⟨q,1,none⟩=some (.slice (some ⟨b,0,none⟩) 26 26)):=fun w' hb=>by
  have hq':w'.heap[q]?=some (.cells #[.slice (some ⟨a,0,none⟩) 243 243, .slice (some ⟨b,0,none⟩) 26 26] 69 (0,0)):=by rw [hb.block q (Array.getElem?_eq_some_iff.1 hq).1];exact hq
  exact ⟨by rw [cell_of_row _ _ _ _ _ _ hq'];rfl,by rw [cell_of_row _ _ _ _ _ _ hq'];rfl⟩
 obtain ⟨c0,c1⟩:=HQ.out w (Below.refl _ _);have HR:Hid (RowL w a A∧RowL w b Bl):=⟨ha,hb⟩
 clear hq ha hb;go_enter Tryz.func164,Tryz.ntmps164
 go_wp2_with fail
 go_loop [3,11] (fun t i=>(i= .int .i64 0∧t= .int .i64 0)∨(i= .int .i64 1∧t= .int .i64 243)∨(i= .int .i64 2∧t= .int .i64 269)) (fun _ i=>2 - (intOf i).toNat)
 case atStart=>exact Or.inl ⟨rfl,rfl⟩
 case round=>
  rcases hrel with ⟨rfl,rfl⟩ | ⟨rfl,rfl⟩ | ⟨rfl,rfl⟩
  ·go_wp2_with fail
   go_round
   case rel=>exact Or.inr (Or.inl ⟨rfl,rfl⟩)
   case measure=>simp [intOf]
  ·go_wp2_with fail
   go_round
   case rel=>exact Or.inr (Or.inr ⟨rfl,rfl⟩)
   case measure=>simp [intOf]
  ·go_wp2_with fail
   refine (j45 w).mono ?_;rintro e w1 ⟨g,cap,rfl,o1,l1,hc,b1⟩;have H1:Hid (w1.ownsRow w.heap.size 3 1 (.slice (some ⟨g,0,none⟩) 0 cap) 0 []∧g<w1.heap.size∧Below w.heap.size w w1):=⟨o1,l1,b1⟩
   clear o1 l1 b1 c0 c1;go_wp2_with fail
   obtain ⟨i3,hi3,hi3'⟩:=Option.map_eq_some_iff.1 ve2;simp only [Prod.mk.injEq] at hi3';obtain ⟨hy0,hy1,hy2⟩:=hi3';go_loopw [6,27] (fun v i wr=>∃ g cap,((i= .int .i64 0∧v= .slice (some ⟨g,0,none⟩) 0 cap∧Hid (wr.ownsRow w.heap.size 3 1 (.slice (some ⟨g,0,none⟩) 0 cap) 0 (k2f [])∧g<wr.heap.size∧Below w.heap.size w wr))∨(i= .int .i64 1∧v= .slice (some ⟨g,0,none⟩) 243 cap∧Hid (wr.ownsRow w.heap.size 3 1 (.slice (some ⟨g,0,none⟩) 243 cap) 243 (k2f A)∧g<wr.heap.size∧Below w.heap.size w wr))∨(i= .int .i64 2∧v= .slice (some ⟨g,0,none⟩) 269 cap∧Hid (wr.ownsRow w.heap.size 3 1 (.slice (some ⟨g,0,none⟩) 269 cap) 269 (k2f (A++Bl))∧g<wr.heap.size∧Below w.heap.size w wr)))) (fun _ i _=>2 - (intOf i).toNat)
   case atStart=>exact ⟨g,cap,Or.inl ⟨rfl,rfl,H1⟩⟩
   case round=>
    clear H1 hc;obtain ⟨g,cap,⟨rfl,rfl,HH⟩ | ⟨rfl,rfl,HH⟩ | ⟨rfl,rfl,HH⟩⟩:=hrel
    ·obtain ⟨c0,c1⟩:=HQ.out wr HH.out.2.2;have HN:Hid ((k2f A).length=243*1∧(∀ j u,(k2f A)[j]?=some u->wr.cell? (Addr.add ⟨a,0,none⟩ j)=some u)∧∀ u∈k2f A,u.oneCell'=true):=RowL.news (HR.out.1.kept HH.out.2.2 HR.out.1.lt) la;go_wp2_with (at_builtin;refine wpList_append_lies _ rfl _ _ 69 rfl w.heap.size 3 i3 (.int .i64 0) 1 8 Tryz.underlying69 hi3 hy0 hy1 hy2 rfl (by decide) _ 0 (k2f []) rfl HH.out.1 ⟨a,0,none⟩ 243 243 (k2f A) rfl HN.out.1 HN.out.2.1 HN.out.2.2 (by omega) (by unfold maxLen;omega) (by omega) HH.out.2.2.size wr.heap.size rfl ?_;intro g2 p2 w5 hown2 hgrow2 hat2 hlt2)
     have HX:Hid (w5.ownsRow w.heap.size 3 1 (.slice (some ⟨g2,0,none⟩) 243 p2) 243 (k2f A)∧g2<w5.heap.size∧Below w.heap.size w w5):=⟨hown2,hlt2,HH.out.2.2.grown hgrow2 HH.out.2.2.size (ji3 HH.out.1)⟩
     clear hown2 hlt2 hgrow2 hat2;go_wp2_with fail
     go_roundw
     case rel=>exact ⟨g2,p2,Or.inr (Or.inl ⟨rfl,rfl,HX⟩)⟩
     case measure=>simp [intOf]
    ·obtain ⟨c0,c1⟩:=HQ.out wr HH.out.2.2;have HN:Hid ((k2f Bl).length=26*1∧(∀ j u,(k2f Bl)[j]?=some u->wr.cell? (Addr.add ⟨b,0,none⟩ j)=some u)∧∀ u∈k2f Bl,u.oneCell'=true):=RowL.news (HR.out.2.kept HH.out.2.2 HR.out.2.lt) lb;go_wp2_with (at_builtin;refine wpList_append_lies _ rfl _ _ 69 rfl w.heap.size 3 i3 (.int .i64 0) 1 8 Tryz.underlying69 hi3 hy0 hy1 hy2 rfl (by decide) _ 243 (k2f A) rfl HH.out.1 ⟨b,0,none⟩ 26 26 (k2f Bl) rfl HN.out.1 HN.out.2.1 HN.out.2.2 (by omega) (by unfold maxLen;omega) (by omega) HH.out.2.2.size wr.heap.size rfl ?_;intro g2 p2 w5 hown2 hgrow2 hat2 hlt2)
     have HX:Hid (w5.ownsRow w.heap.size 3 1 (.slice (some ⟨g2,0,none⟩) 269 p2) 269 (k2f (A++Bl))∧g2<w5.heap.size∧Below w.heap.size w w5):=⟨by unfold k2f at hown2 ⊢;rw [List.map_append];exact hown2,hlt2,HH.out.2.2.grown hgrow2 HH.out.2.2.size (ji3 HH.out.1)⟩
     clear hown2 hlt2 hgrow2 hat2;go_wp2_with fail
     go_roundw
     case rel=>exact ⟨g2,p2,Or.inr (Or.inr ⟨rfl,rfl,HX⟩)⟩
     case measure=>simp [intOf]
    ·go_wp2_with fail
     go_ret
     exact ⟨g,cap,rfl,HH.out.1,HH.out.2.1,HH.out.2.2⟩
theorem yzn{ρ:Nat->Nat}{w w':World}{p g:Nat}{x:MS}(h:MM ρ w p x)(m:xck w w' g Tr.fixedA Tr.fixedB) :
  ym0 ρ w p { x with la:=Tr.fixedA,lb:=Tr.fixedB } ((w'.setCell ⟨p,36,none⟩ (.pointer (some ⟨g,0,none⟩))).setCell ⟨p,37,none⟩ (.pointer (some ⟨g,0,none⟩))):=by
 obtain ⟨ρ',e1,e2,e3,S⟩:=m.sets (ρ:=ρ) (by decide) (by decide) (by decide) (by decide) (fun k hk=>h.new k hk);obtain ⟨L,B,T⟩:=h.below m.bel;have B1:=B.rho e2;have T1:=T.rho e2 (fun k hk=>by rcases e3 k hk with h | h;exact T.lt k h;exact h);have B2:=B1.set (y:=x) (M:={ L with fx:= .pointer (some ⟨g,0,none⟩) }) 36 (.pointer (some ⟨g,0,none⟩)) rfl ⟨rfl,rfl,rfl,rfl⟩ ⟨rfl,rfl⟩;have B3:=B2.set (y:=x) (M:={ L with fx:= .pointer (some ⟨g,0,none⟩),sets:= .pointer (some ⟨g,0,none⟩) }) 37 (.pointer (some ⟨g,0,none⟩)) rfl ⟨rfl,rfl,rfl,rfl⟩ ⟨rfl,rfl⟩;have rp:=B1.rp;have F:Fr (fun k=>1<=k∧k<=5) ρ' w' ((w'.setCell ⟨p,36,none⟩ (.pointer (some ⟨g,0,none⟩))).setCell ⟨p,37,none⟩ (.pointer (some ⟨g,0,none⟩))):=(Fr.own w' p 36 _ rp).trans (Fr.own _ p 37 _ rp);have T2:MT ρ' w' { x with la:=Tr.fixedA,lb:=Tr.fixedB } { L with fx:= .pointer (some ⟨g,0,none⟩),sets:= .pointer (some ⟨g,0,none⟩) }:=⟨T1.sup,T1.hl,T1.rw,T1.hp,Or.inr ⟨g,rfl,S⟩,Or.inr ⟨g,rfl,S⟩,T1.lt⟩
 refine ⟨⟨ρ',e1,{ L with fx:= .pointer (some ⟨g,0,none⟩),sets:= .pointer (some ⟨g,0,none⟩) },⟨B3.row,B3.ra,B3.rc,B3.rp,B3.rl⟩,(T2.fr5 F).same rfl rfl rfl rfl ⟨rfl,rfl⟩⟩,?_⟩;exact (Fr.below (ρ:=ρ) m.bel).ext F.five_mine e1
theorem y24{ρ:Nat->Nat}{w:World}{p:Nat}{x:MS}(h:MM ρ w p x) :
  ∃ v,w.cell? ⟨p,36,none⟩=some v∧(v= .pointer none∨∃ g,v= .pointer (some ⟨g,0,none⟩)∧ym0 ρ w p { x with la:=Tr.fixedA,lb:=Tr.fixedB } (w.setCell ⟨p,37,none⟩ v)):=by
 obtain ⟨L,B,T⟩:=h;refine ⟨L.fx,B.row.cell (i:=36) (by omega),?_⟩;rcases T.fx with e | ⟨g,e,S⟩
 ·exact Or.inl e
 ·refine Or.inr ⟨g,e,?_⟩;rw [e];have B3:=B.set (y:=x) (M:={ L with sets:= .pointer (some ⟨g,0,none⟩) }) 37 (.pointer (some ⟨g,0,none⟩)) rfl ⟨rfl,rfl,rfl,rfl⟩ ⟨rfl,rfl⟩;have F:=Fr.own w p 37 (.pointer (some ⟨g,0,none⟩)) B.rp;have T2:MT ρ w { x with la:=Tr.fixedA,lb:=Tr.fixedB } { L with sets:= .pointer (some ⟨g,0,none⟩) }:=⟨T.sup,T.hl,T.rw,T.hp,Or.inr ⟨g,rfl,S⟩,Or.inr ⟨g,e,S⟩,T.lt⟩
  exact ⟨⟨ρ,Ext.refl _ _,{ L with sets:= .pointer (some ⟨g,0,none⟩) },⟨B3.row,B3.ra,B3.rc,B3.rp,B3.rl⟩,(T2.fr5 F).same rfl rfl rfl rfl ⟨rfl,rfl⟩⟩,F.five_mine⟩
theorem k1f(b:Nat)(v:Int)(N:Nat)(w:World)(hN:N=243∨N=26∨N=16)(hc:w.cell? ⟨b,0,none⟩=some (.int .i64 v))(hb:b<w.heap.size) :
  Calls Tryz.prog 162 #[.slice (some ⟨b,0,none⟩) 1 1, .int .i64 N] w fun e w'=>∃ g,e= .returned (.slice (some ⟨g,0,none⟩) N N)∧Hid (w.heap.size<=g∧RowL w' g (List.replicate N v)∧Below w.heap.size w w'):=by
 refine (vv5 b v N w (by omega) hc hb ?_).mono ?_
 ·rcases hN with rfl | rfl | rfl
  ·exact xm5 w
  ·exact xjv w
  ·exact kik w
 ·rintro e w' ⟨g,h1,h2,h3,h4,h5⟩;refine ⟨g,h1,h2,?_,h5⟩;unfold RowL k2f;rw [h4];unfold repL;simp
theorem RowL.cells{w:World}{g:Nat}{l:List Int}(h:RowL w g l):xin w (some ⟨g,0,none⟩) l:=fun k hk=>by
 refine ⟨g,0,rfl,h.lt,?_⟩;rw [Nat.zero_add,cell_of_row _ _ _ _ _ _ h];simp [k2f,hk]
theorem yl8{w:World}{base n cap g:Nat}{l:List Int}(h:w.ownsRow base 3 1 (.slice (some ⟨g,0,none⟩) n cap) n (k2f l)):xin w (some ⟨g,0,none⟩) l:=fun k hk=>by
 rcases h.2 with ⟨e,_⟩ | ⟨g',c',cur,e,h1,h2,h3,h4,h5,h6⟩
 ·cases e
 ·injection e with e1
  injection e1 with e1
  injection e1 with e1
  subst e1;refine ⟨g,0,rfl,(Array.getElem?_eq_some_iff.1 h2).1,?_⟩;rw [Nat.zero_add,cell_of_row _ _ _ _ _ _ h2];have hl:l.length=n*1:=by have:=h.1;simpa [k2f] using this
  have e:(cur.toList.take (n*1))[k]?=(k2f l)[k]?:=by rw [h6]
  rw [List.getElem?_take,if_pos (by omega)] at e;rw [← Array.getElem?_toList,e];simp [k2f,hk]
theorem z99{ρ:Nat->Nat}{w:World}{p:Nat}{x:MS}(h:MM ρ w p x) :
  Calls Tryz.prog 136 #[.pointer (some ⟨p,0,none⟩)] w fun e w'=>e= .returned (.tuple #[])∧ym0 ρ w p { x with la:=Tr.fixedA,lb:=Tr.fixedB } w':=by
 have HM:Hid (MM ρ w p x):=h;obtain ⟨v,c36,hv⟩:=y24 h;obtain ⟨u,c37,z36,z37,hpl⟩:∃ u,w.cell? ⟨p,37,none⟩=some u∧w.frozen? ⟨p,36,none⟩=false∧w.frozen? ⟨p,37,none⟩=false∧p<w.heap.size:=by
  obtain ⟨L,B,_⟩:=h;exact ⟨_,B.row.cell (i:=37) (by omega),B.row.frozen 36,B.row.frozen 37,B.row.lt⟩
 clear h;rcases hv with rfl | ⟨g,rfl,HA⟩
 ·go_enter Tryz.func136,Tryz.ntmps136
  go_wp2_with fail
  refine (k1f w.heap.size 8 243 (w.alloc (.cells #[.int .i64 8] 3)) (by omega) (cell_one_new w _ _ 0 _ rfl) (by simp)).mono ?_;rintro e w1 ⟨g1,rfl,H1⟩;go_wp2_with fail
  refine (k1f w1.heap.size 9 26 (w1.alloc (.cells #[.int .i64 9] 3)) (by omega) (cell_one_new w1 _ _ 0 _ rfl) (by simp)).mono ?_;rintro e w2 ⟨g2,rfl,H2⟩;go_wp2_with fail
  have HS:Hid (RowL w2 g1 (List.replicate 243 8)∧RowL w2 g2 (List.replicate 26 9)∧Below w.heap.size w w2∧w.heap.size<=w2.heap.size):=by
   have b1:=H1.out.2.2;have b2:=H2.out.2.2;have e1:w.heap.size+1<=w1.heap.size:=by have:=b1.size;simpa using this
   have e2:w1.heap.size+1<=w2.heap.size:=by have:=b2.size;simpa using this
   have k1:Below w.heap.size w w1:=(((Below.refl w.heap.size w).alloc (Nat.le_refl _) _).trans (b1.mono (by simp)))
   have k2:Below w1.heap.size w1 w2:=(((Below.refl w1.heap.size w1).alloc (Nat.le_refl _) _).trans (b2.mono (by simp)))
   exact ⟨H1.out.2.1.kept k2 H1.out.2.1.lt,H2.out.2.1,k1.trans (k2.mono (by omega)),by omega⟩
  clear H1 H2;refine (zg8 (w:=w2.alloc (.cells #[.slice (some ⟨g1,0,none⟩) 243 243, .slice (some ⟨g2,0,none⟩) 26 26] 69)) (heap_alloc_new _ _) (HS.out.1.kept ((Below.refl w2.heap.size w2).alloc (Nat.le_refl _) _) HS.out.1.lt) (HS.out.2.1.kept ((Below.refl w2.heap.size w2).alloc (Nat.le_refl _) _) HS.out.2.1.lt) (by simp) (by simp)).mono ?_;rintro e w3 ⟨g3,cap,rfl,o3,l3,b3⟩;have H3:Hid (xin w3 (some ⟨g3,0,none⟩) Tr.fixedA∧g3<w3.heap.size∧Below w.heap.size w w3):=by
   have e1:w2.heap.size+1<=w3.heap.size:=by have:=b3.size;simpa using this
   exact ⟨yl8 o3,l3,HS.out.2.2.1.trans ((((Below.refl w2.heap.size w2).alloc (Nat.le_refl _) _).trans (b3.mono (by simp))).mono HS.out.2.2.2)⟩
  clear o3 l3 b3 HS;go_wp2_with fail
  refine (k1f w3.heap.size 4 16 (w3.alloc (.cells #[.int .i64 4] 3)) (by omega) (cell_one_new w3 _ _ 0 _ rfl) (by simp)).mono ?_;rintro e w4 ⟨g4,rfl,H4⟩;go_wp2_with fail
  have HT:Hid (xin w4 (some ⟨g3,0,none⟩) Tr.fixedA∧xin w4 (some ⟨g4,0,none⟩) Tr.fixedB∧Below w.heap.size w w4):=by
   have b4:=H4.out.2.2;have e1:w3.heap.size+1<=w4.heap.size:=by have:=b4.size;simpa using this
   have k1:Below w3.heap.size w3 w4:=(((Below.refl w3.heap.size w3).alloc (Nat.le_refl _) _).trans (b4.mono (by simp)))
   exact ⟨H3.out.1.below k1 (Nat.le_refl _),H4.out.2.1.cells,H3.out.2.2.trans (k1.mono H3.out.2.2.size)⟩
  clear H3 H4;have hset:=kvi (some ⟨g3,0,none⟩) (some ⟨g4,0,none⟩) cap 16 Tr.fixedA Tr.fixedB w4 (by decide) (by decide) HT.out.1 HT.out.2.1 (by decide) (by decide);refine hset.mono ?_;rintro e w5 ⟨g,rfl,M⟩;have HF:Hid (ym0 ρ w p { x with la:=Tr.fixedA,lb:=Tr.fixedB } ((w5.setCell ⟨p,36,none⟩ (.pointer (some ⟨g,0,none⟩))).setCell ⟨p,37,none⟩ (.pointer (some ⟨g,0,none⟩)))):=by
   have A:=yzn (HM.out.below HT.out.2.2) M;exact ⟨let ⟨r,e,m⟩:=A.ex;⟨r,fun k hk=>e k (Nat.lt_of_lt_of_le hk HT.out.2.2.size),m⟩,(Fr.below (ρ:=ρ) HT.out.2.2).trans A.fr⟩
  have HB5:Below w.heap.size w w5:=HT.out.2.2.trans (M.bel.mono HT.out.2.2.size);have d36:w5.cell? ⟨p,36,none⟩=some (.pointer none):=by rw [← c36];exact HB5.cell hpl
  have d37:w5.cell? ⟨p,37,none⟩=some u:=by rw [← c37];exact HB5.cell hpl
  have y36:w5.frozen? ⟨p,36,none⟩=false:=by rw [← z36];exact HB5.frozen hpl
  have y37:w5.frozen? ⟨p,37,none⟩=false:=by rw [← z37];exact HB5.frozen hpl
  clear HB5 M hset HT c36 c37 z36 z37;go_wp2_with fail
  go_end0
  exact ⟨rfl,HF.out⟩
 ·have HAF:Hid (ym0 ρ w p { x with la:=Tr.fixedA,lb:=Tr.fixedB } (w.setCell ⟨p,37,none⟩ (.pointer (some ⟨g,0,none⟩)))):=HA;clear HA;go_enter Tryz.func136,Tryz.ntmps136
  go_wp2_with fail
  go_end0
  exact ⟨rfl,HAF.out⟩
theorem MM.cell24{ρ:Nat->Nat}{w:World}{p:Nat}{x:MS}(h:MM ρ w p x):w.cell? ⟨p,24,none⟩=some (.bool x.last)∧w.frozen? ⟨p,24,none⟩=false:=by
 obtain ⟨L,B,_⟩:=h;exact ⟨B.row.cell (i:=24) (by omega),B.row.frozen 24⟩
theorem MM.set_last{ρ:Nat->Nat}{w:World}{p:Nat}{x:MS}(h:MM ρ w p x)(b:Bool):MM ρ (w.setCell ⟨p,24,none⟩ (.bool b)) p { x with last:=b }∧Fr (fun k=>1<=k∧k<=5) ρ w (w.setCell ⟨p,24,none⟩ (.bool b)):=by
 obtain ⟨L,B,T⟩:=h;exact ⟨⟨L,B.set (y:={ x with last:=b }) 24 (.bool b) rfl ⟨rfl,rfl,rfl,rfl⟩ ⟨rfl,rfl⟩,(T.set B.rp 24 _).same rfl rfl rfl rfl ⟨rfl,rfl⟩⟩,Fr.own w p 24 _ B.rp⟩
theorem MM.facts4{ρ:Nat->Nat}{w:World}{p:Nat}{x:MS}(h:MM ρ w p x):w.cell? ⟨p,7,none⟩=some (.int .i64 x.st)∧w.frozen? ⟨p,7,none⟩=false∧p<w.heap.size:=⟨h.cell7.1,h.cell7.2,by obtain ⟨L,B,_⟩:=h;exact B.row.lt⟩
theorem Ok.last{x:MS}(h:Ok x)(b:Bool):Ok { x with last:=b }:={ h with }
theorem zob(q:MS)(B:Bool):({ q.rd 1 with last:=B }:MS).num 2=q.held / 2%4∧({ q.rd 1 with last:=B }:MS).rd 2={ q.rd 3 with last:=B }:=by
 refine ⟨rfl,?_⟩;have:=MS.rd_rd q 1 2;unfold MS.rd at this ⊢;injection this;simp_all
theorem kvf{ρ:Nat->Nat}{w:World}{p:Nat}{x:MS}(h:MM ρ w p x)(ok:Ok x)(hx:x.count<=32) :
  Calls Tryz.prog 101 #[.pointer (some ⟨p,0,none⟩)] w fun v w'=>xxu ρ w p x.b7 v w':=by
 have HM:Hid (MM ρ w p x∧Ok x):=⟨h,ok⟩
 have HE:Hid (x.b7=if (MS.need 3 x).2=0 then MS.kind (MS.need 3 x).1 else MS.need 3 x):=rfl;clear h ok;go_enter Tryz.func101,Tryz.ntmps101
 go_wp2_with fail
 refine (zvo 3 HM.out.1 HM.out.2 (by omega) (by omega)).mono ?_;rintro v w1 ⟨rfl,g1,g2⟩;by_cases h0:(MS.need 3 x).2=0
 ·have k1:=MS.need_cnt HM.out.2 h0;have k3:=MS.need_ok (k:=3) HM.out.2;rw [h0];rw [if_pos h0] at HE;obtain ⟨q,hq⟩:∃ q,q=(MS.need 3 x).1:=⟨_,rfl⟩
  rw [← hq] at g1 HE k1 k3;have HQ:Hid (MM ρ w1 p q∧Ok q∧Fr (fun k=>1<=k∧k<=5) ρ w w1):=⟨g1,k3,g2⟩
  clear g1 g2 hq k3 h0 HM;go_wp2_with fail
  refine (zw3 1 HQ.out.1 HQ.out.2.1 (by omega) (by omega)).mono ?_;rintro v w2 ⟨rfl,g1,g2⟩;obtain ⟨B,hB⟩:∃ B,B=(q.num 1==1):=⟨_,rfl⟩
  have hv:q.num 1=0∨q.num 1=1:=by have:q.num 1<2:=Nat.mod_lt _ (by decide);omega
  have c24:=g1.cell24.1;have z24:=g1.cell24.2;have HL:=g1.set_last B;have HK:Hid (x.b7=if q.held / 2%4=0 then MS.skipBits { q.rd 3 with last:=B,st:=8 }
   else if q.held / 2%4=1 then ({ q.rd 3 with last:=B,la:=Tr.fixedA,lb:=Tr.fixedB,st:=17 },0)
   else if q.held / 2%4=2 then ({ q.rd 3 with last:=B,st:=10 },0)
   else ({ q.rd 3 with last:=B }:MS).refuse 7):=by show x.b7=_;rw [HE.out,hB];rfl
  have HZ:Hid (MM ρ (w2.setCell ⟨p,24,none⟩ (.bool B)) p { q.rd 1 with last:=B }∧Ok { q.rd 1 with last:=B }∧Fr (fun k=>1<=k∧k<=5) ρ w (w2.setCell ⟨p,24,none⟩ (.bool B))):=⟨HL.1,(HQ.out.2.1.rd (k:=1) (by omega)).last B,(HQ.out.2.2.trans g2).trans HL.2⟩
  have hcz:({ q.rd 1 with last:=B }:MS).count=q.count - 1:=rfl;obtain ⟨r1,r2⟩:=zob q B;obtain ⟨z,hz⟩:∃ z:MS,z={ q.rd 1 with last:=B }:=⟨_,rfl⟩
  rw [← hz] at HZ r1 r2 hcz;have HOK:Hid (Ok ({ q.rd 3 with last:=B }:MS)):=(HQ.out.2.1.rd (k:=3) (by omega)).last B;have HR1:Hid (z.num 2=q.held / 2%4∧z.rd 2={ q.rd 3 with last:=B }):=⟨r1,r2⟩
  have hcu:({ q.rd 3 with last:=B }:MS).count=q.count - 3:=rfl;obtain ⟨u,hu⟩:∃ u:MS,u={ q.rd 3 with last:=B }:=⟨_,rfl⟩
  have HK2:Hid (x.b7=if z.num 2=0 then MS.skipBits { u with st:=8 }
   else if z.num 2=1 then ({ u with la:=Tr.fixedA,lb:=Tr.fixedB,st:=17 },0)
   else if z.num 2=2 then ({ u with st:=10 },0)
   else u.refuse 7):=by show x.b7=_;rw [HK.out,hu,r1]
  rw [← hu] at HR1 HOK hcu;clear hz g1 g2 HL HE HK r1 r2 hu;generalize hN:z.num 2=N at HR1 HK2;have HN:Hid (z.num 2=N):=hN;have hN4:N<4:=by rw [← hN];exact Nat.mod_lt _ (by decide)
  clear hN;rcases hv with e | e
  all_goals
   rw [e] at hB ⊢;obtain rfl:=hB;clear e;go_wp2_with fail
   refine (zw3 2 HZ.out.1 HZ.out.2.1 (by omega) (by omega)).mono ?_;rintro v w3 ⟨rfl,g1,g2⟩;rw [HN.out];rw [HR1.out.2] at g1;have HU:Hid (MM ρ w3 p u∧Fr (fun k=>1<=k∧k<=5) ρ w w3):=⟨g1,HZ.out.2.2.trans g2⟩
   obtain ⟨c7,z7,hpl⟩:=g1.facts4;clear g1 g2 HN HZ HQ HR1 c24 z24;obtain rfl | rfl | rfl | rfl:N=0∨N=1∨N=2∨N=3:=by omega
   ·have HX:Hid (x.b7=MS.skipBits { u with st:=8 }):=HK2.out;clear HK2;have HS:=HU.out.1.st 8;have HS2:Hid (MM ρ (w3.setCell ⟨p,7,none⟩ (.int .i64 8)) p { u with st:=8 }∧Fr (fun k=>1<=k∧k<=5) ρ w (w3.setCell ⟨p,7,none⟩ (.int .i64 8))):=⟨HS.1,HU.out.2.trans HS.2⟩
    clear HS;go_wp2_with fail
    refine (z45 HS2.out.1 (HOK.out.st 8) (by show u.count<=63;omega)).mono ?_;rintro v w4 ⟨rfl,g1,g2⟩;have HF:Hid (xxu ρ w p x.b7 (.returned (.int .i64 ({ u with st:=8 }:MS).skipBits.2)) w4):=by
     show xxu _ _ _ _ _ _;rw [HX.out];exact y0y.x ⟨rfl,g1,HS2.out.2.trans g2⟩
    clear g1 g2 HX HS2;generalize ({ u with st:=8 }:MS).skipBits.2=n at *;go_wp2_with fail
    go_ret
    exact HF.out
   ·have HX:Hid (x.b7=({ u with la:=Tr.fixedA,lb:=Tr.fixedB,st:=17 },0)):=HK2.out;clear HK2;go_wp2_with fail
    refine (z99 HU.out.1).mono ?_;rintro v w4 ⟨rfl,A⟩;obtain ⟨ρ',e1,m⟩:=A.ex;obtain ⟨c7,z7,hpl⟩:=m.facts4;have HF:Hid (xxu ρ w p x.b7 (.returned (.int .i64 0)) (w4.setCell ⟨p,7,none⟩ (.int .i64 17))):=by
     show xxu _ _ _ _ _ _;rw [HX.out];have s:=m.st 17;exact ⟨rfl,⟨ρ',fun k hk=>e1 k (Nat.lt_of_lt_of_le hk HU.out.2.kp.size),s.1⟩,(HU.out.2.five_mine.trans A.fr).ext s.2.five_mine (fun k hk=>e1 k (Nat.lt_of_lt_of_le hk HU.out.2.kp.size))⟩
    clear A m;go_wp2_with fail
    go_ret
    exact HF.out
   ·have HF:Hid (xxu ρ w p x.b7 (.returned (.int .i64 0)) (w3.setCell ⟨p,7,none⟩ (.int .i64 10))):=by
     show xxu _ _ _ _ _ _;rw [show x.b7=({ u with st:=10 },0) from HK2.out];have s:=HU.out.1.st 10;exact y0y.x ⟨rfl,s.1,HU.out.2.trans s.2⟩
    go_wp2_with fail
    go_ret
    exact HF.out
   ·have HX:Hid (x.b7=u.refuse 7):=HK2.out;clear HK2;go_wp2_with fail
    refine (kv8 7 HU.out.1).mono ?_;rintro v w4 ⟨rfl,g1,g2⟩;have HF:Hid (xxu ρ w p x.b7 (.returned (.int .i64 (u.refuse 7).2)) w4):=by
     show xxu _ _ _ _ _ _;rw [HX.out];exact y0y.x ⟨rfl,g1,HU.out.2.trans g2⟩
    clear g1 g2 HX;generalize (u.refuse 7).2=n at *;go_wp2_with fail
    go_ret
    exact HF.out
 ·have HF:Hid (xxu ρ w p x.b7 (.returned (.int .i64 (MS.need 3 x).2)) w1):=by
   show xxu _ _ _ _ _ _;rw [HE.out,if_neg h0];exact y0y.x ⟨rfl,g1,g2⟩
  clear g1 g2 HE;generalize (MS.need 3 x).2=n at *;have hn:¬ ((n:Int)=0):=by omega
  go_wp2_with fail
  go_ret
  exact HF.out
theorem MM.set_nl{ρ:Nat->Nat}{w:World}{p:Nat}{x:MS}(h:MM ρ w p x)(n:Nat):MM ρ (w.setCell ⟨p,26,none⟩ (.int .i64 n)) p { x with nl:=n }∧Fr (fun k=>1<=k∧k<=5) ρ w (w.setCell ⟨p,26,none⟩ (.int .i64 n)):=by
 obtain ⟨L,B,T⟩:=h;exact (((show Bh ρ w p x x L w from ⟨B,T,Fr.refl _ _ _⟩).set (z:={ x with nl:=n }) 26 _ rfl ⟨rfl,rfl⟩).done rfl rfl rfl rfl ⟨rfl,rfl⟩)
theorem MM.set_nd{ρ:Nat->Nat}{w:World}{p:Nat}{x:MS}(h:MM ρ w p x)(n:Nat):MM ρ (w.setCell ⟨p,27,none⟩ (.int .i64 n)) p { x with nd:=n }∧Fr (fun k=>1<=k∧k<=5) ρ w (w.setCell ⟨p,27,none⟩ (.int .i64 n)):=by
 obtain ⟨L,B,T⟩:=h;exact (((show Bh ρ w p x x L w from ⟨B,T,Fr.refl _ _ _⟩).set (z:={ x with nd:=n }) 27 _ rfl ⟨rfl,rfl⟩).done rfl rfl rfl rfl ⟨rfl,rfl⟩)
theorem MM.set_told{ρ:Nat->Nat}{w:World}{p:Nat}{x:MS}(h:MM ρ w p x)(n:Nat):MM ρ (w.setCell ⟨p,28,none⟩ (.int .i64 n)) p { x with told:=n }∧Fr (fun k=>1<=k∧k<=5) ρ w (w.setCell ⟨p,28,none⟩ (.int .i64 n)):=by
 obtain ⟨L,B,T⟩:=h;exact (((show Bh ρ w p x x L w from ⟨B,T,Fr.refl _ _ _⟩).set (z:={ x with told:=n }) 28 _ rfl ⟨rfl,rfl⟩).done rfl rfl rfl rfl ⟨rfl,rfl⟩)
structure Nw(ρ:Nat->Nat)(w:World)(p:Nat)(y:MS)(w':World):Prop where
 mm:MM ρ w' p y
 ok:Ok y
 cnt:y.count<=40
 hl:y.hl=[]
 fr:Fr (fun k=>1<=k∧k<=5) ρ w w'
theorem y4i{ρ:Nat->Nat}{w:World}{p:Nat}{x:MS}(h:MM ρ w p x)(ok:Ok x)(hc:x.count<=40)(hO:OrdP w)(hG:ρ 0=0)(hl:x.hl=[])(hst:x.st=12) :
  Calls Tryz.prog 103 #[.pointer (some ⟨p,0,none⟩)] w fun v w'=>xxu ρ w p x.o12 v w':=by
 have H12:Hid (Nw ρ w p x w):=⟨h,ok,hc,hl,Fr.refl _ _ _⟩
 have HOG:Hid (OrdP w∧ρ 0=0):=⟨hO,hG⟩
 have c7:=h.cell7.1;rw [hst] at c7;clear h ok hst hc hO hG hl;go_enter Tryz.func103,Tryz.ntmps103
 go_wp2_with fail
 refine (zvo 4 H12.out.mm H12.out.ok (by omega) (by have:=H12.out.cnt;omega)).mono ?_;rintro v wa12 ⟨rfl,g1,g2⟩;have R':Hid (x.o12=if (MS.need 4 x).2=0 then (if 11<(MS.need 4 x).1.num 4 then ({ (MS.need 4 x).1.rd 4 with told:=4+(MS.need 4 x).1.num 4 }:MS).refuse 10 else MS.o13 { (MS.need 4 x).1.rd 4 with told:=4+(MS.need 4 x).1.num 4,st:=13 }) else MS.need 4 x):=rfl;by_cases h0:(MS.need 4 x).2=0
 ·have k1:=MS.need_cnt H12.out.ok h0;have k2:=MS.need_same H12.out.ok h0;have k3:=MS.need_ok (k:=4) H12.out.ok;have hcn:=H12.out.cnt;rw [h0];rw [if_pos h0] at R';obtain ⟨z,hz⟩:∃ z,z=(MS.need 4 x).1:=⟨_,rfl⟩
  rw [← hz] at g1 R' k1 k2 k3;have hzh:z.hl=[]:=by rw [k2];exact H12.out.hl
  have HZ:Hid (MM ρ wa12 p z∧Ok z∧Fr (fun k=>1<=k∧k<=5) ρ w wa12∧z.hl=[]):=⟨g1,k3,H12.out.fr.trans g2,hzh⟩
  clear g1 g2 hz k2 k3 h0 hzh;go_wp2_with fail
  refine (zw3 4 HZ.out.1 HZ.out.2.1 k1.1 (by omega)).mono ?_;rintro v wb12 ⟨rfl,g1,g2⟩;have hN:z.num 4<16:=Nat.mod_lt _ (by decide);have HQ:=g1.set_told (4+z.num 4);have a28:=g1.own.2.2.1;have z28:=g1.frz 28;have k7:=g1.cell7.1;have z7:=g1.frz 7;obtain ⟨N,hNe⟩:∃ N,N=z.num 4:=⟨_,rfl⟩
  rw [← hNe] at R' hN HQ ⊢;have hbi:((4+N:Nat):Int)=4+(N:Int):=by omega
  have HU:Hid (MM ρ (wb12.setCell ⟨p,28,none⟩ (.int .i64 (4+N:Nat))) p { z.rd 4 with told:=4+N }∧Ok { z.rd 4 with told:=4+N }∧Fr (fun k=>1<=k∧k<=5) ρ w (wb12.setCell ⟨p,28,none⟩ (.int .i64 (4+N:Nat)))):=⟨HQ.1,{ HZ.out.2.1.rd k1.1 with },(HZ.out.2.2.1.trans g2).trans HQ.2⟩
  rw [hbi] at HU;clear g1 g2 HQ hNe hbi;by_cases hgt:11<N
  ·rw [if_pos hgt] at R';have hgi:(15:Int)<4+N:=by omega
   go_wp2_with fail
   refine (kv8 10 HU.out.1).mono ?_;rintro v wr12 ⟨rfl,g3,g4⟩;have HR2:Hid (ym0 ρ w p (({ z.rd 4 with told:=4+N }:MS).refuse 10).1 wr12):=ym0.of g3 (HU.out.2.2.trans g4).five_mine;clear g3 g4;go_wp2_with fail
   go_ret
   unfold xxu;rw [R'.out];exact ⟨rfl,HR2.out⟩
  ·rw [if_neg hgt] at R';have hgi:¬ (15:Int)<4+N:=by omega
   have HS:=HU.out.1.st 13;obtain ⟨y13,hy⟩:∃ y:MS,y={ z.rd 4 with told:=4+N,st:=13 }:=⟨_,rfl⟩
   have hWW:(wb12.setCell ⟨p,28,none⟩ (.int .i64 (4+(N:Int)))).setCell ⟨p,7,none⟩ (.int .i64 (13:Nat))=(wb12.setCell ⟨p,28,none⟩ (.int .i64 (4+(N:Int)))).setCell ⟨p,7,none⟩ (.int .i64 13):=rfl;have H13:Hid (Nw ρ w p y13 ((wb12.setCell ⟨p,28,none⟩ (.int .i64 (4+(N:Int)))).setCell ⟨p,7,none⟩ (.int .i64 13))):=by
    show Nw ρ w p y13 _;rw [hy];exact ⟨HS.1,HU.out.2.1.st 13,by show z.count - 4<=40;omega,HZ.out.2.2.2,HU.out.2.2.trans HS.2⟩
   obtain ⟨R,hR⟩:∃ R,R=MS.hlL (y13.told - y13.hl.length) y13:=⟨_,rfl⟩
   have HF:Hid (x.o12=R):=by show x.o12=R;rw [hR,R'.out,← hy];rfl
   have H0:Hid (∃ y,Lw ρ w p y R ((wb12.setCell ⟨p,28,none⟩ (.int .i64 (4+(N:Int)))).setCell ⟨p,7,none⟩ (.int .i64 13))):=⟨y13,⟨ρ,Ext.refl _ _,H13.out.mm⟩,H13.out.fr.five_mine,H13.out.ok,hR.symm,H13.out.cnt,by rw [hy];show 4+N<=15;omega,by rw [H13.out.hl];simp,by rw [H13.out.hl];intro b hb;cases hb⟩
   clear HS hWW hy hR R' HU HZ H13;go_wp2_with fail
   clear hgt a28 z28 k7 z7;go_loopw [] (fun wr=>Hid (∃ y,Lw ρ w p y R wr)) (fun wr=>15 - xda wr p)
   case atStart=>exact H0
   case round=>
    clear H0;obtain ⟨y,Y⟩:=hrel.out;obtain ⟨ρ',ex,mm⟩:=Y.ex;obtain ⟨ad,cap,c29,_⟩:=mm.hlA;have e29:=x45 c29;have c28:=mm.own.2.2.1;have htl:=Y.told;have hle:=Y.le;have hcn:=Y.cnt;have HY:Hid (Lw ρ w p y R wr∧MM ρ' wr p y∧Ext w.heap.size ρ ρ'):=⟨Y,mm,ex⟩
    clear Y hrel mm ex;by_cases hlt:y.hl.length<y.told
    ·obtain ⟨n,hn⟩:∃ n,y.told - y.hl.length=n+1:=⟨y.told - y.hl.length - 1,by omega⟩
     have HS:Hid (R=if (MS.need 3 y).2=0 then MS.hlL n { (MS.need 3 y).1.rd 3 with hl:=(MS.need 3 y).1.hl++[((MS.need 3 y).1.num 3:Int)] } else MS.need 3 y):=by show R=_;rw [← HY.out.1.eq,MS.hl_succ hn]
     have hlti:(y.hl.length:Int)<y.told:=by omega
     go_wp2_with fail
     go_quiet (fail)
     go_wp2_with fail
     refine (zvo 3 (HY.out.2.1.drewN _) HY.out.1.ok (by omega) (by omega)).mono ?_;rintro v w5 ⟨rfl,g1,g2⟩;by_cases h0:(MS.need 3 y).2=0
     ·have k1:=MS.need_cnt HY.out.1.ok h0;have k2:=MS.need_same HY.out.1.ok h0;have k3:=MS.need_ok (k:=3) HY.out.1.ok;rw [h0];rw [if_pos h0] at HS;obtain ⟨z,hzz⟩:∃ z,z=(MS.need 3 y).1:=⟨_,rfl⟩
      rw [← hzz] at g1 HS k1 k2 k3;have HZH:Hid (z.hl=y.hl):=by show z.hl=y.hl;rw [k2]
      have HZT:Hid (z.told=y.told):=by show z.told=y.told;rw [k2]
      have HZ:Hid (MM ρ' w5 p z∧Ok z∧Fr mine ρ w w5):=⟨g1,k3,(HY.out.1.fr.drewN _).ext g2.five_mine HY.out.2.2⟩
      clear g1 g2 hzz k2 k3 h0 c29 c28;have hbl:z.num 3<8:=Nat.mod_lt _ (by decide);obtain ⟨L5,B5,T5⟩:=HZ.out.1;have HRD:Hid (∀ n,Calls Tryz.prog 134 #[.pointer (some ⟨p,14,none⟩), .int .i64 (3:Nat)] (w5.drewN n) fun v w'=>v= .returned (.int .i64 (z.num 3))∧MB ρ' w' p (z.rd 3) L5∧MT ρ' w' (z.rd 3) L5∧Fr (fun k=>1<=k∧k<=5) ρ' (w5.drewN n) w'):=fun n=>jh0 3 (B5.drewN n) (T5.drewN n) HZ.out.2.1 k1.1 (by omega)
      obtain ⟨b,hb⟩:∃ b,b=z.num 3:=⟨_,rfl⟩
      rw [← hb] at HS HRD hbl;clear hb;have a29:w5.cell? ⟨p,29,none⟩=some L5.hv:=B5.row.cell (i:=29) (by omega);have hpo:L5.hv.ownBlock≠some p:=fun e=>by
       have a1:=T5.hl.2 p e;have a2:=B5.rp;omega
      obtain ⟨lv,hlv⟩:∃ lv,lv=L5.hv:=⟨_,rfl⟩
      have HLV:Hid (lv=L5.hv):=hlv;have HHV:Hid (∀ w',MT ρ' w' (z.rd 3) L5->w'.ownsRow 0 3 1 lv z.hl.length (k2f z.hl)):=fun w' t=>by rw [hlv];exact t.hl.1
      have hzl:z.hl.length<=15:=by rw [HZH.out];omega
      have hcz:=k1;rw [← hlv] at a29 hpo;clear B5 T5 hlv;obtain ⟨i3,hi3,hy0,hy1,hy2⟩:=info_parts ve2;go_wp2_with fail
      go_region_law
       ((first
        | (refine xc4 rfl 134 #[.pointer (some ⟨p,14,none⟩), .int .i64 (3:Nat)] (by kernel_rfl) (HRD.out 1) ?_;rintro e w2 ⟨rfl,B2,T2,g2⟩;refine ⟨_,rfl,?_⟩;have HB2:Hid (MB ρ' w2 p (z.rd 3) L5∧MT ρ' w2 (z.rd 3) L5∧Fr mine ρ w w2):=⟨B2,T2,(HZ.out.2.2.drewN 1).ext g2.five_mine HY.out.2.2⟩;have d29:w2.cell? ⟨p,29,none⟩=some lv:=by { rw [HLV.out];exact B2.row.cell (i:=29) (by omega) };have y29:=B2.row.frozen 29;have hown2:=HHV.out w2 T2;have hpl2:=B2.row.lt;clear B2 T2 g2)
        | (refine step_append_lies _ (by rfl) _ _ _ (by rfl) 0 3 i3 _ 1 8 Tryz.underlying69 hi3 hy0 hy1 hy2 rfl (by omega) lv z.hl.length (k2f z.hl) (by rfl) (hown2.alloc _) ⟨w2.heap.size,0,none⟩ 1 1 [.int .i64 b] (by rfl) (by rfl) (cell_one_new w2 _ _) (by simp [Value.oneCell']) (by omega) (by unfold maxLen;omega) (by omega) (Nat.zero_le _) (w2.heap.size+1) (by simp) ?_;intro g3 p3 w3 hown3 hgrow3 hat3 hlt3;have d29':=x7a (a:=⟨p,29,none⟩) hgrow3 hpl2 hpo d29;have y29':=jk1 (a:=⟨p,29,none⟩) hgrow3 hpl2 hpo y29)))
      all_goals
       have G:=kp4 (g:=g3) (cap:=p3) (a:=(b:Int)) HB2.out.1 HB2.out.2.1 hown3 (by rw [← HLV.out];exact hgrow3) (by rw [← HLV.out];exact hat3) hlt3;have HN:Hid (∃ y,Lw ρ w p y R (w3.setCell ⟨p,29,none⟩ (.slice (some ⟨g3,0,none⟩) (z.hl.length+1) p3))):=by
        refine ⟨{ z.rd 3 with hl:=z.hl++[(b:Int)] },⟨give ρ' g3 6,HY.out.2.2.trans G.2.1 HB2.out.2.2.kp.size,G.1⟩,HB2.out.2.2.ext G.2.2 HY.out.2.2,{ HZ.out.2.1.rd hcz.1 with },?_,?_,?_,?_,?_⟩
        ·have e:({ z.rd 3 with hl:=z.hl++[(b:Int)] }:MS).told - ({ z.rd 3 with hl:=z.hl++[(b:Int)] }:MS).hl.length=n:=by
          show z.told - (z.hl++[(b:Int)]).length=n;rw [HZT.out,HZH.out];simp;omega
         rw [e];exact HS.out.symm
        ·show z.count - 3<=40;omega
        ·show z.told<=15;rw [HZT.out];exact htl
        ·show (z.hl++[(b:Int)]).length<=z.told;rw [HZT.out,HZH.out];simp;omega
        ·intro q hq;have hq':q∈z.hl++[(b:Int)]:=hq;rcases List.mem_append.1 hq' with hq' | hq'
         ·rw [HZH.out] at hq';exact HY.out.1.hx q hq'
         ·simp at hq';omega
       have eN:xda (w3.setCell ⟨p,29,none⟩ (.slice (some ⟨g3,0,none⟩) (z.hl.length+1) p3)) p=z.hl.length+1:=by
        obtain ⟨ad',cap',c',_⟩:=G.1.hlA;exact (x45 c').trans (by show (z.hl++[(b:Int)]).length=_;simp)
       clear G hown3 hgrow3 hat3 hlt3;go_wp2_with fail
       go_roundw
       case rel=>exact HN
       case measure=>rw [e29,eN,HZH.out];omega
     ·rw [if_neg h0] at HS;obtain ⟨t,ht⟩:∃ t,t=(MS.need 3 y).2:=⟨_,rfl⟩
      have HR:Hid (ym0 ρ w p (MS.need 3 y).1 w5∧(MS.need 3 y).2=t):=⟨⟨⟨ρ',HY.out.2.2,g1⟩,(HY.out.1.fr.drewN _).ext g2.five_mine HY.out.2.2⟩,ht.symm⟩
      rw [← ht] at h0 ⊢;have h0':((t:Int)==0)=false:=by simp;exact h0
      clear g1 g2 ht;go_wp2_with fail
      go_ret
      unfold xxu;rw [HF.out,HS.out,HR.out.2];exact ⟨rfl,HR.out.1⟩
    ·have hlti:¬ (y.hl.length:Int)<y.told:=by omega
     have HS:Hid (R=if jwa gw (hset y.hl)=2048 then ({ y with hs:=hset y.hl,st:=14 },0) else y.refuse 10):=by show R=_;rw [← HY.out.1.eq,MS.hl_zero hlt];rfl
     have HMH:Hid (∀ n,Calls Tryz.prog 139 #[.pointer (some ⟨p,26,none⟩)] (wr.drewN n) fun v w'=>kee ρ' (wr.drewN n) p y v w'):=fun n=>kpx (HY.out.2.1.drewN n) (HOG.out.1.fr (HY.out.1.fr.drewN n) HOG.out.2) HY.out.1.hx (by omega)
     go_wp2_with fail
     go_quiet (fail)
     go_wp2_with fail
     refine (HMH.out _).mono ?_;rintro v w5 HE5;unfold kee at HE5;by_cases hS:jwa gw (hset y.hl)=2048
     ·rw [if_pos hS] at HE5 HS;obtain ⟨rfl,AF⟩:=HE5;have AW:=ym0.next HY.out.2.2 (HY.out.1.fr.drewN _) AF;obtain ⟨ρ'',ex2,mm2⟩:=AW.ex;have k7:=mm2.cell7.1;have z7:=mm2.cell7.2;have HA:Hid (ym0 ρ w p { y with hs:=hset y.hl,st:=14 } (w5.setCell ⟨p,7,none⟩ (.int .i64 14))):=⟨⟨ρ'',ex2,(mm2.st 14).1⟩,AW.fr.ext (mm2.st 14).2.five_mine ex2⟩
      clear AF AW ex2 mm2;go_wp2_with fail
      go_ret
      unfold xxu;rw [HF.out,HS.out];exact ⟨rfl,HA.out⟩
     ·rw [if_neg hS] at HE5 HS;obtain ⟨rfl,AF⟩:=HE5;have AW:=ym0.next HY.out.2.2 (HY.out.1.fr.drewN _) AF;obtain ⟨ρ'',ex2,mm2⟩:=AW.ex;have HA:Hid (MM ρ'' w5 p y∧Ext w.heap.size ρ ρ''∧Fr mine ρ w w5):=⟨mm2,ex2,AW.fr⟩
      clear AF AW ex2 mm2;go_wp2_with fail
      refine (kv8 10 HA.out.1).mono ?_;rintro v w6 ⟨rfl,g3,g4⟩;have HR2:Hid (ym0 ρ w p (y.refuse 10).1 w6):=⟨⟨ρ'',HA.out.2.1,g3⟩,HA.out.2.2.ext g4.five_mine HA.out.2.1⟩
      clear g3 g4;go_wp2_with fail
      go_ret
      unfold xxu;rw [HF.out,HS.out];exact ⟨rfl,HR2.out⟩
 ·rw [if_neg h0] at R';obtain ⟨t,ht⟩:∃ t,t=(MS.need 4 x).2:=⟨_,rfl⟩
  have HR:Hid (ym0 ρ w p (MS.need 4 x).1 wa12∧(MS.need 4 x).2=t):=⟨ym0.of g1 (H12.out.fr.trans g2).five_mine,ht.symm⟩
  rw [← ht] at h0 ⊢;have h0':((t:Int)==0)=false:=by simp;exact h0
  clear g1 g2 ht;go_wp2_with fail
  go_ret
  unfold xxu;rw [R'.out,HR.out.2];exact ⟨rfl,HR.out.1⟩
theorem v5j{ρ:Nat->Nat}{w:World}{p:Nat}{x:MS}(h:MM ρ w p x)(ok:Ok x)(hc:x.count<=40)(hO:OrdP w)(hG:ρ 0=0)(hl:x.hl=[])(hst:x.st=10) :
  Calls Tryz.prog 103 #[.pointer (some ⟨p,0,none⟩)] w fun v w'=>xxu ρ w p x.o10 v w':=by
 have H10:Hid (Nw ρ w p x w):=⟨h,ok,hc,hl,Fr.refl _ _ _⟩
 have HOG:Hid (OrdP w∧ρ 0=0):=⟨hO,hG⟩
 have c7:=h.cell7.1;rw [hst] at c7;clear h ok hst hc hO hG hl;go_enter Tryz.func103,Tryz.ntmps103
 go_wp2_with fail
 refine (zvo 4 H10.out.mm H10.out.ok (by omega) (by have:=H10.out.cnt;omega)).mono ?_;rintro v wa10 ⟨rfl,g1,g2⟩;have R':Hid (x.o10=if (MS.need 4 x).2=0 then (if 12<(MS.need 4 x).1.num 4 then ({ (MS.need 4 x).1.rd 4 with nl:=257+(MS.need 4 x).1.num 4 }:MS).refuse 10 else MS.o11 { (MS.need 4 x).1.rd 4 with nl:=257+(MS.need 4 x).1.num 4,st:=11 }) else MS.need 4 x):=rfl;by_cases h0:(MS.need 4 x).2=0
 ·have k1:=MS.need_cnt H10.out.ok h0;have k2:=MS.need_same H10.out.ok h0;have k3:=MS.need_ok (k:=4) H10.out.ok;have hcn:=H10.out.cnt;rw [h0];rw [if_pos h0] at R';obtain ⟨z,hz⟩:∃ z,z=(MS.need 4 x).1:=⟨_,rfl⟩
  rw [← hz] at g1 R' k1 k2 k3;have hzh:z.hl=[]:=by rw [k2];exact H10.out.hl
  have HZ:Hid (MM ρ wa10 p z∧Ok z∧Fr (fun k=>1<=k∧k<=5) ρ w wa10∧z.hl=[]):=⟨g1,k3,H10.out.fr.trans g2,hzh⟩
  clear g1 g2 hz k2 k3 h0 hzh;go_wp2_with fail
  refine (zw3 4 HZ.out.1 HZ.out.2.1 k1.1 (by omega)).mono ?_;rintro v wb10 ⟨rfl,g1,g2⟩;have hN:z.num 4<16:=Nat.mod_lt _ (by decide);have HQ:=g1.set_nl (257+z.num 4);have a26:=g1.own.1;have z26:=g1.frz 26;have k7:=g1.cell7.1;have z7:=g1.frz 7;obtain ⟨N,hNe⟩:∃ N,N=z.num 4:=⟨_,rfl⟩
  rw [← hNe] at R' hN HQ ⊢;have hbi:((257+N:Nat):Int)=257+(N:Int):=by omega
  have HU:Hid (MM ρ (wb10.setCell ⟨p,26,none⟩ (.int .i64 (257+N:Nat))) p { z.rd 4 with nl:=257+N }∧Ok { z.rd 4 with nl:=257+N }∧Fr (fun k=>1<=k∧k<=5) ρ w (wb10.setCell ⟨p,26,none⟩ (.int .i64 (257+N:Nat)))):=⟨HQ.1,{ HZ.out.2.1.rd k1.1 with },(HZ.out.2.2.1.trans g2).trans HQ.2⟩
  rw [hbi] at HU;clear g1 g2 HQ hNe hbi;by_cases hgt:12<N
  ·rw [if_pos hgt] at R';have hgi:(269:Int)<257+N:=by omega
   go_wp2_with fail
   refine (kv8 10 HU.out.1).mono ?_;rintro v wr10 ⟨rfl,g3,g4⟩;have HR2:Hid (ym0 ρ w p (({ z.rd 4 with nl:=257+N }:MS).refuse 10).1 wr10):=ym0.of g3 (HU.out.2.2.trans g4).five_mine;clear g3 g4;go_wp2_with fail
   go_ret
   unfold xxu;rw [R'.out];exact ⟨rfl,HR2.out⟩
  ·rw [if_neg hgt] at R';have hgi:¬ (269:Int)<257+N:=by omega
   have HS:=HU.out.1.st 11;obtain ⟨y11,hy⟩:∃ y:MS,y={ z.rd 4 with nl:=257+N,st:=11 }:=⟨_,rfl⟩
   have hWW:(wb10.setCell ⟨p,26,none⟩ (.int .i64 (257+(N:Int)))).setCell ⟨p,7,none⟩ (.int .i64 (11:Nat))=(wb10.setCell ⟨p,26,none⟩ (.int .i64 (257+(N:Int)))).setCell ⟨p,7,none⟩ (.int .i64 11):=rfl;have H11:Hid (Nw ρ w p y11 ((wb10.setCell ⟨p,26,none⟩ (.int .i64 (257+(N:Int)))).setCell ⟨p,7,none⟩ (.int .i64 11))):=by
    show Nw ρ w p y11 _;rw [hy];exact ⟨HS.1,HU.out.2.1.st 11,by show z.count - 4<=40;omega,HZ.out.2.2.2,HU.out.2.2.trans HS.2⟩
   have R11:Hid (x.o10=MS.o11 y11):=by show x.o10=_;rw [R'.out,← hy]
   clear HS hWW hy R' HU HZ;go_wp2_with fail
   clear hgt;clear a26 z26 k7 z7;refine (zvo 4 H11.out.mm H11.out.ok (by omega) (by have:=H11.out.cnt;omega)).mono ?_;rintro v wa11 ⟨rfl,g1,g2⟩;have R':Hid (x.o10=if (MS.need 4 y11).2=0 then MS.o12 { (MS.need 4 y11).1.rd 4 with nd:=1+(MS.need 4 y11).1.num 4,st:=12 } else MS.need 4 y11):=R11.out;clear R11;by_cases h0:(MS.need 4 y11).2=0
   ·have k1:=MS.need_cnt H11.out.ok h0;have k2:=MS.need_same H11.out.ok h0;have k3:=MS.need_ok (k:=4) H11.out.ok;have hcn:=H11.out.cnt;rw [h0];rw [if_pos h0] at R';obtain ⟨z,hz⟩:∃ z,z=(MS.need 4 y11).1:=⟨_,rfl⟩
    rw [← hz] at g1 R' k1 k2 k3;have hzh:z.hl=[]:=by rw [k2];exact H11.out.hl
    have HZ:Hid (MM ρ wa11 p z∧Ok z∧Fr (fun k=>1<=k∧k<=5) ρ w wa11∧z.hl=[]):=⟨g1,k3,H11.out.fr.trans g2,hzh⟩
    clear g1 g2 hz k2 k3 h0 hzh;go_wp2_with fail
    refine (zw3 4 HZ.out.1 HZ.out.2.1 k1.1 (by omega)).mono ?_;rintro v wb11 ⟨rfl,g1,g2⟩;have hN:z.num 4<16:=Nat.mod_lt _ (by decide);have HQ:=g1.set_nd (1+z.num 4);have a27:=g1.own.2.1;have z27:=g1.frz 27;have k7:=g1.cell7.1;have z7:=g1.frz 7;obtain ⟨N,hNe⟩:∃ N,N=z.num 4:=⟨_,rfl⟩
    rw [← hNe] at R' hN HQ ⊢;have hbi:((1+N:Nat):Int)=1+(N:Int):=by omega
    have HU:Hid (MM ρ (wb11.setCell ⟨p,27,none⟩ (.int .i64 (1+N:Nat))) p { z.rd 4 with nd:=1+N }∧Ok { z.rd 4 with nd:=1+N }∧Fr (fun k=>1<=k∧k<=5) ρ w (wb11.setCell ⟨p,27,none⟩ (.int .i64 (1+N:Nat)))):=⟨HQ.1,{ HZ.out.2.1.rd k1.1 with },(HZ.out.2.2.1.trans g2).trans HQ.2⟩
    rw [hbi] at HU;clear g1 g2 HQ hNe hbi;have HS:=HU.out.1.st 12;obtain ⟨y12,hy⟩:∃ y:MS,y={ z.rd 4 with nd:=1+N,st:=12 }:=⟨_,rfl⟩
    have hWW:(wb11.setCell ⟨p,27,none⟩ (.int .i64 (1+(N:Int)))).setCell ⟨p,7,none⟩ (.int .i64 (12:Nat))=(wb11.setCell ⟨p,27,none⟩ (.int .i64 (1+(N:Int)))).setCell ⟨p,7,none⟩ (.int .i64 12):=rfl;have H12:Hid (Nw ρ w p y12 ((wb11.setCell ⟨p,27,none⟩ (.int .i64 (1+(N:Int)))).setCell ⟨p,7,none⟩ (.int .i64 12))):=by
     show Nw ρ w p y12 _;rw [hy];exact ⟨HS.1,HU.out.2.1.st 12,by show z.count - 4<=40;omega,HZ.out.2.2.2,HU.out.2.2.trans HS.2⟩
    have R12:Hid (x.o10=MS.o12 y12):=by show x.o10=_;rw [R'.out,← hy]
    clear HS hWW hy R' HU HZ;go_wp2_with fail
    clear a27 z27 k7 z7;refine (zvo 4 H12.out.mm H12.out.ok (by omega) (by have:=H12.out.cnt;omega)).mono ?_;rintro v wa12 ⟨rfl,g1,g2⟩;have R':Hid (x.o10=if (MS.need 4 y12).2=0 then (if 11<(MS.need 4 y12).1.num 4 then ({ (MS.need 4 y12).1.rd 4 with told:=4+(MS.need 4 y12).1.num 4 }:MS).refuse 10 else MS.o13 { (MS.need 4 y12).1.rd 4 with told:=4+(MS.need 4 y12).1.num 4,st:=13 }) else MS.need 4 y12):=R12.out;clear R12;by_cases h0:(MS.need 4 y12).2=0
    ·have k1:=MS.need_cnt H12.out.ok h0;have k2:=MS.need_same H12.out.ok h0;have k3:=MS.need_ok (k:=4) H12.out.ok;have hcn:=H12.out.cnt;rw [h0];rw [if_pos h0] at R';obtain ⟨z,hz⟩:∃ z,z=(MS.need 4 y12).1:=⟨_,rfl⟩
     rw [← hz] at g1 R' k1 k2 k3;have hzh:z.hl=[]:=by rw [k2];exact H12.out.hl
     have HZ:Hid (MM ρ wa12 p z∧Ok z∧Fr (fun k=>1<=k∧k<=5) ρ w wa12∧z.hl=[]):=⟨g1,k3,H12.out.fr.trans g2,hzh⟩
     clear g1 g2 hz k2 k3 h0 hzh;go_wp2_with fail
     refine (zw3 4 HZ.out.1 HZ.out.2.1 k1.1 (by omega)).mono ?_;rintro v wb12 ⟨rfl,g1,g2⟩;have hN:z.num 4<16:=Nat.mod_lt _ (by decide);have HQ:=g1.set_told (4+z.num 4);have a28:=g1.own.2.2.1;have z28:=g1.frz 28;have k7:=g1.cell7.1;have z7:=g1.frz 7;obtain ⟨N,hNe⟩:∃ N,N=z.num 4:=⟨_,rfl⟩
     rw [← hNe] at R' hN HQ ⊢;have hbi:((4+N:Nat):Int)=4+(N:Int):=by omega
     have HU:Hid (MM ρ (wb12.setCell ⟨p,28,none⟩ (.int .i64 (4+N:Nat))) p { z.rd 4 with told:=4+N }∧Ok { z.rd 4 with told:=4+N }∧Fr (fun k=>1<=k∧k<=5) ρ w (wb12.setCell ⟨p,28,none⟩ (.int .i64 (4+N:Nat)))):=⟨HQ.1,{ HZ.out.2.1.rd k1.1 with },(HZ.out.2.2.1.trans g2).trans HQ.2⟩
     rw [hbi] at HU;clear g1 g2 HQ hNe hbi;by_cases hgt:11<N
     ·rw [if_pos hgt] at R';have hgi:(15:Int)<4+N:=by omega
      go_wp2_with fail
      refine (kv8 10 HU.out.1).mono ?_;rintro v wr12 ⟨rfl,g3,g4⟩;have HR2:Hid (ym0 ρ w p (({ z.rd 4 with told:=4+N }:MS).refuse 10).1 wr12):=ym0.of g3 (HU.out.2.2.trans g4).five_mine;clear g3 g4;go_wp2_with fail
      go_ret
      unfold xxu;rw [R'.out];exact ⟨rfl,HR2.out⟩
     ·rw [if_neg hgt] at R';have hgi:¬ (15:Int)<4+N:=by omega
      have HS:=HU.out.1.st 13;obtain ⟨y13,hy⟩:∃ y:MS,y={ z.rd 4 with told:=4+N,st:=13 }:=⟨_,rfl⟩
      have hWW:(wb12.setCell ⟨p,28,none⟩ (.int .i64 (4+(N:Int)))).setCell ⟨p,7,none⟩ (.int .i64 (13:Nat))=(wb12.setCell ⟨p,28,none⟩ (.int .i64 (4+(N:Int)))).setCell ⟨p,7,none⟩ (.int .i64 13):=rfl;have H13:Hid (Nw ρ w p y13 ((wb12.setCell ⟨p,28,none⟩ (.int .i64 (4+(N:Int)))).setCell ⟨p,7,none⟩ (.int .i64 13))):=by
       show Nw ρ w p y13 _;rw [hy];exact ⟨HS.1,HU.out.2.1.st 13,by show z.count - 4<=40;omega,HZ.out.2.2.2,HU.out.2.2.trans HS.2⟩
      obtain ⟨R,hR⟩:∃ R,R=MS.hlL (y13.told - y13.hl.length) y13:=⟨_,rfl⟩
      have HF:Hid (x.o10=R):=by show x.o10=R;rw [hR,R'.out,← hy];rfl
      have H0:Hid (∃ y,Lw ρ w p y R ((wb12.setCell ⟨p,28,none⟩ (.int .i64 (4+(N:Int)))).setCell ⟨p,7,none⟩ (.int .i64 13))):=⟨y13,⟨ρ,Ext.refl _ _,H13.out.mm⟩,H13.out.fr.five_mine,H13.out.ok,hR.symm,H13.out.cnt,by rw [hy];show 4+N<=15;omega,by rw [H13.out.hl];simp,by rw [H13.out.hl];intro b hb;cases hb⟩
      clear HS hWW hy hR R' HU HZ H13;go_wp2_with fail
      clear hgt a28 z28 k7 z7;go_loopw [] (fun wr=>Hid (∃ y,Lw ρ w p y R wr)) (fun wr=>15 - xda wr p)
      case atStart=>exact H0
      case round=>
       clear H0;obtain ⟨y,Y⟩:=hrel.out;obtain ⟨ρ',ex,mm⟩:=Y.ex;obtain ⟨ad,cap,c29,_⟩:=mm.hlA;have e29:=x45 c29;have c28:=mm.own.2.2.1;have htl:=Y.told;have hle:=Y.le;have hcn:=Y.cnt;have HY:Hid (Lw ρ w p y R wr∧MM ρ' wr p y∧Ext w.heap.size ρ ρ'):=⟨Y,mm,ex⟩
       clear Y hrel mm ex;by_cases hlt:y.hl.length<y.told
       ·obtain ⟨n,hn⟩:∃ n,y.told - y.hl.length=n+1:=⟨y.told - y.hl.length - 1,by omega⟩
        have HS:Hid (R=if (MS.need 3 y).2=0 then MS.hlL n { (MS.need 3 y).1.rd 3 with hl:=(MS.need 3 y).1.hl++[((MS.need 3 y).1.num 3:Int)] } else MS.need 3 y):=by show R=_;rw [← HY.out.1.eq,MS.hl_succ hn]
        have hlti:(y.hl.length:Int)<y.told:=by omega
        go_wp2_with fail
        go_quiet (fail)
        go_wp2_with fail
        refine (zvo 3 (HY.out.2.1.drewN _) HY.out.1.ok (by omega) (by omega)).mono ?_;rintro v w5 ⟨rfl,g1,g2⟩;by_cases h0:(MS.need 3 y).2=0
        ·have k1:=MS.need_cnt HY.out.1.ok h0;have k2:=MS.need_same HY.out.1.ok h0;have k3:=MS.need_ok (k:=3) HY.out.1.ok;rw [h0];rw [if_pos h0] at HS;obtain ⟨z,hzz⟩:∃ z,z=(MS.need 3 y).1:=⟨_,rfl⟩
         rw [← hzz] at g1 HS k1 k2 k3;have HZH:Hid (z.hl=y.hl):=by show z.hl=y.hl;rw [k2]
         have HZT:Hid (z.told=y.told):=by show z.told=y.told;rw [k2]
         have HZ:Hid (MM ρ' w5 p z∧Ok z∧Fr mine ρ w w5):=⟨g1,k3,(HY.out.1.fr.drewN _).ext g2.five_mine HY.out.2.2⟩
         clear g1 g2 hzz k2 k3 h0 c29 c28;have hbl:z.num 3<8:=Nat.mod_lt _ (by decide);obtain ⟨L5,B5,T5⟩:=HZ.out.1;have HRD:Hid (∀ n,Calls Tryz.prog 134 #[.pointer (some ⟨p,14,none⟩), .int .i64 (3:Nat)] (w5.drewN n) fun v w'=>v= .returned (.int .i64 (z.num 3))∧MB ρ' w' p (z.rd 3) L5∧MT ρ' w' (z.rd 3) L5∧Fr (fun k=>1<=k∧k<=5) ρ' (w5.drewN n) w'):=fun n=>jh0 3 (B5.drewN n) (T5.drewN n) HZ.out.2.1 k1.1 (by omega)
         obtain ⟨b,hb⟩:∃ b,b=z.num 3:=⟨_,rfl⟩
         rw [← hb] at HS HRD hbl;clear hb;have a29:w5.cell? ⟨p,29,none⟩=some L5.hv:=B5.row.cell (i:=29) (by omega);have hpo:L5.hv.ownBlock≠some p:=fun e=>by
          have a1:=T5.hl.2 p e;have a2:=B5.rp;omega
         obtain ⟨lv,hlv⟩:∃ lv,lv=L5.hv:=⟨_,rfl⟩
         have HLV:Hid (lv=L5.hv):=hlv;have HHV:Hid (∀ w',MT ρ' w' (z.rd 3) L5->w'.ownsRow 0 3 1 lv z.hl.length (k2f z.hl)):=fun w' t=>by rw [hlv];exact t.hl.1
         have hzl:z.hl.length<=15:=by rw [HZH.out];omega
         have hcz:=k1;rw [← hlv] at a29 hpo;clear B5 T5 hlv;obtain ⟨i3,hi3,hy0,hy1,hy2⟩:=info_parts ve2;go_wp2_with fail
         go_region_law
          ((first
           | (refine xc4 rfl 134 #[.pointer (some ⟨p,14,none⟩), .int .i64 (3:Nat)] (by kernel_rfl) (HRD.out 1) ?_;rintro e w2 ⟨rfl,B2,T2,g2⟩;refine ⟨_,rfl,?_⟩;have HB2:Hid (MB ρ' w2 p (z.rd 3) L5∧MT ρ' w2 (z.rd 3) L5∧Fr mine ρ w w2):=⟨B2,T2,(HZ.out.2.2.drewN 1).ext g2.five_mine HY.out.2.2⟩;have d29:w2.cell? ⟨p,29,none⟩=some lv:=by { rw [HLV.out];exact B2.row.cell (i:=29) (by omega) };have y29:=B2.row.frozen 29;have hown2:=HHV.out w2 T2;have hpl2:=B2.row.lt;clear B2 T2 g2)
           | (refine step_append_lies _ (by rfl) _ _ _ (by rfl) 0 3 i3 _ 1 8 Tryz.underlying69 hi3 hy0 hy1 hy2 rfl (by omega) lv z.hl.length (k2f z.hl) (by rfl) (hown2.alloc _) ⟨w2.heap.size,0,none⟩ 1 1 [.int .i64 b] (by rfl) (by rfl) (cell_one_new w2 _ _) (by simp [Value.oneCell']) (by omega) (by unfold maxLen;omega) (by omega) (Nat.zero_le _) (w2.heap.size+1) (by simp) ?_;intro g3 p3 w3 hown3 hgrow3 hat3 hlt3;have d29':=x7a (a:=⟨p,29,none⟩) hgrow3 hpl2 hpo d29;have y29':=jk1 (a:=⟨p,29,none⟩) hgrow3 hpl2 hpo y29)))
         all_goals
          have G:=kp4 (g:=g3) (cap:=p3) (a:=(b:Int)) HB2.out.1 HB2.out.2.1 hown3 (by rw [← HLV.out];exact hgrow3) (by rw [← HLV.out];exact hat3) hlt3;have HN:Hid (∃ y,Lw ρ w p y R (w3.setCell ⟨p,29,none⟩ (.slice (some ⟨g3,0,none⟩) (z.hl.length+1) p3))):=by
           refine ⟨{ z.rd 3 with hl:=z.hl++[(b:Int)] },⟨give ρ' g3 6,HY.out.2.2.trans G.2.1 HB2.out.2.2.kp.size,G.1⟩,HB2.out.2.2.ext G.2.2 HY.out.2.2,{ HZ.out.2.1.rd hcz.1 with },?_,?_,?_,?_,?_⟩
           ·have e:({ z.rd 3 with hl:=z.hl++[(b:Int)] }:MS).told - ({ z.rd 3 with hl:=z.hl++[(b:Int)] }:MS).hl.length=n:=by
             show z.told - (z.hl++[(b:Int)]).length=n;rw [HZT.out,HZH.out];simp;omega
            rw [e];exact HS.out.symm
           ·show z.count - 3<=40;omega
           ·show z.told<=15;rw [HZT.out];exact htl
           ·show (z.hl++[(b:Int)]).length<=z.told;rw [HZT.out,HZH.out];simp;omega
           ·intro q hq;have hq':q∈z.hl++[(b:Int)]:=hq;rcases List.mem_append.1 hq' with hq' | hq'
            ·rw [HZH.out] at hq';exact HY.out.1.hx q hq'
            ·simp at hq';omega
          have eN:xda (w3.setCell ⟨p,29,none⟩ (.slice (some ⟨g3,0,none⟩) (z.hl.length+1) p3)) p=z.hl.length+1:=by
           obtain ⟨ad',cap',c',_⟩:=G.1.hlA;exact (x45 c').trans (by show (z.hl++[(b:Int)]).length=_;simp)
          clear G hown3 hgrow3 hat3 hlt3;go_wp2_with fail
          go_roundw
          case rel=>exact HN
          case measure=>rw [e29,eN,HZH.out];omega
        ·rw [if_neg h0] at HS;obtain ⟨t,ht⟩:∃ t,t=(MS.need 3 y).2:=⟨_,rfl⟩
         have HR:Hid (ym0 ρ w p (MS.need 3 y).1 w5∧(MS.need 3 y).2=t):=⟨⟨⟨ρ',HY.out.2.2,g1⟩,(HY.out.1.fr.drewN _).ext g2.five_mine HY.out.2.2⟩,ht.symm⟩
         rw [← ht] at h0 ⊢;have h0':((t:Int)==0)=false:=by simp;exact h0
         clear g1 g2 ht;go_wp2_with fail
         go_ret
         unfold xxu;rw [HF.out,HS.out,HR.out.2];exact ⟨rfl,HR.out.1⟩
       ·have hlti:¬ (y.hl.length:Int)<y.told:=by omega
        have HS:Hid (R=if jwa gw (hset y.hl)=2048 then ({ y with hs:=hset y.hl,st:=14 },0) else y.refuse 10):=by show R=_;rw [← HY.out.1.eq,MS.hl_zero hlt];rfl
        have HMH:Hid (∀ n,Calls Tryz.prog 139 #[.pointer (some ⟨p,26,none⟩)] (wr.drewN n) fun v w'=>kee ρ' (wr.drewN n) p y v w'):=fun n=>kpx (HY.out.2.1.drewN n) (HOG.out.1.fr (HY.out.1.fr.drewN n) HOG.out.2) HY.out.1.hx (by omega)
        go_wp2_with fail
        go_quiet (fail)
        go_wp2_with fail
        refine (HMH.out _).mono ?_;rintro v w5 HE5;unfold kee at HE5;by_cases hS:jwa gw (hset y.hl)=2048
        ·rw [if_pos hS] at HE5 HS;obtain ⟨rfl,AF⟩:=HE5;have AW:=ym0.next HY.out.2.2 (HY.out.1.fr.drewN _) AF;obtain ⟨ρ'',ex2,mm2⟩:=AW.ex;have k7:=mm2.cell7.1;have z7:=mm2.cell7.2;have HA:Hid (ym0 ρ w p { y with hs:=hset y.hl,st:=14 } (w5.setCell ⟨p,7,none⟩ (.int .i64 14))):=⟨⟨ρ'',ex2,(mm2.st 14).1⟩,AW.fr.ext (mm2.st 14).2.five_mine ex2⟩
         clear AF AW ex2 mm2;go_wp2_with fail
         go_ret
         unfold xxu;rw [HF.out,HS.out];exact ⟨rfl,HA.out⟩
        ·rw [if_neg hS] at HE5 HS;obtain ⟨rfl,AF⟩:=HE5;have AW:=ym0.next HY.out.2.2 (HY.out.1.fr.drewN _) AF;obtain ⟨ρ'',ex2,mm2⟩:=AW.ex;have HA:Hid (MM ρ'' w5 p y∧Ext w.heap.size ρ ρ''∧Fr mine ρ w w5):=⟨mm2,ex2,AW.fr⟩
         clear AF AW ex2 mm2;go_wp2_with fail
         refine (kv8 10 HA.out.1).mono ?_;rintro v w6 ⟨rfl,g3,g4⟩;have HR2:Hid (ym0 ρ w p (y.refuse 10).1 w6):=⟨⟨ρ'',HA.out.2.1,g3⟩,HA.out.2.2.ext g4.five_mine HA.out.2.1⟩
         clear g3 g4;go_wp2_with fail
         go_ret
         unfold xxu;rw [HF.out,HS.out];exact ⟨rfl,HR2.out⟩
    ·rw [if_neg h0] at R';obtain ⟨t,ht⟩:∃ t,t=(MS.need 4 y12).2:=⟨_,rfl⟩
     have HR:Hid (ym0 ρ w p (MS.need 4 y12).1 wa12∧(MS.need 4 y12).2=t):=⟨ym0.of g1 (H12.out.fr.trans g2).five_mine,ht.symm⟩
     rw [← ht] at h0 ⊢;have h0':((t:Int)==0)=false:=by simp;exact h0
     clear g1 g2 ht;go_wp2_with fail
     go_ret
     unfold xxu;rw [R'.out,HR.out.2];exact ⟨rfl,HR.out.1⟩
   ·rw [if_neg h0] at R';obtain ⟨t,ht⟩:∃ t,t=(MS.need 4 y11).2:=⟨_,rfl⟩
    have HR:Hid (ym0 ρ w p (MS.need 4 y11).1 wa11∧(MS.need 4 y11).2=t):=⟨ym0.of g1 (H11.out.fr.trans g2).five_mine,ht.symm⟩
    rw [← ht] at h0 ⊢;have h0':((t:Int)==0)=false:=by simp;exact h0
    clear g1 g2 ht;go_wp2_with fail
    go_ret
    unfold xxu;rw [R'.out,HR.out.2];exact ⟨rfl,HR.out.1⟩
 ·rw [if_neg h0] at R';obtain ⟨t,ht⟩:∃ t,t=(MS.need 4 x).2:=⟨_,rfl⟩
  have HR:Hid (ym0 ρ w p (MS.need 4 x).1 wa10∧(MS.need 4 x).2=t):=⟨ym0.of g1 (H10.out.fr.trans g2).five_mine,ht.symm⟩
  rw [← ht] at h0 ⊢;have h0':((t:Int)==0)=false:=by simp;exact h0
  clear g1 g2 ht;go_wp2_with fail
  go_ret
  unfold xxu;rw [R'.out,HR.out.2];exact ⟨rfl,HR.out.1⟩
theorem z5n{ρ:Nat->Nat}{w:World}{p:Nat}{x:MS}(h:MM ρ w p x)(ok:Ok x)(hc:x.count<=40)(hO:OrdP w)(hG:ρ 0=0)(hl:x.hl=[])(hst:x.st=11) :
  Calls Tryz.prog 103 #[.pointer (some ⟨p,0,none⟩)] w fun v w'=>xxu ρ w p x.o11 v w':=by
 have H11:Hid (Nw ρ w p x w):=⟨h,ok,hc,hl,Fr.refl _ _ _⟩
 have HOG:Hid (OrdP w∧ρ 0=0):=⟨hO,hG⟩
 have c7:=h.cell7.1;rw [hst] at c7;clear h ok hst hc hO hG hl;go_enter Tryz.func103,Tryz.ntmps103
 go_wp2_with fail
 refine (zvo 4 H11.out.mm H11.out.ok (by omega) (by have:=H11.out.cnt;omega)).mono ?_;rintro v wa11 ⟨rfl,g1,g2⟩;have R':Hid (x.o11=if (MS.need 4 x).2=0 then MS.o12 { (MS.need 4 x).1.rd 4 with nd:=1+(MS.need 4 x).1.num 4,st:=12 } else MS.need 4 x):=rfl;by_cases h0:(MS.need 4 x).2=0
 ·have k1:=MS.need_cnt H11.out.ok h0;have k2:=MS.need_same H11.out.ok h0;have k3:=MS.need_ok (k:=4) H11.out.ok;have hcn:=H11.out.cnt;rw [h0];rw [if_pos h0] at R';obtain ⟨z,hz⟩:∃ z,z=(MS.need 4 x).1:=⟨_,rfl⟩
  rw [← hz] at g1 R' k1 k2 k3;have hzh:z.hl=[]:=by rw [k2];exact H11.out.hl
  have HZ:Hid (MM ρ wa11 p z∧Ok z∧Fr (fun k=>1<=k∧k<=5) ρ w wa11∧z.hl=[]):=⟨g1,k3,H11.out.fr.trans g2,hzh⟩
  clear g1 g2 hz k2 k3 h0 hzh;go_wp2_with fail
  refine (zw3 4 HZ.out.1 HZ.out.2.1 k1.1 (by omega)).mono ?_;rintro v wb11 ⟨rfl,g1,g2⟩;have hN:z.num 4<16:=Nat.mod_lt _ (by decide);have HQ:=g1.set_nd (1+z.num 4);have a27:=g1.own.2.1;have z27:=g1.frz 27;have k7:=g1.cell7.1;have z7:=g1.frz 7;obtain ⟨N,hNe⟩:∃ N,N=z.num 4:=⟨_,rfl⟩
  rw [← hNe] at R' hN HQ ⊢;have hbi:((1+N:Nat):Int)=1+(N:Int):=by omega
  have HU:Hid (MM ρ (wb11.setCell ⟨p,27,none⟩ (.int .i64 (1+N:Nat))) p { z.rd 4 with nd:=1+N }∧Ok { z.rd 4 with nd:=1+N }∧Fr (fun k=>1<=k∧k<=5) ρ w (wb11.setCell ⟨p,27,none⟩ (.int .i64 (1+N:Nat)))):=⟨HQ.1,{ HZ.out.2.1.rd k1.1 with },(HZ.out.2.2.1.trans g2).trans HQ.2⟩
  rw [hbi] at HU;clear g1 g2 HQ hNe hbi;have HS:=HU.out.1.st 12;obtain ⟨y12,hy⟩:∃ y:MS,y={ z.rd 4 with nd:=1+N,st:=12 }:=⟨_,rfl⟩
  have hWW:(wb11.setCell ⟨p,27,none⟩ (.int .i64 (1+(N:Int)))).setCell ⟨p,7,none⟩ (.int .i64 (12:Nat))=(wb11.setCell ⟨p,27,none⟩ (.int .i64 (1+(N:Int)))).setCell ⟨p,7,none⟩ (.int .i64 12):=rfl;have H12:Hid (Nw ρ w p y12 ((wb11.setCell ⟨p,27,none⟩ (.int .i64 (1+(N:Int)))).setCell ⟨p,7,none⟩ (.int .i64 12))):=by
   show Nw ρ w p y12 _;rw [hy];exact ⟨HS.1,HU.out.2.1.st 12,by show z.count - 4<=40;omega,HZ.out.2.2.2,HU.out.2.2.trans HS.2⟩
  have R12:Hid (x.o11=MS.o12 y12):=by show x.o11=_;rw [R'.out,← hy]
  clear HS hWW hy R' HU HZ;go_wp2_with fail
  clear a27 z27 k7 z7;refine (zvo 4 H12.out.mm H12.out.ok (by omega) (by have:=H12.out.cnt;omega)).mono ?_;rintro v wa12 ⟨rfl,g1,g2⟩;have R':Hid (x.o11=if (MS.need 4 y12).2=0 then (if 11<(MS.need 4 y12).1.num 4 then ({ (MS.need 4 y12).1.rd 4 with told:=4+(MS.need 4 y12).1.num 4 }:MS).refuse 10 else MS.o13 { (MS.need 4 y12).1.rd 4 with told:=4+(MS.need 4 y12).1.num 4,st:=13 }) else MS.need 4 y12):=R12.out;clear R12;by_cases h0:(MS.need 4 y12).2=0
  ·have k1:=MS.need_cnt H12.out.ok h0;have k2:=MS.need_same H12.out.ok h0;have k3:=MS.need_ok (k:=4) H12.out.ok;have hcn:=H12.out.cnt;rw [h0];rw [if_pos h0] at R';obtain ⟨z,hz⟩:∃ z,z=(MS.need 4 y12).1:=⟨_,rfl⟩
   rw [← hz] at g1 R' k1 k2 k3;have hzh:z.hl=[]:=by rw [k2];exact H12.out.hl
   have HZ:Hid (MM ρ wa12 p z∧Ok z∧Fr (fun k=>1<=k∧k<=5) ρ w wa12∧z.hl=[]):=⟨g1,k3,H12.out.fr.trans g2,hzh⟩
   clear g1 g2 hz k2 k3 h0 hzh;go_wp2_with fail
   refine (zw3 4 HZ.out.1 HZ.out.2.1 k1.1 (by omega)).mono ?_;rintro v wb12 ⟨rfl,g1,g2⟩;have hN:z.num 4<16:=Nat.mod_lt _ (by decide);have HQ:=g1.set_told (4+z.num 4);have a28:=g1.own.2.2.1;have z28:=g1.frz 28;have k7:=g1.cell7.1;have z7:=g1.frz 7;obtain ⟨N,hNe⟩:∃ N,N=z.num 4:=⟨_,rfl⟩
   rw [← hNe] at R' hN HQ ⊢;have hbi:((4+N:Nat):Int)=4+(N:Int):=by omega
   have HU:Hid (MM ρ (wb12.setCell ⟨p,28,none⟩ (.int .i64 (4+N:Nat))) p { z.rd 4 with told:=4+N }∧Ok { z.rd 4 with told:=4+N }∧Fr (fun k=>1<=k∧k<=5) ρ w (wb12.setCell ⟨p,28,none⟩ (.int .i64 (4+N:Nat)))):=⟨HQ.1,{ HZ.out.2.1.rd k1.1 with },(HZ.out.2.2.1.trans g2).trans HQ.2⟩
   rw [hbi] at HU;clear g1 g2 HQ hNe hbi;by_cases hgt:11<N
   ·rw [if_pos hgt] at R';have hgi:(15:Int)<4+N:=by omega
    go_wp2_with fail
    refine (kv8 10 HU.out.1).mono ?_;rintro v wr12 ⟨rfl,g3,g4⟩;have HR2:Hid (ym0 ρ w p (({ z.rd 4 with told:=4+N }:MS).refuse 10).1 wr12):=ym0.of g3 (HU.out.2.2.trans g4).five_mine;clear g3 g4;go_wp2_with fail
    go_ret
    unfold xxu;rw [R'.out];exact ⟨rfl,HR2.out⟩
   ·rw [if_neg hgt] at R';have hgi:¬ (15:Int)<4+N:=by omega
    have HS:=HU.out.1.st 13;obtain ⟨y13,hy⟩:∃ y:MS,y={ z.rd 4 with told:=4+N,st:=13 }:=⟨_,rfl⟩
    have hWW:(wb12.setCell ⟨p,28,none⟩ (.int .i64 (4+(N:Int)))).setCell ⟨p,7,none⟩ (.int .i64 (13:Nat))=(wb12.setCell ⟨p,28,none⟩ (.int .i64 (4+(N:Int)))).setCell ⟨p,7,none⟩ (.int .i64 13):=rfl;have H13:Hid (Nw ρ w p y13 ((wb12.setCell ⟨p,28,none⟩ (.int .i64 (4+(N:Int)))).setCell ⟨p,7,none⟩ (.int .i64 13))):=by
     show Nw ρ w p y13 _;rw [hy];exact ⟨HS.1,HU.out.2.1.st 13,by show z.count - 4<=40;omega,HZ.out.2.2.2,HU.out.2.2.trans HS.2⟩
    obtain ⟨R,hR⟩:∃ R,R=MS.hlL (y13.told - y13.hl.length) y13:=⟨_,rfl⟩
    have HF:Hid (x.o11=R):=by show x.o11=R;rw [hR,R'.out,← hy];rfl
    have H0:Hid (∃ y,Lw ρ w p y R ((wb12.setCell ⟨p,28,none⟩ (.int .i64 (4+(N:Int)))).setCell ⟨p,7,none⟩ (.int .i64 13))):=⟨y13,⟨ρ,Ext.refl _ _,H13.out.mm⟩,H13.out.fr.five_mine,H13.out.ok,hR.symm,H13.out.cnt,by rw [hy];show 4+N<=15;omega,by rw [H13.out.hl];simp,by rw [H13.out.hl];intro b hb;cases hb⟩
    clear HS hWW hy hR R' HU HZ H13;go_wp2_with fail
    clear hgt a28 z28 k7 z7;go_loopw [] (fun wr=>Hid (∃ y,Lw ρ w p y R wr)) (fun wr=>15 - xda wr p)
    case atStart=>exact H0
    case round=>
     clear H0;obtain ⟨y,Y⟩:=hrel.out;obtain ⟨ρ',ex,mm⟩:=Y.ex;obtain ⟨ad,cap,c29,_⟩:=mm.hlA;have e29:=x45 c29;have c28:=mm.own.2.2.1;have htl:=Y.told;have hle:=Y.le;have hcn:=Y.cnt;have HY:Hid (Lw ρ w p y R wr∧MM ρ' wr p y∧Ext w.heap.size ρ ρ'):=⟨Y,mm,ex⟩
     clear Y hrel mm ex;by_cases hlt:y.hl.length<y.told
     ·obtain ⟨n,hn⟩:∃ n,y.told - y.hl.length=n+1:=⟨y.told - y.hl.length - 1,by omega⟩
      have HS:Hid (R=if (MS.need 3 y).2=0 then MS.hlL n { (MS.need 3 y).1.rd 3 with hl:=(MS.need 3 y).1.hl++[((MS.need 3 y).1.num 3:Int)] } else MS.need 3 y):=by show R=_;rw [← HY.out.1.eq,MS.hl_succ hn]
      have hlti:(y.hl.length:Int)<y.told:=by omega
      go_wp2_with fail
      go_quiet (fail)
      go_wp2_with fail
      refine (zvo 3 (HY.out.2.1.drewN _) HY.out.1.ok (by omega) (by omega)).mono ?_;rintro v w5 ⟨rfl,g1,g2⟩;by_cases h0:(MS.need 3 y).2=0
      ·have k1:=MS.need_cnt HY.out.1.ok h0;have k2:=MS.need_same HY.out.1.ok h0;have k3:=MS.need_ok (k:=3) HY.out.1.ok;rw [h0];rw [if_pos h0] at HS;obtain ⟨z,hzz⟩:∃ z,z=(MS.need 3 y).1:=⟨_,rfl⟩
       rw [← hzz] at g1 HS k1 k2 k3;have HZH:Hid (z.hl=y.hl):=by show z.hl=y.hl;rw [k2]
       have HZT:Hid (z.told=y.told):=by show z.told=y.told;rw [k2]
       have HZ:Hid (MM ρ' w5 p z∧Ok z∧Fr mine ρ w w5):=⟨g1,k3,(HY.out.1.fr.drewN _).ext g2.five_mine HY.out.2.2⟩
       clear g1 g2 hzz k2 k3 h0 c29 c28;have hbl:z.num 3<8:=Nat.mod_lt _ (by decide);obtain ⟨L5,B5,T5⟩:=HZ.out.1;have HRD:Hid (∀ n,Calls Tryz.prog 134 #[.pointer (some ⟨p,14,none⟩), .int .i64 (3:Nat)] (w5.drewN n) fun v w'=>v= .returned (.int .i64 (z.num 3))∧MB ρ' w' p (z.rd 3) L5∧MT ρ' w' (z.rd 3) L5∧Fr (fun k=>1<=k∧k<=5) ρ' (w5.drewN n) w'):=fun n=>jh0 3 (B5.drewN n) (T5.drewN n) HZ.out.2.1 k1.1 (by omega)
       obtain ⟨b,hb⟩:∃ b,b=z.num 3:=⟨_,rfl⟩
       rw [← hb] at HS HRD hbl;clear hb;have a29:w5.cell? ⟨p,29,none⟩=some L5.hv:=B5.row.cell (i:=29) (by omega);have hpo:L5.hv.ownBlock≠some p:=fun e=>by
        have a1:=T5.hl.2 p e;have a2:=B5.rp;omega
       obtain ⟨lv,hlv⟩:∃ lv,lv=L5.hv:=⟨_,rfl⟩
       have HLV:Hid (lv=L5.hv):=hlv;have HHV:Hid (∀ w',MT ρ' w' (z.rd 3) L5->w'.ownsRow 0 3 1 lv z.hl.length (k2f z.hl)):=fun w' t=>by rw [hlv];exact t.hl.1
       have hzl:z.hl.length<=15:=by rw [HZH.out];omega
       have hcz:=k1;rw [← hlv] at a29 hpo;clear B5 T5 hlv;obtain ⟨i3,hi3,hy0,hy1,hy2⟩:=info_parts ve2;go_wp2_with fail
       go_region_law
        ((first
         | (refine xc4 rfl 134 #[.pointer (some ⟨p,14,none⟩), .int .i64 (3:Nat)] (by kernel_rfl) (HRD.out 1) ?_;rintro e w2 ⟨rfl,B2,T2,g2⟩;refine ⟨_,rfl,?_⟩;have HB2:Hid (MB ρ' w2 p (z.rd 3) L5∧MT ρ' w2 (z.rd 3) L5∧Fr mine ρ w w2):=⟨B2,T2,(HZ.out.2.2.drewN 1).ext g2.five_mine HY.out.2.2⟩;have d29:w2.cell? ⟨p,29,none⟩=some lv:=by { rw [HLV.out];exact B2.row.cell (i:=29) (by omega) };have y29:=B2.row.frozen 29;have hown2:=HHV.out w2 T2;have hpl2:=B2.row.lt;clear B2 T2 g2)
         | (refine step_append_lies _ (by rfl) _ _ _ (by rfl) 0 3 i3 _ 1 8 Tryz.underlying69 hi3 hy0 hy1 hy2 rfl (by omega) lv z.hl.length (k2f z.hl) (by rfl) (hown2.alloc _) ⟨w2.heap.size,0,none⟩ 1 1 [.int .i64 b] (by rfl) (by rfl) (cell_one_new w2 _ _) (by simp [Value.oneCell']) (by omega) (by unfold maxLen;omega) (by omega) (Nat.zero_le _) (w2.heap.size+1) (by simp) ?_;intro g3 p3 w3 hown3 hgrow3 hat3 hlt3;have d29':=x7a (a:=⟨p,29,none⟩) hgrow3 hpl2 hpo d29;have y29':=jk1 (a:=⟨p,29,none⟩) hgrow3 hpl2 hpo y29)))
       all_goals
        have G:=kp4 (g:=g3) (cap:=p3) (a:=(b:Int)) HB2.out.1 HB2.out.2.1 hown3 (by rw [← HLV.out];exact hgrow3) (by rw [← HLV.out];exact hat3) hlt3;have HN:Hid (∃ y,Lw ρ w p y R (w3.setCell ⟨p,29,none⟩ (.slice (some ⟨g3,0,none⟩) (z.hl.length+1) p3))):=by
         refine ⟨{ z.rd 3 with hl:=z.hl++[(b:Int)] },⟨give ρ' g3 6,HY.out.2.2.trans G.2.1 HB2.out.2.2.kp.size,G.1⟩,HB2.out.2.2.ext G.2.2 HY.out.2.2,{ HZ.out.2.1.rd hcz.1 with },?_,?_,?_,?_,?_⟩
         ·have e:({ z.rd 3 with hl:=z.hl++[(b:Int)] }:MS).told - ({ z.rd 3 with hl:=z.hl++[(b:Int)] }:MS).hl.length=n:=by
           show z.told - (z.hl++[(b:Int)]).length=n;rw [HZT.out,HZH.out];simp;omega
          rw [e];exact HS.out.symm
         ·show z.count - 3<=40;omega
         ·show z.told<=15;rw [HZT.out];exact htl
         ·show (z.hl++[(b:Int)]).length<=z.told;rw [HZT.out,HZH.out];simp;omega
         ·intro q hq;have hq':q∈z.hl++[(b:Int)]:=hq;rcases List.mem_append.1 hq' with hq' | hq'
          ·rw [HZH.out] at hq';exact HY.out.1.hx q hq'
          ·simp at hq';omega
        have eN:xda (w3.setCell ⟨p,29,none⟩ (.slice (some ⟨g3,0,none⟩) (z.hl.length+1) p3)) p=z.hl.length+1:=by
         obtain ⟨ad',cap',c',_⟩:=G.1.hlA;exact (x45 c').trans (by show (z.hl++[(b:Int)]).length=_;simp)
        clear G hown3 hgrow3 hat3 hlt3;go_wp2_with fail
        go_roundw
        case rel=>exact HN
        case measure=>rw [e29,eN,HZH.out];omega
      ·rw [if_neg h0] at HS;obtain ⟨t,ht⟩:∃ t,t=(MS.need 3 y).2:=⟨_,rfl⟩
       have HR:Hid (ym0 ρ w p (MS.need 3 y).1 w5∧(MS.need 3 y).2=t):=⟨⟨⟨ρ',HY.out.2.2,g1⟩,(HY.out.1.fr.drewN _).ext g2.five_mine HY.out.2.2⟩,ht.symm⟩
       rw [← ht] at h0 ⊢;have h0':((t:Int)==0)=false:=by simp;exact h0
       clear g1 g2 ht;go_wp2_with fail
       go_ret
       unfold xxu;rw [HF.out,HS.out,HR.out.2];exact ⟨rfl,HR.out.1⟩
     ·have hlti:¬ (y.hl.length:Int)<y.told:=by omega
      have HS:Hid (R=if jwa gw (hset y.hl)=2048 then ({ y with hs:=hset y.hl,st:=14 },0) else y.refuse 10):=by show R=_;rw [← HY.out.1.eq,MS.hl_zero hlt];rfl
      have HMH:Hid (∀ n,Calls Tryz.prog 139 #[.pointer (some ⟨p,26,none⟩)] (wr.drewN n) fun v w'=>kee ρ' (wr.drewN n) p y v w'):=fun n=>kpx (HY.out.2.1.drewN n) (HOG.out.1.fr (HY.out.1.fr.drewN n) HOG.out.2) HY.out.1.hx (by omega)
      go_wp2_with fail
      go_quiet (fail)
      go_wp2_with fail
      refine (HMH.out _).mono ?_;rintro v w5 HE5;unfold kee at HE5;by_cases hS:jwa gw (hset y.hl)=2048
      ·rw [if_pos hS] at HE5 HS;obtain ⟨rfl,AF⟩:=HE5;have AW:=ym0.next HY.out.2.2 (HY.out.1.fr.drewN _) AF;obtain ⟨ρ'',ex2,mm2⟩:=AW.ex;have k7:=mm2.cell7.1;have z7:=mm2.cell7.2;have HA:Hid (ym0 ρ w p { y with hs:=hset y.hl,st:=14 } (w5.setCell ⟨p,7,none⟩ (.int .i64 14))):=⟨⟨ρ'',ex2,(mm2.st 14).1⟩,AW.fr.ext (mm2.st 14).2.five_mine ex2⟩
       clear AF AW ex2 mm2;go_wp2_with fail
       go_ret
       unfold xxu;rw [HF.out,HS.out];exact ⟨rfl,HA.out⟩
      ·rw [if_neg hS] at HE5 HS;obtain ⟨rfl,AF⟩:=HE5;have AW:=ym0.next HY.out.2.2 (HY.out.1.fr.drewN _) AF;obtain ⟨ρ'',ex2,mm2⟩:=AW.ex;have HA:Hid (MM ρ'' w5 p y∧Ext w.heap.size ρ ρ''∧Fr mine ρ w w5):=⟨mm2,ex2,AW.fr⟩
       clear AF AW ex2 mm2;go_wp2_with fail
       refine (kv8 10 HA.out.1).mono ?_;rintro v w6 ⟨rfl,g3,g4⟩;have HR2:Hid (ym0 ρ w p (y.refuse 10).1 w6):=⟨⟨ρ'',HA.out.2.1,g3⟩,HA.out.2.2.ext g4.five_mine HA.out.2.1⟩
       clear g3 g4;go_wp2_with fail
       go_ret
       unfold xxu;rw [HF.out,HS.out];exact ⟨rfl,HR2.out⟩
  ·rw [if_neg h0] at R';obtain ⟨t,ht⟩:∃ t,t=(MS.need 4 y12).2:=⟨_,rfl⟩
   have HR:Hid (ym0 ρ w p (MS.need 4 y12).1 wa12∧(MS.need 4 y12).2=t):=⟨ym0.of g1 (H12.out.fr.trans g2).five_mine,ht.symm⟩
   rw [← ht] at h0 ⊢;have h0':((t:Int)==0)=false:=by simp;exact h0
   clear g1 g2 ht;go_wp2_with fail
   go_ret
   unfold xxu;rw [R'.out,HR.out.2];exact ⟨rfl,HR.out.1⟩
 ·rw [if_neg h0] at R';obtain ⟨t,ht⟩:∃ t,t=(MS.need 4 x).2:=⟨_,rfl⟩
  have HR:Hid (ym0 ρ w p (MS.need 4 x).1 wa11∧(MS.need 4 x).2=t):=⟨ym0.of g1 (H11.out.fr.trans g2).five_mine,ht.symm⟩
  rw [← ht] at h0 ⊢;have h0':((t:Int)==0)=false:=by simp;exact h0
  clear g1 g2 ht;go_wp2_with fail
  go_ret
  unfold xxu;rw [R'.out,HR.out.2];exact ⟨rfl,HR.out.1⟩
theorem knx{ρ:Nat->Nat}{w:World}{p:Nat}{x:MS}(h:MM ρ w p x)(ok:Ok x)(hc:x.count<=40)(hne:x.la≠[])(hlb:x.lb.length<=16)(hqc:∀ b∈x.qc,b<256)(hb:x.bits<=16∧x.least<=1000000∧1<=x.least)(hl:x.left<=65535)(hst:x.st=20) :
  Calls Tryz.prog 106 #[.pointer (some ⟨p,0,none⟩)] w fun v w'=>y0y ρ w p x.c20 v w':=by
 have H20:Hid (Cw ρ w p x w):=⟨h,ok,hc,hne,hlb,Fr.refl _ _ _⟩
 have Q20:=hqc;have c39:=h.cellI.2.2.1;have c40:=h.cellI.2.2.2.2.1;have B20:=hb;have L20:=hl;have R20:Hid (x.c20=MS.symThen (x.spanR x.least x.bits) fun y n=>if y.qc.length<n then y.refuse 11 else MS.c21 { y with dist:=n,st:=21 }):=rfl;have c7:=h.cell7.1;rw [hst] at c7;clear h ok hst hc hne hlb hqc;go_enter Tryz.func106,Tryz.ntmps106
 go_wp2_with fail
 have hbl:=B20;refine (xh4 x.least x.bits H20.out.mm H20.out.ok H20.out.cnt hbl.1 hbl.2.1).mono ?_;rintro v wa20 ⟨rfl,g1,g2⟩;have SF:=MS.spanR_facts (least:=x.least) H20.out.ok H20.out.cnt hbl.1;have R':Hid (x.c20=if (x.spanR x.least x.bits).2.1=0 then (if (x.spanR x.least x.bits).1.qc.length<(x.spanR x.least x.bits).2.2 then (x.spanR x.least x.bits).1.refuse 11 else MS.c21 { (x.spanR x.least x.bits).1 with dist:=(x.spanR x.least x.bits).2.2,st:=21 }) else ((x.spanR x.least x.bits).1,(x.spanR x.least x.bits).2.1)):=R20.out;clear R20;by_cases h0:(x.spanR x.least x.bits).2.1=0
 ·rw [if_pos h0] at R';obtain ⟨s1,s2,s3,s4⟩:=SF.2 h0;have so:=SF.1;have hD:(x.spanR x.least x.bits).2.2<=2000000∧1<=(x.spanR x.least x.bits).2.2:=by
   have:2^x.bits<=2^16:=Nat.pow_le_pow_right (by decide) hbl.1;have e:2^16=65536:=by decide
   have:=hbl.2.2;omega
  obtain ⟨z,t,D,hr⟩:∃ z t D,x.spanR x.least x.bits=(z,t,D):=⟨_,_,_,rfl⟩
  rw [hr] at g1 R' s1 s4 so hD h0 ⊢;have h0':t=0:=h0;subst h0';have hzl:z.left=x.left:=by have:z=_:=s4;rw [this]
  have hzq:z.qc=x.qc:=by have:z=_:=s4;rw [this]
  have HZ:Hid (MM ρ wa20 p z∧Ok z∧Fr (fun k=>1<=k∧k<=5) ρ w wa20):=⟨g1,so,H20.out.fr.trans g2⟩
  obtain ⟨cw,c17,HLEN0,_,_⟩:=g1.win;have HLEN:Hid (Calls Tryz.prog 57 #[.pointer (some ⟨cw,0,none⟩)] wa20 fun v w'=>v= .returned (.int .i64 z.qc.length)∧wa20=w'):=HLEN0;have c41:=g1.cellI.2.2.2.2.2.2.1;have z41:=g1.cellI.2.2.2.2.2.2.2;have hq256:z.qc.length<=256:=by obtain ⟨L,B,T⟩:=g1;exact B.rc'
  have HQB:Hid (∀ b∈z.qc,b<256):=by show ∀ b∈z.qc,b<256;rw [hzq];exact Q20
  have hleft:z.left<=65535:=by rw [hzl];exact L20
  clear g1 g2 hr s4 so SF HLEN0 h0 s1 s2 s3 hzl hzq;go_wp2_with fail
  refine HLEN.out.mono ?_;rintro v w' ⟨rfl,rfl⟩;obtain ⟨N,hN⟩:∃ N,N=z.qc.length:=⟨_,rfl⟩
  rw [← hN] at hq256 R' ⊢;have HN:Hid (N=z.qc.length):=hN;clear hN;by_cases hd:N<D
  ·rw [if_pos hd] at R';have hdi:(N:Int)<D:=by omega
   go_wp2_with fail
   refine (kv8 11 HZ.out.1).mono ?_;rintro v w4 ⟨rfl,g3,g4⟩;have HR2:Hid (MM ρ w4 p (z.refuse 11).1∧Fr (fun k=>1<=k∧k<=5) ρ w w4):=⟨g3,HZ.out.2.2.trans g4⟩
   clear g3 g4;go_wp2_with fail
   go_ret
   unfold y0y;rw [R'.out];exact ⟨rfl,HR2.out⟩
  ·rw [if_neg hd] at R';have hdi:¬ (N:Int)<D:=by omega
   have H1:=HZ.out.1.dist D;have H2:=H1.1.st 21;have k7:=HZ.out.1.cell7.1;have z7:=HZ.out.1.cell7.2;obtain ⟨R,hR⟩:∃ R,R=MS.c21 { z with dist:=D,st:=21 }:=⟨_,rfl⟩
   have H0:Hid (∃ y,Kw ρ w p y R ((wa20.setCell ⟨p,41,none⟩ (.int .i64 D)).setCell ⟨p,7,none⟩ (.int .i64 21))):=⟨{ z with dist:=D,st:=21 },H2.1,{ HZ.out.2.1 with },hR.symm,hleft,hD.2,by show D<=z.qc.length;rw [← HN.out];omega,HQB.out,(HZ.out.2.2.trans H1.2).trans H2.2⟩
   have HF:Hid (x.c20=R):=by show x.c20=R;rw [hR];exact R'.out
   clear H1 H2 hR R' HZ hd HLEN;go_wp2_with fail
   clear hdi;generalize decide (N<D)=dd;go_loopw [] (fun wr=>Hid (∃ y,Kw ρ w p y R wr)) (fun wr=>xq0 wr p 25)
   case atStart=>exact H0
   case round=>
    clear H0;obtain ⟨y,Y⟩:=hrel.out;have c25:=Y.mm.cell25.1;have e25:=xv1 c25;have hl:=Y.left;have HY:Hid (Kw ρ w p y R wr):=Y;by_cases hz:y.left=0
    ·have HZ:Hid (R=({ y with st:=17 },0)):=by show R=_;rw [← HY.out.eq,MS.copy_zero hz]
     rw [hz] at c25;have k7:=Y.mm.cell7.1;have z7:=Y.mm.cell7.2;have H17:Hid (MM ρ (wr.setCell ⟨p,7,none⟩ (.int .i64 17)) p { y with st:=17 }∧Fr (fun k=>1<=k∧k<=5) ρ wr (wr.setCell ⟨p,7,none⟩ (.int .i64 17))):=Y.mm.st 17;clear hz Y hrel;go_wp2_with fail
     go_ret
     unfold y0y;rw [HF.out,HZ.out];exact ⟨rfl,H17.out.1,HY.out.fr.trans H17.out.2⟩
    ·obtain ⟨n,hn⟩:∃ n,y.left=n+1:=⟨y.left - 1,by omega⟩
     have HS:Hid (R=if (y.put (y.qc.getD (y.qc.length - y.dist) 0)).2=0 then MS.copyL n { (y.put (y.qc.getD (y.qc.length - y.dist) 0)).1 with left:=n } else y.put (y.qc.getD (y.qc.length - y.dist) 0)):=by show R=_;rw [← HY.out.eq,MS.copy_succ hn]
     have hpos:(0:Int)<y.left:=by omega
     have hb:y.qc.getD (y.qc.length - y.dist) 0<256:=getD_lt Y.qb _;obtain ⟨cw,c17,_,HBK0,_⟩:=Y.mm.win;have HBK:Hid (∀ n,Calls Tryz.prog 150 #[.pointer (some ⟨cw,0,none⟩), .int .i64 y.dist] (wr.drewN n) fun v w'=>v= .returned (.int .u8 (y.qc.getD (y.qc.length - y.dist) 0:Nat))∧∃ m,w'=(wr.drewN n).drewN m):=fun n=>HBK0 n y.dist Y.d1 Y.d2
     have c41:=Y.mm.cellI.2.2.2.2.2.2.1;obtain ⟨b,hbE⟩:∃ b,b=y.qc.getD (y.qc.length - y.dist) 0:=⟨_,rfl⟩
     rw [← hbE] at HS hb HBK;clear hbE HBK0;have HPF:=MS.put_facts Y.ok b;have hq256:y.qc.length<=256:=by obtain ⟨L,B,T⟩:=Y.mm;exact B.rc'
     obtain ⟨P,hP⟩:∃ P,P=y.put b:=⟨_,rfl⟩
     have HPT:Hid (∀ wq,MM ρ wq p y->Calls Tryz.prog 137 #[.pointer (some ⟨p,0,none⟩), .int .u8 b] wq fun v w'=>y0y ρ wq p P v w'):=fun wq m=>by rw [hP];exact mPut b m HY.out.ok hb
     rw [← hP] at HS HPF;have HPF':Hid (Ok P.1∧(P.2=0->P.1=y.putted b)):=HPF;clear hP HPF hz Y hrel;by_cases h1:P.2=0
     ·have hPe:=HPF'.out.2 h1;rw [if_pos h1] at HS;have hPl:P.1.left=n+1:=by rw [hPe];exact hn
      have HPD:Hid (1<=P.1.dist∧P.1.dist<=P.1.qc.length∧∀ b∈P.1.qc,b<256):=by
       show _∧_∧_;rw [hPe];refine ⟨HY.out.d1,?_,vso HY.out.qb hb⟩;have:=xsr y.qc b hq256;have h3:=HY.out.d2;show y.dist<=(MS.pushed y.qc b).length;omega
      obtain ⟨Q,t,hQ⟩:∃ Q t,P=(Q,t):=⟨_,_,rfl⟩
      rw [hQ] at HS HPF' HPT hPl HPD h1;clear hQ hPe;have h1':t=0:=h1;subst h1';clear h1;go_wp2_with fail
      go_region_with (first
       | (go_at_call 150;refine (HBK.out 1).mono ?_;rintro e w2 ⟨rfl,m2,hw2⟩;have H2:Hid (MM ρ w2 p y∧Fr (fun k=>1<=k∧k<=5) ρ w w2):=by { show _∧_;rw [hw2];exact ⟨(HY.out.mm.drewN 1).drewN m2,(HY.out.fr.drewN 1).drewN m2⟩ };clear hw2)
       | (go_at_call 137;refine (HPT.out _ H2.out.1).mono ?_;rintro e w3 ⟨rfl,g1,g2⟩;have H3:Hid (MM ρ w3 p Q∧Fr (fun k=>1<=k∧k<=5) ρ w w3):=⟨g1,H2.out.2.trans g2⟩;clear g1 g2))
      all_goals
       have d25:w3.cell? ⟨p,25,none⟩=some (.int .i64 (n+1:Nat)):=by rw [← hPl];exact H3.out.1.cell25.1
       have z25:=H3.out.1.cell25.2;have HL:=H3.out.1.left n;have HN:Hid (∃ y,Kw ρ w p y R (w3.setCell ⟨p,25,none⟩ (.int .i64 n))):=⟨{ Q with left:=n },HL.1,{ HPF'.out.1 with },HS.out.symm,by show n<=65535;omega,HPD.out.1,HPD.out.2.1,HPD.out.2.2,H3.out.2.trans HL.2⟩
       have eN:xq0 (w3.setCell ⟨p,25,none⟩ (.int .i64 n)) p 25=n:=xv1 HL.1.cell25.1;have hn1:((n+1:Nat):Int) - 1=(n:Int):=by omega
       clear HL;go_wp2_with fail
       go_roundw
       case rel=>exact HN
       case measure=>rw [e25,eN];omega
     ·rw [if_neg h1] at HS;obtain ⟨Q,t,hQ⟩:∃ Q t,P=(Q,t):=⟨_,_,rfl⟩
      rw [hQ] at HS HPF' HPT h1;clear hQ;have h1':¬ t=0:=h1;have h0':((t:Int)==0)=false:=by simp;exact h1'
      clear h1;go_wp2_with fail
      go_region_with (first
       | (go_at_call 150;refine (HBK.out 1).mono ?_;rintro e w2 ⟨rfl,m2,hw2⟩;have H2:Hid (MM ρ w2 p y∧Fr (fun k=>1<=k∧k<=5) ρ w w2):=by { show _∧_;rw [hw2];exact ⟨(HY.out.mm.drewN 1).drewN m2,(HY.out.fr.drewN 1).drewN m2⟩ };clear hw2)
       | (go_at_call 137;refine (HPT.out _ H2.out.1).mono ?_;rintro e w3 ⟨rfl,g1,g2⟩;have H3:Hid (MM ρ w3 p Q∧Fr (fun k=>1<=k∧k<=5) ρ w w3):=⟨g1,H2.out.2.trans g2⟩;clear g1 g2))
      all_goals
       go_wp2_with fail
       go_ret
       unfold y0y;rw [HF.out,HS.out];exact ⟨rfl,H3.out⟩
 ·rw [if_neg h0] at R';obtain ⟨e,he⟩:∃ e,e=(x.spanR x.least x.bits).2.1:=⟨_,rfl⟩
  have HR:Hid (MM ρ wa20 p (x.spanR x.least x.bits).1∧Fr (fun k=>1<=k∧k<=5) ρ w wa20∧(x.spanR x.least x.bits).2.1=e):=⟨g1,H20.out.fr.trans g2,he.symm⟩
  rw [← he] at h0 ⊢;have h0':((e:Int)==0)=false:=by simp;exact h0
  clear g1 g2 he;go_wp2_with fail
  go_ret
  unfold y0y;rw [R'.out,HR.out.2.2];exact ⟨rfl,HR.out.1,HR.out.2.1⟩
theorem j5a{ρ:Nat->Nat}{w:World}{p:Nat}{x:MS}(h:MM ρ w p x)(ok:Ok x)(hc:x.count<=40)(hne:x.la≠[])(hlb:x.lb.length<=16)(hqc:∀ b∈x.qc,b<256)(hl:x.left<=65535)(hst:x.st=19) :
  Calls Tryz.prog 106 #[.pointer (some ⟨p,0,none⟩)] w fun v w'=>y0y ρ w p x.c19 v w':=by
 have H19:Hid (Cw ρ w p x w):=⟨h,ok,hc,hne,hlb,Fr.refl _ _ _⟩
 have Q19:=hqc;obtain ⟨gs,tl,td,c37,cg0,cg1,TL,TD,hgp⟩:=h.sets hne;have TDr:=TD.rng;have HTD:Hid (TabS ρ w 271 2 (fun i=>(vtb 1 i).toList) td x.lb):=TD;clear TL TD;have L19:=hl;have R19:Hid (x.c19=MS.symThen (x.sym x.lb) fun y k=>MS.c20 { y with least:=Tr.spanLeast 1 k,bits:=Tr.spanBits k,st:=20 }):=rfl;have c7:=h.cell7.1;rw [hst] at c7;clear h ok hst hc hne hlb hqc;go_enter Tryz.func106,Tryz.ntmps106
 go_wp2_with fail
 refine (kdd H19.out.mm H19.out.ok H19.out.cnt HTD.out).mono ?_;rintro v wa19 ⟨rfl,g1,g2⟩;have SF:=MS.sym_facts TDr H19.out.ok H19.out.cnt;have R':Hid (x.c19=if (x.sym x.lb).2.1=0 then MS.c20 { (x.sym x.lb).1 with least:=Tr.spanLeast 1 (x.sym x.lb).2.2,bits:=Tr.spanBits (x.sym x.lb).2.2,st:=20 } else ((x.sym x.lb).1,(x.sym x.lb).2.1)):=R19.out;clear R19;by_cases h0:(x.sym x.lb).2.1=0
 ·rw [if_pos h0] at R';rw [if_pos h0];obtain ⟨s1,s2,s3⟩:=SF.2 h0;have so:=SF.1;have hlb:=H19.out.lb;have sd:=k8m (k:=(x.sym x.lb).2.2) (by omega);obtain ⟨z,t,k,hr⟩:∃ z t k,x.sym x.lb=(z,t,k):=⟨_,_,_,rfl⟩
  rw [hr] at g1 R' s2 s3 so sd h0 ⊢;have h0':t=0:=h0;subst h0';have hza:z.la=x.la:=by have:z=_:=s3;rw [this]
  have hzb:z.lb=x.lb:=by have:z=_:=s3;rw [this]
  have hzl:z.left=x.left:=by have:z=_:=s3;rw [this]
  have hzq:z.qc=x.qc:=by have:z=_:=s3;rw [this]
  have b1:Below wa19.heap.size wa19 (wa19.alloc (.cells #[.int .i64 (Tr.spanLeast 1 k), .int .i64 (Tr.spanBits k)] 125)):=(Below.refl _ _).alloc (Nat.le_refl _) _;have HZ:Hid (MM ρ (wa19.alloc (.cells #[.int .i64 (Tr.spanLeast 1 k), .int .i64 (Tr.spanBits k)] 125)) p z∧Ok z∧Fr (fun k=>1<=k∧k<=5) ρ w (wa19.alloc (.cells #[.int .i64 (Tr.spanLeast 1 k), .int .i64 (Tr.spanBits k)] 125))):=⟨g1.below b1,so,(H19.out.fr.trans g2).trans (Fr.below b1)⟩
  have a39:=HZ.out.1.cellI.2.2.1;have z39:=HZ.out.1.cellI.2.2.2.1;have a40:=HZ.out.1.cellI.2.2.2.2.1;have z40:=HZ.out.1.cellI.2.2.2.2.2.1;have k7:=HZ.out.1.cell7.1;have z7:=HZ.out.1.cell7.2;have q0:(wa19.alloc (.cells #[.int .i64 (Tr.spanLeast 1 k), .int .i64 (Tr.spanBits k)] 125)).cell? ⟨wa19.heap.size,0,none⟩=some (.int .i64 (Tr.spanLeast 1 k)):=by simp
  have q1:(wa19.alloc (.cells #[.int .i64 (Tr.spanLeast 1 k), .int .i64 (Tr.spanBits k)] 125)).cell? ⟨wa19.heap.size,1,none⟩=some (.int .i64 (Tr.spanBits k)):=by simp
  have HA:=HZ.out.1.span (Tr.spanLeast 1 k) (Tr.spanBits k);have HB:=HA.1.st 20;obtain ⟨y20,hy20⟩:∃ y20:MS,y20={ z with least:=Tr.spanLeast 1 k,bits:=Tr.spanBits k,st:=20 }:=⟨_,rfl⟩
  obtain ⟨WW20,hW⟩:∃ W,W=(((wa19.alloc (.cells #[.int .i64 (Tr.spanLeast 1 k), .int .i64 (Tr.spanBits k)] 125)).setCell ⟨p,39,none⟩ (.int .i64 (Tr.spanLeast 1 k))).setCell ⟨p,40,none⟩ (.int .i64 (Tr.spanBits k))).setCell ⟨p,7,none⟩ (.int .i64 20):=⟨_,rfl⟩
  have H20:Hid (Cw ρ w p y20 WW20):=by
   show Cw ρ w p y20 WW20;rw [hW,hy20];exact ⟨HB.1,{ HZ.out.2.1 with },s2,by show z.la≠[];rw [hza];exact H19.out.ne,by show z.lb.length<=16;rw [hzb];exact H19.out.lb,(HZ.out.2.2.trans HA.2).trans HB.2⟩
  have B20:y20.bits<=16∧y20.least<=1000000∧1<=y20.least:=by rw [hy20];exact sd
  have Q20:∀ b∈y20.qc,b<256:=by rw [hy20];show ∀ b∈z.qc,b<256;rw [hzq];exact Q19
  have L20:y20.left<=65535:=by rw [hy20];show z.left<=65535;rw [hzl];exact L19
  have R20:Hid (x.c19=MS.c20 y20):=by show x.c19=_;rw [hy20];exact R'.out
  have HW20:Hid (WW20=(((wa19.alloc (.cells #[.int .i64 (Tr.spanLeast 1 k), .int .i64 (Tr.spanBits k)] 125)).setCell ⟨p,39,none⟩ (.int .i64 (Tr.spanLeast 1 k))).setCell ⟨p,40,none⟩ (.int .i64 (Tr.spanBits k))).setCell ⟨p,7,none⟩ (.int .i64 20)):=hW;have hE3:Tr.spanLeast 1 k=y20.least:=by rw [hy20]
  have hE4:Tr.spanBits k=y20.bits:=by rw [hy20]
  unfold vtb;clear g1 g2 hr s3 so SF h0 hza hzb hzl hzq HA HB hy20 hW b1 sd R' HZ;rw [hE3,hE4] at HW20 a39 z39 a40 z40 k7 z7 q0 q1 ⊢;clear hE3 hE4;go_wp2_with fail
  rw [← HW20.out];clear a39 z39 a40 z40 k7 z7 q0 q1 HW20;have hbl:=B20;refine (xh4 y20.least y20.bits H20.out.mm H20.out.ok H20.out.cnt hbl.1 hbl.2.1).mono ?_;rintro v wa20 ⟨rfl,g1,g2⟩;have SF:=MS.spanR_facts (least:=y20.least) H20.out.ok H20.out.cnt hbl.1;have R':Hid (x.c19=if (y20.spanR y20.least y20.bits).2.1=0 then (if (y20.spanR y20.least y20.bits).1.qc.length<(y20.spanR y20.least y20.bits).2.2 then (y20.spanR y20.least y20.bits).1.refuse 11 else MS.c21 { (y20.spanR y20.least y20.bits).1 with dist:=(y20.spanR y20.least y20.bits).2.2,st:=21 }) else ((y20.spanR y20.least y20.bits).1,(y20.spanR y20.least y20.bits).2.1)):=R20.out;clear R20;by_cases h0:(y20.spanR y20.least y20.bits).2.1=0
  ·rw [if_pos h0] at R';obtain ⟨s1,s2,s3,s4⟩:=SF.2 h0;have so:=SF.1;have hD:(y20.spanR y20.least y20.bits).2.2<=2000000∧1<=(y20.spanR y20.least y20.bits).2.2:=by
    have:2^y20.bits<=2^16:=Nat.pow_le_pow_right (by decide) hbl.1;have e:2^16=65536:=by decide
    have:=hbl.2.2;omega
   obtain ⟨z,t,D,hr⟩:∃ z t D,y20.spanR y20.least y20.bits=(z,t,D):=⟨_,_,_,rfl⟩
   rw [hr] at g1 R' s1 s4 so hD h0 ⊢;have h0':t=0:=h0;subst h0';have hzl:z.left=y20.left:=by have:z=_:=s4;rw [this]
   have hzq:z.qc=y20.qc:=by have:z=_:=s4;rw [this]
   have HZ:Hid (MM ρ wa20 p z∧Ok z∧Fr (fun k=>1<=k∧k<=5) ρ w wa20):=⟨g1,so,H20.out.fr.trans g2⟩
   obtain ⟨cw,c17,HLEN0,_,_⟩:=g1.win;have HLEN:Hid (Calls Tryz.prog 57 #[.pointer (some ⟨cw,0,none⟩)] wa20 fun v w'=>v= .returned (.int .i64 z.qc.length)∧wa20=w'):=HLEN0;have c41:=g1.cellI.2.2.2.2.2.2.1;have z41:=g1.cellI.2.2.2.2.2.2.2;have hq256:z.qc.length<=256:=by obtain ⟨L,B,T⟩:=g1;exact B.rc'
   have HQB:Hid (∀ b∈z.qc,b<256):=by show ∀ b∈z.qc,b<256;rw [hzq];exact Q20
   have hleft:z.left<=65535:=by rw [hzl];exact L20
   clear g1 g2 hr s4 so SF HLEN0 h0 s1 s2 s3 hzl hzq;go_wp2_with fail
   refine HLEN.out.mono ?_;rintro v w' ⟨rfl,rfl⟩;obtain ⟨N,hN⟩:∃ N,N=z.qc.length:=⟨_,rfl⟩
   rw [← hN] at hq256 R' ⊢;have HN:Hid (N=z.qc.length):=hN;clear hN;by_cases hd:N<D
   ·rw [if_pos hd] at R';have hdi:(N:Int)<D:=by omega
    go_wp2_with fail
    refine (kv8 11 HZ.out.1).mono ?_;rintro v w4 ⟨rfl,g3,g4⟩;have HR2:Hid (MM ρ w4 p (z.refuse 11).1∧Fr (fun k=>1<=k∧k<=5) ρ w w4):=⟨g3,HZ.out.2.2.trans g4⟩
    clear g3 g4;go_wp2_with fail
    go_ret
    unfold y0y;rw [R'.out];exact ⟨rfl,HR2.out⟩
   ·rw [if_neg hd] at R';have hdi:¬ (N:Int)<D:=by omega
    have H1:=HZ.out.1.dist D;have H2:=H1.1.st 21;have k7:=HZ.out.1.cell7.1;have z7:=HZ.out.1.cell7.2;obtain ⟨R,hR⟩:∃ R,R=MS.c21 { z with dist:=D,st:=21 }:=⟨_,rfl⟩
    have H0:Hid (∃ y,Kw ρ w p y R ((wa20.setCell ⟨p,41,none⟩ (.int .i64 D)).setCell ⟨p,7,none⟩ (.int .i64 21))):=⟨{ z with dist:=D,st:=21 },H2.1,{ HZ.out.2.1 with },hR.symm,hleft,hD.2,by show D<=z.qc.length;rw [← HN.out];omega,HQB.out,(HZ.out.2.2.trans H1.2).trans H2.2⟩
    have HF:Hid (x.c19=R):=by show x.c19=R;rw [hR];exact R'.out
    clear H1 H2 hR R' HZ hd HLEN;go_wp2_with fail
    clear hdi;generalize decide (N<D)=dd;go_loopw [] (fun wr=>Hid (∃ y,Kw ρ w p y R wr)) (fun wr=>xq0 wr p 25)
    case atStart=>exact H0
    case round=>
     clear H0;obtain ⟨y,Y⟩:=hrel.out;have c25:=Y.mm.cell25.1;have e25:=xv1 c25;have hl:=Y.left;have HY:Hid (Kw ρ w p y R wr):=Y;by_cases hz:y.left=0
     ·have HZ:Hid (R=({ y with st:=17 },0)):=by show R=_;rw [← HY.out.eq,MS.copy_zero hz]
      rw [hz] at c25;have k7:=Y.mm.cell7.1;have z7:=Y.mm.cell7.2;have H17:Hid (MM ρ (wr.setCell ⟨p,7,none⟩ (.int .i64 17)) p { y with st:=17 }∧Fr (fun k=>1<=k∧k<=5) ρ wr (wr.setCell ⟨p,7,none⟩ (.int .i64 17))):=Y.mm.st 17;clear hz Y hrel;go_wp2_with fail
      go_ret
      unfold y0y;rw [HF.out,HZ.out];exact ⟨rfl,H17.out.1,HY.out.fr.trans H17.out.2⟩
     ·obtain ⟨n,hn⟩:∃ n,y.left=n+1:=⟨y.left - 1,by omega⟩
      have HS:Hid (R=if (y.put (y.qc.getD (y.qc.length - y.dist) 0)).2=0 then MS.copyL n { (y.put (y.qc.getD (y.qc.length - y.dist) 0)).1 with left:=n } else y.put (y.qc.getD (y.qc.length - y.dist) 0)):=by show R=_;rw [← HY.out.eq,MS.copy_succ hn]
      have hpos:(0:Int)<y.left:=by omega
      have hb:y.qc.getD (y.qc.length - y.dist) 0<256:=getD_lt Y.qb _;obtain ⟨cw,c17,_,HBK0,_⟩:=Y.mm.win;have HBK:Hid (∀ n,Calls Tryz.prog 150 #[.pointer (some ⟨cw,0,none⟩), .int .i64 y.dist] (wr.drewN n) fun v w'=>v= .returned (.int .u8 (y.qc.getD (y.qc.length - y.dist) 0:Nat))∧∃ m,w'=(wr.drewN n).drewN m):=fun n=>HBK0 n y.dist Y.d1 Y.d2
      have c41:=Y.mm.cellI.2.2.2.2.2.2.1;obtain ⟨b,hbE⟩:∃ b,b=y.qc.getD (y.qc.length - y.dist) 0:=⟨_,rfl⟩
      rw [← hbE] at HS hb HBK;clear hbE HBK0;have HPF:=MS.put_facts Y.ok b;have hq256:y.qc.length<=256:=by obtain ⟨L,B,T⟩:=Y.mm;exact B.rc'
      obtain ⟨P,hP⟩:∃ P,P=y.put b:=⟨_,rfl⟩
      have HPT:Hid (∀ wq,MM ρ wq p y->Calls Tryz.prog 137 #[.pointer (some ⟨p,0,none⟩), .int .u8 b] wq fun v w'=>y0y ρ wq p P v w'):=fun wq m=>by rw [hP];exact mPut b m HY.out.ok hb
      rw [← hP] at HS HPF;have HPF':Hid (Ok P.1∧(P.2=0->P.1=y.putted b)):=HPF;clear hP HPF hz Y hrel;by_cases h1:P.2=0
      ·have hPe:=HPF'.out.2 h1;rw [if_pos h1] at HS;have hPl:P.1.left=n+1:=by rw [hPe];exact hn
       have HPD:Hid (1<=P.1.dist∧P.1.dist<=P.1.qc.length∧∀ b∈P.1.qc,b<256):=by
        show _∧_∧_;rw [hPe];refine ⟨HY.out.d1,?_,vso HY.out.qb hb⟩;have:=xsr y.qc b hq256;have h3:=HY.out.d2;show y.dist<=(MS.pushed y.qc b).length;omega
       obtain ⟨Q,t,hQ⟩:∃ Q t,P=(Q,t):=⟨_,_,rfl⟩
       rw [hQ] at HS HPF' HPT hPl HPD h1;clear hQ hPe;have h1':t=0:=h1;subst h1';clear h1;go_wp2_with fail
       go_region_with (first
        | (go_at_call 150;refine (HBK.out 1).mono ?_;rintro e w2 ⟨rfl,m2,hw2⟩;have H2:Hid (MM ρ w2 p y∧Fr (fun k=>1<=k∧k<=5) ρ w w2):=by { show _∧_;rw [hw2];exact ⟨(HY.out.mm.drewN 1).drewN m2,(HY.out.fr.drewN 1).drewN m2⟩ };clear hw2)
        | (go_at_call 137;refine (HPT.out _ H2.out.1).mono ?_;rintro e w3 ⟨rfl,g1,g2⟩;have H3:Hid (MM ρ w3 p Q∧Fr (fun k=>1<=k∧k<=5) ρ w w3):=⟨g1,H2.out.2.trans g2⟩;clear g1 g2))
       all_goals
        have d25:w3.cell? ⟨p,25,none⟩=some (.int .i64 (n+1:Nat)):=by rw [← hPl];exact H3.out.1.cell25.1
        have z25:=H3.out.1.cell25.2;have HL:=H3.out.1.left n;have HN:Hid (∃ y,Kw ρ w p y R (w3.setCell ⟨p,25,none⟩ (.int .i64 n))):=⟨{ Q with left:=n },HL.1,{ HPF'.out.1 with },HS.out.symm,by show n<=65535;omega,HPD.out.1,HPD.out.2.1,HPD.out.2.2,H3.out.2.trans HL.2⟩
        have eN:xq0 (w3.setCell ⟨p,25,none⟩ (.int .i64 n)) p 25=n:=xv1 HL.1.cell25.1;have hn1:((n+1:Nat):Int) - 1=(n:Int):=by omega
        clear HL;go_wp2_with fail
        go_roundw
        case rel=>exact HN
        case measure=>rw [e25,eN];omega
      ·rw [if_neg h1] at HS;obtain ⟨Q,t,hQ⟩:∃ Q t,P=(Q,t):=⟨_,_,rfl⟩
       rw [hQ] at HS HPF' HPT h1;clear hQ;have h1':¬ t=0:=h1;have h0':((t:Int)==0)=false:=by simp;exact h1'
       clear h1;go_wp2_with fail
       go_region_with (first
        | (go_at_call 150;refine (HBK.out 1).mono ?_;rintro e w2 ⟨rfl,m2,hw2⟩;have H2:Hid (MM ρ w2 p y∧Fr (fun k=>1<=k∧k<=5) ρ w w2):=by { show _∧_;rw [hw2];exact ⟨(HY.out.mm.drewN 1).drewN m2,(HY.out.fr.drewN 1).drewN m2⟩ };clear hw2)
        | (go_at_call 137;refine (HPT.out _ H2.out.1).mono ?_;rintro e w3 ⟨rfl,g1,g2⟩;have H3:Hid (MM ρ w3 p Q∧Fr (fun k=>1<=k∧k<=5) ρ w w3):=⟨g1,H2.out.2.trans g2⟩;clear g1 g2))
       all_goals
        go_wp2_with fail
        go_ret
        unfold y0y;rw [HF.out,HS.out];exact ⟨rfl,H3.out⟩
  ·rw [if_neg h0] at R';obtain ⟨e,he⟩:∃ e,e=(y20.spanR y20.least y20.bits).2.1:=⟨_,rfl⟩
   have HR:Hid (MM ρ wa20 p (y20.spanR y20.least y20.bits).1∧Fr (fun k=>1<=k∧k<=5) ρ w wa20∧(y20.spanR y20.least y20.bits).2.1=e):=⟨g1,H20.out.fr.trans g2,he.symm⟩
   rw [← he] at h0 ⊢;have h0':((e:Int)==0)=false:=by simp;exact h0
   clear g1 g2 he;go_wp2_with fail
   go_ret
   unfold y0y;rw [R'.out,HR.out.2.2];exact ⟨rfl,HR.out.1,HR.out.2.1⟩
 ·rw [if_neg h0] at R';rw [if_neg h0];obtain ⟨e,he⟩:∃ e,e=(x.sym x.lb).2.1:=⟨_,rfl⟩
  have b1:Below wa19.heap.size wa19 (wa19.alloc (.cells #[.int .i64 0, .int .i64 0] 125)):=(Below.refl _ _).alloc (Nat.le_refl _) _;have HR:Hid (MM ρ (wa19.alloc (.cells #[.int .i64 0, .int .i64 0] 125)) p (x.sym x.lb).1∧Fr (fun k=>1<=k∧k<=5) ρ w (wa19.alloc (.cells #[.int .i64 0, .int .i64 0] 125))∧(x.sym x.lb).2.1=e):=⟨g1.below b1,(H19.out.fr.trans g2).trans (Fr.below b1),he.symm⟩
  rw [← he] at h0 ⊢;have h0':((e:Int)==0)=false:=by simp;exact h0
  clear g1 g2 he b1;go_wp2_with fail
  go_ret
  unfold y0y;rw [R'.out,HR.out.2.2];exact ⟨rfl,HR.out.1,HR.out.2.1⟩
end Go.Proofs.YtbcjmakpempkiaaGreatDoor
