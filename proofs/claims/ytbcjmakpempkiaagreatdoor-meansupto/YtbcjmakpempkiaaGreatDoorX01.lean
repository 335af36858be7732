import Derived.ArgAppend
import Derived.Deep.AppendLies
import Derived.Deep.DeepCutAuto
import Derived.Deep.RegionHeld3
import Derived.Deep.RegionLaw
import Derived.WalkSpells
import Derived.Test.YtbcjmakpempkiaaGreatDoorX00
set_option maxRecDepth 100000
set_option maxHeartbeats 8000000
set_option linter.all false
namespace Go.Proofs.YtbcjmakpempkiaaGreatDoor
open Go.RowKit
def k2f(l:List Int):List Value:=l.map (Value.int .i64)
def vol(l:List Int)(k:Nat):List Int:=(List.range k).map (rv l)
theorem z6u(l:List Int)(k:Nat):k2f (vol l (k+1))=k2f (vol l k)++[.int .i64 (rv l k)]:=by simp [k2f,vol,List.range_succ]
theorem kjj(l:List Int)(k:Nat):(vol l k).length=k:=by simp [vol]
theorem j2d{l:List Int}{k n:Nat}(hk:k<l.length)(h:l[k]=(n:Int))(h0:0<n):rv l k=ahd l k l.length / gw n:=by
 have e1:l.getD k 0=n:=by simp [hk,h]
 unfold rv;rw [e1,if_pos (by omega)];simp
theorem yk4{l:List Int}{k:Nat}(hk:k<l.length)(h:l[k]=0):rv l k= -1:=by
 have e1:l.getD k 0=0:=by simp [hk,h]
 unfold rv;rw [e1];simp
theorem jvi{w wr w1:World}{q:Nat}{e:TypeId}{sz:Nat}{v:Value}{n:Nat}{xs:List Value}{o:Obj}(hbel:Below w.heap.size w wr)(hown:wr.ownsRow w.heap.size e sz v n xs)(hgrow:((wr.drewN q).alloc o).grownBy w1 v.ownBlock):Below w.heap.size w w1:=by
 have h1:Below w.heap.size w (wr.drewN q):=⟨hbel.os,hbel.tape,hbel.output,hbel.size,hbel.block⟩
 refine (h1.alloc h1.size o).grown hgrow ?_ (fun k hk=>(hown.lt k hk).1);have:=hbel.size;simp;omega
theorem y6k(ad:Option Addr)(cap:Nat)(l:List Int)(w:World)(hl:l.length<=269)(hc:xin w ad l)(hr:inRange l=true) :
  Calls Tryz.prog 120 #[.slice ad l.length cap] w fun e w'=>∃ v,e= .returned v∧w'.ownsRow w.heap.size 3 1 v l.length (k2f (vol l l.length))∧Below w.heap.size w w':=by
 obtain ⟨i0,hi,hz0,hz1,hz2⟩:=info_parts ve2;go_enter Tryz.func120,Tryz.ntmps120
 go_wp2_with fail
 go_loopw [3,4] (fun v i wr=>∃ k:Nat,k<=l.length∧i= .int .i64 k∧wr.ownsRow w.heap.size 3 1 v k (k2f (vol l k))∧Below w.heap.size w wr) (fun _ i _=>l.length - (intOf i).toNat)
 case atStart=>exact ⟨0,Nat.zero_le _,rfl,World.ownsRow_nil _ _ _ _,Below.refl _ _⟩
 case round=>
  obtain ⟨k,hk,rfl,hown,hbel⟩:=hrel;by_cases hlt:k<l.length
  ·have hcr:=hc.below hbel (Nat.le_refl _);obtain ⟨b,o,n,rfl,g,hn11,hx⟩:=hcr.atNat hr hlt;by_cases h0:0<n
   ·have HV:Hid (rv l k=ahd l k l.length / gw n):=j2d hlt hx.out h0;have HC:Hid (xin wr (some ⟨b,o,none⟩) l):=hcr;clear hcr;go_upto_region 8 with (go_at_call 154;refine (jic _ cap l k n _ hl HC.out hr hlt hx.out).mono ?_;rintro e w' ⟨rfl,q,rfl⟩;rw [← HV.out])
    go_wp2_with (first | (at_builtin;refine wpList_append_own _ rfl _ _ 69 rfl w.heap.size 3 i0 (.int .i64 0) 1 8 Tryz.underlying69 hi hz0 hz1 hz2 rfl (by decide) _ _ _ rfl (World.ownsRow.alloc (w:=wr.drewN _) hown _) ⟨wr.heap.size,0,none⟩ 1 1 [.int .i64 (rv l k)] rfl rfl (cell_one_new _ _ _) (by simp [Value.oneCell']) (by unfold maxLen;omega) (by omega) (by have:=hbel.size;simp;omega) ?_) | fail)
    intro v' w1 hown' hgrow _;have R:=jvi hbel hown hgrow;rw [← z6u] at hown';clear hgrow hown;go_wp2_with fail
    go_roundw
    case rel=>exact ⟨k+1,by omega,by go_num,hown',R⟩
    case measure=>simp [intOf];omega
   ·obtain rfl:n=0:=by omega
    have g0:wr.cell? ⟨b,o+k,none⟩=some (.int .i64 0):=g;have HV:Hid (rv l k= -1):=yk4 hlt hx.out;clear g;go_wp2_with (first | (at_builtin;refine wpList_append_own _ rfl _ _ 69 rfl w.heap.size 3 i0 (.int .i64 0) 1 8 Tryz.underlying69 hi hz0 hz1 hz2 rfl (by decide) _ _ _ rfl (World.ownsRow.alloc hown _) ⟨wr.heap.size,0,none⟩ 1 1 [.int .i64 (-1)] rfl rfl (cell_one_new _ _ _) (by simp [Value.oneCell']) (by unfold maxLen;omega) (by omega) (by have:=hbel.size;simp;omega) ?_) | fail)
    intro v' w1 hown' hgrow _;have R:=jvi (q:=0) hbel hown hgrow;rw [← HV.out,← z6u] at hown';clear hgrow hown;go_wp2_with fail
    go_roundw
    case rel=>exact ⟨k+1,by omega,by go_num,hown',R⟩
    case measure=>simp [intOf];omega
  ·obtain rfl:k=l.length:=by omega
   go_wp2_with fail
   go_ret
   exact ⟨_,rfl,hown,hbel⟩
theorem y44(n:Int)(w:World):Calls Tryz.prog 86 #[.int .i64 n] w fun e w'=>e= .returned (.int .i64 n)∧w=w':=by
 go_enter Tryz.func86,Tryz.ntmps86
 go_wp2
 go_ret
 exact ⟨rfl,rfl⟩
theorem zze(ad bd:Option Addr)(cap cap':Nat)(l:List Int)(w:World)(hl:l.length<=9223372036854775807)(hc:xin w ad l)(hd:xin w bd l) :
  Calls Tryz.prog 62 #[.slice ad l.length cap, .slice bd l.length cap'] w fun e w'=>e= .returned (.bool true)∧∃ q,w'=w.drewN q:=by
 go_enter Tryz.func62,Tryz.ntmps62
 go_wp2
 go_loopw [5] (fun i wr=>∃ k q:Nat,k<=l.length∧i= .int .i64 k∧wr=w.drewN q) (fun i _=>l.length - (intOf i).toNat)
 case atStart=>exact ⟨0,0,Nat.zero_le _,rfl,rfl⟩
 case round=>
  obtain ⟨k,q,hk,rfl,rfl⟩:=hrel;by_cases hlt:k<l.length
  ·obtain ⟨b,o,x,rfl,g1,hx⟩:=hc.at hlt;obtain ⟨b',o',y,rfl,g2,hy⟩:=hd.at hlt;obtain rfl:x=y:=by rw [← hx.out,← hy.out]
   go_wp2
   go_quiet (fail)
   go_wp2
   go_roundw
   case rel=>exact ⟨k+1,_,by omega,by go_num,rfl⟩
   case measure=>simp [intOf];omega
  ·go_wp2
   go_ret
   exact ⟨rfl,q,rfl⟩
theorem xxf(ad:Option Addr)(cap n:Nat)(m:Int)(w:World)(hn:n<=9223372036854775807)(hc:xin w ad (List.replicate n m)) :
  Calls Tryz.prog 63 #[.slice ad n cap, .int .i64 m] w fun e w'=>e= .returned (.bool true)∧w=w':=by
 have HC:Hid (∀ k,k<n->∃ b o,ad=some ⟨b,o,none⟩∧w.cell? ⟨b,o+k,none⟩=some (.int .i64 m)):=by
  intro k hk;obtain ⟨b,o,e,_,h⟩:=hc k (by simpa using hk);refine ⟨b,o,e,?_⟩;rw [h];simp [hk]
 clear hc;go_enter Tryz.func63,Tryz.ntmps63
 go_wp2
 go_loop [5] (fun i=>∃ k:Nat,k<=n∧i= .int .i64 k) (fun i=>n - (intOf i).toNat)
 case atStart=>exact ⟨0,Nat.zero_le _,rfl⟩
 case round=>
  obtain ⟨k,hk,rfl⟩:=hrel;by_cases hlt:k<n
  ·obtain ⟨b,o,rfl,g⟩:=HC.out k hlt;go_wp2
   go_round
   case rel=>exact ⟨k+1,by omega,by go_num⟩
   case measure=>simp [intOf];omega
  ·go_wp2
   go_ret
   exact ⟨rfl,rfl⟩
def OI(w:World)(B:Nat)(v:Value)(l:List Int):Prop:=w.ownsRow B 3 1 v l.length (k2f l)
theorem j3k(l:List Int):(k2f l).length=l.length:=by simp [k2f]
theorem OI.nil(w:World)(B:Nat):OI w B (.slice none 0 0) []:=World.ownsRow_nil _ _ _ _
theorem OI.cells{w:World}{B:Nat}{v:Value}{l:List Int}(h:OI w B v l):∃ ad cap,v= .slice ad l.length cap∧xin w ad l:=by
 rcases h.2 with ⟨hv,h0⟩ | ⟨g,cap,cur,hv,hb,hg,hnc,hcm,hcs,htake⟩
 ·exact ⟨none,0,by rw [hv,h0],fun k hk=>by omega⟩
 ·refine ⟨some ⟨g,0,none⟩,cap,hv,fun k hk=>⟨g,0,rfl,(Array.getElem?_eq_some_iff.1 hg).1,?_⟩⟩;have h':w.ownsRow B 3 1 (.slice (some ⟨g,0,none⟩) l.length cap) l.length (k2f l):=by rw [← hv];exact h
  rw [Nat.zero_add,World.ownsRow.cellAt h' k (by omega)];simp [k2f,hk]
structure Kp(R:Nat->Prop)(ρ:Nat->Nat)(w w':World):Prop where
 size:w.heap.size<=w'.heap.size
 block:∀ k,k<w.heap.size->¬ R (ρ k)->w'.heap[k]?=w.heap[k]?
theorem Kp.refl(R:Nat->Prop)(ρ:Nat->Nat)(w:World):Kp R ρ w w:=⟨Nat.le_refl _,fun _ _ _=>rfl⟩
theorem Kp.trans{R:Nat->Prop}{ρ:Nat->Nat}{a b c:World}(h:Kp R ρ a b)(k:Kp R ρ b c):Kp R ρ a c:=⟨Nat.le_trans h.size k.size,fun i hi hr=>(k.block i (Nat.lt_of_lt_of_le hi h.size) hr).trans (h.block i hi hr)⟩
theorem Kp.mono{R R':Nat->Prop}{ρ:Nat->Nat}{a b:World}(h:Kp R ρ a b)(hR:∀ x,R x->R' x):Kp R' ρ a b:=⟨h.size,fun i hi hr=>h.block i hi (fun x=>hr (hR _ x))⟩
theorem Kp.of_below{R:Nat->Prop}{ρ:Nat->Nat}{a b:World}(h:Below a.heap.size a b):Kp R ρ a b:=⟨h.size,fun i hi _=>h.block i hi⟩
theorem Kp.of_set{R:Nat->Prop}{ρ:Nat->Nat}(a:World)(p:Addr)(v:Value)(hR:R (ρ p.block)):Kp R ρ a (a.setCell p v):=⟨by simp [World.setCell],fun i _ hr=>Below.heap_setCell _ _ _ _ (fun e=>hr (e ▸ hR))⟩
theorem Kp.of_grown{R:Nat->Prop}{ρ:Nat->Nat}{a b:World}{row:Option Nat}(h:a.grownBy b row)(hR:∀ g,row=some g->R (ρ g)):Kp R ρ a b:=⟨h.size,fun i hi hr=>h.block i hi (fun e=>hr (hR i e.symm))⟩
theorem Kp.congr{R:Nat->Prop}{ρ ρ':Nat->Nat}{a b:World}(h:Kp R ρ a b)(hρ:∀ k,k<a.heap.size->¬ R (ρ' k)->¬ R (ρ k)):Kp R ρ' a b:=⟨h.size,fun i hi hr=>h.block i hi (hρ i hi hr)⟩
theorem kcz{R:Nat->Prop}{ρ:Nat->Nat}{w w':World}{B:Nat}{e:TypeId}{sz:Nat}{v:Value}{n:Nat}{xs:List Value}(h:w.ownsRow B e sz v n xs)(hk:Kp R ρ w w')(hr:∀ g,v.ownBlock=some g->¬ R (ρ g)):w'.ownsRow B e sz v n xs:=by
 refine ⟨h.1,?_⟩;rcases h.2 with hn | ⟨g,cap,cur,rfl,hb,hgg,rest⟩
 ·exact .inl hn
 ·refine .inr ⟨g,cap,cur,rfl,hb,?_,rest⟩;rw [hk.block g (Array.getElem?_eq_some_iff.1 hgg).1 (hr g rfl)];exact hgg
theorem zlz{R:Nat->Prop}{ρ:Nat->Nat}{w w':World}{g:Nat}{t:TypeId}{n:Nat}{f:Nat->Value}(h:w.rowIs g t n f)(hk:Kp R ρ w w')(hr:¬ R (ρ g)):w'.rowIs g t n f:=h.of_block (hk.block g h.lt hr)
theorem x8r{w:World}{k:Nat}{o:Obj}(h:w.heap[k]?=some o):k<w.heap.size:=(Array.getElem?_eq_some_iff.1 h).1
theorem y9j{R:Nat->Prop}{ρ:Nat->Nat}{w w':World}{k:Nat}{o:Obj}(h:w.heap[k]?=some o)(hk:Kp R ρ w w')(hr:¬ R (ρ k)):w'.heap[k]?=some o:=(hk.block k (x8r h) hr).trans h
structure kuu where
 vcs:Value
 vss:Value
 vl:Value
 lens:List Int
 mks:Nat
 vw:Value
 waits:List (Value×List Int)
 vr:Value
 weres:List Value
 vb:Value
 books:List (Int×List Value)
 still:List (Nat×Obj)
 vrn:Value
 vtx:Value
def Kst(s s':kuu):Prop:=s'.still=s.still∧s'.vtx=s.vtx∧s'.vrn=s.vrn
def fld(s:kuu):Nat->Value
 | 0=>s.vcs
 | 1=>s.vss
 | 2=>s.vl
 | 3=>s.vrn
 | 4=> .int .i64 s.mks
 | 5=>s.vw
 | 6=>s.vr
 | 7=>s.vb
 | _=>s.vtx
def zan(b:Int×List Value):List Value:= .int .i64 b.1 :: b.2
def v4b(v:Value):Prop:=v= .slice none 0 0∨∃ g n,v= .slice (some ⟨g,0,none⟩) n n
structure Inv(B gW d:Nat)(ρ:Nat->Nat)(s:kuu)(w:World):Prop where
 gB:B<=gW
 hB:B<=w.heap.size
 row:w.rowIs gW 75 9 (fld s)
 len:OI w B s.vl s.lens
 wts:w.ownsRow B 69 1 s.vw s.waits.length (s.waits.map (·.1))
 wrs:w.ownsRow B 69 1 s.vr s.weres.length s.weres
 bks:w.ownsRow B 143 5 s.vb s.books.length (s.books.flatMap zan)
 lenw:s.weres.length=s.waits.length
 wt:∀ i,(h:i<s.waits.length)->d<=i->OI w B s.waits[i].1 s.waits[i].2∧v4b s.waits[i].1
 wr:∀ i,(h:i<s.weres.length)->(h':i<s.waits.length)->OI w B s.weres[i] s.waits[i].2
 bk:∀ b∈s.books,b.2.length=4∧∀ v∈b.2,∃ n,OI w B v (List.replicate n b.1)
 rW:ρ gW=5
 rl:∀ g,s.vl.ownBlock=some g->ρ g=1
 rwv:∀ g,s.vw.ownBlock=some g->ρ g=2
 rr:∀ g,s.vr.ownBlock=some g->ρ g=3
 rb:∀ g,s.vb.ownBlock=some g->ρ g=4
 rwt:∀ i,(h:i<s.waits.length)->d<=i->∀ g,s.waits[i].1.ownBlock=some g->ρ g=10+i
 rwr:∀ v∈s.weres,∀ g,v.ownBlock=some g->ρ g=0
 rbk:∀ b∈s.books,∀ v∈b.2,∀ g,v.ownBlock=some g->ρ g=0
 mkB:s.mks<=1000000000
 lnB:s.lens.length<=100000000
 lnN:s.vl= .slice none 0 0∨0<s.lens.length
 wlB:∀ i,(h:i<s.waits.length)->s.waits[i].2.length<=269
 stl:∀ x∈s.still,w.heap[x.1]?=some x.2
 rst:∀ x∈s.still,ρ x.1=9
theorem Inv.kp{B gW d:Nat}{ρ:Nat->Nat}{s:kuu}{w w':World}(h:Inv B gW d ρ s w)(hk:Kp (fun _=>False) ρ w w'):Inv B gW d ρ s w' where
 gB:=h.gB
 hB:=Nat.le_trans h.hB hk.size
 row:=zlz h.row hk (fun x=>x)
 len:=kcz h.len hk (fun _ _ x=>x)
 wts:=kcz h.wts hk (fun _ _ x=>x)
 wrs:=kcz h.wrs hk (fun _ _ x=>x)
 bks:=kcz h.bks hk (fun _ _ x=>x)
 lenw:=h.lenw
 wt:=fun i hi hd=>⟨kcz (h.wt i hi hd).1 hk (fun _ _ x=>x),(h.wt i hi hd).2⟩
 wr:=fun i hi hi'=>kcz (h.wr i hi hi') hk (fun _ _ x=>x)
 bk:=fun b hb=>⟨(h.bk b hb).1,fun v hv=>by obtain ⟨n,hn⟩:=(h.bk b hb).2 v hv;exact ⟨n,kcz hn hk (fun _ _ x=>x)⟩⟩
 rW:=h.rW
 rl:=h.rl
 rwv:=h.rwv
 rr:=h.rr
 rb:=h.rb
 rwt:=h.rwt
 rwr:=h.rwr
 rbk:=h.rbk
 mkB:=h.mkB
 lnB:=h.lnB
 lnN:=h.lnN
 wlB:=h.wlB
 stl:=fun x hx=>y9j (h.stl x hx) hk (fun x=>x)
 rst:=h.rst
theorem Inv.below{B gW d:Nat}{ρ:Nat->Nat}{s:kuu}{w w':World}(h:Inv B gW d ρ s w)(hb:Below w.heap.size w w'):Inv B gW d ρ s w':=h.kp (Kp.of_below hb)
theorem Inv.drewN{B gW d:Nat}{ρ:Nat->Nat}{s:kuu}{w:World}(h:Inv B gW d ρ s w)(q:Nat):Inv B gW d ρ s (w.drewN q):=h.kp ⟨Nat.le_refl _,fun _ _ _=>rfl⟩
def setρ(ρ:Nat->Nat)(g x:Nat):Nat->Nat:=fun k=>if k=g then x else ρ k
theorem setρ_at(ρ:Nat->Nat)(g x:Nat):setρ ρ g x g=x:=if_pos rfl
theorem setρ_ne{ρ:Nat->Nat}{g x k:Nat}(h:k≠g):setρ ρ g x k=ρ k:=if_neg h
theorem xmo{w:World}{B:Nat}{e:TypeId}{sz:Nat}{v:Value}{n:Nat}{xs:List Value}(h:w.ownsRow B e sz v n xs){g:Nat}(hg:v.ownBlock=some g):g<w.heap.size:=(h.lt g hg).2
theorem Inv.turn{B gW d:Nat}{ρ ρ':Nat->Nat}{s:kuu}{w:World}(h:Inv B gW d ρ s w)(hρ:∀ k,k<w.heap.size->(ρ k<=5∨ρ k=9∨10+d<=ρ k)->ρ' k=ρ k):Inv B gW d ρ' s w:=
 { h with
  rW:=by rw [hρ gW h.row.lt (by rw [h.rW];omega)];exact h.rW
  rl:=fun g hg=>by have:=h.rl g hg;rw [hρ g (xmo h.len hg) (by omega)];exact this
  rwv:=fun g hg=>by have:=h.rwv g hg;rw [hρ g (xmo h.wts hg) (by omega)];exact this
  rr:=fun g hg=>by have:=h.rr g hg;rw [hρ g (xmo h.wrs hg) (by omega)];exact this
  rb:=fun g hg=>by have:=h.rb g hg;rw [hρ g (xmo h.bks hg) (by omega)];exact this
  rwt:=fun i hi hd g hg=>by have:=h.rwt i hi hd g hg;rw [hρ g (xmo (h.wt i hi hd).1 hg) (by omega)];exact this
  rwr:=fun v hv g hg=>by
   have:=h.rwr v hv g hg;obtain ⟨i,hi,rfl⟩:=List.getElem_of_mem hv;rw [hρ g (xmo (h.wr i hi (by have:=h.lenw;omega)) hg) (by omega)];exact this
  rbk:=fun b hb v hv g hg=>by
   have:=h.rbk b hb v hv g hg;obtain ⟨n,hn⟩:=(h.bk b hb).2 v hv;rw [hρ g (xmo hn hg) (by omega)];exact this
  rst:=fun x hx=>by have:=h.rst x hx;rw [hρ x.1 (x8r (h.stl x hx)) (by omega)];exact this }
theorem Inv.marked{B gW d d':Nat}{ρ:Nat->Nat}{s:kuu}{w w':World}{R:Nat->Prop}{m:Nat}(h:Inv B gW d ρ s w)(hk:Kp R ρ w w')(hR:∀ r,R r->5<=r∧r≠9∧r<10+d')(hd:d<=d')(hrow:w'.rowIs gW 75 9 (fld { s with mks:=m }))(hm:m<=1000000000):Inv B gW d' ρ { s with mks:=m } w' where
 gB:=h.gB
 hB:=Nat.le_trans h.hB hk.size
 row:=hrow
 len:=kcz h.len hk (fun g hg hr=>by have:=h.rl g hg;have:=hR _ hr;omega)
 wts:=kcz h.wts hk (fun g hg hr=>by have:=h.rwv g hg;have:=hR _ hr;omega)
 wrs:=kcz h.wrs hk (fun g hg hr=>by have:=h.rr g hg;have:=hR _ hr;omega)
 bks:=kcz h.bks hk (fun g hg hr=>by have:=h.rb g hg;have:=hR _ hr;omega)
 lenw:=h.lenw
 wt:=fun i hi hd'=>⟨kcz (h.wt i hi (by omega)).1 hk (fun g hg hr=>by have:=h.rwt i hi (by omega) g hg;have:=hR _ hr;omega),(h.wt i hi (by omega)).2⟩
 wr:=fun i hi hi'=>kcz (h.wr i hi hi') hk (fun g hg hr=>by have:=h.rwr _ (List.getElem_mem hi) g hg;have:=hR _ hr;omega)
 bk:=fun b hb=>⟨(h.bk b hb).1,fun v hv=>by
  obtain ⟨n,hn⟩:=(h.bk b hb).2 v hv;exact ⟨n,kcz hn hk (fun g hg hr=>by have:=h.rbk b hb v hv g hg;have:=hR _ hr;omega)⟩⟩
 rW:=h.rW
 rl:=h.rl
 rwv:=h.rwv
 rr:=h.rr
 rb:=h.rb
 rwt:=fun i hi hd'=>h.rwt i hi (by omega)
 rwr:=h.rwr
 rbk:=h.rbk
 mkB:=hm
 lnB:=h.lnB
 lnN:=h.lnN
 wlB:=h.wlB
 stl:=fun x hx=>y9j (h.stl x hx) hk (fun hr=>by have:=h.rst x hx;have:=hR _ hr;omega)
 rst:=h.rst
theorem kn9(s:kuu)(v:Value)(bs:List (Int×List Value))(i:Nat)(hi:i<9):(if i=7 then v else fld s i)=fld { s with vb:=v,books:=bs } i:=by
 have:i=0∨i=1∨i=2∨i=3∨i=4∨i=5∨i=6∨i=7∨i=8:=by omega
 rcases this with rfl | rfl | rfl | rfl | rfl | rfl | rfl | rfl | rfl <;> simp [fld]
theorem Inv.addBook{B gW d:Nat}{ρ:Nat->Nat}{s:kuu}{w w1:World}{o:Obj}{gg cap:Nat}{b:Int×List Value}(h:Inv B gW d ρ s w)
  (hgrow:(w.alloc o).drew.grownBy w1 s.vb.ownBlock) (hown:w1.ownsRow B 143 5 (.slice (some ⟨gg,0,none⟩) (s.books.length+1) cap) (s.books.length+1) (s.books.flatMap zan++zan b))
  (hat:s.vb.ownBlock=some gg∨gg=w.heap.size+1)
  (hb4:b.2.length=4) (hb:∀ v∈b.2,∃ n,OI w B v (List.replicate n b.1)) (hbρ:∀ v∈b.2,∀ g,v.ownBlock=some g->ρ g=0) :
  Inv B gW d (setρ ρ gg 4) { s with vb:= .slice (some ⟨gg,0,none⟩) (s.books.length+1) cap,books:=s.books++[b] } (w1.setCell ⟨gW,7,none⟩ (.slice (some ⟨gg,0,none⟩) (s.books.length+1) cap))∧
   Kp (fun r=>r=4∨r=5) ρ w (w1.setCell ⟨gW,7,none⟩ (.slice (some ⟨gg,0,none⟩) (s.books.length+1) cap))∧
   Below B w (w1.setCell ⟨gW,7,none⟩ (.slice (some ⟨gg,0,none⟩) (s.books.length+1) cap)):=by
 have k1:Kp (fun r=>r=4) ρ w w1:=by
  have a:Kp (fun r=>r=4) ρ w (w.alloc o).drew:=Kp.of_below (((Below.refl _ _).alloc (Nat.le_refl _) o).drew);exact a.trans (Kp.of_grown hgrow (fun g hg=>h.rb g hg))
 have k2:Kp (fun r=>r=4∨r=5) ρ w (w1.setCell ⟨gW,7,none⟩ (.slice (some ⟨gg,0,none⟩) (s.books.length+1) cap)):=
  (k1.mono (fun _ x=>Or.inl x)).trans (Kp.of_set w1 _ _ (Or.inr h.rW))
 have hgn:gg≠gW:=by
  rcases hat with e | e
  ·intro e';have:=h.rb gg e;rw [e',h.rW] at this;omega
  ·have:=h.row.lt;omega
 have hρ:∀ k,k<w.heap.size->setρ ρ gg 4 k=ρ k:=fun k hk=>by
  by_cases e:k=gg
  ·subst e;rcases hat with e | e
   ·rw [setρ_at,h.rb _ e]
   ·omega
  ·exact setρ_ne e
 have h':=h.turn (ρ':=setρ ρ gg 4) (fun k hk _=>hρ k hk);have kk:Kp (fun r=>r=4∨r=5) (setρ ρ gg 4) w (w1.setCell ⟨gW,7,none⟩ (.slice (some ⟨gg,0,none⟩) (s.books.length+1) cap)):=k2.congr (fun k hk=>by rw [hρ k hk];exact fun x=>x);refine ⟨?_,k2,?_⟩
 ·exact {
   gB:=h.gB
   hB:=Nat.le_trans h.hB kk.size
   row:=((zlz h.row k1 (by rw [h.rW];omega)).set 7 _).congr (fun i hi=>kn9 s _ _ i hi)
   len:=kcz h'.len kk (fun g hg hr=>by have:=h'.rl g hg;omega)
   wts:=kcz h'.wts kk (fun g hg hr=>by have:=h'.rwv g hg;omega)
   wrs:=kcz h'.wrs kk (fun g hg hr=>by have:=h'.rr g hg;omega)
   bks:=by
    have e:({ s with vb:= .slice (some ⟨gg,0,none⟩) (s.books.length+1) cap,books:=s.books++[b] }:kuu).books.flatMap zan=s.books.flatMap zan++zan b:=by simp
    rw [e];simp only [List.length_append,List.length_cons,List.length_nil,Nat.zero_add];exact kcz (R:=fun k=>k=gW) (ρ:=fun k=>k) hown ⟨by simp [World.setCell],fun k _ hk=>Below.heap_setCell _ _ _ _ hk⟩ (fun g hg=>by simp [Value.ownBlock] at hg;omega)
   lenw:=h.lenw
   wt:=fun i hi hd=>⟨kcz (h'.wt i hi hd).1 kk (fun g hg hr=>by have:=h'.rwt i hi hd g hg;omega),(h'.wt i hi hd).2⟩
   wr:=fun i hi hi'=>kcz (h'.wr i hi hi') kk (fun g hg hr=>by have:=h'.rwr _ (List.getElem_mem hi) g hg;omega)
   bk:=fun x hx=>by
    rcases List.mem_append.1 hx with hx | hx
    ·exact ⟨(h'.bk x hx).1,fun v hv=>by
      obtain ⟨n,hn⟩:=(h'.bk x hx).2 v hv;exact ⟨n,kcz hn kk (fun g hg hr=>by have:=h'.rbk x hx v hv g hg;omega)⟩⟩
    ·simp only [List.mem_singleton] at hx;subst hx;exact ⟨hb4,fun v hv=>by
      obtain ⟨n,hn⟩:=hb v hv;exact ⟨n,kcz hn k2 (fun g hg hr=>by have:=hbρ v hv g hg;omega)⟩⟩
   rW:=h'.rW
   rl:=h'.rl
   rwv:=h'.rwv
   rr:=h'.rr
   rb:=fun g hg=>by simp [Value.ownBlock] at hg;subst hg;exact setρ_at _ _ _
   rwt:=h'.rwt
   rwr:=h'.rwr
   rbk:=fun x hx v hv g hg=>by
    rcases List.mem_append.1 hx with hx | hx
    ·exact h'.rbk x hx v hv g hg
    ·simp only [List.mem_singleton] at hx;subst hx;obtain ⟨n,hn⟩:=hb v hv;rw [hρ g (xmo hn hg)];exact hbρ v hv g hg
   mkB:=h.mkB
   lnB:=h.lnB
   lnN:=h.lnN
   wlB:=h.wlB
   stl:=fun x hx=>y9j (h'.stl x hx) kk (fun hr=>by have:=h'.rst x hx;omega)
   rst:=h'.rst }
 ·have a:Below B w (w.alloc o).drew:=((Below.refl _ _).alloc h.hB o).drew;refine (a.grown hgrow (by have:=h.hB;simp;omega) (fun g hg=>(h.bks.lt g hg).1)).setCell h.gB _
theorem xkq:∀ (bs:List (Int×List Value)) (_:∀ b∈bs,b.2.length=4) (i:Nat) (h:i<bs.length) (j:Nat),j<5->(bs.flatMap zan)[i*5+j]?=(zan bs[i])[j]?
 | b :: bs,hb,0,_,j,hj=>by
  have:(zan b).length=5:=by simp [zan,hb b (by simp)]
  simp only [List.flatMap_cons,List.getElem_cons_zero,Nat.zero_mul,Nat.zero_add];rw [List.getElem?_append_left (by omega)]
 | b :: bs,hb,i+1,h,j,hj=>by
  have h5:(zan b).length=5:=by simp [zan,hb b (by simp)]
  have ih:=xkq bs (fun x hx=>hb x (by simp [hx])) i (by simpa using h) j hj;simp only [List.flatMap_cons,List.getElem_cons_succ];rw [List.getElem?_append_right (by omega),h5,show (i+1)*5+j - 5=i*5+j by omega];exact ih
theorem OI.le_max{w:World}{B:Nat}{v:Value}{l:List Int}(h:OI w B v l):l.length<=maxLen:=by
 rcases h.2 with ⟨_,h0⟩ | ⟨g,cap,cur,hv,hb,hg,hnc,hcm,_⟩
 ·rw [h0];exact Nat.zero_le _
 ·exact Nat.le_trans hnc hcm
theorem Inv.book{B gW d:Nat}{ρ:Nat->Nat}{s:kuu}{w:World}(h:Inv B gW d ρ s w){i:Nat}(hi:i<s.books.length) :
  ∃ (g cap:Nat) (m:Int) (a1 a2 a3 a4:Option Addr) (n1 n2 n3 n4 c1 c2 c3 c4:Nat),s.vb= .slice (some ⟨g,0,none⟩) s.books.length cap∧g<w.heap.size∧
   w.cell? ⟨g,i*5,none⟩=some (.int .i64 m)∧w.cell? ⟨g,i*5+1,none⟩=some (.slice a1 n1 c1)∧w.cell? ⟨g,i*5+2,none⟩=some (.slice a2 n2 c2)∧w.cell? ⟨g,i*5+3,none⟩=some (.slice a3 n3 c3)∧w.cell? ⟨g,i*5+4,none⟩=some (.slice a4 n4 c4)∧
   xin w a1 (List.replicate n1 m)∧xin w a2 (List.replicate n2 m)∧xin w a3 (List.replicate n3 m)∧xin w a4 (List.replicate n4 m)∧n1<=maxLen∧n2<=maxLen∧n3<=maxLen∧n4<=maxLen:=by
 obtain ⟨g,cap,hv,hB,hlt⟩:=h.bks.form (by omega);have hb:=h.bks;rw [hv] at hb;have h4:=fun b hb=>(h.bk b hb).1
 have hc:∀ j,j<5->w.cell? ⟨g,i*5+j,none⟩=(zan s.books[i])[j]?:=fun j hj=>by
  rw [World.ownsRow.cellAt hb (i*5+j) (by omega),xkq s.books h4 i hi j hj]
 have hm:=List.getElem_mem hi;rcases hbk:s.books[i] with ⟨m,vs⟩
 rw [hbk] at hm hc;have hl:=h4 _ hm;have hvs:=(h.bk _ hm).2;match vs,hl with
 | [v1,v2,v3,v4],_=>
  obtain ⟨n1,o1⟩:=hvs v1 (by simp);obtain ⟨n2,o2⟩:=hvs v2 (by simp);obtain ⟨n3,o3⟩:=hvs v3 (by simp);obtain ⟨n4,o4⟩:=hvs v4 (by simp);obtain ⟨a1,c1,e1,k1⟩:=o1.cells;obtain ⟨a2,c2,e2,k2⟩:=o2.cells;obtain ⟨a3,c3,e3,k3⟩:=o3.cells;obtain ⟨a4,c4,e4,k4⟩:=o4.cells;simp only [List.length_replicate] at e1 e2 e3 e4;refine ⟨g,cap,m,a1,a2,a3,a4,n1,n2,n3,n4,c1,c2,c3,c4,hv,hlt,?_,?_,?_,?_,?_,k1,k2,k3,k4,by simpa using o1.le_max,by simpa using o2.le_max,by simpa using o3.le_max,by simpa using o4.le_max⟩
  ·have:=hc 0 (by omega);simpa [zan] using this
  ·have:=hc 1 (by omega);simpa [zan,e1] using this
  ·have:=hc 2 (by omega);simpa [zan,e2] using this
  ·have:=hc 3 (by omega);simpa [zan,e3] using this
  ·have:=hc 4 (by omega);simpa [zan,e4] using this
theorem z5m(B gW d:Nat)(ρ:Nat->Nat)(s:kuu)(w:World)(h:Inv B gW d ρ s w)(hbl:s.books.length<=1000000000)(htx:s.vtx= .slice none 0 0) :
  Calls Tryz.prog 36 #[.pointer (some ⟨gW,0,none⟩)] w fun e w'=>e= .returned (.bool true)∧Below w.heap.size w w':=by
 have HI:Hid (Inv B gW d ρ s w):=h;obtain ⟨ab,cb,hvb⟩:∃ ab cb,s.vb= .slice ab s.books.length cb:=by
  rcases h.bks.2 with ⟨hv,h0⟩ | ⟨g,cap,cur,hv,_⟩
  ·exact ⟨none,0,by rw [hv,h0]⟩
  ·exact ⟨_,_,hv⟩
 have c7:w.cell? ⟨gW,7,none⟩=some (.slice ab s.books.length cb):=by rw [h.row.cell (i:=7) (by omega)];simp [fld,hvb]
 have c8:w.cell? ⟨gW,8,none⟩=some (.slice none 0 0):=by rw [h.row.cell (i:=8) (by omega)];exact congrArg some htx
 have hgl:gW<w.heap.size:=h.row.lt;have HV:Hid (s.vb= .slice ab s.books.length cb):=hvb;clear h hvb;go_enter Tryz.func36,Tryz.ntmps36
 go_wp2_with fail
 go_loopw [3] (fun i wr=>∃ k:Nat,k<=s.books.length∧i= .int .i64 k∧Below w.heap.size w wr) (fun i _=>s.books.length - (intOf i).toNat)
 case atStart=>exact ⟨0,Nat.zero_le _,rfl,Below.refl _ _⟩
 case round=>
  obtain ⟨k,hk,rfl,hbel⟩:=hrel;have c7':wr.cell? ⟨gW,7,none⟩=some (.slice ab s.books.length cb):=(hbel.cell (p:=⟨gW,7,none⟩) hgl).trans c7;have c8':wr.cell? ⟨gW,8,none⟩=some (.slice none 0 0):=(hbel.cell (p:=⟨gW,8,none⟩) hgl).trans c8;clear c7 c8;by_cases hlt:k<s.books.length
  ·obtain ⟨g,cap,m,a1,a2,a3,a4,n1,n2,n3,n4,e1,e2,e3,e4,hv,hg,d0,d1,d2,d3,d4,k1,k2,k3,k4,x1,x2,x3,x4⟩:=HI.out.book hlt;unfold maxLen at x1 x2 x3 x4;obtain ⟨rfl,rfl⟩:ab=some ⟨g,0,none⟩∧cb=cap:=by have:=HV.out.symm.trans hv;simpa using this
   have d0':=(hbel.cell (p:=⟨g,k*5,none⟩) hg).trans d0;have d1':=(hbel.cell (p:=⟨g,k*5+1,none⟩) hg).trans d1;have d2':=(hbel.cell (p:=⟨g,k*5+2,none⟩) hg).trans d2;have d3':=(hbel.cell (p:=⟨g,k*5+3,none⟩) hg).trans d3;have d4':=(hbel.cell (p:=⟨g,k*5+4,none⟩) hg).trans d4;clear d0 d1 d2 d3 d4;go_wp2_with fail
   have hb2:Below w.heap.size w (wr.alloc (.cells #[.int .i64 m, .slice a1 n1 e1, .slice a2 n2 e2, .slice a3 n3 e3, .slice a4 n4 e4] 143)):=hbel.alloc hbel.size _;refine (xxf a1 e1 n1 m _ x1 (k1.below hb2 (Nat.le_refl _))).mono ?_;rintro e w1 ⟨rfl,rfl⟩;go_wp2_with fail
   refine (xxf a2 e2 n2 m _ x2 (k2.below hb2 (Nat.le_refl _))).mono ?_;rintro e w1 ⟨rfl,rfl⟩;go_wp2_with fail
   refine (xxf a3 e3 n3 m _ x3 (k3.below hb2 (Nat.le_refl _))).mono ?_;rintro e w1 ⟨rfl,rfl⟩;go_wp2_with fail
   refine (xxf a4 e4 n4 m _ x4 (k4.below hb2 (Nat.le_refl _))).mono ?_;rintro e w1 ⟨rfl,rfl⟩;go_wp2_with fail
   go_roundw
   case rel=>exact ⟨k+1,by omega,by go_num,hb2⟩
   case measure=>simp [intOf];omega
  ·go_wp2_with fail
   refine wp_loop_rounds 1 ?_;rw [rounds_succ];go_wp2_with fail
   go_ret
   exact ⟨rfl,hbel⟩
theorem yye:(Tryz.prog.info? 143).map (fun i=>(i.zero,i.size,i.bytes))=some (some (.agg #[.int .i64 0, .slice none 0 0, .slice none 0 0, .slice none 0 0, .slice none 0 0]),5,104):=by kernel_rfl
theorem x1k{w w1:World}{row:Option Nat}{o:Obj}{a:Addr}{v:Value}(hg:(w.alloc o).drew.grownBy w1 row)(hlt:a.block<w.heap.size)(hne:row≠some a.block)(h:w.cell? a=some v):w1.cell? a=some v:=by
 have h1:w1.heap[a.block]?=w.heap[a.block]?:=(hg.block a.block (by simp;omega) (Ne.symm hne)).trans (Below.heap_alloc w o a.block hlt);rw [World.cell?_of_block (w:=w) h1,h]
theorem xg8{w w1:World}{row:Option Nat}{o:Obj}{a:Addr}(hg:(w.alloc o).drew.grownBy w1 row)(hlt:a.block<w.heap.size)(hne:row≠some a.block)(h:w.frozen? a=false):w1.frozen? a=false:=by
 have h1:w1.heap[a.block]?=w.heap[a.block]?:=(hg.block a.block (by simp;omega) (Ne.symm hne)).trans (Below.heap_alloc w o a.block hlt);rw [World.frozen?_of_block (w:=w) h1,h]
theorem x7a{w w1:World}{row:Option Nat}{o:Obj}{a:Addr}{v:Value}(hg:(w.alloc o).grownBy w1 row)(hlt:a.block<w.heap.size)(hne:row≠some a.block)(h:w.cell? a=some v):w1.cell? a=some v:=by
 have h1:w1.heap[a.block]?=w.heap[a.block]?:=(hg.block a.block (by simp;omega) (Ne.symm hne)).trans (Below.heap_alloc w o a.block hlt);rw [World.cell?_of_block (w:=w) h1,h]
theorem jk1{w w1:World}{row:Option Nat}{o:Obj}{a:Addr}(hg:(w.alloc o).grownBy w1 row)(hlt:a.block<w.heap.size)(hne:row≠some a.block)(h:w.frozen? a=false):w1.frozen? a=false:=by
 have h1:w1.heap[a.block]?=w.heap[a.block]?:=(hg.block a.block (by simp;omega) (Ne.symm hne)).trans (Below.heap_alloc w o a.block hlt);rw [World.frozen?_of_block (w:=w) h1,h]
end Go.Proofs.YtbcjmakpempkiaaGreatDoor
