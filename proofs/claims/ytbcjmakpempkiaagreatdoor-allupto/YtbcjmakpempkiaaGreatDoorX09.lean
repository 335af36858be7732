import Derived.Test.YtbcjmakpempkiaaGreatDoorX04
import Derived.Test.YtbcjmakpempkiaaGreatDoorX05
set_option maxRecDepth 100000
set_option maxHeartbeats 8000000
set_option linter.all false
namespace Go.Proofs.YtbcjmakpempkiaaGreatDoor
variable {w:World} {N c o r:Nat} {f:Nat->Nat} {q:List Nat}
open Go.Proofs.Tryz
open Go.RowKit
def mI(w:World)(n:Nat)(x:Ending)(w':World):Prop:=∃ r c,x= .returned (.pointer (some ⟨r,0,none⟩))/\GJ w' r c n 0 (fun _=>0) []/\w.heap.size<=r/\w.heap.size<=c/\Below w.heap.size w w'
theorem iM(n:Nat)(w:World)(h0:0<n)(b:n<=1000000) :
  Calls prog 74 #[.int .i64 n] w fun x c=>mI w n x c:=by
 have a:=xZ (P:=prog) 34 5 (.int .u8 0) 1 underlying34 Nq rfl .i64 .i64 n zO zO;go_enter func74,ntmps74
 go_wp2
 go_ret
 have r1:=jK w (.int .u8 0) n 5;refine ⟨w.heap.size+1,w.heap.size,rfl,⟨⟨#[.slice (some ⟨w.heap.size,0,none⟩) n n, .int .i64 0, .int .i64 0],?_,rfl,?_⟩,r1.alloc _,h0,b,h0,zH _,fun i hi=>by simp at hi,zO⟩,zO,zE _,(zB.alloc zL _).alloc zS _⟩
 ·have:=zJ (w.alloc (.cells (madeCells #[.int .u8 0] n) 5)) (.cells #[.slice (some ⟨w.heap.size,0,none⟩) n n, .int .i64 0, .int .i64 0] 164);simpa using this
 ·exact TO rfl rfl rfl
structure PR(w:World)(r c N o g m:Nat)(f:Nat->Nat)(q:List Nat)(wr:World)(k:Nat):Prop where
 rg:GJ wr r c N ((o+k)%N) f (q.drop k)
 out:wr.rowIs g 5 m (fun j=> .int .u8 (if j<k then q.getD j 0 else 0:Nat))
 kp:Kp (fun x=>x=r\/x=c) (fun x=>x) w wr
 os:wr.os=w.os
 tape:wr.tape=w.tape
 output:wr.output=w.output
theorem tail_drop(q:List Nat)(k:Nat):(q.drop k).tail=q.drop (k+1):=by rw [List.tail_drop]
theorem PR.next{g m:Nat}{wr w1 w2:World}{k:Nat}(h:PR w r c N o g m f q wr k)(u:w.heap.size<=g)(n:g≠r)(l:g≠c)(hk:k<q.length)(a:w1=wr.setCell ⟨g,k,none⟩ (.int .u8 (q.getD k 0:Nat)))(s:GJ w2 r c N (((o+k)%N+1)%N) f (q.drop k).tail)(b:Hy r c w1 w2):PR w r c N o g m f q w2 (k+1):=by
 have d:Kp (fun x=>x=r\/x=c) (fun x=>x) w w1:=by
  refine ⟨by rw [a];simpa [World.setCell] using h.kp.size,fun x hx t=>?_⟩;rw [a,zZ _ _ _ _ (by show x≠g;omega)];exact h.kp.block x hx t
 refine ⟨?_,?_,d.trans b.kp,by rw [b.os,a];exact h.os,by rw [b.tape,a];exact h.tape,by rw [b.output,a];exact h.output⟩
 ·have e:((o+k)%N+1)%N=(o+(k+1))%N:=by rw [Nat.mod_add_mod];rfl
  rw [e,tail_drop] at s;exact s
 ·have r1:w1.rowIs g 5 m (fun j=> .int .u8 (if j<k+1 then q.getD j 0 else 0:Nat)):=by
   rw [a];refine (h.out.set k _).congr fun i _=>?_
   by_cases e:i=k
   ·subst e;rw [zC rfl,zC zO]
   ·rw [zA e];by_cases p:i<k
    ·rw [zC p,zC zO]
    ·rw [zA p,zA zO]
  exact r1.of_block (b.kp.block g r1.lt (by intro x;rcases x with x | x;exact n x;exact l x))
def bY(w:World)(r c N o m:Nat)(f:Nat->Nat)(q:List Nat)(x:Ending)(w':World):Prop:=∃ g,x= .returned (.slice (some ⟨g,0,none⟩) m m)/\w.heap.size<=g/\w'.rowIs g 5 m (fun j=> .int .u8 (q.getD j 0:Nat))/\GJ w' r c N ((o+m)%N) f (q.drop m)/\Hy r c w w'
theorem dp(b:Nat)(h:GJ w r c N o f q)(hc:c<w.heap.size)(hm:b<=9223372036854775807) :
  Calls prog 52 #[.pointer (some ⟨r,0,none⟩), .int .i64 b] w fun x T=>bY w r c N o (min b q.length) f q x T:=by
 obtain ⟨m,u⟩:=qe (min b q.length);have Q:m<=q.length:=zO;have R:=h.hq;have Z:=h.small;have E:=xZ (P:=prog) 34 5 (.int .u8 0) 1 underlying34 Nq rfl .i64 .i64 m zO zO;have F:max (0:Int) (min (b:Int) (q.length:Int))=(m:Int):=zO;have c2:w.cell? ⟨r,2,none⟩=some (.int .i64 q.length):=h.row.cell (i:=2) zO;have hr:=h.row.lt;rw [<- u];have z:Hid (PR w r c N o w.heap.size m f q (w.alloc (.cells (madeCells #[.int .u8 0] m) 5)) 0):=by
  refine ⟨?_,?_,Kp.Bk (zB.alloc zL _),rfl,rfl,rfl⟩
  ·rw [vS,yR h.ho,jD];exact ⟨h.row.alloc _,h.cells.alloc _,h.pos,h.small,h.ho,h.hq,h.at_,h.ne⟩
  ·refine (jK w (.int .u8 0) m 5).congr fun i _=>?_
   rw [zA zO];rfl
 clear h u;go_enter func52,ntmps52
 go_upto_region 1 with fail
 go_cut [5] (fun S U=>S= .slice (some ⟨w.heap.size,0,none⟩) m m/\U=w.alloc (.cells (madeCells #[.int .u8 0] m) 5))
 case first=>
  go_wp2_with fail
  go_meet
  exact ⟨rfl,rfl⟩
 case rest=>
 obtain ⟨rfl,rfl⟩:=hcut;clear E F c2;go_wp2_with fail
 obtain ⟨g,I⟩:=qe w.heap.size;rw [<- I] at z |-;have B:w.heap.size<=g:=zO;have t:g≠r:=zO;have s:g≠c:=zO;have n:=hid B;clear I;go_loopw [17] (fun i wr=>∃ k:Nat,k<=m/\i= .int .i64 k/\Hid (PR w r c N o g m f q wr k)) (fun i _=>m - (intOf i).toNat)
 case atStart=>exact ⟨0,zH _,rfl,z⟩
 case round=>
  obtain ⟨k,hk,rfl,d⟩:=hrel;clear z;by_cases D:k<m
  ·have C:k<q.length:=zO;have W:wr.cell? ⟨r,0,none⟩=some (.slice (some ⟨c,0,none⟩) N N):=d.out.rg.row.cell (i:=0) zO;have c1:wr.cell? ⟨r,1,none⟩=some (.int .i64 ((o+k)%N:Nat)):=d.out.rg.row.cell (i:=1) zO;have ho:=d.out.rg.ho;have hv:f ((o+k)%N)=q.getD k 0:=by
    have:=d.out.rg.at_ 0 (by simp;omega);rw [vS,yR ho] at this;rw [this];simp
   have G:wr.cell? ⟨c,(o+k)%N,none⟩=some (.int .u8 (q.getD k 0:Nat)):=by rw [<- hv];exact d.out.rg.cells.cell ho
   have X:=d.out.out.cell D;have Y:=d.out.out.frozen k;have A:Hid (0<(q.drop k).length):=by show 0<_;simp;omega
   have l:Hid (GJ (wr.setCell ⟨g,k,none⟩ (.int .u8 (q.getD k 0:Nat))) r c N ((o+k)%N) f (q.drop k)):=by
    have h:=d.out.rg;exact ⟨h.row.setOther (a:=⟨g,k,none⟩) (zY t) _,h.cells.setOther (a:=⟨g,k,none⟩) (zY s) _,h.pos,h.small,h.ho,h.hq,h.at_,h.ne⟩
   have j:Hid (∀ w1 w2,w1=wr.setCell ⟨g,k,none⟩ (.int .u8 (q.getD k 0:Nat))->GJ w2 r c N (((o+k)%N+1)%N) f (q.drop k).tail->Hy r c w1 w2->PR w r c N o g m f q w2 (k+1)):=fun w1 w2 L v y=>d.out.next n.out t s C L v y
   clear hv;obtain ⟨a,H⟩:=qe ((o+k)%N);rw [<- H] at c1 ho G l j;clear H;have M:(a:Int)<(N:Int):=zO;obtain ⟨V,p⟩:=qe (q.getD k 0);rw [<- p] at G l j;clear p;have O:(k:Int)<(m:Int):=zO;go_wp2_with fail
   go_region
   all_goals
    go_wp2_with fail
    refine (Xy (l.out.drewN 1) A.out).mono ?_;rintro e w2 ⟨rfl,v,y⟩;have J:=hid (j.out _ w2 rfl v (((Hy.refl r c _).drewN 1).trans y));clear v y;go_wp2_with fail
    go_roundw
    case rel=>exact ⟨k+1,zO,by go_num,J⟩
    case measure=>simp [intOf];omega
  ·obtain rfl:k=m:=zO;go_wp2
   go_ret
   refine ⟨g,rfl,n.out,d.out.out.congr fun i hi=>by rw [zC hi],d.out.rg,⟨d.out.kp,d.out.os,d.out.tape,d.out.output⟩⟩
end Go.Proofs.YtbcjmakpempkiaaGreatDoor
