import Derived.Test.YtbcjmakpempkiaaGreatDoorX05
set_option maxRecDepth 100000
set_option maxHeartbeats 8000000
set_option linter.all false
namespace Go.Proofs.YtbcjmakpempkiaaGreatDoor
open Go.RowKit
def rfld(c N o n:Nat):Nat->Value
 | 0=> .slice (some ⟨c,0,none⟩) N N
 | 1=> .int .i64 o
 | _=> .int .i64 n
structure RgI(w:World)(r c N o:Nat)(f:Nat->Nat)(q:List Nat):Prop where
 row:w.rowIs r 164 3 (rfld c N o q.length)
 cells:w.rowIs c 5 N (fun j=> .int .u8 (f j))
 pos:0<N
 small:N<=1000000
 ho:o<N
 hq:q.length<=N
 at_:∀ i,i<q.length->f ((o+i)%N)=q.getD i 0
 ne:r≠c
structure Two(r c:Nat)(w w':World):Prop where
 kp:Kp (fun k=>k=r∨k=c) (fun k=>k) w w'
 os:w'.os=w.os
 tape:w'.tape=w.tape
 output:w'.output=w.output
theorem Two.refl(r c:Nat)(w:World):Two r c w w:=⟨Kp.refl _ _ _,rfl,rfl,rfl⟩
theorem Two.trans{r c:Nat}{a b d:World}(h:Two r c a b)(k:Two r c b d):Two r c a d:=⟨h.kp.trans k.kp,k.os.trans h.os,k.tape.trans h.tape,k.output.trans h.output⟩
theorem Two.set1(r c:Nat)(w:World)(i:Nat)(v:Value):Two r c w (w.setCell ⟨r,i,none⟩ v):=⟨Kp.of_set w _ _ (Or.inl rfl),rfl,rfl,rfl⟩
theorem Two.set2(r c:Nat)(w:World)(i:Nat)(v:Value):Two r c w (w.setCell ⟨c,i,none⟩ v):=⟨Kp.of_set w _ _ (Or.inr rfl),rfl,rfl,rfl⟩
theorem Two.drewN{r c:Nat}{a b:World}(h:Two r c a b)(q:Nat):Two r c a (b.drewN q):=⟨⟨h.kp.size,h.kp.block⟩,h.os,h.tape,h.output⟩
theorem RgI.drewN{w:World}{r c N o:Nat}{f:Nat->Nat}{q:List Nat}(h:RgI w r c N o f q)(n:Nat):RgI (w.drewN n) r c N o f q:=⟨h.row,h.cells,h.pos,h.small,h.ho,h.hq,h.at_,h.ne⟩
theorem xgl{P:Nat->Prop}(h0:P 0)(h1:P 1)(h2:P 2)(i:Nat)(hi:i<3):P i:=by
 have:i=0∨i=1∨i=2:=by omega
 rcases this with rfl | rfl | rfl <;> assumption
theorem jpl{w:World}{r c N o:Nat}{f:Nat->Nat}{q:List Nat}(h:RgI w r c N o f q) :
  Calls Tryz.prog 57 #[.pointer (some ⟨r,0,none⟩)] w fun x w'=>x= .returned (.int .i64 q.length)∧w=w':=by
 have c2:w.cell? ⟨r,2,none⟩=some (.int .i64 q.length):=h.row.cell (i:=2) (by omega);clear h;go_enter Tryz.func57,Tryz.ntmps57
 go_wp2_with fail
 go_ret
 exact ⟨rfl,rfl⟩
theorem zzm{w:World}{r c N o:Nat}{f:Nat->Nat}{q:List Nat}(h:RgI w r c N o f q) :
  Calls Tryz.prog 165 #[.pointer (some ⟨r,0,none⟩)] w fun x w'=>x= .returned (.bool (decide (q.length=N)))∧∃ n,w'=w.drewN n:=by
 have c2:w.cell? ⟨r,2,none⟩=some (.int .i64 q.length):=h.row.cell (i:=2) (by omega);have c0:w.cell? ⟨r,0,none⟩=some (.slice (some ⟨c,0,none⟩) N N):=h.row.cell (i:=0) (by omega);clear h;go_enter Tryz.func165,Tryz.ntmps165
 go_wp2_with fail
 go_quiet (fail)
 go_wp2_with fail
 go_ret
 refine ⟨?_,_,rfl⟩;by_cases e:q.length=N
 ·simp [e]
 ·simp [e];omega
theorem kjm{w:World}{r c N o:Nat}{f:Nat->Nat}{q:List Nat}(k:Nat)(h:RgI w r c N o f q)(hk:k<=1000000) :
  Calls Tryz.prog 108 #[.pointer (some ⟨r,0,none⟩), .int .i64 k] w fun x w'=>x= .returned (.int .i64 ((o+k)%N:Nat))∧∃ n,w'=w.drewN n:=by
 have c1:w.cell? ⟨r,1,none⟩=some (.int .i64 o):=h.row.cell (i:=1) (by omega);have c0:w.cell? ⟨r,0,none⟩=some (.slice (some ⟨c,0,none⟩) N N):=h.row.cell (i:=0) (by omega);have ho:=h.ho;have hN:=h.small;have hp:=h.pos;have hz:((N:Int)==0)=false:=by rw [beq_eq_false_iff_ne];omega
 have hz':¬ (N:Int)=0:=by omega
 clear h;go_enter Tryz.func108,Tryz.ntmps108
 go_wp2_with fail
 go_quiet (fail)
 go_wp2_with fail
 go_ret
 exact ⟨by simp,_,rfl⟩
theorem k9o(o N i:Nat):((o+1)%N+i)%N=(o+(i+1))%N:=by
 rw [Nat.mod_add_mod,show o+1+i=o+(i+1) by omega]
theorem RgI.drop{w:World}{r c N o:Nat}{f:Nat->Nat}{q:List Nat}(h:RgI w r c N o f q)(hq:0<q.length) :
  RgI ((w.setCell ⟨r,1,none⟩ (.int .i64 (((o+1)%N:Nat):Int))).setCell ⟨r,2,none⟩ (.int .i64 ((q.length:Int) - 1))) r c N ((o+1)%N) f q.tail:=by
 have hl:q.tail.length=q.length - 1:=by simp
 refine ⟨?_,(h.cells.setOther (a:=⟨r,1,none⟩) (Ne.symm h.ne) _).setOther (a:=⟨r,2,none⟩) (Ne.symm h.ne) _,h.pos,h.small,Nat.mod_lt _ h.pos,by rw [hl];have:=h.hq;omega,fun i hi=>?_,h.ne⟩
 ·refine ((h.row.set 1 _).set 2 _).congr ?_;rw [hl];have e:((q.length - 1:Nat):Int)=(q.length:Int) - 1:=by omega
  intro j hj;revert j
  refine xgl rfl rfl ?_;show Value.int .i64 ((q.length:Int) - 1)=Value.int .i64 ((q.length - 1:Nat):Int);rw [e]
 ·rw [k9o,h.at_ (i+1) (by omega)];cases q with
  | nil=>simp at hq
  | cons a l=>simp
theorem yny{w:World}{r c N o:Nat}{f:Nat->Nat}{q:List Nat}(h:RgI w r c N o f q)(hq:0<q.length) :
  Calls Tryz.prog 78 #[.pointer (some ⟨r,0,none⟩)] w fun x w'=>x= .returned (.tuple #[])∧RgI w' r c N ((o+1)%N) f q.tail∧Two r c w w':=by
 have HI:Hid (RgI w r c N o f q):=h;have hl:=h.hq;have hN:=h.small;clear h;go_enter Tryz.func78,Tryz.ntmps78
 go_wp2_with fail
 refine (kjm 1 HI.out (by omega)).mono ?_;rintro e w1 ⟨rfl,n1,hw1⟩;have I1:RgI w1 r c N o f q:=by rw [hw1];exact HI.out.drewN n1
 have T1:Two r c w w1:=by rw [hw1];exact (Two.refl r c w).drewN n1
 have f1:=I1.row.frozen 1;have f2:=I1.row.frozen 2;have c1:w1.cell? ⟨r,1,none⟩=some (.int .i64 o):=I1.row.cell (i:=1) (by omega);have c2:w1.cell? ⟨r,2,none⟩=some (.int .i64 q.length):=I1.row.cell (i:=2) (by omega);have HR:Hid (RgI ((w1.setCell ⟨r,1,none⟩ (.int .i64 (((o+1)%N:Nat):Int))).setCell ⟨r,2,none⟩ (.int .i64 ((q.length:Int) - 1))) r c N ((o+1)%N) f q.tail∧Two r c w ((w1.setCell ⟨r,1,none⟩ (.int .i64 (((o+1)%N:Nat):Int))).setCell ⟨r,2,none⟩ (.int .i64 ((q.length:Int) - 1)))):=⟨I1.drop hq,(T1.trans (Two.set1 r c w1 1 _)).trans (Two.set1 r c _ 2 _)⟩
 clear hw1 I1 T1;obtain ⟨o1,ho1⟩:∃ o1,o1=(o+1)%N:=⟨_,rfl⟩
 rw [← ho1] at HR ⊢;have HO:Hid (o1=(o+1)%N):=ho1;clear ho1;go_wp2_with fail
 go_end0
 rw [← HO.out];exact ⟨rfl,HR.out⟩
theorem RgI.push{w:World}{r c N o:Nat}{f:Nat->Nat}{q:List Nat}(b:Nat)(h:RgI w r c N o f q)(hq:q.length<N) :
  RgI ((w.setCell ⟨c,(o+q.length)%N,none⟩ (.int .u8 b)).setCell ⟨r,2,none⟩ (.int .i64 ((q.length:Int)+1))) r c N o (fun j=>if j=(o+q.length)%N then b else f j) (q++[b]):=by
 refine ⟨?_,?_,h.pos,h.small,h.ho,by simp;omega,fun i hi=>?_,h.ne⟩
 ·refine ((h.row.setOther (a:=⟨c,(o+q.length)%N,none⟩) h.ne _).set 2 _).congr ?_;intro j hj;revert j
  refine xgl rfl rfl ?_;show Value.int .i64 ((q.length:Int)+1)=Value.int .i64 ((q++[b]).length:Nat);simp
 ·refine ((h.cells.set ((o+q.length)%N) _).setOther (a:=⟨r,2,none⟩) (Ne.symm h.ne) _).congr fun j _=>?_
  by_cases e:j=(o+q.length)%N
  ·rw [if_pos e,if_pos e]
  ·rw [if_neg e,if_neg e]
 ·have hi':i<=q.length:=by simp at hi;omega
  by_cases e:i=q.length
  ·subst e;rw [if_pos rfl];simp
  ·have hlt:i<q.length:=by omega
   have hne:(o+i)%N≠(o+q.length)%N:=by
    intro e2;have ho:=h.ho;have h1:(o+i)%N=if o+i<N then o+i else o+i - N:=by
     split
     ·exact Nat.mod_eq_of_lt (by assumption)
     ·rw [Nat.mod_eq_sub_mod (by omega),Nat.mod_eq_of_lt (by omega)]
    have h2:(o+q.length)%N=if o+q.length<N then o+q.length else o+q.length - N:=by
     split
     ·exact Nat.mod_eq_of_lt (by assumption)
     ·rw [Nat.mod_eq_sub_mod (by omega),Nat.mod_eq_of_lt (by omega)]
    rw [h1,h2] at e2;split at e2 <;> split at e2 <;> omega
   rw [if_neg hne,h.at_ i hlt];simp [List.getElem?_append,hlt]
theorem yis{w:World}{r c N o:Nat}{f:Nat->Nat}{q:List Nat}(k:Nat)(h:RgI w r c N o f q)(h1:1<=k)(hk:k<=q.length) :
  Calls Tryz.prog 150 #[.pointer (some ⟨r,0,none⟩), .int .i64 k] w fun x w'=>x= .returned (.int .u8 (q.getD (q.length - k) 0:Nat))∧∃ n,w'=w.drewN n:=by
 have HI:Hid (RgI w r c N o f q):=h;have hl:=h.hq;have hN:=h.small;have hp:=h.pos;have c0:w.cell? ⟨r,0,none⟩=some (.slice (some ⟨c,0,none⟩) N N):=h.row.cell (i:=0) (by omega);have c2:w.cell? ⟨r,2,none⟩=some (.int .i64 q.length):=h.row.cell (i:=2) (by omega);obtain ⟨d,hd⟩:∃ d,d=q.length - k:=⟨_,rfl⟩
 have hdi:IntKind.i64.wrap ((q.length:Int) - k)=(d:Int):=by
  rw [IntWalk.i64_left,IntWalk.wrap64_in _ ⟨by omega,by omega⟩];omega
 have hdi2:(q.length:Int) - k=(d:Int):=by omega
 have hpl:(o+d)%N<N:=Nat.mod_lt _ hp;have hv:f ((o+d)%N)=q.getD d 0:=h.at_ d (by omega);have cc:w.cell? ⟨c,(o+d)%N,none⟩=some (.int .u8 (q.getD d 0:Nat)):=by rw [← hv];exact h.cells.cell hpl
 have HPL:Hid (∀ n,Calls Tryz.prog 108 #[.pointer (some ⟨r,0,none⟩), .int .i64 d] (w.drewN n) fun x w'=>x= .returned (.int .i64 ((o+d)%N:Nat))∧∃ m,w'=(w.drewN n).drewN m):=fun n=>kjm d (HI.out.drewN n) (by omega)
 rw [← hd];clear h hv hd;obtain ⟨a,ha⟩:∃ a,a=(o+d)%N:=⟨_,rfl⟩
 rw [← ha] at HPL hpl cc;have hai:(a:Int)<(N:Int):=by omega
 clear ha;go_enter Tryz.func150,Tryz.ntmps150
 go_wp2_with fail
 go_quiet ((go_at_call 108;exact Calls.quiet_of (HPL.out _)))
 go_wp2_with fail
 go_ret
 exact ⟨rfl,_,rfl⟩
theorem yiw{w:World}{r c N o:Nat}{f:Nat->Nat}{q:List Nat}(b:Nat)(h:RgI w r c N o f q)(hq:q.length<N) :
  Calls Tryz.prog 167 #[.pointer (some ⟨r,0,none⟩), .int .u8 b] w fun x w'=>x= .returned (.tuple #[])∧(∃ f',RgI w' r c N o f' (q++[b]))∧Two r c w w':=by
 have hfl:decide (q.length=N)=false:=by simp;omega
 have hN:=h.small;have hp:=h.pos;have HI:Hid (RgI w r c N o f q):=h;have HPL:Hid (∀ w',RgI w' r c N o f q->Calls Tryz.prog 108 #[.pointer (some ⟨r,0,none⟩), .int .i64 q.length] w' fun x w''=>x= .returned (.int .i64 ((o+q.length)%N:Nat))∧∃ m,w''=w'.drewN m):=fun w' h'=>kjm q.length h' (by omega)
 have hpl:(o+q.length)%N<N:=Nat.mod_lt _ hp;have HPU:Hid (∀ w',RgI w' r c N o f q->RgI ((w'.setCell ⟨c,(o+q.length)%N,none⟩ (.int .u8 b)).setCell ⟨r,2,none⟩ (.int .i64 ((q.length:Int)+1))) r c N o (fun j=>if j=(o+q.length)%N then b else f j) (q++[b])):=fun w' h'=>h'.push b hq
 clear h;obtain ⟨a,ha⟩:∃ a,a=(o+q.length)%N:=⟨_,rfl⟩
 rw [← ha] at HPL hpl HPU;have hai:(a:Int)<(N:Int):=by omega
 clear ha;go_enter Tryz.func167,Tryz.ntmps167
 go_wp2_with fail
 refine (zzm HI.out).mono ?_;rintro e w1 ⟨rfl,n1,hw1⟩;rw [hfl];have HI1:Hid (RgI w1 r c N o f q∧Two r c w w1):=by show _∧_;rw [hw1];exact ⟨HI.out.drewN n1,(Two.refl r c w).drewN n1⟩
 have c0:w1.cell? ⟨r,0,none⟩=some (.slice (some ⟨c,0,none⟩) N N):=HI1.out.1.row.cell (i:=0) (by omega);have c2:w1.cell? ⟨r,2,none⟩=some (.int .i64 q.length):=HI1.out.1.row.cell (i:=2) (by omega);have f2:=HI1.out.1.row.frozen 2;have ca:=HI1.out.1.cells.cell hpl;have fa:=HI1.out.1.cells.frozen a;have hrc:=HI1.out.1.ne;clear hw1 HI hfl;go_wp2_with fail
 go_region_with (go_at_call 108;refine (HPL.out _ (HI1.out.1.drewN 1)).mono ?_;rintro e w2 ⟨rfl,n2,hw2⟩;have HI2:Hid (RgI w2 r c N o f q∧Two r c w w2):=by { show _∧_;rw [hw2];exact ⟨(HI1.out.1.drewN 1).drewN n2,((HI1.out.2.drewN 1)).drewN n2⟩ };have k0:w2.cell? ⟨r,0,none⟩=some (.slice (some ⟨c,0,none⟩) N N):=HI2.out.1.row.cell (i:=0) (by omega);have k2:w2.cell? ⟨r,2,none⟩=some (.int .i64 q.length):=HI2.out.1.row.cell (i:=2) (by omega);have z2:=HI2.out.1.row.frozen 2;have ka:=HI2.out.1.cells.cell hpl;have za:=HI2.out.1.cells.frozen a;clear hw2)
 all_goals
  go_wp2_with fail
  go_end0
  exact ⟨rfl,⟨_,HPU.out _ HI2.out.1⟩,(HI2.out.2.trans (Two.set2 r c w2 a _)).trans (Two.set1 r c _ 2 _)⟩
theorem vxn{w:World}{r c N o:Nat}{f:Nat->Nat}{q:List Nat}(b:Nat)(h:RgI w r c N o f q)(hq:q.length=N) :
  Calls Tryz.prog 167 #[.pointer (some ⟨r,0,none⟩), .int .u8 b] w fun x w'=>x= .returned (.tuple #[])∧(∃ f',RgI w' r c N ((o+1)%N) f' (q.tail++[b]))∧Two r c w w':=by
 have hfl:decide (q.length=N)=true:=by simp;omega
 have hN:=h.small;have hp:=h.pos;have HI:Hid (RgI w r c N o f q∧q.length=N):=⟨h,hq⟩
 have htl:q.tail.length=N - 1:=by simp;omega
 have HPL:Hid (∀ w',RgI w' r c N ((o+1)%N) f q.tail->Calls Tryz.prog 108 #[.pointer (some ⟨r,0,none⟩), .int .i64 q.tail.length] w' fun x w''=>x= .returned (.int .i64 (((o+1)%N+q.tail.length)%N:Nat))∧∃ m,w''=w'.drewN m):=fun w' h'=>kjm q.tail.length h' (by omega)
 have hpl:((o+1)%N+q.tail.length)%N<N:=Nat.mod_lt _ hp;have HPU:Hid (∀ w',RgI w' r c N ((o+1)%N) f q.tail->RgI ((w'.setCell ⟨c,((o+1)%N+q.tail.length)%N,none⟩ (.int .u8 b)).setCell ⟨r,2,none⟩ (.int .i64 ((q.tail.length:Int)+1))) r c N ((o+1)%N) (fun j=>if j=((o+1)%N+q.tail.length)%N then b else f j) (q.tail++[b])):=fun w' h'=>h'.push b (by omega)
 have hq0:0<q.length:=by omega
 clear h hq;obtain ⟨a,ha⟩:∃ a,a=((o+1)%N+q.tail.length)%N:=⟨_,rfl⟩
 rw [← ha] at HPL hpl HPU;have hai:(a:Int)<(N:Int):=by omega
 clear ha;go_enter Tryz.func167,Tryz.ntmps167
 go_wp2_with fail
 refine (zzm HI.out.1).mono ?_;rintro e w0 ⟨rfl,n1,hw1⟩;rw [hfl];have HI0:Hid (RgI w0 r c N o f q∧Two r c w w0):=by show _∧_;rw [hw1];exact ⟨HI.out.1.drewN n1,(Two.refl r c w).drewN n1⟩
 clear hw1 hfl;go_wp2_with fail
 refine (yny HI0.out.1 hq0).mono ?_;rintro e w1 ⟨rfl,hI1,hT1⟩;have HI1:Hid (RgI w1 r c N ((o+1)%N) f q.tail∧Two r c w w1):=⟨hI1,HI0.out.2.trans hT1⟩
 clear hI1 hT1 HI0;obtain ⟨o1,ho1⟩:∃ o1,o1=(o+1)%N:=⟨_,rfl⟩
 rw [← ho1] at HI1 HPL HPU;have HO1:Hid (o1=(o+1)%N):=ho1;clear ho1;obtain ⟨qt,hqt⟩:∃ qt,qt=q.tail:=⟨_,rfl⟩
 rw [← hqt] at HI1 HPL HPU htl;have HQT:Hid (qt=q.tail):=hqt;clear hqt;have c0:w1.cell? ⟨r,0,none⟩=some (.slice (some ⟨c,0,none⟩) N N):=HI1.out.1.row.cell (i:=0) (by omega);have c2:w1.cell? ⟨r,2,none⟩=some (.int .i64 qt.length):=HI1.out.1.row.cell (i:=2) (by omega);have f2:=HI1.out.1.row.frozen 2;have ca:=HI1.out.1.cells.cell hpl;have fa:=HI1.out.1.cells.frozen a;have hrc:=HI1.out.1.ne;have HTL:Hid (qt.length=N - 1):=htl;have hqb:qt.length<=1000000:=by omega
 clear htl hq0;go_wp2_with fail
 go_region_with (go_at_call 108;refine (HPL.out _ (HI1.out.1.drewN 1)).mono ?_;rintro e w2 ⟨rfl,n2,hw2⟩;have HI2:Hid (RgI w2 r c N o1 f qt∧Two r c w w2):=by { show _∧_;rw [hw2];exact ⟨(HI1.out.1.drewN 1).drewN n2,((HI1.out.2.drewN 1)).drewN n2⟩ };have k0:w2.cell? ⟨r,0,none⟩=some (.slice (some ⟨c,0,none⟩) N N):=HI2.out.1.row.cell (i:=0) (by omega);have k2:w2.cell? ⟨r,2,none⟩=some (.int .i64 qt.length):=HI2.out.1.row.cell (i:=2) (by omega);have z2:=HI2.out.1.row.frozen 2;have ka:=HI2.out.1.cells.cell hpl;have za:=HI2.out.1.cells.frozen a;clear hw2)
 all_goals
  go_wp2_with fail
  go_end0
  rw [← HO1.out,← HQT.out];exact ⟨rfl,⟨_,HPU.out _ HI2.out.1⟩,(HI2.out.2.trans (Two.set2 r c w2 a _)).trans (Two.set1 r c _ 2 _)⟩
def vh3(w:World)(n:Nat)(x:Ending)(w':World):Prop:=∃ r c,x= .returned (.pointer (some ⟨r,0,none⟩))∧RgI w' r c n 0 (fun _=>0) []∧w.heap.size<=r∧w.heap.size<=c∧Below w.heap.size w w'
theorem joa(n:Nat)(w:World)(h0:0<n)(hn:n<=1000000) :
  Calls Tryz.prog 74 #[.int .i64 n] w fun x w'=>vh3 w n x w':=by
 have hmk:=run_make_row' (P:=Tryz.prog) 34 5 (.int .u8 0) 1 Tryz.underlying34 kh5 rfl .i64 .i64 n (by omega) (by omega);go_enter Tryz.func74,Tryz.ntmps74
 go_wp2_with fail
 go_ret
 have r1:=World.rowIs_made w (.int .u8 0) n 5;refine ⟨w.heap.size+1,w.heap.size,rfl,⟨⟨#[.slice (some ⟨w.heap.size,0,none⟩) n n, .int .i64 0, .int .i64 0],?_,rfl,?_⟩,r1.alloc _,h0,hn,h0,Nat.zero_le _,fun i hi=>by simp at hi,by omega⟩,by omega,Nat.le_refl _,((Below.refl _ _).alloc (Nat.le_refl _) _).alloc (by simp) _⟩
 ·have:=heap_alloc_new (w.alloc (.cells (madeCells #[.int .u8 0] n) 5)) (.cells #[.slice (some ⟨w.heap.size,0,none⟩) n n, .int .i64 0, .int .i64 0] 164);simpa using this
 ·exact xgl rfl rfl rfl
structure TakI(w:World)(r c N o g m:Nat)(f:Nat->Nat)(q:List Nat)(wr:World)(k:Nat):Prop where
 rg:RgI wr r c N ((o+k)%N) f (q.drop k)
 out:wr.rowIs g 5 m (fun j=> .int .u8 (if j<k then q.getD j 0 else 0:Nat))
 kp:Kp (fun x=>x=r∨x=c) (fun x=>x) w wr
 os:wr.os=w.os
 tape:wr.tape=w.tape
 output:wr.output=w.output
theorem tail_drop(q:List Nat)(k:Nat):(q.drop k).tail=q.drop (k+1):=by rw [List.tail_drop]
theorem TakI.next{w:World}{r c N o g m:Nat}{f:Nat->Nat}{q:List Nat}{wr w1 w2:World}{k:Nat}(h:TakI w r c N o g m f q wr k)(hg:w.heap.size<=g)(hgr:g≠r)(hgc:g≠c)(hk:k<q.length)(e1:w1=wr.setCell ⟨g,k,none⟩ (.int .u8 (q.getD k 0:Nat)))(hI:RgI w2 r c N (((o+k)%N+1)%N) f (q.drop k).tail)(hT:Two r c w1 w2):TakI w r c N o g m f q w2 (k+1):=by
 have hkp1:Kp (fun x=>x=r∨x=c) (fun x=>x) w w1:=by
  refine ⟨by rw [e1];simpa [World.setCell] using h.kp.size,fun x hx hr=>?_⟩;rw [e1,Below.heap_setCell _ _ _ _ (by show x≠g;omega)];exact h.kp.block x hx hr
 refine ⟨?_,?_,hkp1.trans hT.kp,by rw [hT.os,e1];exact h.os,by rw [hT.tape,e1];exact h.tape,by rw [hT.output,e1];exact h.output⟩
 ·have e:((o+k)%N+1)%N=(o+(k+1))%N:=by rw [Nat.mod_add_mod];rfl
  rw [e,tail_drop] at hI;exact hI
 ·have r1:w1.rowIs g 5 m (fun j=> .int .u8 (if j<k+1 then q.getD j 0 else 0:Nat)):=by
   rw [e1];refine (h.out.set k _).congr fun i _=>?_
   by_cases e:i=k
   ·subst e;rw [if_pos rfl,if_pos (by omega)]
   ·rw [if_neg e];by_cases e2:i<k
    ·rw [if_pos e2,if_pos (by omega)]
    ·rw [if_neg e2,if_neg (by omega)]
  exact r1.of_block (hT.kp.block g r1.lt (by intro x;rcases x with x | x;exact hgr x;exact hgc x))
def zdh(w:World)(r c N o m:Nat)(f:Nat->Nat)(q:List Nat)(x:Ending)(w':World):Prop:=∃ g,x= .returned (.slice (some ⟨g,0,none⟩) m m)∧w.heap.size<=g∧w'.rowIs g 5 m (fun j=> .int .u8 (q.getD j 0:Nat))∧RgI w' r c N ((o+m)%N) f (q.drop m)∧Two r c w w'
theorem vv3{w:World}{r c N o:Nat}{f:Nat->Nat}{q:List Nat}(most:Nat)(h:RgI w r c N o f q)(hc:c<w.heap.size)(hm:most<=1000000) :
  Calls Tryz.prog 52 #[.pointer (some ⟨r,0,none⟩), .int .i64 most] w fun x w'=>zdh w r c N o (min most q.length) f q x w':=by
 obtain ⟨m,hmm⟩:∃ m,m=min most q.length:=⟨_,rfl⟩
 have hm1:m<=q.length:=by omega
 have hqN:=h.hq;have hN:=h.small;have hmk1:=run_make_row' (P:=Tryz.prog) 34 5 (.int .u8 0) 1 Tryz.underlying34 kh5 rfl .i64 .i64 most (by omega) (by omega);have hmk2:=run_make_row' (P:=Tryz.prog) 34 5 (.int .u8 0) 1 Tryz.underlying34 kh5 rfl .i64 .i64 q.length (by omega) (by omega);have hmk0:∀ w:World,(Instr.makeSlice 34 (.int .i64 0) (.int .i64 0)).run Tryz.prog w= .ok (.slice (some ⟨w.heap.size,0,none⟩) 0 0) (w.alloc (.cells (madeCells #[.int .u8 0] 0) 5)):=run_make_row' (P:=Tryz.prog) 34 5 (.int .u8 0) 1 Tryz.underlying34 kh5 rfl .i64 .i64 0 (by omega) (by omega);have c2:w.cell? ⟨r,2,none⟩=some (.int .i64 q.length):=h.row.cell (i:=2) (by omega);have hr:r<w.heap.size:=h.row.lt;have HMM:Hid (m=min most q.length):=hmm;rw [← hmm];have H0:Hid (TakI w r c N o w.heap.size m f q (w.alloc (.cells (madeCells #[.int .u8 0] m) 5)) 0):=by
  refine ⟨?_,?_,Kp.of_below ((Below.refl _ _).alloc (Nat.le_refl _) _),rfl,rfl,rfl⟩
  ·rw [Nat.add_zero,Nat.mod_eq_of_lt h.ho,List.drop_zero];exact ⟨h.row.alloc _,h.cells.alloc _,h.pos,h.small,h.ho,h.hq,h.at_,h.ne⟩
  ·refine (World.rowIs_made w (.int .u8 0) m 5).congr fun i _=>?_
   rw [if_neg (by omega)];rfl
 clear h hmm;go_enter Tryz.func52,Tryz.ntmps52
 go_upto_region 1 with fail
 go_cut [5] (fun s5 wx=>s5= .slice (some ⟨w.heap.size,0,none⟩) m m∧wx=w.alloc (.cells (madeCells #[.int .u8 0] m) 5))
 case first=>
  by_cases h1:q.length<most
  ·have hmq:m=q.length:=by have:=HMM.out;omega
   by_cases h2:0<q.length
   ·go_wp2_with fail
    go_meet
    rw [hmq];exact ⟨rfl,rfl⟩
   ·have HM0:Hid (m=0):=by show m=0;omega
    clear hmq;go_wp2_with fail
    go_meet
    rw [HM0.out];exact ⟨rfl,rfl⟩
  ·have hmq:m=most:=by have:=HMM.out;omega
   by_cases h2:0<most
   ·go_wp2_with fail
    go_meet
    rw [hmq];exact ⟨rfl,rfl⟩
   ·have HM0:Hid (m=0):=by show m=0;omega
    clear hmq;go_wp2_with fail
    go_meet
    rw [HM0.out];exact ⟨rfl,rfl⟩
 case rest=>
 obtain ⟨rfl,rfl⟩:=hcut;clear hmk0 hmk1 hmk2 c2 HMM;go_wp2_with fail
 obtain ⟨g,hg⟩:∃ g,g=w.heap.size:=⟨_,rfl⟩
 rw [← hg] at H0 ⊢;have hgw:w.heap.size<=g:=by omega
 have hgr:g≠r:=by omega
 have hgc:g≠c:=by omega
 have HGE:Hid (w.heap.size<=g):=hgw;clear hg;go_loopw [17] (fun i wr=>∃ k:Nat,k<=m∧i= .int .i64 k∧Hid (TakI w r c N o g m f q wr k)) (fun i _=>m - (intOf i).toNat)
 case atStart=>exact ⟨0,Nat.zero_le _,rfl,H0⟩
 case round=>
  obtain ⟨k,hk,rfl,HH⟩:=hrel;clear H0;by_cases hlt:k<m
  ·have hkq:k<q.length:=by omega
   have c0:wr.cell? ⟨r,0,none⟩=some (.slice (some ⟨c,0,none⟩) N N):=HH.out.rg.row.cell (i:=0) (by omega);have c1:wr.cell? ⟨r,1,none⟩=some (.int .i64 ((o+k)%N:Nat)):=HH.out.rg.row.cell (i:=1) (by omega);have ho:=HH.out.rg.ho;have hv:f ((o+k)%N)=q.getD k 0:=by
    have:=HH.out.rg.at_ 0 (by simp;omega);rw [Nat.add_zero,Nat.mod_eq_of_lt ho] at this;rw [this];simp
   have cc:wr.cell? ⟨c,(o+k)%N,none⟩=some (.int .u8 (q.getD k 0:Nat)):=by rw [← hv];exact HH.out.rg.cells.cell ho
   have cg:=HH.out.out.cell hlt;have fg:=HH.out.out.frozen k;have HDQ:Hid (0<(q.drop k).length):=by show 0<_;simp;omega
   have HRG:Hid (RgI (wr.setCell ⟨g,k,none⟩ (.int .u8 (q.getD k 0:Nat))) r c N ((o+k)%N) f (q.drop k)):=by
    have h:=HH.out.rg;exact ⟨h.row.setOther (a:=⟨g,k,none⟩) (Ne.symm hgr) _,h.cells.setOther (a:=⟨g,k,none⟩) (Ne.symm hgc) _,h.pos,h.small,h.ho,h.hq,h.at_,h.ne⟩
   have HNX:Hid (∀ w1 w2,w1=wr.setCell ⟨g,k,none⟩ (.int .u8 (q.getD k 0:Nat))->RgI w2 r c N (((o+k)%N+1)%N) f (q.drop k).tail->Two r c w1 w2->TakI w r c N o g m f q w2 (k+1)):=fun w1 w2 e1 hI hT=>HH.out.next HGE.out hgr hgc hkq e1 hI hT
   clear hv;obtain ⟨a,ha⟩:∃ a,a=(o+k)%N:=⟨_,rfl⟩
   rw [← ha] at c1 ho cc HRG HNX;clear ha;have hai:(a:Int)<(N:Int):=by omega
   obtain ⟨bv,hbv⟩:∃ bv,bv=q.getD k 0:=⟨_,rfl⟩
   rw [← hbv] at cc HRG HNX;clear hbv;have hki:(k:Int)<(m:Int):=by omega
   go_wp2_with fail
   go_region
   all_goals
    go_wp2_with fail
    refine (yny (HRG.out.drewN 1) HDQ.out).mono ?_;rintro e w2 ⟨rfl,hI,hT⟩;have HN:Hid (TakI w r c N o g m f q w2 (k+1)):=HNX.out _ w2 rfl hI (((Two.refl r c _).drewN 1).trans hT);clear hI hT;go_wp2_with fail
    go_roundw
    case rel=>exact ⟨k+1,by omega,by go_num,HN⟩
    case measure=>simp [intOf];omega
  ·obtain rfl:k=m:=by omega
   go_wp2_with fail
   go_ret
   refine ⟨g,rfl,HGE.out,HH.out.out.congr fun i hi=>by rw [if_pos hi],HH.out.rg,⟨HH.out.kp,HH.out.os,HH.out.tape,HH.out.output⟩⟩
theorem Tr.copyN_next{far n:Nat}{t:Tr}(h:t.ended=false):Tr.copyN far (n+1) t=Tr.copyN far n (t.put (t.out.getD (t.out.length - far) 0)):=by rw [Tr.copyN,if_neg (by rw [h];simp)]
theorem TrI.byteAt{B p:Nat}{vo va vs:Value}{t:Tr}{w:World}(h:TrI B p vo va vs t w){q:Nat}(hq:q<t.out.length):∃ g cap,vo= .slice (some ⟨g,0,none⟩) t.out.length cap∧w.cell? ⟨g,q,none⟩=some (.int .u8 (t.out.getD q 0:Nat)):=by
 obtain ⟨g,cap,e,_,_⟩:=h.out.form (by omega);refine ⟨g,cap,e,?_⟩;have h':=h.out;rw [e] at h';rw [World.ownsRow.cellAt h' q (by omega)];simp [keg,hq]
theorem Tr.symbol_ended{S:RSet}{t:Tr}(h:t.ended=true):(t.symbol S).1= -1:=by
 unfold Tr.symbol;rw [Tr.sym_ended ((Tr.fwd_bit t).ended h)]
def jfk(B p:Nat)(vo va vs:Value)(w:World)(fin:Tr)(far n k:Nat)(wr:World):Prop:=
 ∃ (t1:Tr) (vo' va':Value),Tr.copyN far (n - k) t1=fin∧jkl B p vo va vs vo' va' t1 w wr∧t1.Fine∧t1.out.length<=900000000000+k∧(t1.ended=false->far<=t1.out.length)
theorem Tr.spanBits_le{k:Nat}(h:k<=15):Tr.spanBits k<=6:=by unfold Tr.spanBits;split <;> omega
theorem Tr.spanLeast_le{b k:Nat}(hb:b<=3)(h:k<=15):0<b+k->0<Tr.spanLeast b k∧Tr.spanLeast b k<=400:=by
 have:k=0∨k=1∨k=2∨k=3∨k=4∨k=5∨k=6∨k=7∨k=8∨k=9∨k=10∨k=11∨k=12∨k=13∨k=14∨k=15:=by omega
 rcases this with rfl | rfl | rfl | rfl | rfl | rfl | rfl | rfl | rfl | rfl | rfl | rfl | rfl | rfl | rfl | rfl <;> simp [Tr.spanLeast] <;> omega
theorem xfq{B p:Nat}{vo va vs:Value}{t:Tr}(S:RSet)(ad ad':Option Addr)(cap cap' k:Nat)(w:World)(h:TrI B p vo va vs t w)(hf:t.Fine)(hs:t.s.size<=maxLen)(hlen:t.out.length<=900000000000)(hS:SetI w S ad ad')(ho:Off p ad)(ho':Off p ad')(hl:S.l.length<=16)(hk:k<=11) :
  Calls Tryz.prog 215 #[.pointer (some ⟨p,0,none⟩), .agg (setC S ad cap ad' cap'), .int .i64 k] w fun x w'=>x= .returned (.tuple #[])∧∃ vo' va',jkl B p vo va vs vo' va' (t.copies S k) w w':=by
 have HO:Hid (Off p ad∧Off p ad'):=⟨ho,ho'⟩
 have HL:Hid (S.l.length<=16):=hl;have hp0:=h.row.lt;obtain ⟨W0,hW0⟩:∃ W0,W0=w.alloc (.cells (setC S ad cap ad' cap') 273):=⟨_,rfl⟩
 have B0:Below w.heap.size w W0:=by rw [hW0];exact (Below.refl _ _).alloc (Nat.le_refl _) _
 have hbox:W0.heap[w.heap.size]?=some (.cells (setC S ad cap ad' cap') 273 (0,0)):=by rw [hW0];exact heap_alloc_new w _
 have HK0:Hid (Kept B p vo va vs t w W0):=(Kept.refl h).below B0;have HS0:Hid (SetI W0 S ad ad'):=hS.below B0;have HB0:Hid (W0.heap[w.heap.size]?=some (.cells (setC S ad cap ad' cap') 273 (0,0))):=hbox;have HF:Hid t.Fine:=hf;have HZ:Hid (t.s.size<=maxLen):=hs;have HLN:Hid (t.out.length<=900000000000):=hlen;clear h hf hs hS ho ho' hl B0 hbox hlen;have hmb:Tr.spanBits k<=6:=Tr.spanBits_le (by omega);have hn66:=Tr.copy_len hk (Tr.number_lt t (Tr.spanBits k));obtain ⟨m,hm⟩:∃ m,m=(t.number (Tr.spanBits k)).1:=⟨_,rfl⟩
 obtain ⟨le,hle⟩:∃ le,le=Tr.spanLeast 3 k:=⟨_,rfl⟩
 rw [← hm,← hle] at hn66;have HM:Hid (m=(t.number (Tr.spanBits k)).1):=hm;have HLE:Hid (le=Tr.spanLeast 3 k):=hle;clear hm hle;go_enter Tryz.func215,Tryz.ntmps215
 go_wp2_with (go_at_call 222;refine (vm5 3 k _ (by omega) (by omega)).mono ?_;rintro e w' ⟨rfl,rfl⟩)
 rw [← hW0];clear hW0;refine (zu8 _ _ HK0.out.inv HF.out HZ.out (by omega)).mono ?_;rintro e w1 ⟨rfl,k1⟩;have HK1:Hid (Kept B p vo va vs (t.number (Tr.spanBits k)).2 w w1):=HK0.out.trans k1;have hbx1:w1.heap[w.heap.size]?=some (.cells (setC S ad cap ad' cap') 273 (0,0)):=(k1.kp.block _ (x8r HB0.out) (by show w.heap.size≠p;omega)).trans HB0.out;have c2:w1.cell? ⟨w.heap.size,2,none⟩=some (.int .i64 S.many):=by rw [cell_of_row _ _ 2 _ _ _ hbx1];rfl
 have HBX1:Hid (w1.heap[w.heap.size]?=some (.cells (setC S ad cap ad' cap') 273 (0,0))):=hbx1;have HS1:Hid (SetI w1 S ad ad'):=HS0.out.sole k1.kp HO.out.1 HO.out.2;clear k1 hbx1 HK0 HB0 HS0;obtain ⟨T1,hT1⟩:∃ T1,T1=(if S.many=0 then (t.number (Tr.spanBits k)).2.fail 11 else (t.number (Tr.spanBits k)).2):=⟨_,rfl⟩
 have fT1:Tr.Fwd t T1:=by
  rw [hT1];split
  ·exact (Tr.fwd_number t _).trans (Tr.fwd_fail _ (by decide))
  ·exact Tr.fwd_number t _
 have FT1:T1.Fine:=by
  rw [hT1];split
  ·exact (HF.out.number _).fail (by decide)
  ·exact HF.out.number _
 have HT1:Hid (Tr.Fwd t T1∧T1.Fine):=⟨fT1,FT1⟩
 have HC:Hid (t.copies S k=if (T1.symbol S).1<0 then (T1.symbol S).2.fail 11 else Tr.copyN (Tr.spanLeast 1 (T1.symbol S).1.toNat+((T1.symbol S).2.number (Tr.spanBits (T1.symbol S).1.toNat)).1) (le+m) (if ((T1.symbol S).2.number (Tr.spanBits (T1.symbol S).1.toNat)).2.out.length - ((T1.symbol S).2.number (Tr.spanBits (T1.symbol S).1.toNat)).2.frm<Tr.spanLeast 1 (T1.symbol S).1.toNat+((T1.symbol S).2.number (Tr.spanBits (T1.symbol S).1.toNat)).1 then ((T1.symbol S).2.number (Tr.spanBits (T1.symbol S).1.toNat)).2.fail 11 else ((T1.symbol S).2.number (Tr.spanBits (T1.symbol S).1.toNat)).2)):=by
  show _=_;rw [hT1,HM.out,HLE.out];rfl
 rw [← HM.out,← HLE.out];clear fT1 FT1;by_cases hmany:S.many=0
 ·rw [hmany] at c2;rw [if_pos hmany] at hT1;have HT:Hid (T1=(t.number (Tr.spanBits k)).2.fail 11):=hT1;clear hT1 hmany;go_wp2_with fail
  refine (j0n 11 _ HK1.out.inv).mono ?_;rintro e w2 ⟨rfl,k2⟩;have HK2:Hid (Kept B p vo va vs T1 w w2):=by show Kept _ _ _ _ _ _ _ _;rw [HT.out];exact HK1.out.trans k2
  have HBX2:Hid (w2.heap[w.heap.size]?=some (.cells (setC S ad cap ad' cap') 273 (0,0))):=(k2.kp.block _ (x8r HBX1.out) (by show w.heap.size≠p;omega)).trans HBX1.out;have HS2:Hid (SetI w2 S ad ad'):=HS1.out.sole k2.kp HO.out.1 HO.out.2;have HTN:Hid ((T1.symbol S).1<0):=by show (T1.symbol S).1<0;rw [Tr.symbol_ended (by rw [HT.out];exact Tr.ended_fail _ (by decide))];omega
  clear k2 HT;clear HK1 HBX1 HS1;go_wp2_with (refine wpList_load_row rfl 273 _ rfl _ rfl 273 _ _ _ HBX2.out Tryz.underlying273 rfl (vo8 _ _ _ _ _) ?_)
  refine (jwz S ad ad' cap cap' _ HK2.out.inv HT1.out.2 (by rw [HT1.out.1.s];exact HZ.out) HS2.out HO.out.1 HO.out.2 (by have:=HL.out;omega)).mono ?_;rintro e w3 ⟨rfl,k3⟩;have HK3:Hid (Kept B p vo va vs (T1.symbol S).2 w w3):=HK2.out.trans k3;clear k3 HK2 HBX2 HS2 c2;have hd1:=Tr.symbol_lt T1 S;have HT3:Hid (Tr.Fwd t (T1.symbol S).2∧(T1.symbol S).2.Fine):=⟨HT1.out.1.trans (Tr.fwd_symbol T1 S),HT1.out.2.symbol S⟩
  have hneg:=HTN.out;clear HTN;generalize T1.symbol S=D at *;have HC':Hid (t.copies S k=D.2.fail 11):=by show _=_;rw [HC.out,if_pos hneg]
  clear HC;go_wp2_with fail
  refine (j0n 11 _ HK3.out.inv).mono ?_;rintro e w4 ⟨rfl,k4⟩;have HK4:Hid (Kept B p vo va vs (D.2.fail 11) w w4):=HK3.out.trans k4;clear k4;go_wp2_with fail
  refine bodyPost_ret (results_none rfl _ _ _) rfl ?_;rw [HC'.out];exact ⟨rfl,vo,va,HK4.out.moved⟩
 ·have hm':(S.many==0)=false:=by simpa using hmany
  rw [if_neg hmany] at hT1;obtain ⟨w2,hw2⟩:∃ w2,w2=w1:=⟨_,rfl⟩
  rw [← hw2] at HK1 HBX1 HS1 c2 ⊢;have HK2:Hid (Kept B p vo va vs T1 w w2):=by show Kept _ _ _ _ _ _ _ _;rw [hT1];exact HK1.out
  have HBX2:=HBX1;have HS2:=HS1;clear hT1 hmany hw2;clear HK1 HBX1 HS1;go_wp2_with (refine wpList_load_row rfl 273 _ rfl _ rfl 273 _ _ _ HBX2.out Tryz.underlying273 rfl (vo8 _ _ _ _ _) ?_)
  refine (jwz S ad ad' cap cap' _ HK2.out.inv HT1.out.2 (by rw [HT1.out.1.s];exact HZ.out) HS2.out HO.out.1 HO.out.2 (by have:=HL.out;omega)).mono ?_;rintro e w3 ⟨rfl,k3⟩;have HK3:Hid (Kept B p vo va vs (T1.symbol S).2 w w3):=HK2.out.trans k3;clear k3 HK2 HBX2 HS2 c2;have hd1:=Tr.symbol_lt T1 S;have HT3:Hid (Tr.Fwd t (T1.symbol S).2∧(T1.symbol S).2.Fine):=⟨HT1.out.1.trans (Tr.fwd_symbol T1 S),HT1.out.2.symbol S⟩
  generalize T1.symbol S=D at *;by_cases hneg:D.1<0
  ·have HC':Hid (t.copies S k=D.2.fail 11):=by show _=_;rw [HC.out,if_pos hneg]
   clear HC;go_wp2_with fail
   refine (j0n 11 _ HK3.out.inv).mono ?_;rintro e w4 ⟨rfl,k4⟩;have HK4:Hid (Kept B p vo va vs (D.2.fail 11) w w4):=HK3.out.trans k4;clear k4;go_wp2_with fail
   refine bodyPost_ret (results_none rfl _ _ _) rfl ?_;rw [HC'.out];exact ⟨rfl,vo,va,HK4.out.moved⟩
  ·obtain ⟨dn,hdn⟩:∃ dn:Nat,D.1=(dn:Int):=⟨D.1.toNat,by omega⟩
   have hd15:dn<=15:=by have:=HL.out;omega
   rw [hdn] at hd1 HC ⊢;clear hneg;have hb6:=Tr.spanBits_le hd15;have hsl:=Tr.spanLeast_le (b:=1) (by omega) hd15 (by omega);have hfl:=Tr.number_lt D.2 (Tr.spanBits dn);have hf64:(D.2.number (Tr.spanBits dn)).1<64:=by
    have:2^Tr.spanBits dn<=2^6:=Nat.pow_le_pow_right (by decide) hb6;omega
   have HC':Hid (t.copies S k=Tr.copyN (Tr.spanLeast 1 dn+(D.2.number (Tr.spanBits dn)).1) (le+m) (if (D.2.number (Tr.spanBits dn)).2.out.length - (D.2.number (Tr.spanBits dn)).2.frm<Tr.spanLeast 1 dn+(D.2.number (Tr.spanBits dn)).1 then (D.2.number (Tr.spanBits dn)).2.fail 11 else (D.2.number (Tr.spanBits dn)).2)):=by
    show _=_;rw [HC.out,if_neg (by omega)];rfl
   have HT4:Hid (Tr.Fwd t (D.2.number (Tr.spanBits dn)).2∧(D.2.number (Tr.spanBits dn)).2.Fine):=⟨HT3.out.1.trans (Tr.fwd_number _ _),HT3.out.2.number _⟩
   have HZ3:Hid (D.2.s.size<=maxLen):=by show _<=_;rw [HT3.out.1.s];exact HZ.out
   clear HC hfl;go_wp2_with (go_at_call 222;refine (vm5 1 dn _ (by omega) (by omega)).mono ?_;rintro e w' ⟨rfl,rfl⟩)
   refine (zu8 _ _ HK3.out.inv HT3.out.2 HZ3.out (by omega)).mono ?_;rintro e w4 ⟨rfl,k4⟩;have HK4:Hid (Kept B p vo va vs (D.2.number (Tr.spanBits dn)).2 w w4):=HK3.out.trans k4;clear k4 HK3;generalize D.2.number (Tr.spanBits dn)=F at *;generalize Tr.spanLeast 1 dn=fl at *;obtain ⟨aO,cO,hvo⟩:∃ aO cO,vo= .slice aO F.2.out.length cO:=by
    rcases HK4.out.inv.out.2 with ⟨e,h0⟩ | ⟨g,cp,_,e,_⟩
    ·exact ⟨none,0,by rw [e,h0]⟩
    ·exact ⟨_,cp,e⟩
   have c0:w4.cell? ⟨p,0,none⟩=some (.slice aO F.2.out.length cO):=by rw [← hvo];exact HK4.out.inv.row.cell (i:=0) (by omega)
   have c9:w4.cell? ⟨p,9,none⟩=some (.int .i64 F.2.frm):=HK4.out.inv.row.cell (i:=9) (by omega);have hfr:=HT4.out.2.frm;have holn:F.2.out.length<=900000000000:=by rw [HT4.out.1.out];exact HLN.out
   clear hvo;have hdz:decide ((dn:Int)<0)=false:=by simp
   obtain ⟨T5,hT5⟩:∃ T5,T5=(if F.2.out.length - F.2.frm<fl+F.1 then F.2.fail 11 else F.2):=⟨_,rfl⟩
   have HT5:Hid (T5.Fine∧T5.out.length<=900000000000∧(T5.ended=false->fl+F.1<=T5.out.length)):=by
    show _∧_;rw [hT5];split
    ·refine ⟨HT4.out.2.fail (by decide),?_,fun h=>?_⟩
     ·rw [(Tr.fwd_fail F.2 (e:=11) (by decide)).out];exact holn
     ·rw [Tr.ended_fail F.2 (e:=11) (by decide)] at h;cases h
    ·exact ⟨HT4.out.2,holn,fun _=>by omega⟩
   have HC5:Hid (t.copies S k=Tr.copyN (fl+F.1) (le+m) T5):=by show _=_;rw [HC'.out,hT5]
   clear HC';by_cases hfar:F.2.out.length - F.2.frm<fl+F.1
   case' pos=>
    have hfd:decide ((F.2.out.length:Int) - F.2.frm<(fl:Int)+F.1)=true:=by simp;omega
    rw [if_pos hfar] at hT5;go_wp2_with fail
    go_quiet (fail)
    go_wp2_with fail
    refine (j0n 11 _ (HK4.out.inv.drewN _)).mono ?_;rintro e w5 ⟨rfl,k5⟩;have HK5:Hid (Kept B p vo va vs T5 w w5):=by show Kept _ _ _ _ _ _ _ _;rw [hT5];exact (HK4.out.drewN _).trans k5
    clear k5 HK4 hfd hT5;go_wp2_with fail
   case' neg=>
    have hfd:decide ((F.2.out.length:Int) - F.2.frm<(fl:Int)+F.1)=false:=by simp;omega
    rw [if_neg hfar] at hT5;go_wp2_with fail
    go_quiet (fail)
    go_wp2_with fail
    obtain ⟨w5,hw5⟩:∃ w5,w5=w4.drewN nq:=⟨_,rfl⟩
    rw [← hw5];have HK5:Hid (Kept B p vo va vs T5 w w5):=by show Kept _ _ _ _ _ _ _ _;rw [hT5,hw5];exact HK4.out.drewN _
    clear HK4 hfd hT5 hw5
   all_goals
    obtain ⟨far,hfe⟩:∃ far,far=fl+F.1:=⟨_,rfl⟩
    have hfi:(fl:Int)+F.1=(far:Int):=by omega
    have hf1:0<far:=by omega
    have hf5:far<=500:=by omega
    rw [← hfe] at HT5 HC5;rw [hfi];clear hfar hdz c0 c9 hdn hd1 hfi hfe hsl hf64;go_loopw [13] (fun i wr=>∃ j:Nat,j<=le+m∧i= .int .i64 j∧Hid (jfk B p vo va vs w (t.copies S k) far (le+m) j wr)) (fun i _=>le+m - (intOf i).toNat)
    case atStart=>
     refine ⟨0,Nat.zero_le _,rfl,?_⟩;exact ⟨T5,vo,va,by rw [Nat.sub_zero,HC5.out],HK5.out.moved,HT5.out.1,by have:=HT5.out.2.1;omega,HT5.out.2.2⟩
    case round=>
     obtain ⟨j,hj,rfl,HH⟩:=hrel;clear HK5;obtain ⟨t1,vo1,va1,hb1,hM,hF,hC,hs1⟩:=HH.out;have HB1:Hid (Tr.copyN far (le+m - j) t1=t.copies S k):=hb1;have HM1:Hid (jkl B p vo va vs vo1 va1 t1 w wr):=hM;have HF1:Hid (t1.Fine∧(t1.ended=false->far<=t1.out.length)):=⟨hF,hs1⟩
     clear HH hb1 hM hF hs1;by_cases hlt:j<le+m
     ·cases he:t1.ended
      ·have HE:Hid (t1.ended=false):=he;clear he;have HN:Hid (Tr.copyN far (le+m - (j+1)) (t1.put (t1.out.getD (t1.out.length - far) 0))=t.copies S k):=by
        show _=_;rw [← HB1.out,show le+m - j=(le+m - (j+1))+1 by omega,Tr.copyN_next HE.out]
       have hfo:=HF1.out.2 HE.out;obtain ⟨n1,hn1⟩:∃ n1,n1=t1.out.length:=⟨_,rfl⟩
       rw [← hn1] at hfo hC HN;obtain ⟨q,hq⟩:∃ q,q=n1 - far:=⟨_,rfl⟩
       have hx1:(q:Int)<(n1:Int):=by omega
       have hx0:IntKind.i64.wrap ((n1:Int) - far)=(q:Int):=by
        rw [IntWalk.i64_left];rw [IntWalk.wrap64_in _ ⟨by omega,by omega⟩];omega
       obtain ⟨g,cO1,hvo1,cq⟩:=HM1.out.inv.byteAt (q:=q) (by omega);rw [← hn1] at hvo1;subst hvo1;have c0:wr.cell? ⟨p,0,none⟩=some (.slice (some ⟨g,0,none⟩) n1 cO1):=HM1.out.inv.row.cell (i:=0) (by omega);have HQ:Hid (t1.out.length=n1):=hn1.symm;rw [← hq] at HN;obtain ⟨bv,hbv⟩:∃ bv,bv=t1.out.getD q 0:=⟨_,rfl⟩
       rw [← hbv] at HN cq;clear hn1 hq;clear hfo hbv;go_wp2_with (go_at_call 182;refine (ywm _ HM1.out.inv).mono ?_;rw [HE.out];rintro e w' ⟨rfl,rfl⟩)
       go_region_with (go_at_call 212;refine (v6a _ _ (HM1.out.inv.drewN 1) (by rw [HQ.out];omega) (by rw [HF1.out.1.ats,HQ.out];omega)).mono ?_;rintro e w8 ⟨rfl,vo2,va2,m8⟩)
       all_goals
        have HI8:Hid (jfk B p vo va vs w (t.copies S k) far (le+m) (j+1) w8):=⟨_,vo2,va2,HN.out,(HM1.out.then ((Kept.refl HM1.out.inv).drewN 1)).trans m8,HF1.out.1.put _,by have h1:=Tr.put_len t1 bv;have h2:=HQ.out;omega,fun he=>by
          have h1:=HF1.out.2 HE.out;have h2:(t1.put bv).out=t1.out++[bv]:=by rw [Tr.put_going HE.out]
          rw [h2];simp;omega⟩
        clear m8;go_wp2_with fail
        go_roundw
        case rel=>exact ⟨j+1,by omega,by go_num,HI8⟩
        case measure=>simp [intOf];omega
      ·have HE:Hid (t1.ended=true):=he;clear he;go_wp2_with (first | (go_at_call 182;refine (ywm _ HM1.out.inv).mono ?_;rw [HE.out];rintro e w' ⟨rfl,rfl⟩))
       go_end0
       have e1:=HB1.out;rw [Tr.copyN_ended _ HE.out] at e1;rw [← e1];exact ⟨rfl,vo1,va1,HM1.out⟩
     ·obtain rfl:j=le+m:=by omega
      go_wp2_with fail
      go_end0
      have e1:=HB1.out;rw [Nat.sub_self] at e1;rw [← e1];exact ⟨rfl,vo1,va1,HM1.out⟩
def Lies(w:World)(p:Nat)(vo va:Value)(ad:Option Addr):Prop:=∀ b o f,ad=some ⟨b,o,f⟩->b<w.heap.size∧b≠p∧vo.ownBlock≠some b∧va.ownBlock≠some b
theorem Lies.off{w:World}{p:Nat}{vo va:Value}{ad:Option Addr}(h:Lies w p vo va ad):Off p ad:=fun b o f e=>(h b o f e).2.1
theorem Lies.none(w:World)(p:Nat)(vo va:Value):Lies w p vo va Option.none:=fun _ _ _ e=>by cases e
theorem Lies.block{B p:Nat}{vo va vs vo' va':Value}{t':Tr}{w w':World}{ad:Option Addr}(h:Lies w p vo va ad)(hm:jkl B p vo va vs vo' va' t' w w'){b o:Nat}{f:Option Nat}(e:ad=some ⟨b,o,f⟩):w'.heap[b]?=w.heap[b]?:=by
 obtain ⟨h1,h2,h3,h4⟩:=h b o f e;exact hm.blk b h1 h2 h3 h4
theorem Lies.moved{B p:Nat}{vo va vs vo' va':Value}{t':Tr}{w w':World}{ad:Option Addr}(h:Lies w p vo va ad)(hm:jkl B p vo va vs vo' va' t' w w'):Lies w' p vo' va' ad:=fun b o f e=>by
 obtain ⟨h1,h2,h3,h4⟩:=h b o f e;refine ⟨Nat.lt_of_lt_of_le h1 hm.size,h2,fun e'=>?_,fun e'=>?_⟩
 ·rcases hm.no b e' with h' | h'
  ·exact h3 h'
  ·omega
 ·rcases hm.na b e' with h' | h'
  ·exact h4 h'
  ·omega
theorem Lies.below{w w':World}{p:Nat}{vo va:Value}{ad:Option Addr}(h:Lies w p vo va ad)(hb:Below w.heap.size w w'):Lies w' p vo va ad:=fun b o f e=>by
 obtain ⟨h1,h2⟩:=h b o f e;exact ⟨Nat.lt_of_lt_of_le h1 hb.size,h2⟩
theorem xin.moved{B p:Nat}{vo va vs vo' va':Value}{t':Tr}{w w':World}{ad:Option Addr}{l:List Int}(h:xin w ad l)(hl:Lies w p vo va ad)(hm:jkl B p vo va vs vo' va' t' w w'):xin w' ad l:=
 h.of_blocks hm.size (fun _ _ _ e _=>hl.block hm e)
structure SetA(w:World)(p:Nat)(vo va:Value)(S:RSet)(ad ad':Option Addr):Prop where
 set:SetI w S ad ad'
 la:Lies w p vo va ad
 lb:Lies w p vo va ad'
theorem SetA.moved{B p:Nat}{vo va vs vo' va':Value}{t':Tr}{w w':World}{S:RSet}{ad ad':Option Addr}(h:SetA w p vo va S ad ad')(hm:jkl B p vo va vs vo' va' t' w w'):SetA w' p vo' va' S ad ad':=⟨⟨h.set.len.moved h.la hm,h.set.cds.moved h.lb hm⟩,h.la.moved hm,h.lb.moved hm⟩
theorem SetA.below{w w':World}{p:Nat}{vo va:Value}{S:RSet}{ad ad':Option Addr}(h:SetA w p vo va S ad ad')(hb:Below w.heap.size w w'):SetA w' p vo va S ad ad':=⟨h.set.below hb,h.la.below hb,h.lb.below hb⟩
structure BoxA(w:World)(p:Nat)(vo va:Value)(g:Nat)(o:Obj):Prop where
 at_:w.heap[g]?=some o
 lies:Lies w p vo va (some ⟨g,0,Option.none⟩)
theorem BoxA.moved{B p:Nat}{vo va vs vo' va':Value}{t':Tr}{w w':World}{g:Nat}{o:Obj}(h:BoxA w p vo va g o)(hm:jkl B p vo va vs vo' va' t' w w'):BoxA w' p vo' va' g o:=⟨(h.lies.block hm rfl).trans h.at_,h.lies.moved hm⟩
theorem BoxA.below{w w':World}{p:Nat}{vo va:Value}{g:Nat}{o:Obj}(h:BoxA w p vo va g o)(hb:Below w.heap.size w w'):BoxA w' p vo va g o:=⟨(hb.block g (x8r h.at_)).trans h.at_,h.lies.below hb⟩
theorem BoxA.new{B p:Nat}{vo va vs:Value}{t:Tr}{w:World}(h:TrI B p vo va vs t w)(o:Obj)(n:Nat)(hn:n=w.heap.size):BoxA (w.alloc o) p vo va n o:=by
 subst hn;refine ⟨heap_alloc_new w o,fun b o' f e=>?_⟩;simp only [Option.some.injEq,Addr.mk.injEq] at e;obtain ⟨rfl,_,_⟩:=e;refine ⟨by simp,by have:=h.row.lt;omega,fun e=>by have:=(h.out.lt _ e).2;omega,fun e=>by have:=(h.ats.lt _ e).2;omega⟩
def muW(p:Nat)(w:World):Nat:=
 match w.cell? ⟨p,2,none⟩,w.cell? ⟨p,4,none⟩,w.cell? ⟨p,5,none⟩,w.cell? ⟨p,6,none⟩,w.cell? ⟨p,8,none⟩ with
 | some (.int _ i),some (.int _ e),some (.bool n),some (.string s),some (.int _ l)=>if e !=0 || n then 0 else 1+8*(s.size - i.toNat)+l.toNat
 | _,_,_,_,_=>0
theorem TrI.muW{B p:Nat}{vo va vs:Value}{t:Tr}{w:World}(h:TrI B p vo va vs t w):muW p w=t.mu:=by
 have c2:w.cell? ⟨p,2,none⟩=some (.int .i64 t.inn):=h.row.cell (i:=2) (by omega);have c4:w.cell? ⟨p,4,none⟩=some (.int .i64 t.err):=h.row.cell (i:=4) (by omega);have c5:w.cell? ⟨p,5,none⟩=some (.bool t.needs):=h.row.cell (i:=5) (by omega);have c6:w.cell? ⟨p,6,none⟩=some (.string t.s):=h.row.cell (i:=6) (by omega);have c8:w.cell? ⟨p,8,none⟩=some (.int .i64 t.left):=h.row.cell (i:=8) (by omega);unfold YtbcjmakpempkiaaGreatDoor.muW Tr.mu Tr.ended;rw [c2,c4,c5,c6,c8];have e:(((t.err:Nat):Int) !=0)=(t.err !=0):=by
  by_cases h0:t.err=0
  ·rw [h0];rfl
  ·have h1:((t.err:Int) !=0)=true:=by simp;omega
   rw [h1];simp [h0]
 simp only [e,Int.toNat_natCast]
end Go.Proofs.YtbcjmakpempkiaaGreatDoor
