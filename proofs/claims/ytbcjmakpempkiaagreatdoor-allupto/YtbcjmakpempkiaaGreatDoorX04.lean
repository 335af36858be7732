import Derived.Test.YtbcjmakpempkiaaGreatDoorX00
set_option maxRecDepth 100000
set_option maxHeartbeats 8000000
set_option linter.all false
namespace Go.Proofs.YtbcjmakpempkiaaGreatDoor
variable {N c o r:Nat} {a b w:World} {f:Nat->Nat} {q:List Nat}
open Go.Proofs.Tryz
open Go.RowKit
def ni(c N o n:Nat):Nat->Value
 | 0=> .slice (some ⟨c,0,none⟩) N N
 | 1=> .int .i64 o
 | _=> .int .i64 n
structure GJ(w:World)(r c N o:Nat)(f:Nat->Nat)(q:List Nat):Prop where
 row:w.rowIs r 164 3 (ni c N o q.length)
 cells:w.rowIs c 5 N (fun j=> .int .u8 (f j))
 pos:0<N
 small:N<=1000000
 ho:o<N
 hq:q.length<=N
 at_:∀ i,i<q.length->f ((o+i)%N)=q.getD i 0
 ne:r≠c
structure Hy(r c:Nat)(w w':World):Prop where
 kp:Kp (fun k=>k=r\/k=c) (fun k=>k) w w'
 os:w'.os=w.os
 tape:w'.tape=w.tape
 output:w'.output=w.output
theorem Hy.refl(r c:Nat)(w:World):Hy r c w w:=⟨Kp.refl _ _ _,rfl,rfl,rfl⟩
theorem Hy.trans{d:World}(h:Hy r c a b)(k:Hy r c b d):Hy r c a d:=⟨h.kp.trans k.kp,k.os.trans h.os,k.tape.trans h.tape,k.output.trans h.output⟩
theorem Hy.dx(r c:Nat)(w:World)(i:Nat)(v:Value):Hy r c w (w.setCell ⟨r,i,none⟩ v):=⟨Kp.Dm w _ _ (Or.inl rfl),rfl,rfl,rfl⟩
theorem Hy.mr(r c:Nat)(w:World)(i:Nat)(v:Value):Hy r c w (w.setCell ⟨c,i,none⟩ v):=⟨Kp.Dm w _ _ (Or.inr rfl),rfl,rfl,rfl⟩
theorem Hy.drewN(h:Hy r c a b)(q:Nat):Hy r c a (b.drewN q):=⟨⟨h.kp.size,h.kp.block⟩,h.os,h.tape,h.output⟩
theorem GJ.drewN(h:GJ w r c N o f q)(n:Nat):GJ (w.drewN n) r c N o f q:=⟨h.row,h.cells,h.pos,h.small,h.ho,h.hq,h.at_,h.ne⟩
theorem TO{P:Nat->Prop}(h0:P 0)(h1:P 1)(h2:P 2)(i:Nat)(hi:i<3):P i:=by
 have:i=0\/i=1\/i=2:=zO;rcases this with rfl | rfl | rfl <;> assumption
theorem mo(h:GJ w r c N o f q) :
  Calls prog 57 #[.pointer (some ⟨r,0,none⟩)] w fun x a=>x= .returned (.int .i64 q.length)/\w=a:=by
 have c2:w.cell? ⟨r,2,none⟩=some (.int .i64 q.length):=h.row.cell (i:=2) zO;clear h;go_enter func57,ntmps57
 go_wp2
 go_ret
 exact ⟨rfl,rfl⟩
theorem Xz(h:GJ w r c N o f q) :
  Calls prog 165 #[.pointer (some ⟨r,0,none⟩)] w fun x a=>x= .returned (.bool (decide (q.length=N)))/\∃ n,a=w.drewN n:=by
 have c2:w.cell? ⟨r,2,none⟩=some (.int .i64 q.length):=h.row.cell (i:=2) zO;have b:w.cell? ⟨r,0,none⟩=some (.slice (some ⟨c,0,none⟩) N N):=h.row.cell (i:=0) zO;clear h;go_enter func165,ntmps165
 go_wp2_with fail
 go_quiet (fail)
 go_wp2
 go_ret
 refine ⟨?_,_,rfl⟩;by_cases e:q.length=N
 ·simp [e]
 ·simp [e];omega
theorem Ov(k:Nat)(h:GJ w r c N o f q)(hk:k<=1000000) :
  Calls prog 108 #[.pointer (some ⟨r,0,none⟩), .int .i64 k] w fun x b=>x= .returned (.int .i64 ((o+k)%N:Nat))/\∃ n,b=w.drewN n:=by
 have c1:w.cell? ⟨r,1,none⟩=some (.int .i64 o):=h.row.cell (i:=1) zO;have d:w.cell? ⟨r,0,none⟩=some (.slice (some ⟨c,0,none⟩) N N):=h.row.cell (i:=0) zO;have ho:=h.ho;have e:=h.small;have hp:=h.pos;have g:((N:Int)==0)=false:=by rw [BJ];omega
 have a:¬ (N:Int)=0:=zO;clear h;go_enter func108,ntmps108
 go_wp2_with fail
 go_quiet (fail)
 go_wp2
 go_ret
 exact ⟨zS,_,rfl⟩
theorem dS(o N i:Nat):((o+1)%N+i)%N=(o+(i+1))%N:=by
 rw [Nat.mod_add_mod,show o+1+i=o+(i+1) by omega]
theorem GJ.drop(h:GJ w r c N o f q)(hq:0<q.length) :
  GJ ((w.setCell ⟨r,1,none⟩ (.int .i64 (((o+1)%N:Nat):Int))).setCell ⟨r,2,none⟩ (.int .i64 ((q.length:Int) - 1))) r c N ((o+1)%N) f q.tail:=by
 have hl:q.tail.length=q.length - 1:=zS;refine ⟨?_,(h.cells.setOther (a:=⟨r,1,none⟩) (zY h.ne) _).setOther (a:=⟨r,2,none⟩) (zY h.ne) _,h.pos,h.small,yC _ h.pos,by rw [hl];have:=h.hq;omega,fun i hi=>?_,h.ne⟩
 ·refine ((h.row.set 1 _).set 2 _).congr ?_;rw [hl];have e:((q.length - 1:Nat):Int)=(q.length:Int) - 1:=zO;intro j b;revert j
  refine TO rfl rfl ?_;show Value.int .i64 ((q.length:Int) - 1)=Value.int .i64 ((q.length - 1:Nat):Int);rw [e]
 ·rw [dS,h.at_ (i+1) zO];cases q with
  | nil=>simp at hq
  | cons a l=>simp
theorem Xy(h:GJ w r c N o f q)(hq:0<q.length) :
  Calls prog 78 #[.pointer (some ⟨r,0,none⟩)] w fun x l=>x= .returned (.tuple #[])/\GJ l r c N ((o+1)%N) f q.tail/\Hy r c w l:=by
 have g:=hid h;have hl:=h.hq;have t:=h.small;clear h;go_enter func78,ntmps78
 go_wp2_with fail
 refine (Ov 1 g.out zO).mono ?_;rintro e w1 ⟨rfl,n1,b⟩;have d:GJ w1 r c N o f q:=by rw [b];exact g.out.drewN n1
 have k:Hy r c w w1:=by rw [b];exact (Hy.refl r c w).drewN n1
 have p:=d.row.frozen 1;have s:=d.row.frozen 2;have c1:w1.cell? ⟨r,1,none⟩=some (.int .i64 o):=d.row.cell (i:=1) zO;have c2:w1.cell? ⟨r,2,none⟩=some (.int .i64 q.length):=d.row.cell (i:=2) zO;have j:Hid (GJ ((w1.setCell ⟨r,1,none⟩ (.int .i64 (((o+1)%N:Nat):Int))).setCell ⟨r,2,none⟩ (.int .i64 ((q.length:Int) - 1))) r c N ((o+1)%N) f q.tail/\Hy r c w ((w1.setCell ⟨r,1,none⟩ (.int .i64 (((o+1)%N:Nat):Int))).setCell ⟨r,2,none⟩ (.int .i64 ((q.length:Int) - 1)))):=⟨d.drop hq,(k.trans (Hy.dx r c w1 1 _)).trans (Hy.dx r c _ 2 _)⟩
 clear b d k;obtain ⟨u,a⟩:=qe ((o+1)%N);rw [<- a] at j |-;have n:=hid a;clear a;go_wp2
 go_end0
 rw [<- n.out];exact ⟨rfl,j.out⟩
theorem GJ.push(b:Nat)(h:GJ w r c N o f q)(hq:q.length<N) :
  GJ ((w.setCell ⟨c,(o+q.length)%N,none⟩ (.int .u8 b)).setCell ⟨r,2,none⟩ (.int .i64 ((q.length:Int)+1))) r c N o (fun j=>if j=(o+q.length)%N then b else f j) (q++[b]):=by
 refine ⟨?_,?_,h.pos,h.small,h.ho,by simp;omega,fun i hi=>?_,h.ne⟩
 ·refine ((h.row.setOther (a:=⟨c,(o+q.length)%N,none⟩) h.ne _).set 2 _).congr ?_;intro j n;revert j
  refine TO rfl rfl ?_;show Value.int .i64 ((q.length:Int)+1)=Value.int .i64 ((q++[b]).length:Nat);simp
 ·refine ((h.cells.set ((o+q.length)%N) _).setOther (a:=⟨r,2,none⟩) (zY h.ne) _).congr fun j _=>?_
  by_cases e:j=(o+q.length)%N
  ·rw [zC e,zC e]
  ·rw [zA e,zA e]
 ·have l:i<=q.length:=by simp at hi;omega
  by_cases e:i=q.length
  ·subst e;rw [zC rfl];simp
  ·have d:i<q.length:=zO;have k:(o+i)%N≠(o+q.length)%N:=by
    intro g;have ho:=h.ho;have h1:(o+i)%N=if o+i<N then o+i else o+i - N:=by
     split
     ·exact yR (by assumption)
     ·rw [Nat.mod_eq_sub_mod zO,yR zO]
    have h2:(o+q.length)%N=if o+q.length<N then o+q.length else o+q.length - N:=by
     split
     ·exact yR (by assumption)
     ·rw [Nat.mod_eq_sub_mod zO,yR zO]
    rw [h1,h2] at g;split at g <;> split at g <;> omega
   rw [zA k,h.at_ i d];simp [kQ,d]
theorem lH(k:Nat)(h:GJ w r c N o f q)(h1:1<=k)(hk:k<=q.length) :
  Calls prog 150 #[.pointer (some ⟨r,0,none⟩), .int .i64 k] w fun x g=>x= .returned (.int .u8 (q.getD (q.length - k) 0:Nat))/\∃ n,g=w.drewN n:=by
 have p:=hid h;have hl:=h.hq;have y:=h.small;have hp:=h.pos;have v:w.cell? ⟨r,0,none⟩=some (.slice (some ⟨c,0,none⟩) N N):=h.row.cell (i:=0) zO;have c2:w.cell? ⟨r,2,none⟩=some (.int .i64 q.length):=h.row.cell (i:=2) zO;obtain ⟨d,hd⟩:=qe (q.length - k);have u:IntKind.i64.wrap ((q.length:Int) - k)=(d:Int):=by
  rw [kG,xW _ ⟨zO,zO⟩];omega
 have l:(q.length:Int) - k=(d:Int):=zO;have e:(o+d)%N<N:=yC _ hp;have hv:=h.at_ d zO;have s:w.cell? ⟨c,(o+d)%N,none⟩=some (.int .u8 (q.getD d 0:Nat)):=by rw [<- hv];exact h.cells.cell e
 have b:Hid (∀ n,Calls prog 108 #[.pointer (some ⟨r,0,none⟩), .int .i64 d] (w.drewN n) fun x g=>x= .returned (.int .i64 ((o+d)%N:Nat))/\∃ m,g=(w.drewN n).drewN m):=fun n=>Ov d (p.out.drewN n) zO
 rw [<- hd];clear h hv hd;obtain ⟨a,j⟩:=qe ((o+d)%N);rw [<- j] at b e s;have t:(a:Int)<(N:Int):=zO;clear j;go_enter func150,ntmps150
 go_wp2_with fail
 go_quiet ((go_at_call 108;exact Calls.quiet_of (b.out _)))
 go_wp2
 go_ret
 exact ⟨rfl,_,rfl⟩
theorem OB(b:Nat)(h:GJ w r c N o f q)(hq:q.length<N) :
  Calls prog 167 #[.pointer (some ⟨r,0,none⟩), .int .u8 b] w fun x k=>x= .returned (.tuple #[])/\(∃ C,GJ k r c N o C (q++[b]))/\Hy r c w k:=by
 have s:decide (q.length=N)=false:=by simp;omega
 have J:=h.small;have hp:=h.pos;have v:=hid h;have n:Hid (∀ k,GJ k r c N o f q->Calls prog 108 #[.pointer (some ⟨r,0,none⟩), .int .i64 q.length] k fun x z=>x= .returned (.int .i64 ((o+q.length)%N:Nat))/\∃ m,z=k.drewN m):=fun k y=>Ov q.length y zO
 have l:(o+q.length)%N<N:=yC _ hp;have p:Hid (∀ k,GJ k r c N o f q->GJ ((k.setCell ⟨c,(o+q.length)%N,none⟩ (.int .u8 b)).setCell ⟨r,2,none⟩ (.int .i64 ((q.length:Int)+1))) r c N o (fun j=>if j=(o+q.length)%N then b else f j) (q++[b])):=fun k y=>y.push b hq
 clear h;obtain ⟨a,A⟩:=qe ((o+q.length)%N);rw [<- A] at n l p;have D:(a:Int)<(N:Int):=zO;clear A;go_enter func167,ntmps167
 go_wp2_with fail
 refine (Xz v.out).mono ?_;rintro e w1 ⟨rfl,n1,t⟩;rw [s];have d:Hid (GJ w1 r c N o f q/\Hy r c w w1):=by show _/\_;rw [t];exact ⟨v.out.drewN n1,(Hy.refl r c w).drewN n1⟩
 have F:w1.cell? ⟨r,0,none⟩=some (.slice (some ⟨c,0,none⟩) N N):=d.out.1.row.cell (i:=0) zO;have c2:w1.cell? ⟨r,2,none⟩=some (.int .i64 q.length):=d.out.1.row.cell (i:=2) zO;have H:=d.out.1.row.frozen 2;have G:=d.out.1.cells.cell l;have I:=d.out.1.cells.frozen a;have E:=d.out.1.ne;clear t v s;go_wp2_with fail
 go_region_with (go_at_call 108;refine (n.out _ (d.out.1.drewN 1)).mono ?_;rintro e w2 ⟨rfl,B,u⟩;have g:Hid (GJ w2 r c N o f q/\Hy r c w w2):=by { show _/\_;rw [u];exact ⟨(d.out.1.drewN 1).drewN B,((d.out.2.drewN 1)).drewN B⟩ };have L:w2.cell? ⟨r,0,none⟩=some (.slice (some ⟨c,0,none⟩) N N):=g.out.1.row.cell (i:=0) zO;have k2:w2.cell? ⟨r,2,none⟩=some (.int .i64 q.length):=g.out.1.row.cell (i:=2) zO;have z2:=g.out.1.row.frozen 2;have M:=g.out.1.cells.cell l;have O:=g.out.1.cells.frozen a;clear u)
 all_goals
  go_wp2
  go_end0
  exact ⟨rfl,⟨_,p.out _ g.out.1⟩,(g.out.2.trans (Hy.mr r c w2 a _)).trans (Hy.dx r c _ 2 _)⟩
theorem WB(b:Nat)(h:GJ w r c N o f q)(hq:q.length=N) :
  Calls prog 167 #[.pointer (some ⟨r,0,none⟩), .int .u8 b] w fun x k=>x= .returned (.tuple #[])/\(∃ Q,GJ k r c N ((o+1)%N) Q (q.tail++[b]))/\Hy r c w k:=by
 have A:decide (q.length=N)=true:=by simp;omega
 have Z:=h.small;have hp:=h.pos;have J:=CL h hq;have v:q.tail.length=N - 1:=by simp;omega
 have l:Hid (∀ k,GJ k r c N ((o+1)%N) f q.tail->Calls prog 108 #[.pointer (some ⟨r,0,none⟩), .int .i64 q.tail.length] k fun x I=>x= .returned (.int .i64 (((o+1)%N+q.tail.length)%N:Nat))/\∃ m,I=k.drewN m):=fun k H=>Ov q.tail.length H zO
 have t:((o+1)%N+q.tail.length)%N<N:=yC _ hp;have n:Hid (∀ k,GJ k r c N ((o+1)%N) f q.tail->GJ ((k.setCell ⟨c,((o+1)%N+q.tail.length)%N,none⟩ (.int .u8 b)).setCell ⟨r,2,none⟩ (.int .i64 ((q.tail.length:Int)+1))) r c N ((o+1)%N) (fun j=>if j=((o+1)%N+q.tail.length)%N then b else f j) (q.tail++[b])):=fun k H=>H.push b zO
 have B:0<q.length:=zO;clear h hq;obtain ⟨a,L⟩:=qe (((o+1)%N+q.tail.length)%N);rw [<- L] at l t n;have R:(a:Int)<(N:Int):=zO;clear L;go_enter func167,ntmps167
 go_wp2_with fail
 refine (Xz J.out.1).mono ?_;rintro e O ⟨rfl,n1,C⟩;rw [A];have p:Hid (GJ O r c N o f q/\Hy r c w O):=by show _/\_;rw [C];exact ⟨J.out.1.drewN n1,(Hy.refl r c w).drewN n1⟩
 clear C A;go_wp2_with fail
 refine (Xy p.out.1 B).mono ?_;rintro e w1 ⟨rfl,y,z⟩;have d:=CL y (p.out.2.trans z);clear y z p;obtain ⟨U,s⟩:=qe ((o+1)%N);rw [<- s] at d l n;have F:=hid s;clear s;obtain ⟨E,u⟩:=qe q.tail;rw [<- u] at d l n v;have G:=hid u;clear u;have V:w1.cell? ⟨r,0,none⟩=some (.slice (some ⟨c,0,none⟩) N N):=d.out.1.row.cell (i:=0) zO;have c2:w1.cell? ⟨r,2,none⟩=some (.int .i64 E.length):=d.out.1.row.cell (i:=2) zO;have X:=d.out.1.row.frozen 2;have W:=d.out.1.cells.cell t;have Y:=d.out.1.cells.frozen a;have T:=d.out.1.ne;have P:=hid v;have S:E.length<=1000000:=zO;clear v B;go_wp2_with fail
 go_region_with (go_at_call 108;refine (l.out _ (d.out.1.drewN 1)).mono ?_;rintro e w2 ⟨rfl,M,D⟩;have g:Hid (GJ w2 r c N U f E/\Hy r c w w2):=by { show _/\_;rw [D];exact ⟨(d.out.1.drewN 1).drewN M,((d.out.2.drewN 1)).drewN M⟩ };have k0:w2.cell? ⟨r,0,none⟩=some (.slice (some ⟨c,0,none⟩) N N):=g.out.1.row.cell (i:=0) zO;have k2:w2.cell? ⟨r,2,none⟩=some (.int .i64 E.length):=g.out.1.row.cell (i:=2) zO;have z2:=g.out.1.row.frozen 2;have ka:=g.out.1.cells.cell t;have za:=g.out.1.cells.frozen a;clear D)
 all_goals
  go_wp2
  go_end0
  rw [<- F.out,<- G.out];exact ⟨rfl,⟨_,n.out _ g.out.1⟩,(g.out.2.trans (Hy.mr r c w2 a _)).trans (Hy.dx r c _ 2 _)⟩
end Go.Proofs.YtbcjmakpempkiaaGreatDoor
