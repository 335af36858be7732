import Derived.Test.YtbcjmakpempkiaaGreatDoorX15
import Derived.Test.YtbcjmakpempkiaaGreatDoorX16
set_option maxRecDepth 100000
set_option maxHeartbeats 8000000
set_option linter.all false
namespace Go.Proofs.YtbcjmakpempkiaaGreatDoor
variable {B D f i k m o:Nat} {q:Cm} {cl:Bool} {s:ByteArray} {t:Tr} {g:RG} {l:List Nat} {w:World} {v:Value}
open Go.Proofs.Tryz
open Go.RowKit
def cV(g:RG)(va:Value):Nat->Value
 | 0=> .int .i64 g.fm
 | 1=> .int .i64 g.q.out
 | 2=> .int .i64 g.q.ratio
 | 3=> .int .i64 g.q.CH
 | 4=> .int .i64 g.mem
 | 5=> .int .i64 g.lim
 | 6=> .int .i64 g.q.steps
 | 7=> .string g.taken
 | 8=> .int .i64 g.Ac
 | 9=> .int .i64 g.out
 | 10=> .int .i64 g.steps
 | 11=> .int .i64 g.members
 | 12=> .bool g.closed
 | 13=> .bool g.acc
 | 14=> .int .i64 g.err
 | _=>va
structure JM(B p:Nat)(va:Value)(g:RG)(w:World):Prop where
 pB:B<=p
 hB:B<=w.heap.size
 row:w.rowIs p 203 16 (cV g va)
 all:w.ownsRow B 5 1 va g.all.length (EJ g.all)
 pa:va.ownBlock≠some p
structure eo(g:RG):Prop where
 fm:g.fm<=2
 out:g.q.out<=100000
 ratio:g.q.ratio<=1000
 CH:g.q.CH<=100000
 mem:1<=g.mem/\g.mem<=100
 lim:g.lim<=100
 steps:g.q.steps<=1000000
theorem VR{p:Nat}{va:Value}(i o:Nat)(w:World)(h:JM B p va g w)(k:eo g)(hi:i<=1000000000)(ho:o<=1000000000000) :
  Calls prog 158 #[.pointer (some ⟨p,0,none⟩), .int .i64 i, .int .i64 o] w fun e u=>e= .returned (.int .i64 (Cl g.q i o))/\∃ n,u=w.drewN n:=by
 have c1:w.cell? ⟨p,1,none⟩=some (.int .i64 g.q.out):=h.row.cell (i:=1) zO;have c2:w.cell? ⟨p,2,none⟩=some (.int .i64 g.q.ratio):=h.row.cell (i:=2) zO;have c3:w.cell? ⟨p,3,none⟩=some (.int .i64 g.q.CH):=h.row.cell (i:=3) zO;have c6:w.cell? ⟨p,6,none⟩=some (.int .i64 g.q.steps):=h.row.cell (i:=6) zO;have v:=k.out;have k2:=k.ratio;have k3:=k.CH;have k6:=k.steps;have hP:Hid (Cl g.q i o=if g.q.steps<=i+o then 16 else if g.q.out<=o then 17 else if g.q.ratio*i+g.q.CH<=o then 18 else 0):=rfl;clear h k;generalize g.q.out=s at *;generalize g.q.ratio=j at *;generalize g.q.CH=l at *;generalize g.q.steps=t at *;generalize Cl g.q i o=res at *;by_cases h1:t<=i+o
 ·have b:Hid (res=16):=by show _=_;rw [hP.out,zC h1]
  clear hP;go_enter func158,ntmps158
  go_wp2
  go_ret
  exact ⟨by rw [b.out];rfl,0,rfl⟩
 ·by_cases h2:s<=o
  ·have b:Hid (res=17):=by show _=_;rw [hP.out,zA h1,zC h2]
   clear hP;go_enter func158,ntmps158
   go_wp2
   go_ret
   exact ⟨by rw [b.out];rfl,0,rfl⟩
  ·obtain ⟨M,f⟩:=qe (j*i);have r:M<=1000*1000000000:=by rw [f];exact Nat.mul_le_mul k2 hi
   have c:Hid ((j:Int)*(i:Int)=(M:Int)):=by show _=_;rw [f];simp
   have a:Hid (res=if M+l<=o then 18 else 0):=by show _=_;rw [hP.out,zA h1,zA h2,f]
   clear hP f;by_cases h3:M+l<=o
   ·have b:Hid (res=18):=by show _=_;rw [a.out,zC h3]
    clear a;go_enter func158,ntmps158
    go_wp2_with fail
    have d:=c.out;go_quiet (fail)
    go_wp2
    go_ret
    exact ⟨by rw [b.out];rfl,_,rfl⟩
   ·have b:Hid (res=0):=by show _=_;rw [a.out,zA h3]
    clear a;go_enter func158,ntmps158
    go_wp2_with fail
    have d:=c.out;go_quiet (fail)
    go_wp2
    go_ret
    exact ⟨by rw [b.out];rfl,_,rfl⟩
namespace Tr
structure Sound(s:ByteArray)(m:Nat)(t:Tr):Prop where
 CU:Ao t
 cost:t.cost<=900000000000
 s:t.s=s
 Aa:t.Aa.length<=m
 bytes:Bp t
theorem Sound.len(h:Sound s m t):t.out.length<=900000000000:=by
 have:=h.cost;unfold Tr.cost at this;omega
theorem Sound.Aw(h:Sound s m t):t.Aw<=s.size:=by rw [<- h.s];exact h.CU.Aw
theorem Sound.part{a b:Tr}(h:Sound s m a)(k:Part a b):Sound s m b:=⟨k.CU h.CU,zG k.cost h.cost,k.s.trans h.s,by rw [k.Aa];exact h.Aa,k.bytes h.bytes⟩
theorem Sound.more(h:Sound s m t)(hi:t.Aw<t.s.size){e:Nat}(he:e<=18)(h0:e≠0):Sound s m (({ t with Aw:=t.Aw+1 }:Tr).fail e):=by
 have f:=h.CU;have a:Ao { t with Aw:=t.Aw+1 }:=⟨f.left,f.cur,hi,f.CY,f.Br,f.err⟩
 have w:=CK { t with Aw:=t.Aw+1 } h0;refine ⟨a.fail he,?_,w.s.trans h.s,by rw [w.Aa];exact h.Aa,w.Dp h.bytes⟩;have h1:(({ t with Aw:=t.Aw+1 }:Tr).fail e).mu=0:=Oi _ h0;have h2:(({ t with Aw:=t.Aw+1 }:Tr).fail e).out=t.out:=w.out;have h3:=h.cost;unfold Tr.cost at h3 |-;rw [h1,h2];omega
theorem Sound.DP(h:Sound s m t):Sound s m t.DP:=by
 unfold Tr.DP;split
 ·rename_i hc
  exact h.more hc.2 zD zD
 ·exact h
theorem Sound.start(s:ByteArray)(Ai:Nat)(m:Nat)(hs:s.size<=1000000000)(l:List Nat)(hl:l.length<=m):Sound s m ({ Tr.start s Ai with Aa:=l }:Tr):=by
 have f:=GW s Ai;exact ⟨⟨f.left,f.cur,f.Aw,f.CY,f.Br,f.err⟩,Ht s Ai hs,rfl,hl,fun x hx=>(by cases hx)⟩
theorem Sound.none(s:ByteArray)(Ai:Nat)(m:Nat)(hs:s.size<=1000000000):Sound s m ({ Tr.start s Ai with CZ:=true }:Tr):=by
 have f:=GW s Ai;refine ⟨⟨f.left,f.cur,f.Aw,f.CY,f.Br,f.err⟩,?_,rfl,zH _,fun x hx=>(by cases hx)⟩;show 0+66*_<=_;rw [Ef (by rfl)];omega
theorem Sound.Hm(members:Nat):∀ (n:Nat) {s:ByteArray} {t:Tr},t.mu<=n->Sound s members t->Sound s members (Tr.Hm members t):=by
 intro n;induction n with
 | zero=>
  intro s t b h;have he:t.ended=true:=by
   cases h:t.ended
   ·have:=IT h;omega
   ·rfl
  rw [Hd (by rw [he];simp)];exact h
 | succ n ih=>
  intro s t b h;by_cases hc:t.ended=false/\t.Aw<t.s.size
  ·by_cases hm:members<=t.Aa.length
   ·rw [NI hc hm];exact h.more hc.2 zD zD
   ·have f:=h.CU;have a:Ao ({ t with Aa:=t.Aa++[t.Aw] }:Tr):=⟨f.left,f.cur,f.Aw,f.CY,f.Br,f.err⟩
    obtain ⟨c,d⟩:=Jq a;have e:({ t with Aa:=t.Aa++[t.Aw] }:Tr).Dw.mu<t.mu:=d hc.1;rw [Oh f hc hm];refine ih zO ?_;have h1:Sound s members ({ t with Aa:=t.Aa++[t.Aw] }:Tr):=⟨a,h.cost,h.s,by show (t.Aa++[t.Aw]).length<=members;simp;omega,h.bytes⟩
    exact h1.part c
  ·rw [Hd hc];exact h
theorem sound(fm mem lim:Nat)(s:ByteArray)(hs:s.size<=1000000000)(hm:1<=mem):Sound s mem (Tr.read fm mem lim s):=by
 unfold Tr.read;split
 ·unfold Gb;split
  ·exact Sound.none s lim mem hs
  ·have h:=Sound.start s lim mem hs [0] hm;exact (h.part (Gi h.CU)).DP
 ·split
  ·unfold Ej;split
   ·exact Sound.none s lim mem hs
   ·have h:=Sound.start s lim mem hs [0] hm;have h1:=h.part ((GZ _ 115).part (fun f=>f.Ea 115));have h2:=h1.part ((GZ _ 1).part (fun f=>f.Ea 1));have h3:=h2.part (Gi h2.CU);exact (h3.part ((Lu _).part (fun f=>f.sum))).DP
  ·unfold FD;split
   ·exact Sound.none s lim mem hs
   ·exact Sound.Hm mem _ zL (Sound.start s lim mem hs [] (zH _))
end Tr
theorem dk(fm mem lim:Nat)(s:ByteArray)(w:World)(b:fm<=2)(hs:s.size<=1000000000)(a:Bs w w.heap.size) :
  Calls prog 155 #[.int .i64 fm, .int .i64 mem, .int .i64 lim, .string s] w fun x c=>Uj w (Tr.read fm mem lim s) x c:=by
 have h3:fm=0\/fm=1\/fm=2:=zO;rcases h3 with rfl | rfl | rfl
 ·exact Nx s mem lim w hs a
 ·exact Kb s mem lim w hs a
 ·exact MR s mem lim w hs a
theorem ah{T:Tr.Ob}(h1:o<T.out.length)(h2:T.Br.getD o 0=i)(h3:D+64<=o):play T q D cl (f+1) i o=(i,o,0,none):=by rw [play,zC ⟨h1,h2⟩,zC h3]
theorem Xk{T:Tr.Ob}(h1:o<T.out.length)(h2:T.Br.getD o 0=i)(h3:¬ D+64<=o)(h4:Cl q i o≠0):play T q D cl (f+1) i o=(i,o,Cl q i o,none):=by rw [play,zC ⟨h1,h2⟩,zA h3,zC h4]
theorem df{T:Tr.Ob}(h1:o<T.out.length)(h2:T.Br.getD o 0=i)(h3:¬ D+64<=o)(h4:Cl q i o=0):play T q D cl (f+1) i o=play T q D cl f i (o+1):=by rw [play,zC ⟨h1,h2⟩,zA h3,zA zO]
theorem SX{T:Tr.Ob}(h1:¬ (o<T.out.length/\T.Br.getD o 0=i))(h2:i<T.Aw)(h3:q.steps<=i+o):play T q D cl (f+1) i o=(i,o,16,none):=by rw [play,zA h1,zC h2,zC h3]
theorem SY{T:Tr.Ob}(h1:¬ (o<T.out.length/\T.Br.getD o 0=i))(h2:i<T.Aw)(h3:¬ q.steps<=i+o):play T q D cl (f+1) i o=play T q D cl f (i+1) o:=by rw [play,zA h1,zC h2,zA h3]
theorem KO{T:Tr.Ob}(h1:¬ (o<T.out.length/\T.Br.getD o 0=i))(h2:¬ i<T.Aw)(h3:T.err=0/\cl=true):play T q D cl (f+1) i o=(i,o,if T.CZ then 15 else 0,some (!T.CZ)):=by rw [play,zA h1,zA h2,zC h3]
theorem SW{T:Tr.Ob}(h1:¬ (o<T.out.length/\T.Br.getD o 0=i))(h2:¬ i<T.Aw)(h3:¬ (T.err=0/\cl=true)):play T q D cl (f+1) i o=(i,o,T.err,none):=by rw [play,zA h1,zA h2,zA h3]
theorem RG.nW(h:g.err=0):({ g with err:=0 }:RG)=g:=by
 cases g
 simp at h;simp [h]
theorem TK(hk:k<l.length):RG.Cs (l.take (k+1)) i=RG.Cs (l.take k) i+if l.getD k 0<i then 1 else 0:=by
 unfold RG.Cs;rw [vA hk,BV,zI];congr 1
 have e:l.getD k 0=l[k]:=by simp [hk]
 rw [e];by_cases h:l[k]<i
 ·simp [h]
 ·simp [h]
theorem Wg(l:List Nat)(i:Nat):RG.Cs l i<=l.length:=List.length_filter_le _ _
theorem Xp(q:Cm)(i o:Nat):Cl q i o<=18:=by
 unfold Cl;(repeat' split) <;> omega
theorem RG.nV(h:g.err=0):({ g with err:=0,acc:=(none:Option Bool).getD g.acc }:RG)=g:=by
 cases g
 simp at h;simp [h]
theorem Tp(h:w.ownsRow B 3 1 v l.length (GD l))(hk:k<l.length):∃ g cap,v= .slice (some ⟨g,0,none⟩) l.length cap/\w.cell? ⟨g,k,none⟩=some (.int .i64 ((l.getD k 0:Nat):Int)):=by
 rcases h.2 with ⟨_,h0⟩ | ⟨g,a,_,rfl,_⟩
 ·omega
 ·refine ⟨g,a,rfl,?_⟩;have:=xO h k zO;rw [this];simp [GD,hk]
theorem Jp{sz:Nat}{e:TypeId}{n:Nat}{xs:List Value}(h:w.ownsRow B e sz v n xs):∃ a c,v= .slice a n c:=by
 rcases h.2 with ⟨e,h0⟩ | ⟨g,b,_,e,_⟩
 ·exact ⟨none,0,by rw [e,h0]⟩
 ·exact ⟨_,b,e⟩
end Go.Proofs.YtbcjmakpempkiaaGreatDoor
