import Derived.Test.YtbcjmakpempkiaaGreatDoorX06
import Derived.Test.YtbcjmakpempkiaaGreatDoorX24
set_option maxRecDepth 100000
set_option maxHeartbeats 8000000
set_option linter.all false
namespace Go.Proofs.YtbcjmakpempkiaaGreatDoor
variable {w w' w'' w1 w2:World} {B H er gW i j k n q r sz:Nat} {m m' m1 m2:MG} {ρ ρ':Nat->Nat} {s s':Aj} {P S:List ByteArray} {C:List (List Int)} {g:RG} {DZ Ec v va:Value} {xs:List Value}
open Go.Proofs.Tryz
open Go.RowKit
theorem aX(fm:Int)(s:ByteArray)(hs:s.size<=1000000000):∃ res:ByteArray×Nat,(∀ W,EG W->Calls prog 24 #[.int .i64 fm, .string s] W fun x b=>LX W res x b)/\(∀ W,Bs W W.heap.size->Calls prog 121 #[.int .i64 fm, .string s] W fun x b=>LX W res x b):=by
 by_cases h:0<=fm/\fm<=2
 ·obtain ⟨n,rfl⟩:∃ n:Nat,fm=n:=⟨fm.toNat,zO⟩
  exact ⟨(Tr.readAll n s).Dg,fun W a=>dQ n s W zO hs a,fun W a=>gX n s W zO zO a⟩
 ·exact ⟨(⟨#[]⟩,1),fun W _=>fp fm s W zO,fun W _=>Xt fm s W zO⟩
theorem Tg(fm:Int)(s:ByteArray)(w:World)(hs:s.size<=1000000000)(g:Bs w w.heap.size)(hP:EG w) :
  Calls prog 88 #[.int .i64 fm, .string s] w fun e a=>e= .returned (.bool true)/\Below w.heap.size w a:=by
 obtain ⟨res,h1,h2⟩:=aX fm s hs;have H:Hid ((∀ W,EG W->Calls prog 24 #[.int .i64 fm, .string s] W fun x a=>LX W res x a)/\(∀ W,Bs W W.heap.size->Calls prog 121 #[.int .i64 fm, .string s] W fun x a=>LX W res x a)/\Bs w w.heap.size/\EG w):=⟨h1,h2,g,hP⟩
 clear h1 h2 g hP;obtain ⟨u,v⟩:=res;go_enter func88,ntmps88
 go_wp2_with fail
 refine (H.out.1 w H.out.2.2.2).mono ?_;rintro e w1 ⟨rfl,d⟩;have c:=hid d;clear d;go_wp2_with fail
 have b:Bs w1 w1.heap.size:=by
  have h:=H.out.2.2.1.below c.out;exact ⟨zM h.1 c.out.size,h.2⟩
 refine (H.out.2.1 w1 b).mono ?_;rintro e w2 ⟨rfl,f⟩;have i:=hid (Ds c.out f);clear f b;go_wp2_with (go_at_call 86;refine (FM _ _).mono ?_;rintro e a ⟨rfl,rfl⟩)
 go_ret
 exact ⟨zS,i.out⟩
theorem UR(n:Nat)(a b c:Int)(s:ByteArray)(i:Option Addr)(l j:Nat)(w:World)(hs:s.size<=1000000000)(k:TE w) :
  Calls prog 59 #[.pointer (some ⟨n,0,none⟩), .agg (Gx 5 a b c s (.slice i l j))] w fun e o=>e= .returned (.bool true)/\Below w.heap.size w o:=by
 have f:Hid (Below w.heap.size w (w.alloc (.cells #[.int .i64 5, .int .i64 a, .int .i64 b, .int .i64 c, .string s, .slice i l j] 79))):=zB.alloc zL _;have h:=hid k;clear k;unfold Gx;go_enter func59,ntmps59
 go_wp2_with fail
 refine (Tg 0 s _ hs (h.out.below f.out).ref (h.out.below f.out).prog).mono ?_;rintro e w1 ⟨rfl,d⟩;have g:=hid (Ds f.out d);clear d;go_wp2
 go_ret
 exact ⟨rfl,g.out⟩
theorem YZ(n:Nat)(a b c:Int)(s:ByteArray)(i:Option Addr)(l j:Nat)(w:World)(hs:s.size<=1000000000)(k:TE w) :
  Calls prog 59 #[.pointer (some ⟨n,0,none⟩), .agg (Gx 7 a b c s (.slice i l j))] w fun e o=>e= .returned (.bool true)/\Below w.heap.size w o:=by
 have f:Hid (Below w.heap.size w (w.alloc (.cells #[.int .i64 7, .int .i64 a, .int .i64 b, .int .i64 c, .string s, .slice i l j] 79))):=zB.alloc zL _;have h:=hid k;clear k;unfold Gx;go_enter func59,ntmps59
 go_wp2_with fail
 refine (Tg a s _ hs (h.out.below f.out).ref (h.out.below f.out).prog).mono ?_;rintro e w1 ⟨rfl,d⟩;have g:=hid (Ds f.out d);clear d;go_wp2
 go_ret
 exact ⟨rfl,g.out⟩
def Gj(c:Int)(n:Nat):Nat:=(if c<0 then -(c+1) else c).toNat%n
theorem Ik(c:Int)(n:Nat)(w:World)(hc:Kv c)(f:0<n)(b:n<=1000000000000) :
  Calls prog 89 #[.int .i64 c, .int .i64 n] w fun e d=>e= .returned (.int .i64 (Gj c n))/\w=d:=by
 obtain ⟨h1,h2⟩:=hc;have a:¬ (n:Int)=0:=zO;by_cases h0:c<0
 ·have hd:decide (c<0)=true:=by simpa using h0
  have hm:((-(c+1)).tmod n:Int)=(Gj c n:Nat):=by
   unfold Gj;rw [zC h0,Int.natCast_emod,CA zO,kS zO]
  go_enter func89,ntmps89
  go_wp2
  go_ret
  exact ⟨rfl,rfl⟩
 ·have hd:decide (c<0)=false:=by simpa using h0
  have hm:(c.tmod n:Int)=(Gj c n:Nat):=by
   unfold Gj;rw [zA h0,Int.natCast_emod,CA zO,kS zO]
  go_enter func89,ntmps89
  go_wp2
  go_ret
  exact ⟨rfl,rfl⟩
theorem et.at_(h:et B ρ s w S)(b:0<S.length):∃ g cap,s.GQ= .slice (some ⟨g,0,none⟩) S.length cap/\g<w.heap.size/\∀ k (hk:k<S.length),w.cell? ⟨g,k,none⟩=some (.string S[k]):=by
 obtain ⟨g,cap,hv,_,_⟩:=kK h.1 b;have a:=h.1;rw [hv] at a;refine ⟨g,cap,hv,Bj a rfl,fun k hk=>?_⟩;have e:=xO a k zO;rw [e];simp [hk]
theorem US{Y:Nat->(Nat->Nat)->Aj->World->Prop}(h:LI B gW Y C S k ρ s w)(a b c:Int)(t:ByteArray)(f:Option Addr)(l j:Nat)(A:PL C S)(M:0<S.length)(V:Kv b)(L:TE w) :
  Calls prog 59 #[.pointer (some ⟨gW,0,none⟩), .agg (Gx 6 a b c t (.slice f l j))] w fun e O=>e= .returned (.bool true)/\Below w.heap.size w O:=by
 obtain ⟨g,cap,hv,E,hc⟩:=h.ss.at_ M;have D:=h.inv.row.lt;have hpk:Gj b S.length<S.length:=yC _ M;have q:Hid (Below w.heap.size w (w.alloc (.cells #[.int .i64 6, .int .i64 a, .int .i64 b, .int .i64 c, .string t, .slice f l j] 79))):=zB.alloc zL _;have c1:(w.alloc (.cells #[.int .i64 6, .int .i64 a, .int .i64 b, .int .i64 c, .string t, .slice f l j] 79)).cell? ⟨gW,1,none⟩=some (.slice (some ⟨g,0,none⟩) S.length cap):=by
  rw [q.out.cell (p:=⟨gW,1,none⟩) D,h.inv.row.cell (i:=1) zO,show fld s 1=s.GQ from rfl,hv]
 have c2:(w.alloc (.cells #[.int .i64 6, .int .i64 a, .int .i64 b, .int .i64 c, .string t, .slice f l j] 79)).cell? ⟨g,Gj b S.length,none⟩=some (.string (S[Gj b S.length]'hpk)):=by
  rw [q.out.cell (p:=⟨g,Gj b S.length,none⟩) E];exact hc _ hpk
 have H:=A.se _ (yD hpk);have Z:=A.sl;have J:=hid L;generalize S[Gj b S.length]'hpk=u at c2 H;clear h A hv hc L;generalize S.length=n at *;generalize F:Gj b n=N at *;have X:¬ (n:Int)=0:=zO;unfold Gx;go_enter func59,ntmps59
 go_upto_region 29 with fail
 have o:(w.alloc (.cells #[.int .i64 6, .int .i64 a, .int .i64 b, .int .i64 c, .string t, .slice f l j] 79)).heap[w.heap.size]?=some (.cells #[.int .i64 6, .int .i64 a, .int .i64 b, .int .i64 c, .string t, .slice f l j] 79 (0,0)):=zJ w _;have y:(w.alloc (.cells #[.int .i64 6, .int .i64 a, .int .i64 b, .int .i64 c, .string t, .slice f l j] 79)).cell? ⟨w.heap.size,1,none⟩=some (.int .i64 a):=by rw [yA _ _ 1 _ _ _ o];rfl
 have z:(w.alloc (.cells #[.int .i64 6, .int .i64 a, .int .i64 b, .int .i64 c, .string t, .slice f l j] 79)).cell? ⟨w.heap.size,2,none⟩=some (.int .i64 b):=by rw [yA _ _ 2 _ _ _ o];rfl
 have I:w.heap.size<(w.alloc (.cells #[.int .i64 6, .int .i64 a, .int .i64 b, .int .i64 c, .string t, .slice f l j] 79)).heap.size:=zS;have l2:g<(w.alloc (.cells #[.int .i64 6, .int .i64 a, .int .i64 b, .int .i64 c, .string t, .slice f l j] 79)).heap.size:=by simp;omega
 have l3:gW<(w.alloc (.cells #[.int .i64 6, .int .i64 a, .int .i64 b, .int .i64 c, .string t, .slice f l j] 79)).heap.size:=by simp;omega
 clear o;generalize (w.alloc (.cells #[.int .i64 6, .int .i64 a, .int .i64 b, .int .i64 c, .string t, .slice f l j] 79))=W at *;obtain ⟨G,hG⟩:=qe w.heap.size;rw [<- hG] at y z I |-;have P:=hid hG;rw [hG];rw [<- P.out];clear hG;go_region_held3 (fun r=>r.cell? ⟨G,1,none⟩=some (.int .i64 a)/\r.cell? ⟨G,2,none⟩=some (.int .i64 b)/\r.cell? ⟨gW,1,none⟩=some (.slice (some ⟨g,0,none⟩) n cap)/\r.cell? ⟨g,N,none⟩=some (.string u)) (first | exact ⟨y,z,c1,c2⟩ | exact ⟨Q,R,T,U⟩)
  (first
   | (go_at_call 89;refine (Ik b n _ V zO zO).mono ?_;rintro e O ⟨rfl,rfl⟩;rw [F])
   | (go_at_call 88;refine (Tg a u _ zO (J.out.below q.out.drew).ref (J.out.below q.out.drew).prog).mono ?_;rintro e w1 ⟨rfl,d⟩;have v:=hid (Ds q.out.drew d);have Q:=(d.cell (p:=⟨G,1,none⟩) I).trans y;have R:=(d.cell (p:=⟨G,2,none⟩) I).trans z;have T:=(d.cell (p:=⟨gW,1,none⟩) l3).trans c1;have U:=(d.cell (p:=⟨g,N,none⟩) l2).trans c2;clear d))
 all_goals
  go_wp2
  go_ret
  exact ⟨rfl,v.out⟩
theorem YP(k:Nat)(kd a b c:Int)(t:ByteArray)(g:Option Addr)(i h:Nat)(w:World)(h5:5<=kd/\kd<=7)
  (H:∀ W,Below w.heap.size w W->Calls prog 59 #[.pointer (some ⟨k,0,none⟩), .agg (Gx kd a b c t (.slice g i h))] W fun e f=>e= .returned (.bool true)/\Below W.heap.size W f) :
  Calls prog 34 #[.pointer (some ⟨k,0,none⟩), .agg (Gx kd a b c t (.slice g i h))] w fun e f=>e= .returned (.bool true)/\Below w.heap.size w f:=by
 have l:Hid (Below w.heap.size w (w.alloc (.cells #[.int .i64 kd, .int .i64 a, .int .i64 b, .int .i64 c, .string t, .slice g i h] 79))):=zB.alloc zL _;have n:Hid (∀ W,Below w.heap.size w W->Calls prog 59 #[.pointer (some ⟨k,0,none⟩), .agg (Gx kd a b c t (.slice g i h))] W fun e f=>e= .returned (.bool true)/\Below W.heap.size W f):=H;clear H;have t1:(kd==1)=false:=by simp;omega
 have t2:(kd==2)=false:=by simp;omega
 have t4:decide (3<=kd)=true:=by simp;omega
 have t5:decide (kd<=7)=true:=by simp;omega
 unfold Gx;go_enter func34,ntmps34
 go_wp2_with fail
 refine (n.out _ l.out).mono ?_;rintro e w1 ⟨rfl,d⟩;have j:=hid (Ds l.out d);clear d;go_wp2
 go_ret
 exact ⟨rfl,j.out⟩
def MG.cells(m:MG):List Value:=[.int .i64 m.c.pre.length, .int .i64 m.c.outs.length, .int .i64 m.wait, .int .i64 m.begun, .int .i64 ((m.c.pre.length:Int)+m.c.outs.length), .bool m.acc, .int .i64 m.err]
theorem EG.PU(h:EG w)(a:Below B w w')(b:0<B):EG w':=by
 obtain ⟨fr,h1⟩:=h;exact ⟨fr,(a.block _ b).trans h1⟩
theorem GM.ng{K:Nat->Prop}{fm mem lim:Nat}(h:GM B K w q fm mem lim m)(a:0<B):¬ K 0:=fun e=>by
 have:=(h.at_ e).1;omega
theorem UA{b:Nat}{T:TypeId}{f:Nat->Value}{l:List Value}(h:w.rowIs b T n f)(hl:l.length=n):(w.setCells b 0 l).rowIs b T n (FY l):=by
 have c:∀ (a:List Value) (o:Nat) (w:World) (f:Nat->Value),w.rowIs b T n f->o+a.length<=n->(w.setCells b o a).rowIs b T n (fun i=>if o<=i/\i<o+a.length then a.getD (i - o) (.int .i64 0) else f i):=by
  intro a;induction a with
  | nil=>intro o w f h _;exact h.congr fun i hi=>by rw [zA (by simp only [xA];omega)]
  | cons v a ih=>
   intro o w f h ho;simp only [yG] at ho;have h1:=ih (o+1) (w.setCell ⟨b,o,none⟩ v) _ (h.set o v) zO;refine h1.congr fun i hi=>?_
   simp only [yG];by_cases e:i=o
   ·subst e;rw [zA zO,zC rfl,zC zO,kX];rfl
   ·by_cases h2:o+1<=i/\i<o+1+a.length
    ·rw [zC h2,zC zO,show i - o=(i - (o+1))+1 by omega];rfl
    ·rw [zA h2,zA e,zA zO]
 refine (c l 0 w f h zO).congr fun i hi=>?_
 rw [zC zO];rfl
theorem EP{e:TypeId}(o:w.ownsRow B e sz v n xs)(h:∀ g,v.ownBlock=some g->w'.heap[g]?=w.heap[g]?):w'.ownsRow B e sz v n xs:=by
 refine ⟨o.1,?_⟩;rcases o.2 with hn | ⟨g,cap,cur,rfl,b,a,rest⟩
 ·exact .inl hn
 ·refine .inr ⟨g,cap,cur,rfl,b,?_,rest⟩;rw [h g rfl];exact a
theorem JM.same{p:Nat}(h:JM B p va g w)(hs:w.heap.size<=w'.heap.size)(hp:w'.heap[p]?=w.heap[p]?)(a:∀ k,va.ownBlock=some k->w'.heap[k]?=w.heap[k]?):JM B p va g w':=⟨h.pB,zG h.hB hs,h.row.of_block hp,EP h.all a,h.pa⟩
structure Ui(g:RG):Prop where
 ok:eo g
 all:g.all.length<=900000000000
theorem Ui.DK(h:Ui g){s:ByteArray}(hs:s.size<=1000000000):Ui (g.DK s):=⟨⟨h.ok.fm,h.ok.out,h.ok.ratio,h.ok.CH,h.ok.mem,h.ok.lim,h.ok.steps⟩,(Tr.sound g.fm g.mem g.lim s hs h.ok.mem.1).len⟩
theorem Rx(g:RG)(s:ByteArray):(g.DK s).fm=g.fm/\(g.DK s).mem=g.mem/\(g.DK s).lim=g.lim:=⟨rfl,rfl,rfl⟩
theorem Ui.write(h:Ui g)(hs:(P.foldl (·++·) g.taken).size<=1000000000):Ui (g.write P).2.2/\(g.write P).2.2.fm=g.fm/\(g.write P).2.2.mem=g.mem/\(g.write P).2.2.lim=g.lim:=by
 unfold RG.write;split
 ·exact ⟨h,rfl,rfl,rfl⟩
 ·split
  ·exact ⟨h,rfl,rfl,rfl⟩
  ·exact ⟨h.DK hs,rfl,rfl,rfl⟩
theorem Ui.drain(h:Ui g){n:Int}(hs:g.taken.size<=1000000000):Ui (g.drain n).2.2/\(g.drain n).2.2.fm=g.fm/\(g.drain n).2.2.mem=g.mem/\(g.drain n).2.2.lim=g.lim:=by
 unfold RG.drain;split
 ·exact ⟨h,rfl,rfl,rfl⟩
 ·split
  ·exact ⟨h,rfl,rfl,rfl⟩
  ·have a:Ui ({ g with Ac:=g.Ac+g.many n }:RG):=⟨⟨h.ok.fm,h.ok.out,h.ok.ratio,h.ok.CH,h.ok.mem,h.ok.lim,h.ok.steps⟩,h.all⟩
   exact ⟨a.DK hs,Rx _ _⟩
theorem Ui.close(h:Ui g)(hs:g.taken.size<=1000000000):Ui g.close.2/\g.close.2.fm=g.fm/\g.close.2.mem=g.mem/\g.close.2.lim=g.lim:=by
 unfold RG.close;split
 ·exact ⟨h,rfl,rfl,rfl⟩
 ·split
  ·exact ⟨h,rfl,rfl,rfl⟩
  ·have a:Ui ({ g with closed:=true }:RG):=⟨⟨h.ok.fm,h.ok.out,h.ok.ratio,h.ok.CH,h.ok.mem,h.ok.lim,h.ok.steps⟩,h.all⟩
   exact ⟨a.DK hs,Rx _ _⟩
structure GL(B:Nat)(w:World)(q r:Nat)(m1 m:MG)(J:Nat->Prop):Prop where
 ex:∃ K va g,GM B K w q g.fm g.mem g.lim m1/\JM B r va g w/\Twin g m/\Ui g/\(∀ k,J k↔(K k\/k=r\/va.ownBlock=some k))/\¬ K r/\∀ k,va.ownBlock=some k->¬ K k
def PD(B:Nat)(w:World)(q r:Nat)(m:MG)(J:Nat->Prop):Prop:=GL B w q r m m J
theorem GL.at_{J:Nat->Prop}(h:GL B w q r m1 m J)(hk:J k):B<=k/\k<w.heap.size:=by
 obtain ⟨K,b,g,h1,h2,h3,h4,h5,h6,a⟩:=h.ex;rcases (h5 k).1 hk with e | rfl | e
 ·exact h1.at_ e
 ·exact ⟨h2.pB,h2.row.lt⟩
 ·exact h2.all.lt k e
theorem GL.size{J:Nat->Prop}(h:GL B w q r m1 m J):B<=w.heap.size:=by
 obtain ⟨K,b,g,h1,h2,h3,h4,h5,h6,a⟩:=h.ex;exact h2.hB
theorem GL.same{J:Nat->Prop}(h:GL B w q r m1 m J)(hs:w.heap.size<=w'.heap.size)(a:∀ k,J k->w'.heap[k]?=w.heap[k]?):GL B w' q r m1 m J:=by
 obtain ⟨K,c,g,h1,h2,h3,h4,h5,h6,b⟩:=h.ex;exact ⟨K,c,g,h1.same hs (fun k hk=>a k ((h5 k).2 (Or.inl hk))),h2.same hs (a r ((h5 r).2 (Or.inr (Or.inl rfl)))) (fun k hk=>a k ((h5 k).2 (Or.inr (Or.inr hk)))),h3,h4,h5,h6,b⟩
theorem GL.below{J:Nat->Prop}(h:GL B w q r m1 m J)(b:Below w.heap.size w w'):GL B w' q r m1 m J:=h.same b.size fun k hk=>b.block k (h.at_ hk).2
structure ET(B:Nat)(w:World)(q r:Nat)(m1 m:MG)(J:Nat->Prop)(w':World):Prop where
 ex:∃ J',(∀ k,k<w.heap.size->J' k->J k)/\GL B w' q r m1 m J'
 bel:Below B w w'
 block:∀ k,k<w.heap.size->¬ J k->w'.heap[k]?=w.heap[k]?
theorem ET.trans{m3:MG}{J:Nat->Prop}(h:ET B w q r m1 m J w')(k:∀ a,GL B w' q r m1 m a->ET B w' q r m2 m3 a w''):ET B w q r m2 m3 J w'':=by
 obtain ⟨a,g,hH⟩:=h.ex;have e:=k a hH;obtain ⟨b,d,c⟩:=e.ex;have hs:=h.bel.size;exact ⟨⟨b,fun i hi f=>g i hi (d i zO f),c⟩,h.bel.trans e.bel,fun i hi j=>(e.block i zO (fun f=>j (g i hi f))).trans (h.block i hi j)⟩
theorem ET.below{J:Nat->Prop}(h:ET B w q r m1 m J w')(b:Below w'.heap.size w' w''):ET B w q r m1 m J w'':=
 h.trans fun a hH=>⟨⟨a,fun _ _ h=>h,hH.below b⟩,b.mono hH.size,fun k hk _=>b.block k hk⟩
theorem GL.after{J:Nat->Prop}{K:Nat->Prop}(h1:GM B K w q g.fm g.mem g.lim m1)(h2:JM B r va g w)(h3:Twin g m)(h4:Ui g)(h5:∀ k,J k↔(K k\/k=r\/va.ownBlock=some k))(h6:¬ K r)(d:∀ k,va.ownBlock=some k->¬ K k)(A:Fx B K w q g.fm g.mem g.lim m2 w'):ET B w q r m2 m J w':=by
 have b:=Fx.below h1 A;obtain ⟨c,a,h⟩:=A.ex;have f:=h2.row.lt;refine ⟨⟨fun k=>c k\/k=r\/va.ownBlock=some k,fun k hk i=>?_,c,va,g,h,h2.same A.size (A.block r f h6) (fun k hk=>A.block k (h2.all.lt k hk).2 (d k hk)),h3,h4,fun _=>yE,fun e=>h6 ((a r f).1 e),fun k hk e=>d k hk ((a k (h2.all.lt k hk).2).1 e)⟩,b,fun k hk j=>A.block k hk fun e=>j ((h5 k).2 (Or.inl e))⟩;rcases i with e | e
 ·exact (h5 k).2 (Or.inl ((a k hk).1 e))
 ·exact (h5 k).2 (Or.inr e)
structure oD(J:Nat->Prop)(w:World)(ad:Option Addr)(cap:Nat)(P:List ByteArray):Prop where
 str:Kk w ad P
 Zi:P.length<=cap/\cap<=maxLen
 each:∀ s∈P,s.size<=maxLen
 off:∀ b o,ad=some ⟨b,o,none⟩->¬ J b/\b≠0/\b<w.heap.size
theorem PW{J:Nat->Prop}(h:PD B w q r m J)(ad:Option Addr)(cap:Nat)(P:List ByteArray)(hP:oD J w ad cap P)(f:EG w)(hG:0<B) :
  Calls prog 26 #[.pointer (some ⟨q,0,none⟩), .slice ad P.length cap] w fun e c=>∃ n er a,e= .returned (.tuple #[.int .i64 n, .int .i64 (er:Nat)])/\Hf m P a n er/\ET B w q r a m J c:=by
 obtain ⟨K,i,g,h1,h2,h3,h4,h5,h6,d⟩:=h.ex;refine (fS h1 ad cap P ⟨hP.str,hP.Zi,hP.each,fun b o e=>⟨fun hk=>(hP.off b o e).1 ((h5 b).2 (Or.inl hk)),(hP.off b o e).2⟩⟩ f (h1.ng hG)).mono ?_;rintro e c ⟨n,er,a,rfl,hw,A⟩;exact ⟨n,er,a,rfl,hw,GL.after h1 h2 h3 h4 h5 h6 d A⟩
theorem Wm{J:Nat->Prop}(h:PD B w q r m J)(n:Int)(f:Kv n)(d:EG w)(hG:0<B) :
  Calls prog 30 #[.pointer (some ⟨q,0,none⟩), .int .i64 n] w fun e b=>∃ l er a,e= .returned (.tuple #[.string (DD l), .int .i64 (er:Nat)])/\Ki m n a l er/\ET B w q r a m J b:=by
 obtain ⟨K,i,g,h1,h2,h3,h4,h5,h6,c⟩:=h.ex;refine (fR h1 n f d (h1.ng hG)).mono ?_;rintro e b ⟨l,er,a,rfl,hw,A⟩;exact ⟨l,er,a,rfl,hw,GL.after h1 h2 h3 h4 h5 h6 c A⟩
theorem Wk{J:Nat->Prop}(h:PD B w q r m J)(d:EG w)(hG:0<B) :
  Calls prog 31 #[.pointer (some ⟨q,0,none⟩)] w fun e b=>∃ er a,e= .returned (.int .i64 (er:Nat))/\Kh m a er/\ET B w q r a m J b:=by
 obtain ⟨K,f,g,h1,h2,h3,h4,h5,h6,c⟩:=h.ex;refine (fQ h1 d (h1.ng hG)).mono ?_;rintro e b ⟨er,a,rfl,hw,A⟩;exact ⟨er,a,rfl,hw,GL.after h1 h2 h3 h4 h5 h6 c A⟩
theorem Zd{J:Nat->Prop}(h:PD B w q r m J) :
  Calls prog 27 #[.pointer (some ⟨q,0,none⟩)] w fun e a=>e= .returned m.Fj/\Below w.heap.size w a:=by
 obtain ⟨K,c,g,h1,h2,h3,h4,h5,h6,b⟩:=h.ex;exact ir h1
theorem Twin.Mf(t:Twin g m)(k:JN m)(hq:m.q.steps<=1000000):g.taken.size<=1000000/\g.Ac<=1000000/\g.Ac<=g.out/\g.out<=g.all.length/\g.out<=1000000:=by
 have h1:=t.taken.2;have h2:=k.ck.st;have h3:=k.dr;have h4:=t.Ac;have h5:=t.out;obtain ⟨l,hl⟩:=t.all;have h6:g.all.length=m.c.outs.length+l.length:=by rw [hl,zI]
 omega
theorem Pu(P:List ByteArray):∀ s:ByteArray,(P.foldl (·++·) s).size=s.size+total P:=by
 induction P with
 | nil=>exact fun s=>rfl
 | cons x xs ih=>
  intro s;show (xs.foldl (·++·) (s++x)).size=_;rw [ih,vX];show _=s.size+(x.size+total xs);omega
theorem GL.call{J:Nat->Prop}{K:Nat->Prop}{g':RG}(h1:GM B K w q g.fm g.mem g.lim m1)(h2:JM B r va g w)(h5:∀ k,J k↔(K k\/k=r\/va.ownBlock=some k))(h6:¬ K r)(l:∀ k,va.ownBlock=some k->¬ K k)(f:g'.fm=g.fm/\g'.mem=g.mem/\g'.lim=g.lim)(h3:Twin g' m2)(h4:Ui g')(E:JL B r g' w w'):ET B w q r m1 m2 J w':=by
 obtain ⟨a,o,hv⟩:=E.inv;have hs:=E.JJ;have c:∀ k,k<w.heap.size->k≠r->w'.heap[k]?=w.heap[k]?:=fun k hk h=>hs.block k hk h
 have b:∀ k,k<w.heap.size->a.ownBlock=some k->va.ownBlock=some k:=fun k hk e=>by
  rcases hv with hv | hv
  ·have d:=h2.row.cell (i:=15) zO;rw [d] at hv;have j:va=a:=xE hv;rw [j];exact e
  ·have:=hv k e;omega
 refine ⟨⟨fun k=>K k\/k=r\/a.ownBlock=some k,fun k hk n=>?_,K,a,g',?_,o,h3,h4,fun _=>yE,h6,fun k hk e=>?_⟩,E.bel,fun k hk h=>c k hk (fun e=>h ((h5 k).2 (Or.inr (Or.inl e))))⟩
 ·rcases n with e | e | e
  ·exact (h5 k).2 (Or.inl e)
  ·exact (h5 k).2 (Or.inr (Or.inl e))
  ·exact (h5 k).2 (Or.inr (Or.inr (b k hk e)))
 ·rw [f.1,f.2.1,f.2.2];exact h1.same hs.size fun k hk=>c k (h1.at_ hk).2 (fun e=>h6 (by rw [<- e];exact hk))
 ·exact l k (b k (h1.at_ e).2 hk) e
theorem PY{J:Nat->Prop}{n:Int}(h:GL B w q r m' m J)(hk:JN m/\m.q.steps<=1000000)(hw:Hf m P m' n er)(ad:Option Addr)(cap:Nat)(hP:Kk w ad P)(hl:P.length<=maxLen)(k:total P<=100000000)(i:Bs w B) :
  Calls prog 124 #[.pointer (some ⟨r,0,none⟩), .slice ad P.length cap] w fun e a=>e= .returned (.tuple #[.int .i64 n, .int .i64 er])/\ET B w q r m' m' J a:=by
 obtain ⟨K,l,g,h1,h2,h3,h4,h5,h6,f⟩:=h.ex;obtain ⟨t1,t2,t3,t4,t5⟩:=h3.Mf hk.1 hk.2;have hs:(P.foldl (·++·) g.taken).size<=1000000000:=by rw [Pu];omega
 obtain ⟨b,c,d⟩:=h3.write hw;refine (im P ad cap w h2 h4.ok hP hl hs zO i).mono ?_;rintro e a ⟨rfl,E⟩;obtain ⟨j,k2⟩:=h4.write hs;rw [b,c];exact ⟨rfl,GL.call h1 h2 h5 h6 f k2 d j E⟩
theorem Wn{J:Nat->Prop}{l:List Nat}{n:Int}(h:GL B w q r m' m J)(hk:JN m/\m.q.steps<=1000000)(hw:Ki m n m' l er)(i:Bs w B) :
  Calls prog 93 #[.pointer (some ⟨r,0,none⟩), .int .i64 n] w fun e a=>e= .returned (.tuple #[.string (DD l), .int .i64 er])/\ET B w q r m' m' J a:=by
 obtain ⟨K,k,g,h1,h2,h3,h4,h5,h6,f⟩:=h.ex;obtain ⟨t1,t2,t3,t4,t5⟩:=h3.Mf hk.1 hk.2;obtain ⟨b,c,d⟩:=h3.drain hw;refine (il n w h2 h4.ok t3 t4 h4.all zO i).mono ?_;rintro e a ⟨rfl,E⟩;obtain ⟨j,k2⟩:=h4.drain (n:=n) zO;rw [b,c];exact ⟨rfl,GL.call h1 h2 h5 h6 f k2 d j E⟩
theorem Wl{J:Nat->Prop}(h:GL B w q r m' m J)(hk:JN m/\m.q.steps<=1000000)(hw:Kh m m' er)(f:Bs w B) :
  Calls prog 94 #[.pointer (some ⟨r,0,none⟩)] w fun e a=>e= .returned (.int .i64 er)/\ET B w q r m' m' J a:=by
 obtain ⟨K,j,g,h1,h2,h3,h4,h5,h6,d⟩:=h.ex;obtain ⟨t1,t2,t3,t4,t5⟩:=h3.Mf hk.1 hk.2;obtain ⟨b,c⟩:=h3.close hw;refine (ik w h2 h4.ok zO zO f).mono ?_;rintro e a ⟨rfl,E⟩;obtain ⟨i,k2⟩:=h4.close zO;rw [b];exact ⟨rfl,GL.call h1 h2 h5 h6 d k2 c i E⟩
theorem Twin.state(t:Twin g m):g.Fj=m.Fj:=by
 unfold RG.Fj MG.Fj MG.wait MG.begun;have a:=t.le;rw [t.taken.2,t.out,t.err,t.Ac,t.members,t.steps,t.acc];by_cases h:m.err=0
 ·rw [zA zO,zC h];simp
 ·rw [zC h,zA h];simp
theorem Ze{J:Nat->Prop}(h:PD B w q r m J)(hk:JN m/\m.q.steps<=1000000) :
  Calls prog 95 #[.pointer (some ⟨r,0,none⟩)] w fun e a=>e= .returned m.Fj/\Below w.heap.size w a:=by
 obtain ⟨K,c,g,h1,h2,h3,h4,h5,h6,b⟩:=h.ex;obtain ⟨t1,t2,t3,t4,t5⟩:=h3.Mf hk.1 hk.2;rw [<- h3.state];exact mR w h2 t3 zO
theorem GL.kept{J:Nat->Prop}(h:GL B w q r m1 m J):JN m1/\m1.q.steps<=1000000:=by
 obtain ⟨K,a,g,h1,_⟩:=h.ex;exact ⟨h1.kept,h1.qb⟩
theorem PD.fresh{c:Gm}{K:Nat->Prop}(hB:B<=w.heap.size)(hc:c.right=true)(G:GM w.heap.size K w1 q c.fm.toNat c.mem.toNat c.lim.toNat (MG.fresh c))(b:Below w1.heap.size w1 w2)(T:JM w1.heap.size r (.slice none 0 0) (RG.fresh c) w2):∃ J,PD B w2 q r (MG.fresh c) J/\∀ k,J k->w.heap.size<=k:=by
 have a:=G.below b;have f:w.heap.size<=w1.heap.size:=by
  obtain ⟨ρ,p,x,acc,g,_,_⟩:=G.ex;exact g.hB
 have i:=T.pB;refine ⟨fun k=>K k\/k=r\/(Value.slice none 0 0).ownBlock=some k,⟨K, .slice none 0 0,RG.fresh c,?_,⟨zO,by have:=T.hB;omega,T.row,MO T.all zO,T.pa⟩,Twin.fresh hc,⟨VG hc,by show 0<=_;omega⟩,fun _=>yE,fun e=>by have:=(G.at_ e).2;omega,fun k e=>by simp [Value.ownBlock] at e⟩,fun k hk=>?_⟩
 ·obtain ⟨ρ,p,x,acc,g,h,d⟩:=a.ex;exact ⟨⟨ρ,p,x,acc,⟨g.row,g.mq,g.rq,fun k hk=>zG hB (g.nw k hk),zG hB g.qB,zG hB g.hB⟩,h,d⟩,a.Hv,a.kept,a.qb⟩
 ·rcases hk with e | rfl | e
  ·exact (G.at_ e).1
  ·omega
  ·simp [Value.ownBlock] at e
structure Df where
 q:Nat
 r:Nat
 s:ByteArray
 k:Nat
 m:MG
 J:Nat->Prop
def Df.go(x:Df)(m:MG)(J:Nat->Prop):Df:=⟨x.q,x.r,x.s,x.k,m,J⟩
def Df.Fv(x:Df)(n:Nat):Df:=⟨x.q,x.r,x.s,n,x.m,x.J⟩
def Df.cells(x:Df):List Value:=[.pointer (some ⟨x.q,0,none⟩), .pointer (some ⟨x.r,0,none⟩), .string x.s, .int .i64 x.k]
structure Cy where
 mark:ByteArray
 b:Nat
 n:Nat
def Cy.cells(x:Cy):List Value:=[.string x.mark, .slice (some ⟨x.b,0,none⟩) x.n x.n]
def Ug(w:World)(t:Cy):Prop:=t.n<=2000000/\t.b<w.heap.size/\∀ i,i<t.n->w.cell? ⟨t.b,i,none⟩=some (.string t.mark)
def RN(DZ Ec:Value)(R:List Df)(T:List Cy)(k:Nat):Prop:=DZ.ownBlock=some k\/Ec.ownBlock=some k\/(∃ x∈R,x.J k)\/∃ t∈T,t.b=k
structure LV(B:Nat)(DZ Ec:Value)(R:List Df)(T:List Cy)(w:World):Prop where
 rn:w.ownsRow B 182 4 DZ R.length (R.flatMap Df.cells)
 tx:w.ownsRow B 146 2 Ec T.length (T.flatMap Cy.cells)
 each:∀ x∈R,PD B w x.q x.r x.m x.J/\x.k<=x.s.size/\x.s.size<=1048576
 apart:R.Pairwise fun x y=>∀ k,x.J k->¬ y.J k
 own:∀ x∈R,∀ k,x.J k->DZ.ownBlock≠some k/\Ec.ownBlock≠some k
 KT:∀ t∈T,Ug w t
 off:∀ t∈T,(∀ x∈R,¬ x.J t.b)/\DZ.ownBlock≠some t.b/\Ec.ownBlock≠some t.b/\B<=t.b
theorem LV.lt{R:List Df}{T:List Cy}(h:LV B DZ Ec R T w)(hk:RN DZ Ec R T k):k<w.heap.size:=by
 rcases hk with e | e | ⟨x,hx,e⟩ | ⟨t,a,rfl⟩
 ·exact Bj h.rn e
 ·exact Bj h.tx e
 ·exact ((h.each x hx).1.at_ e).2
 ·exact (h.KT t a).2.1
theorem Ug.same{t:Cy}(h:Ug w t)(hs:w.heap.size<=w'.heap.size)(c:w'.heap[t.b]?=w.heap[t.b]?):Ug w' t:=⟨h.1,zM h.2.1 hs,fun i hi=>by rw [yV (a:=⟨t.b,i,none⟩) c];exact h.2.2 i hi⟩
theorem LV.same{R:List Df}{T:List Cy}(h:LV B DZ Ec R T w)(hs:w.heap.size<=w'.heap.size)(a:∀ k,RN DZ Ec R T k->w'.heap[k]?=w.heap[k]?):LV B DZ Ec R T w' where
 rn:=EP h.rn fun g c=>a g (Or.inl c)
 tx:=EP h.tx fun g c=>a g (Or.inr (Or.inl c))
 each:=fun x hx=>⟨(h.each x hx).1.same hs fun k hk=>a k (Or.inr (Or.inr (Or.inl ⟨x,hx,hk⟩))),(h.each x hx).2⟩
 apart:=h.apart
 own:=h.own
 KT:=fun t d=>(h.KT t d).same hs (a t.b (Or.inr (Or.inr (Or.inr ⟨t,d,rfl⟩))))
 off:=h.off
def YG(B H n:Nat)(ρ:Nat->Nat)(s:Aj)(w:World):Prop:=∃ R T,LV B s.DZ s.Ec R T w/\R.length<=n/\T.length<=n/\H<=w.heap.size/\∀ k,RN s.DZ s.Ec R T k->ρ k=9/\H<=k/\s.vcs.ownBlock≠some k/\s.GQ.ownBlock≠some k
theorem Sz(B H:Nat):bM H (YG B H) where
 k9:=fun {n ρ ρ' s s' w w'} h K hs e1 e2 e3 e4=>by
  obtain ⟨R,T,h1,h2,h3,h0,h4⟩:=h;refine ⟨R,T,?_,h2,h3,zG h0 hs,fun k hk=>?_⟩
  ·rw [e1,e2];exact h1.same hs fun k hk=>(K k (h1.lt hk) (h4 k hk).1).1
  ·rw [e1,e2] at hk;rw [e3,e4];exact ⟨(K k (h1.lt hk) (h4 k hk).1).2,(h4 k hk).2⟩
 app:=fun {n ρ ρ' s s' w w'} h K hg hs e1 e2=>by
  obtain ⟨R,T,h1,h2,h3,h0,h4⟩:=h;refine ⟨R,T,?_,h2,h3,zG h0 hs,fun k hk=>?_⟩
  ·rw [e1,e2];exact h1.same hs fun k hk=>(K k (h1.lt hk) (h4 k hk).1 (h4 k hk).2.2.1 (h4 k hk).2.2.2).1
  ·rw [e1,e2] at hk;obtain ⟨a,a2,a3,a4⟩:=h4 k hk;refine ⟨(K k (h1.lt hk) a a3 a4).2,a2,fun e=>?_,fun e=>?_⟩
   ·rcases hg k (Or.inl e) with e | e | e
    ·exact a3 e
    ·exact a4 e
    ·have:=h1.lt hk;omega
   ·rcases hg k (Or.inr e) with e | e | e
    ·exact a3 e
    ·exact a4 e
    ·have:=h1.lt hk;omega
 nP:=fun ρ s w e1 e2 e3=>by
  refine ⟨[],[],⟨?_,?_,fun x hx=>(by cases hx),List.Pairwise.nil,fun x hx=>(by cases hx),fun x hx=>(by cases hx),fun x hx=>(by cases hx)⟩,zE _,zE _,e3,fun k hk=>?_⟩
  ·rw [e1];exact yU _ _ _ _
  ·rw [e2];exact yU _ _ _ _
  ·exfalso
   rcases hk with e | e | ⟨x,hx,_⟩ | ⟨x,hx,_⟩
   ·rw [e1] at e;simp [Value.ownBlock] at e
   ·rw [e2] at e;simp [Value.ownBlock] at e
   ·cases hx
   ·cases hx
 mono:=fun {n m ρ s w} h hm=>by
  obtain ⟨R,T,h1,h2,h3,h4⟩:=h;exact ⟨R,T,h1,zO,zO,h4⟩
theorem Inv.mc(h:Inv B gW 0 ρ s w)(hk:Kp (fun r=>r=9\/r=5) ρ w w')(hρ:∀ k,k<w.heap.size->ρ' k=ρ k)(l:w'.rowIs gW 75 9 (fld s'))
  (e:s'.vl=s.vl/\s'.lens=s.lens/\s'.vw=s.vw/\s'.waits=s.waits/\s'.vr=s.vr/\s'.CO=s.CO/\s'.vb=s.vb/\s'.Ay=s.Ay) (hm:s'.CX<=1000000000) (v:s'.still=[]):Inv B gW 0 ρ' s' w':=by
 obtain ⟨vcs,GQ,vl,lens,CX,vw,waits,vr,CO,vb,Ay,still,DZ,Ec⟩:=s;obtain ⟨A,D,H,y,z,J,p,I,q,G,o,d,C,E⟩:=s';obtain ⟨rfl,rfl,rfl,rfl,rfl,rfl,rfl,rfl⟩:=e;obtain rfl:d=[]:=v;have a:=h.Hx (ρ':=ρ') (fun k hk _=>hρ k hk);have f:Kp (fun r=>r=9\/r=5) ρ' w w':=hk.congr (fun k hk=>by rw [hρ k hk];exact fun x=>x);exact {
  gB:=h.gB
  hB:=zG h.hB f.size
  row:=l
  len:=As a.len f (fun g c j=>by have:=a.rl g c;omega)
  PA:=As a.PA f (fun g c j=>by have:=a.Ke g c;omega)
  RL:=As a.RL f (fun g c j=>by have:=a.rr g c;omega)
  OJ:=As a.OJ f (fun g c j=>by have:=a.rb g c;omega)
  Gv:=h.Gv
  wt:=fun i hi hd=>⟨As (a.wt i hi hd).1 f (fun g c j=>by have:=a.OD i hi hd g c;omega),(a.wt i hi hd).2⟩
  wr:=fun i hi u=>As (a.wr i hi u) f (fun g c j=>by have:=a.OO _ (yD hi) g c;omega)
  bk:=fun b t=>⟨(a.bk b t).1,fun x hx=>by
   obtain ⟨n,F⟩:=(a.bk b t).2 x hx;exact ⟨n,As F f (fun g c j=>by have:=a.NV b t x hx g c;omega)⟩⟩
  rW:=a.rW
  rl:=a.rl
  Ke:=a.Ke
  rr:=a.rr
  rb:=a.rb
  OD:=a.OD
  OO:=a.OO
  NV:=a.NV
  Vp:=hm
  Rh:=h.Rh
  UY:=h.UY
  UQ:=h.UQ
  UZ:=fun x hx=>by cases hx
  Qe:=fun x hx=>by cases hx }
theorem MG.du{g:Nat}{wv:World}(h:wv.rowIs g 50 7 (FY m.cells)):wv.cell? ⟨g,0,none⟩=some (.int .i64 m.c.pre.length)/\wv.cell? ⟨g,1,none⟩=some (.int .i64 m.c.outs.length)/\wv.cell? ⟨g,2,none⟩=some (.int .i64 m.wait)/\wv.cell? ⟨g,3,none⟩=some (.int .i64 m.begun)/\wv.cell? ⟨g,4,none⟩=some (.int .i64 ((m.c.pre.length:Int)+m.c.outs.length))/\wv.cell? ⟨g,5,none⟩=some (.bool m.acc)/\wv.cell? ⟨g,6,none⟩=some (.int .i64 m.err):=⟨h.cell (i:=0) zO,h.cell (i:=1) zO,h.cell (i:=2) zO,h.cell (i:=3) zO,h.cell (i:=4) zO,h.cell (i:=5) zO,h.cell (i:=6) zO⟩
def OX:ByteArray:=⟨#[98,101,121,111,110,100]⟩
def JR(P:List ByteArray)(i:Nat):ByteArray:=if i<P.length then P.getD i ⟨#[]⟩ else OX
def JA(P:List ByteArray)(k i:Nat):ByteArray:=if i<P.length then P.getD i ⟨#[]⟩ else if i<P.length+k then OX else ⟨#[]⟩
def Eg(P:List ByteArray):List Value:=P.map Value.string
theorem TW(ad:Option Addr)(n c:Nat)(w:World):(binOp .eql 30 (.slice ad n c) (.slice none 0 0)).run prog w= .ok (.bool ad.isNone) w:=by
 rw [Lib.run_eql_slice_nil w 30 9 ad n c 0 0 underlying30]
theorem aQ(w:World) :
  Calls prog 123 #[.slice none 0 0] w fun e a=>e= .returned (.slice none 0 0)/\w=a:=by
 have h:=TW none 0 0;simp only [AH] at h;go_enter func123,ntmps123
 go_wp2
 go_ret
 exact ⟨rfl,rfl⟩
theorem jd(P:List ByteArray):(Eg P).length=P.length.min (P.length+8):=by simp [Eg]
theorem je{x:Addr}(hc:∀ j u,(Eg P)[j]?=some u->x.block<w.heap.size/\w.cell? (x.add j)=some u)(a:Obj):∀ (j:Nat) (v:Value),(Eg P)[j]?=some v->(w.alloc a).cell? (x.add j)=some v:=by
 intro j v hv;obtain ⟨h1,h2⟩:=hc j v hv;have b:(x.add j).block=x.block:=by unfold Addr.add;split <;> rfl
 rw [yV (w:=w) (by rw [b];exact yK w a x.block h1),h2]
theorem jf(P:List ByteArray):0+(Eg P).length<=(madeCells #[Value.string ⟨#[]⟩] (P.length+8)).size:=by rw [vL];simp [Eg]
theorem jg(P:List ByteArray):∀ v∈Eg P,v.oneCell'=true:=by
 intro u a;obtain ⟨x,_,rfl⟩:=vT.1 a;rfl
theorem jh(P:List ByteArray)(w:World):(w.alloc (.cells (Eg P++(madeCells #[Value.string ⟨#[]⟩] (P.length+8)).toList.drop (Eg P).length).toArray 9)).rowIs w.heap.size 9 (P.length+8) (fun i=> .string (JA P 0 i)):=by
 have e:(madeCells #[Value.string ⟨#[]⟩] (P.length+8)).toList.drop (Eg P).length=List.replicate 8 (Value.string ⟨#[]⟩):=by
  rw [toList_madeCells_one,BW];simp [Eg]
 rw [e];refine ⟨_,zJ _ _,by simp [Eg],fun i hi=>?_⟩;rw [BR,kQ];unfold JA;dsimp only
 by_cases h:i<P.length
 ·rw [zC (by simpa [Eg] using h),zC h];simp [Eg,h]
 ·rw [zA (by simpa [Eg] using h),zA h,zA zO,vW,zC (by simp [Eg];omega)]
theorem ji{wr:World}{g:Nat}(h:wr.rowIs g 9 (P.length+8) (fun i=> .string (JA P k i))):(wr.setCell ⟨g,P.length+k,none⟩ (.string OX)).rowIs g 9 (P.length+8) (fun i=> .string (JA P (k+1) i)):=by
 refine (h.set (P.length+k) _).congr fun i _=>?_
 unfold JA;by_cases e:i=P.length+k
 ·rw [zC e,zA zO,zC zO]
 ·rw [zA e];by_cases a:i<P.length
  ·rw [zC a,zC a]
  ·rw [zA a,zA a];by_cases b:i<P.length+k
   ·rw [zC b,zC zO]
   ·rw [zA b,zA zO]
theorem XU(x:Addr)(cap:Nat)(P:List ByteArray)(w:World)(hl:P.length<=1000000000)(hc:∀ j u,(Eg P)[j]?=some u->x.block<w.heap.size/\w.cell? (x.add j)=some u) :
  Calls prog 123 #[.slice (some x) P.length cap] w fun e f=>e= .returned (.slice (some ⟨w.heap.size,0,none⟩) P.length (P.length+8))/\f.rowIs w.heap.size 9 (P.length+8) (fun i=> .string (JR P i))/\Below w.heap.size w f:=by
 have h:=TW (some x) P.length cap;simp only [AG] at h;have c:=xZ (P:=prog) 30 9 (.string ⟨#[]⟩) 16 underlying30 Jj rfl .i64 .i64 (P.length+8) zO zO;have d:((P.length+8:Nat):Int)=(P.length:Int)+8:=zO;rw [d] at c;clear d;go_enter func123,ntmps123
 go_upto_region 5 with fail
 go_wp2_with (first | (refine wpList_copy_own rfl (.tmp 13) (.tmp 14) 30 30 rfl 9 underlying30 zK w.heap.size 0 (P.length+8) (P.length+8) x P.length cap rfl rfl (madeCells #[.string ⟨#[]⟩] (P.length+8)) 9 (zJ _ _) (Eg P) (jd P) (je hc _) (jf P) (jg P) ?_;rw [vN]))
 go_loopw [5] (fun i wr=>∃ k:Nat,k<=8/\i= .int .i64 (P.length+k)/\wr.rowIs w.heap.size 9 (P.length+8) (fun i=> .string (JA P k i))/\Below w.heap.size w wr) (fun i _=>P.length+8 - (intOf i).toNat)
 case atStart=>exact ⟨0,zO,zS,jh P w,zB.alloc zL _⟩
 case round=>
  obtain ⟨k,hk,rfl,a,b⟩:=hrel;by_cases n:k<8
  ·have o:=a.cell (i:=P.length+k) zO;have g2:=a.frozen (P.length+k);have R:=ji a;have l:=b.setCell (p:=⟨w.heap.size,P.length+k,none⟩) zS (.string OX);clear c;go_wp2_with fail
   go_roundw
   case rel=>exact ⟨k+1,zO,by go_num,R,l⟩
   case measure=>simp [intOf];omega
  ·obtain rfl:k=8:=zO;have R:=a.congr (g:=fun i=> .string (JR P i)) (fun i hi=>by unfold JA JR;split <;> simp_all);clear c a;go_wp2
   go_ret
   exact ⟨rfl,R,b⟩
structure LJ(B gW H:Nat)(C:List (List Int))(S:List ByteArray)(k:Nat)(R:List Df)(T:List Cy)(ρ:Nat->Nat)(s:Aj)(w:World):Prop where
 inv:Inv B gW 0 ρ s w
 fw:Fw k s
 cs:ek B ρ s w C
 ss:et B ρ s w S
 Kt:LV B s.DZ s.Ec R T w
 rl:R.length<=k
 tl:T.length<=k
 hH:H<=w.heap.size
 x9:∀ k,RN s.DZ s.Ec R T k->ρ k=9/\H<=k/\s.vcs.ownBlock≠some k/\s.GQ.ownBlock≠some k
theorem LI.lj(h:LI B gW (YG B H) C S k ρ s w):∃ R T,LJ B gW H C S k R T ρ s w:=by
 obtain ⟨R,T,h1,h2,h3,h0,h4⟩:=h.y;exact ⟨R,T,h.inv,h.fw,h.cs,h.ss,h1,h2,h3,h0,h4⟩
theorem LJ.li{R:List Df}{T:List Cy}(h:LJ B gW H C S k R T ρ s w):LI B gW (YG B H) C S k ρ s w:=⟨h.inv,h.fw,h.cs,h.ss,R,T,h.Kt,h.rl,h.tl,h.hH,h.x9⟩
theorem LJ.mono{m:Nat}{R:List Df}{T:List Cy}(h:LJ B gW H C S k R T ρ s w)(hm:k<=m):LJ B gW H C S m R T ρ s w:={ h with fw:=h.fw.mono hm,rl:=zG h.rl hm,tl:=zG h.tl hm }
theorem LJ.Hx{R:List Df}{T:List Cy}(h:LJ B gW H C S k R T ρ s w)(hρ:∀ k,k<w.heap.size->ρ' k=ρ k):LJ B gW H C S k R T ρ' s w where
 inv:=h.inv.Hx (fun k hk _=>hρ k hk)
 fw:=h.fw
 cs:=⟨h.cs.1,fun g a=>by rw [hρ g (Bj h.cs.1 a)];exact h.cs.2 g a⟩
 ss:=⟨h.ss.1,fun g a=>by rw [hρ g (Bj h.ss.1 a)];exact h.ss.2 g a⟩
 Kt:=h.Kt
 rl:=h.rl
 tl:=h.tl
 hH:=h.hH
 x9:=fun k hk=>by rw [hρ k (h.Kt.lt hk)];exact h.x9 k hk
theorem LJ.nine{R R':List Df}{T T':List Cy}(h:LJ B gW H C S k R T ρ s w)(hk:Kp (fun r=>r=9\/r=5) ρ w w')(hρ:∀ k,k<w.heap.size->ρ' k=ρ k)(f:w'.rowIs gW 75 9 (fld s'))
  (e:s'.vl=s.vl/\s'.lens=s.lens/\s'.vw=s.vw/\s'.waits=s.waits/\s'.vr=s.vr/\s'.CO=s.CO/\s'.vb=s.vb/\s'.Ay=s.Ay) (b:s'.vcs=s.vcs/\s'.GQ=s.GQ) (hm:s'.CX<=s.CX+(n - k)) (o:k<=n) (D:n<=3000000) (j:s'.still=[])
  (c:∀ g,s.vcs.ownBlock=some g\/s.GQ.ownBlock=some g->w'.heap[g]?=w.heap[g]?) (a:LV B s'.DZ s'.Ec R' T' w') (p:R'.length<=n) (q:T'.length<=n) (hx:∀ k,RN s'.DZ s'.Ec R' T' k->ρ' k=9/\H<=k/\s.vcs.ownBlock≠some k/\s.GQ.ownBlock≠some k):LJ B gW H C S n R' T' ρ' s' w':=by
 have d:=h.fw;refine ⟨h.inv.mc hk hρ f e (by have:=d.mm;omega) j,?_,?_,?_,a,p,q,zG h.hH hk.size,fun k hk=>by rw [b.1,b.2];exact hx k hk⟩
 ·obtain ⟨t,a2,a3,a4⟩:=d;obtain ⟨u,b,v,i,y,z,A,l⟩:=e;exact ⟨by rw [b];omega,by rw [i];omega,by rw [i];omega,by rw [l,i];omega⟩
 ·unfold ek;rw [b.1];exact ⟨EP h.cs.1 fun g a=>c g (Or.inl a),fun g a=>by rw [hρ g (Bj h.cs.1 a)];exact h.cs.2 g a⟩
 ·unfold et;rw [b.2];exact ⟨EP h.ss.1 fun g a=>c g (Or.inr a),fun g a=>by rw [hρ g (Bj h.ss.1 a)];exact h.ss.2 g a⟩
theorem LJ.below{R:List Df}{T:List Cy}(h:LJ B gW H C S k R T ρ s w)(b:Below w.heap.size w w'):LJ B gW H C S k R T ρ s w' where
 inv:=h.inv.below b
 fw:=h.fw
 cs:=h.cs.k9 (K9.Bk b) rfl
 ss:=h.ss.k9 (K9.Bk b) rfl
 Kt:=h.Kt.same b.size fun k hk=>b.block k (h.Kt.lt hk)
 rl:=h.rl
 tl:=h.tl
 hH:=zG h.hH b.size
 x9:=h.x9
theorem LJ.nZ{R:List Df}{T:List Cy}(h:LJ B gW H C S k R T ρ s w)(b:Below w.heap.size w w'){g:Nat}(a:w.heap.size<=g):LJ B gW H C S k R T (setρ ρ g 9) s w':=
 (h.Hx (ρ':=setρ ρ g 9) fun k hk=>setρ_ne zO).below b
theorem bA{R:List Df}(hi:i<R.length){x:Df}(hx:x.cells=R[i].cells):(R.set i x).flatMap Df.cells=R.flatMap Df.cells:=by
 induction R generalizing i with
 | nil=>simp at hi
 | cons y ys ih=>
  cases i with
  | zero=>
   have a:x.cells=y.cells:=hx;rw [zT,xL,xL,a]
  | succ i=>
   rw [zQ,xL,xL,ih (by simpa using hi) hx]
theorem Ic{R:List Df}{x y:Df}(h:y∈R.set i x):y=x\/∃ j,∃ (b:j<R.length),j≠i/\y=R[j]:=by
 obtain ⟨j,b,e⟩:=AT h;rw [vU] at b;by_cases a:i=j
 ·subst a;rw [jT] at e;exact Or.inl e.symm
 ·rw [jB a] at e;exact Or.inr ⟨j,b,fun x=>a x.symm,e.symm⟩
theorem LV.two{R:List Df}{T:List Cy}(h:LV B DZ Ec R T w)(hi:i<R.length)(b:j<R.length)(a:i≠j)(hk:R[i].J k):¬ R[j].J k:=by
 have hp:=AO.1 h.apart;rcases Nat.lt_or_gt_of_ne a with h1 | h1
 ·exact hp i j hi b h1 k hk
 ·exact fun h2=>hp j i b hi h1 k h2 hk
theorem LJ.gate{R:List Df}{T:List Cy}(h:LJ B gW H C S k R T ρ s w)(P:k<=3000000)(hi:i<R.length)(E:ET B w R[i].q R[i].r m' m' R[i].J w') :
  ∃ o ρ',LJ B gW H C S k (R.set i (R[i].go m' o)) T ρ' { s with still:=[] } w'/\(∀ k,k<w.heap.size->ρ' k=ρ k)/\∀ k,k<w.heap.size->o k->R[i].J k:=by
 classical
 obtain ⟨o,v,hH⟩:=E.ex;have hm:=yD hi;have hs:=E.bel.size;have G:=h.Kt;have y:∀ k,R[i].J k->ρ k=9/\H<=k/\s.vcs.ownBlock≠some k/\s.GQ.ownBlock≠some k:=fun k hk=>h.x9 k (Or.inr (Or.inr (Or.inl ⟨R[i],hm,hk⟩)))
 have c:∀ k,k<w.heap.size->(R[i].J k->False)->w'.heap[k]?=w.heap[k]?:=fun k hk Q=>E.block k hk Q
 have hρ:∀ k,k<w.heap.size->(fun k=>if w.heap.size<=k/\o k then 9 else ρ k) k=ρ k:=fun k hk=>zA (fun e=>zO)
 refine ⟨o,fun k=>if w.heap.size<=k/\o k then 9 else ρ k,h.nine (n:=k) ⟨hs,fun k hk U=>c k hk fun d=>U (Or.inl (y k d).1)⟩ hρ ?_ ⟨rfl,rfl,rfl,rfl,rfl,rfl,rfl,rfl⟩ ⟨rfl,rfl⟩ (by show s.CX<=_;omega) zL zO rfl (fun g l=>?_) ?_ (by rw [vU];exact h.rl) h.tl ?_,hρ,fun k hk d=>v k hk d⟩
 ·exact h.inv.row.of_block (c gW h.inv.row.lt fun d=>by have:=(y gW d).1;have:=h.inv.rW;omega)
 ·rcases l with l | l
  ·exact c g (Bj h.cs.1 l) fun d=>(y g d).2.2.1 l
  ·exact c g (Bj h.ss.1 l) fun d=>(y g d).2.2.2 l
 ·refine ⟨?_,?_,fun x hx=>?_,?_,fun x hx k hk=>?_,fun t p=>(G.KT t p).same hs (c t.b (G.KT t p).2.1 fun d=>(G.off t p).1 _ hm d),fun t p=>⟨fun x hx d=>?_,(G.off t p).2⟩⟩
  ·rw [vU,bA (x:=(R[i].go m' o)) hi rfl];exact EP G.rn fun g l=>c g (Bj G.rn l) fun d=>(G.own _ hm g d).1 l
  ·exact EP G.tx fun g l=>c g (Bj G.tx l) fun d=>(G.own _ hm g d).2 l
  ·rcases Ic hx with rfl | ⟨j,d,u,rfl⟩
   ·exact ⟨hH,(G.each _ hm).2⟩
   ·have g:=G.each _ (yD d);exact ⟨g.1.same hs fun k hk=>c k (g.1.at_ hk).2 fun F=>G.two hi d (zY u) F hk,g.2⟩
  ·refine AO.2 fun a b z A I k h1 h2=>?_
   rw [vU] at z A;have hp:=AO.1 G.apart;by_cases D:i=a
   ·subst D;rw [jT] at h1;rw [jB zO] at h2;have hl:=((G.each _ (yD A)).1.at_ h2).2;exact G.two hi A zO (v k hl h1) h2
   ·by_cases O:i=b
    ·subst O;rw [jT] at h2;rw [jB D] at h1;have hl:=((G.each _ (yD z)).1.at_ h1).2;exact G.two hi z zO (v k hl h2) h1
    ·rw [jB D] at h1;rw [jB O] at h2;exact hp a b z A I k h1 h2
  ·rcases Ic hx with rfl | ⟨j,d,u,rfl⟩
   ·have M:o k:=hk;by_cases hl:k<w.heap.size
    ·exact G.own _ hm k (v k hl M)
    ·exact ⟨fun e=>hl (Bj G.rn e),fun e=>hl (Bj G.tx e)⟩
   ·exact G.own _ (yD d) k hk
  ·rcases Ic hx with rfl | ⟨j,L,u,rfl⟩
   ·exact (G.off t p).1 _ hm (v _ (G.KT t p).2.1 d)
   ·exact (G.off t p).1 _ (yD L) d
 ·intro k hk;have f:RN s.DZ s.Ec R T k->(fun k=>if w.heap.size<=k/\o k then 9 else ρ k) k=9/\H<=k/\s.vcs.ownBlock≠some k/\s.GQ.ownBlock≠some k:=fun hk=>by
   rw [hρ k (G.lt hk)];exact h.x9 k hk
  rcases hk with e | e | ⟨x,hx,e⟩ | ⟨t,p,e⟩
  ·exact f (Or.inl e)
  ·exact f (Or.inr (Or.inl e))
  ·rcases Ic hx with rfl | ⟨j,d,u,rfl⟩
   ·have N:o k:=e;by_cases hl:k<w.heap.size
    ·exact f (Or.inr (Or.inr (Or.inl ⟨R[i],hm,v k hl N⟩)))
    ·refine ⟨zC ⟨zO,N⟩,by have:=h.hH;omega,fun e=>hl (Bj h.cs.1 e),fun e=>hl (Bj h.ss.1 e)⟩
   ·exact f (Or.inr (Or.inr (Or.inl ⟨_,yD d,e⟩)))
  ·exact f (Or.inr (Or.inr (Or.inr ⟨t,p,e⟩)))
theorem gS{e:TypeId}(h:w.ownsRow B e sz v n xs){g:Nat}(a:v.ownBlock=some g)(f:j<xs.length)(u:Value):(w.setCell ⟨g,j,none⟩ u).ownsRow B e sz v n (xs.set j u):=by
 refine ⟨by rw [vU];exact h.1,?_⟩;rcases h.2 with ⟨hv,_⟩ | ⟨c,cap,cur,rfl,d,b,h1,h2,h3,h4⟩
 ·rw [hv] at a;simp [Value.ownBlock] at a
 ·have e:c=g:=by simpa [Value.ownBlock] using a
  subst e;refine .inr ⟨c,cap,cur.setIfInBounds j u,rfl,d,?_,h1,h2,by simpa using h3,?_⟩
  ·simp [World.setCell,Array.getElem?_modify,b]
  ·rw [Array.toList_setIfInBounds,List.take_set,h4]
theorem ia{R:List Df}:(R.flatMap Df.cells).length=R.length*4:=by
 induction R with
 | nil=>rfl
 | cons x xs ih=>
  rw [xL,zI,ih];show 4+_=(xs.length+1)*4;omega
theorem Zk{R:List Df}(hi:i<R.length):(R.flatMap Df.cells)[i*4]?=some (.pointer (some ⟨R[i].q,0,none⟩))/\(R.flatMap Df.cells)[i*4+1]?=some (.pointer (some ⟨R[i].r,0,none⟩))/\(R.flatMap Df.cells)[i*4+2]?=some (.string R[i].s)/\(R.flatMap Df.cells)[i*4+3]?=some (.int .i64 R[i].k):=by
 induction R generalizing i with
 | nil=>simp at hi
 | cons x xs ih=>
  have e:(x :: xs).flatMap Df.cells= .pointer (some ⟨x.q,0,none⟩) :: .pointer (some ⟨x.r,0,none⟩) :: .string x.s :: .int .i64 x.k :: xs.flatMap Df.cells:=rfl;rw [e];cases i with
  | zero=>exact ⟨rfl,rfl,rfl,rfl⟩
  | succ i=>
   have:=ih (i:=i) (by simpa using hi);rw [show (i+1)*4=i*4+4 by omega];simpa using this
theorem Wv{R:List Df}(hi:i<R.length)(n:Nat):(R.set i (R[i].Fv n)).flatMap Df.cells=(R.flatMap Df.cells).set (i*4+3) (.int .i64 n):=by
 induction R generalizing i with
 | nil=>simp at hi
 | cons x xs ih=>
  have e:∀ (y:Df) (a:List Df),(y :: a).flatMap Df.cells= .pointer (some ⟨y.q,0,none⟩) :: .pointer (some ⟨y.r,0,none⟩) :: .string y.s :: .int .i64 y.k :: a.flatMap Df.cells:=fun _ _=>rfl
  cases i with
  | zero=>rw [zT,e,e];rfl
  | succ i=>
   have:=ih (i:=i) (by simpa using hi);rw [zQ,e,e,show (i+1)*4+3=(i*4+3)+4 by omega];simpa using this
theorem LV.dt{R:List Df}{T:List Cy}(h:LV B DZ Ec R T w)(hi:i<R.length):∃ gb cap,DZ= .slice (some ⟨gb,0,none⟩) R.length cap/\R.length<=cap/\gb<w.heap.size/\w.cell? ⟨gb,i*4,none⟩=some (.pointer (some ⟨R[i].q,0,none⟩))/\w.cell? ⟨gb,i*4+1,none⟩=some (.pointer (some ⟨R[i].r,0,none⟩))/\w.cell? ⟨gb,i*4+2,none⟩=some (.string R[i].s)/\w.cell? ⟨gb,i*4+3,none⟩=some (.int .i64 R[i].k)/\w.frozen? ⟨gb,i*4+3,none⟩=false:=by
 rcases h.rn.2 with ⟨_,h0⟩ | ⟨gb,cap,cur,hv,f,a,h1,h2,h3,h4⟩
 ·omega
 ·have b:∀ j,j<4->i*4+j<R.length*4:=fun j c=>zO
  have hc:∀ j,j<4->w.cell? ⟨gb,i*4+j,none⟩=(R.flatMap Df.cells)[i*4+j]?:=fun j c=>by
   have e:=yA w gb (i*4+j) _ _ _ a;rw [e,<- h4,jU,zC (b j c),BH]
  obtain ⟨a0,d,a2,a3⟩:=Zk hi;refine ⟨gb,cap,hv,h1,(yQ.1 a).1,(hc 0 zO).trans a0,(hc 1 zO).trans d,(hc 2 zO).trans a2,(hc 3 zO).trans a3,?_⟩;simp [World.frozen?,a]
theorem LJ.at_{R:List Df}{T:List Cy}(h:LJ B gW H C S k R T ρ s w)(F:k<=3000000)(hi:i<R.length){gb:Nat}(l:s.DZ.ownBlock=some gb)(X:n<=R[i].s.size) :
  LJ B gW H C S k (R.set i (R[i].Fv n)) T ρ { s with still:=[] } (w.setCell ⟨gb,i*4+3,none⟩ (.int .i64 n))/\Below B w (w.setCell ⟨gb,i*4+3,none⟩ (.int .i64 n)):=by
 have G:=h.Kt;have hx:=h.x9 gb (Or.inl l);have d:∀ j,j≠gb->(w.setCell ⟨gb,i*4+3,none⟩ (.int .i64 n)).heap[j]?=w.heap[j]?:=fun j f=>zZ _ _ _ _ f
 have u:(w.setCell ⟨gb,i*4+3,none⟩ (.int .i64 n)).heap.size=w.heap.size:=by simp [World.setCell]
 have hB:=(G.rn.lt gb l).1;have V:∀ (x:Df),x∈R->∀ j,x.J j->j≠gb:=fun x hx j f e=>(G.own x hx j f).1 (by rw [e];exact l)
 have hm:∀ x∈R.set i (R[i].Fv n),∃ y∈R,x.J=y.J/\x.q=y.q/\x.r=y.r/\x.m=y.m/\x.s=y.s/\x.k<=x.s.size:=fun x hx=>by
  rcases Ic hx with rfl | ⟨j,f,_,rfl⟩
  ·exact ⟨R[i],yD hi,rfl,rfl,rfl,rfl,rfl,X⟩
  ·exact ⟨R[j],yD f,rfl,rfl,rfl,rfl,rfl,(G.each _ (yD f)).2.1⟩
 refine ⟨h.nine (n:=k) ⟨by rw [u];exact zE _,fun j _ Y=>d j fun e=>Y (Or.inl (by rw [e];exact hx.1))⟩ (fun _ _=>rfl) (h.inv.row.of_block (d gW fun e=>by have h1:=h.inv.rW;rw [e] at h1;have:=hx.1;omega)) ⟨rfl,rfl,rfl,rfl,rfl,rfl,rfl,rfl⟩ ⟨rfl,rfl⟩ (by show s.CX<=_;omega) zL F rfl (fun g l=>d g fun e=>?_) ?_ (by rw [vU];exact h.rl) h.tl (fun j f=>h.x9 j ?_),zB.setCell hB _⟩
 ·rcases l with l | l
  ·exact hx.2.2.1 (by rw [<- e];exact l)
  ·exact hx.2.2.2 (by rw [<- e];exact l)
 ·refine ⟨?_,EP G.tx fun g E=>d g fun e=>Ij G.tx G.rn zD E (by rw [e];exact l),fun x hx=>?_,?_,fun x hx j f=>?_,fun t A=>(G.KT t A).same (by rw [u];exact zE _) (d t.b fun e=>(G.off t A).2.1 (by rw [e];exact l)),fun t A=>⟨fun x hx f=>?_,(G.off t A).2⟩⟩
  ·rw [vU,Wv hi n];exact gS G.rn l (by rw [ia];omega) _
  ·obtain ⟨y,o,p,N,O,P,Q,U⟩:=hm x hx;rw [p,N,O,P];exact ⟨(G.each y o).1.same (by rw [u];exact zE _) fun j f=>d j (V y o j f),U,by rw [Q];exact (G.each y o).2.2⟩
  ·refine AO.2 fun a b L M W j h1 h2=>?_
   have v:a<R.length:=by simpa using L
   have z:b<R.length:=by simpa using M
   have e:∀ c (hc:c<(R.set i (R[i].Fv n)).length) (D:c<R.length),(R.set i (R[i].Fv n))[c].J=R[c].J:=fun c hc D=>by
    by_cases I:i=c
    ·subst I;rw [jT];rfl
    ·rw [jB I]
   rw [e a L v] at h1;rw [e b M z] at h2;exact G.two v z zO h1 h2
  ·obtain ⟨y,o,p,_⟩:=hm x hx;rw [p] at f;exact G.own y o j f
  ·obtain ⟨y,o,p,_⟩:=hm x hx;rw [p] at f;exact (G.off t A).1 y o f
 ·rcases f with e | e | ⟨x,hx,e⟩ | e
  ·exact Or.inl e
  ·exact Or.inr (Or.inl e)
  ·obtain ⟨y,o,p,_⟩:=hm x hx;rw [p] at e;exact Or.inr (Or.inr (Or.inl ⟨y,o,e⟩))
  ·exact Or.inr (Or.inr (Or.inr e))
theorem ic(s:Aj)(v:Value)(i:Nat)(hi:i<9):(if i=3 then v else fld s i)=fld { s with DZ:=v,still:=[] } i:=by
 have:i=0\/i=1\/i=2\/i=3\/i=4\/i=5\/i=6\/i=7\/i=8:=zO;rcases this with rfl | rfl | rfl | rfl | rfl | rfl | rfl | rfl | rfl <;> simp [fld]
theorem LJ.open_{R:List Df}{T:List Cy}(h:LJ B gW H C S k R T ρ s w)(Z:k+1<=3000000)(x:Df)(U:Below w.heap.size w w1)(X:PD B w1 x.q x.r x.m x.J/\x.k<=x.s.size/\x.s.size<=1048576)(p:∀ j,x.J j->w.heap.size<=j){g cap:Nat}
  (o:w1.grownBy w2 s.DZ.ownBlock) (L:w2.ownsRow B 182 4 (.slice (some ⟨g,0,none⟩) (R.length+1) cap) (R.length+1) (R.flatMap Df.cells++x.cells)) (M:s.DZ.ownBlock=some g\/w1.heap.size<=g) :
  ∃ ρ' s',LJ B gW H C S (k+1) (R++[x]) T ρ' s' (w2.setCell ⟨gW,3,none⟩ (.slice (some ⟨g,0,none⟩) (R.length+1) cap))/\(∀ j,j<w.heap.size->ρ' j=ρ j)/\Below B w (w2.setCell ⟨gW,3,none⟩ (.slice (some ⟨g,0,none⟩) (R.length+1) cap))/\∀ j,j<w.heap.size->¬ RN s.DZ s.Ec R T j->j≠gW->(w2.setCell ⟨gW,3,none⟩ (.slice (some ⟨g,0,none⟩) (R.length+1) cap)).heap[j]?=w.heap[j]?:=by
 classical
 obtain ⟨v,hv⟩:=qe (Value.slice (some ⟨g,0,none⟩) (R.length+1) cap);have D:v.ownBlock=some g:=by rw [hv];rfl
 rw [<- hv] at L |-;have G:=h.Kt;have a1:=h.inv.rW;have Y:=h.inv.row.lt;have s1:=U.size;have s2:=o.size;have Q:s.DZ.ownBlock≠some gW:=fun e=>by have:=(h.x9 gW (Or.inl e)).1;omega
 have F:∀ j,j<w1.heap.size->s.DZ.ownBlock≠some j->j≠gW->(w2.setCell ⟨gW,3,none⟩ v).heap[j]?=w1.heap[j]?:=fun j c h1 h2=>by
  rw [zZ _ _ _ _ h2];exact o.block j c (zY h1)
 have d:∀ j,j<w.heap.size->s.DZ.ownBlock≠some j->j≠gW->(w2.setCell ⟨gW,3,none⟩ v).heap[j]?=w.heap[j]?:=fun j c h1 h2=>(F j zO h1 h2).trans (U.block j c)
 have N:w.heap.size<=(w2.setCell ⟨gW,3,none⟩ v).heap.size:=by simp [World.setCell];omega
 have P:w1.heap.size<=(w2.setCell ⟨gW,3,none⟩ v).heap.size:=by simp [World.setCell];omega
 have O:g≠gW:=fun e=>by
  rcases M with l | l
  ·exact Q (by rw [<- e];exact l)
  ·omega
 have u:∀ j,j<w.heap.size->j=g->s.DZ.ownBlock=some j:=fun j c e=>by
  rcases M with l | l
  ·rw [e];exact l
  ·omega
 have hρ:∀ j,j<w.heap.size->(fun j=>if w.heap.size<=j/\(j=g\/x.J j) then 9 else ρ j) j=ρ j:=fun j c=>zA (fun e=>zO)
 have E:∀ j,x.J j->j<w1.heap.size:=fun j c=>(X.1.at_ c).2
 have W:∀ j,x.J j->j≠g:=fun j c e=>by
  have h1:=p j c;have h2:=E j c;rcases M with l | l
  ·have:=Bj G.rn l;omega
  ·omega
 refine ⟨fun j=>if w.heap.size<=j/\(j=g\/x.J j) then 9 else ρ j,{ s with DZ:=v,still:=[] },h.nine (n:=k+1) ⟨N,fun j c hr=>d j c (fun e=>hr (Or.inl (h.x9 j (Or.inl e)).1)) (fun e=>hr (Or.inr (by rw [e];exact a1)))⟩ hρ ?_ ⟨rfl,rfl,rfl,rfl,rfl,rfl,rfl,rfl⟩ ⟨rfl,rfl⟩ (by show s.CX<=_;omega) zO Z rfl (fun j c=>?_) ?_ (by rw [zI];have:=h.rl;show R.length+1<=_;omega) (by have:=h.tl;omega) ?_,hρ,?_,fun j c hn a0=>d j c (fun e=>hn (Or.inl e)) a0⟩
 ·exact ((h.inv.row.of_block ((o.block gW zO (zY Q)).trans (U.block gW Y))).set 3 v).congr (fun i hi=>ic s v i hi)
 ·rcases c with e | e
  ·exact d j (Bj h.cs.1 e) (fun l=>(h.x9 j (Or.inl l)).2.2.1 e) (fun l=>by have:=h.cs.2 j e;rw [l] at this;omega)
  ·exact d j (Bj h.ss.1 e) (fun l=>(h.x9 j (Or.inl l)).2.2.2 e) (fun l=>by have:=h.ss.2 j e;rw [l] at this;omega)
 ·refine ⟨?_,?_,fun y f=>?_,?_,fun y f j c=>?_,fun t A=>?_,fun t A=>⟨fun y f c=>?_,?_,(G.off t A).2.2⟩⟩
  ·show World.ownsRow _ B _ 4 v (R++[x]).length ((R++[x]).flatMap Df.cells);rw [zI,AX];have e1:[x].flatMap Df.cells=x.cells:=zS;rw [e1];exact EP L fun j c=>by
    rw [D] at c;injection c with c
    exact zZ _ _ _ _ (by rw [<- c];exact O)
  ·exact EP G.tx fun j c=>d j (Bj G.tx c) (Ij G.tx G.rn zD c) (fun e=>by have:=(h.x9 j (Or.inr (Or.inl c))).1;rw [e] at this;omega)
  ·rcases yW.1 f with f | f
   ·have V:=G.each y f;exact ⟨V.1.same N fun j c=>d j (V.1.at_ c).2 (G.own y f j c).1 (fun e=>by have:=(h.x9 j (Or.inr (Or.inr (Or.inl ⟨y,f,c⟩)))).1;rw [e] at this;omega),V.2⟩
   ·rw [yY.1 f];exact ⟨X.1.same P fun j c=>F j (E j c) (fun e=>by have:=Bj G.rn e;have:=p j c;omega) (fun e=>by have:=p j c;omega),X.2⟩
  ·refine List.pairwise_append.2 ⟨G.apart,List.pairwise_singleton _ _,fun a ha b hb j h1 h2=>?_⟩;rw [yY.1 hb] at h2;have:=((G.each a ha).1.at_ h1).2;have:=p j h2;omega
  ·show v.ownBlock≠some j/\s.Ec.ownBlock≠some j;rw [D];rcases yW.1 f with f | f
   ·refine ⟨fun e=>?_,(G.own y f j c).2⟩;injection e with e
    exact (G.own y f j c).1 (u j ((G.each y f).1.at_ c).2 e.symm)
   ·rw [yY.1 f] at c;exact ⟨fun e=>by injection e with e;exact W j c e.symm,fun e=>by have:=Bj G.tx e;have:=p j c;omega⟩
  ·exact (G.KT t A).same N (d t.b (G.KT t A).2.1 (G.off t A).2.1 (fun e=>by have:=(h.x9 t.b (Or.inr (Or.inr (Or.inr ⟨t,A,rfl⟩)))).1;rw [e] at this;omega))
  ·rcases yW.1 f with f | f
   ·exact (G.off t A).1 y f c
   ·rw [yY.1 f] at c;have:=(G.KT t A).2.1;have:=p _ c;omega
  ·show v.ownBlock≠some t.b;rw [D];intro e;injection e with e
   exact (G.off t A).2.1 (u t.b (G.KT t A).2.1 e.symm)
 ·intro j c;have hH:=h.hH;have I:w.heap.size<=j->(j=g\/x.J j)->(fun j=>if w.heap.size<=j/\(j=g\/x.J j) then 9 else ρ j) j=9/\H<=j/\s.vcs.ownBlock≠some j/\s.GQ.ownBlock≠some j:=fun h1 h2=>⟨zC ⟨h1,h2⟩,zO,fun e=>by have:=Bj h.cs.1 e;omega,fun e=>by have:=Bj h.ss.1 e;omega⟩
  have z:RN s.DZ s.Ec R T j->(fun j=>if w.heap.size<=j/\(j=g\/x.J j) then 9 else ρ j) j=9/\H<=j/\s.vcs.ownBlock≠some j/\s.GQ.ownBlock≠some j:=fun hk=>by
   rw [hρ j (G.lt hk)];exact h.x9 j hk
  rcases c with e | e | ⟨y,f,e⟩ | ⟨t,A,e⟩
  ·have l:v.ownBlock=some j:=e;rw [D] at l;injection l with l
   by_cases hl:j<w.heap.size
   ·exact z (Or.inl (u j hl l.symm))
   ·exact I zO (Or.inl l.symm)
  ·exact z (Or.inr (Or.inl e))
  ·rcases yW.1 f with f | f
   ·exact z (Or.inr (Or.inr (Or.inl ⟨y,f,e⟩)))
   ·rw [yY.1 f] at e;exact I (p j e) (Or.inr e)
  ·exact z (Or.inr (Or.inr (Or.inr ⟨t,A,e⟩)))
 ·exact (U.mono h.inv.hB).trans (((zF B w1).grown o (zG h.inv.hB s1) (fun j c=>(G.rn.lt j c).1)).setCell h.inv.gB _)
open Go.RowKit Go.Deep
theorem Mr:prog.cellsOf 42=7:=zK
theorem Yj{H:Type}{enc:TypeId×Value->H}{W:World}{base:Nat}{spare:Nat->Bool}{held:Bool}{cs:List Value}{x:DataW H×List MemPlace}(h:DataW.trod enc prog W base spare held n 42 cs=some x) :
  ∃ c:Gm,cs=[.int .i64 c.fm, .int .i64 c.out, .int .i64 c.ratio, .int .i64 c.CH, .int .i64 c.mem, .int .i64 c.lim, .int .i64 c.steps]/\Kv c.fm/\Kv c.out/\Kv c.ratio/\Kv c.CH/\Kv c.mem/\Kv c.lim/\Kv c.steps:=by
 obtain ⟨u,k,hk,v,hlen,d,a⟩:=BG underlying42 h;rw [Mr] at hlen;have b:u.length=7:=d;match u,b,cs,hlen with
 | [y0,y1,y2,y3,y4,y5,y6],_,[v0,v1,v2,v3,v4,v5,v6],_=>
  have g0:=a 0 _ rfl;have p:=a 1 _ rfl;have g2:=a 2 _ rfl;have q:=a 3 _ rfl;have r:=a 4 _ rfl;have s:=a 5 _ rfl;have t:=a 6 _ rfl;simp [Ms] at g0 p g2 q r s t;obtain ⟨z0,e,_,w⟩:=xF underlying3 g0;obtain ⟨C,f,_,w1⟩:=xF underlying3 p;obtain ⟨z2,g,_,w2⟩:=xF underlying3 g2;obtain ⟨z3,i,_,y⟩:=xF underlying3 q;obtain ⟨z4,j,_,z⟩:=xF underlying3 r;obtain ⟨z5,l,_,A⟩:=xF underlying3 s;obtain ⟨D,o,_,B⟩:=xF underlying3 t;simp at e f g i j l o;exact ⟨⟨z0,C,z2,z3,z4,z5,D⟩,by rw [e,f,g,i,j,l,o],Jz w,Jz w1,Jz w2,Jz y,Jz z,Jz A,Jz B⟩
end Go.Proofs.YtbcjmakpempkiaaGreatDoor
