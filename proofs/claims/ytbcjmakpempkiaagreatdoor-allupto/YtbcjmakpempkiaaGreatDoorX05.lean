import Derived.Test.YtbcjmakpempkiaaGreatDoorX01
import Derived.Test.YtbcjmakpempkiaaGreatDoorX02
import Derived.Test.YtbcjmakpempkiaaGreatDoorX03
set_option maxRecDepth 100000
set_option maxHeartbeats 8000000
set_option linter.all false
namespace Go.Proofs.YtbcjmakpempkiaaGreatDoor
variable {B b c g i k n p r sz:Nat} {a1 v v1 va va' vo vo' vs:Value} {X a w w' w1:World} {t t' t0 t1 t2:Tr} {ad ad':Option Addr} {S:CF} {l:List Int} {o:Obj} {xs:List Value}
open Go.Proofs.Tryz
open Go.RowKit
structure EH(B p:Nat)(vo va vs vo' va':Value)(t':Tr)(w w':World):Prop where
 inv:Ft B p vo' va' vs t' w'
 size:w.heap.size<=w'.heap.size
 nO:∀ k,k<w.heap.size->k≠p->vo.ownBlock≠some k->va.ownBlock≠some k->w'.heap[k]?=w.heap[k]?
 no:∀ g,vo'.ownBlock=some g->vo.ownBlock=some g\/w.heap.size<=g
 na:∀ g,va'.ownBlock=some g->va.ownBlock=some g\/w.heap.size<=g
 bel:Below B w w'
theorem Kept.Dt(h:Kept B p vo va vs t' w w'):EH B p vo va vs vo va t' w w':=⟨h.inv,h.kp.size,fun k hk hp _ _=>h.kp.block k hk hp,fun _ a=>Or.inl a,fun _ a=>Or.inl a,h.bel⟩
theorem EH.trans{v2 a2:Value}{b c:World}(h:EH B p vo va vs v1 a1 t1 a b)(k:EH B p v1 a1 vs v2 a2 t2 b c):EH B p vo va vs v2 a2 t2 a c where
 inv:=k.inv
 size:=zG h.size k.size
 nO:=fun i hi hp ho j=>by
  rw [k.nO i (zM hi h.size) hp (fun e=>?_) (fun e=>?_)]
  ·exact h.nO i hi hp ho j
  ·rcases h.no i e with d | d
   ·exact ho d
   ·omega
  ·rcases h.na i e with d | d
   ·exact j d
   ·omega
 no:=fun g f=>by
  rcases k.no g f with d | d
  ·exact h.no g d
  ·exact Or.inr (zG h.size d)
 na:=fun g f=>by
  rcases k.na g f with d | d
  ·exact h.na g d
  ·exact Or.inr (zG h.size d)
 bel:=h.bel.trans k.bel
theorem EH.then{b c:World}(h:EH B p vo va vs v1 a1 t1 a b)(k:Kept B p v1 a1 vs t2 b c):EH B p vo va vs v1 a1 t2 a c:=h.trans k.Dt
theorem Ku(h:Below w.heap.size w X)(hk:k<w.heap.size):X.heap[k]?=w.heap[k]?:=h.block k hk
theorem Ft.iW(h:Ft B p vo va vs t w)(l:Below w.heap.size w X)(r:X.grownBy w1 vo.ownBlock)(a:vo.ownBlock=some g\/w.heap.size<=g)
  (D:n=t.out.length+1) (q:w1.ownsRow B 5 1 (.slice (some ⟨g,0,none⟩) n c) n (EJ t.out++[.int .u8 b])) :
  EH B p vo va vs (.slice (some ⟨g,0,none⟩) n c) va { t with out:=t.out++[b] } w (w1.setCell ⟨p,0,none⟩ (.slice (some ⟨g,0,none⟩) n c)):=by
 have A:=zG l.size r.size;have z:=h.row.lt;have o:∀ k,k<w.heap.size->vo.ownBlock≠some k->w1.heap[k]?=w.heap[k]?:=fun k hk y=>
  (r.block k (zM hk l.size) (fun e=>y e.symm)).trans (Ku l hk)
 have i:Kp (fun k=>k=p\/vo.ownBlock=some k) (fun k=>k) w (w1.setCell ⟨p,0,none⟩ (.slice (some ⟨g,0,none⟩) n c)):=⟨by simpa [World.setCell] using A,fun k hk d=>by
   rw [zZ _ _ _ _ (fun e=>d (Or.inl e))];exact o k hk (fun e=>d (Or.inr e))⟩
 have u:g≠p:=by
  rcases a with e | e
  ·intro f;subst f;exact h.po e
  ·omega
 have s:va.ownBlock≠some g:=by
  rcases a with e | e
  ·exact h.oa g e
  ·intro f;have:=(h.Br.lt g f).2;omega
 have v:vs.ownBlock≠some g:=by
  rcases a with e | e
  ·exact h.os g e
  ·intro f;have:=(h.Ua.lt g f).2;omega
 refine ⟨⟨h.pB,zG h.hB i.size,?_,?_,?_,?_,?_,h.pa,h.ps,?_,?_,h.sa⟩,i.size,?_,?_,fun x hx=>Or.inl hx,?_⟩
 ·refine ((h.row.of_block (o p z h.po)).set 0 _).congr ?_;intro j E;revert j
  exact Ep rfl rfl rfl rfl rfl rfl rfl rfl rfl rfl rfl rfl rfl
 ·have e:EJ (t.out++[b])=EJ t.out++[.int .u8 b]:=by simp [EJ]
  have C:(t.out++[b]).length=n:=by simp [D]
  show World.ownsRow _ _ _ _ _ (t.out++[b]).length (EJ (t.out++[b]));rw [e,C];exact As (R:=fun k=>k=p) (ρ:=fun k=>k) q ⟨by simp [World.setCell],fun k _ hk=>zZ _ _ _ _ hk⟩ (fun x hx=>by simp [Value.ownBlock] at hx;omega)
 ·exact As h.Br i (fun x hx d=>by
   rcases d with e | e
   ·exact h.pa (by rw [hx,e])
   ·exact h.oa x e hx)
 ·exact As h.Ua i (fun x hx d=>by
   rcases d with e | e
   ·exact h.ps (by rw [hx,e])
   ·exact h.os x e hx)
 ·simp [Value.ownBlock];exact u
 ·intro x hx;simp [Value.ownBlock] at hx;subst hx;exact s
 ·intro x hx;simp [Value.ownBlock] at hx;subst hx;exact v
 ·intro k hk hp ho _;exact i.block k hk (fun d=>by
   rcases d with e | e
   ·exact hp e
   ·exact ho e)
 ·intro x hx;simp [Value.ownBlock] at hx;subst hx;exact a
 ·have hB:=h.hB;exact ((l.mono hB).grown r (zG hB l.size) (fun x hx=>(h.out.lt x hx).1)).setCell h.pB _
theorem Ft.mK(h:Ft B p vo va vs t w)(l:Below w.heap.size w X)(r:X.grownBy w1 va.ownBlock)(a:va.ownBlock=some g\/w.heap.size<=g)
  (D:n=t.Br.length+1) (q:w1.ownsRow B 3 1 (.slice (some ⟨g,0,none⟩) n c) n (GD t.Br++[.int .i64 b])) :
  EH B p vo va vs vo (.slice (some ⟨g,0,none⟩) n c) { t with Br:=t.Br++[b] } w (w1.setCell ⟨p,1,none⟩ (.slice (some ⟨g,0,none⟩) n c)):=by
 have A:=zG l.size r.size;have z:=h.row.lt;have o:∀ k,k<w.heap.size->va.ownBlock≠some k->w1.heap[k]?=w.heap[k]?:=fun k hk y=>
  (r.block k (zM hk l.size) (fun e=>y e.symm)).trans (Ku l hk)
 have i:Kp (fun k=>k=p\/va.ownBlock=some k) (fun k=>k) w (w1.setCell ⟨p,1,none⟩ (.slice (some ⟨g,0,none⟩) n c)):=⟨by simpa [World.setCell] using A,fun k hk d=>by
   rw [zZ _ _ _ _ (fun e=>d (Or.inl e))];exact o k hk (fun e=>d (Or.inr e))⟩
 have u:g≠p:=by
  rcases a with e | e
  ·intro f;subst f;exact h.pa e
  ·omega
 have s:vo.ownBlock≠some g:=by
  rcases a with e | e
  ·exact fun f=>h.oa g f e
  ·intro f;have:=(h.out.lt g f).2;omega
 have v:vs.ownBlock≠some g:=by
  rcases a with e | e
  ·exact h.sa g e
  ·intro f;have:=(h.Ua.lt g f).2;omega
 refine ⟨⟨h.pB,zG h.hB i.size,?_,?_,?_,?_,h.po,?_,h.ps,?_,h.os,?_⟩,i.size,?_,fun x hx=>Or.inl hx,?_,?_⟩
 ·refine ((h.row.of_block (o p z h.pa)).set 1 _).congr ?_;intro j E;revert j
  exact Ep rfl rfl rfl rfl rfl rfl rfl rfl rfl rfl rfl rfl rfl
 ·exact As h.out i (fun x hx d=>by
   rcases d with e | e
   ·exact h.po (by rw [hx,e])
   ·exact h.oa x hx e)
 ·have e:GD (t.Br++[b])=GD t.Br++[.int .i64 b]:=by simp [GD]
  have C:(t.Br++[b]).length=n:=by simp [D]
  show World.ownsRow _ _ _ _ _ (t.Br++[b]).length (GD (t.Br++[b]));rw [e,C];exact As (R:=fun k=>k=p) (ρ:=fun k=>k) q ⟨by simp [World.setCell],fun k _ hk=>zZ _ _ _ _ hk⟩ (fun x hx=>by simp [Value.ownBlock] at hx;omega)
 ·exact As h.Ua i (fun x hx d=>by
   rcases d with e | e
   ·exact h.ps (by rw [hx,e])
   ·exact h.sa x e hx)
 ·simp [Value.ownBlock];exact u
 ·intro x hx;simp [Value.ownBlock];exact fun e=>s (by rw [hx,e])
 ·intro x hx;simp [Value.ownBlock] at hx;subst hx;exact v
 ·intro k hk hp _ ha;exact i.block k hk (fun d=>by
   rcases d with e | e
   ·exact hp e
   ·exact ha e)
 ·intro x hx;simp [Value.ownBlock] at hx;subst hx;exact a
 ·have hB:=h.hB;exact ((l.mono hB).grown r (zG hB l.size) (fun x hx=>(h.Br.lt x hx).1)).setCell h.pB _
theorem Nq:(prog.info? 5).map (fun i=>(i.zero,i.size,i.bytes))=some (some (.int .u8 0),1,1):=zK
theorem eZ(b:Nat)(w:World)(h:Ft B p vo va vs t w)(Y:t.out.length<=1000000000000)(X:t.Br.length<=1000000000000) :
  Calls prog 212 #[.pointer (some ⟨p,0,none⟩), .int .u8 b] w fun x O=>x= .returned (.tuple #[])/\∃ N M,EH B p vo va vs N M (t.put b) w O:=by
 have A:=hid h;have u:=h.row.lt;have W:=h.hB;have P:w.cell? ⟨p,0,none⟩=some vo:=h.row.cell (i:=0) zO;have Q:=h.row.frozen 0;have z:=h.out;have v:=h.po;clear h;obtain ⟨i5,D,F,G,H⟩:=yM Nq;obtain ⟨i3,C,I,J,L⟩:=yM Gf;cases hd:t.ended
 ·rw [Tr.CG hd];go_enter func212,ntmps212
  go_upto_region 2 with (first | (go_at_call 182;refine (Bc _ A.out).mono ?_;rw [hd];rintro e O ⟨rfl,rfl⟩) | (at_builtin;refine xC _ rfl _ _ 34 rfl B 5 i5 (.int .u8 0) 1 1 underlying34 D F G H rfl zD vo t.out.length (EJ t.out) rfl (z.alloc _) ⟨w.heap.size,0,none⟩ 1 1 [.int .u8 b] rfl rfl (yX _ _ _) (by simp [Value.oneCell']) zO (by unfold maxLen;omega) zO (by simp;omega) (w.heap.size+1) zS ?_;intro V p1 w1 f a g r;have Z:=Fh a u v P;have z0:=Fk a u v Q))
  have d:=A.out.iW (zB.alloc zL _) a (g.imp id (fun e=>zO)) rfl f;obtain ⟨v1,y⟩:=qe (Value.slice (some ⟨V,0,none⟩) (t.out.length+1) p1);rw [<- y] at d |-;obtain ⟨l,o⟩:=qe (w1.setCell ⟨p,0,none⟩ v1);rw [<- o] at d |-;have n:=hid d;have c1:l.cell? ⟨p,1,none⟩=some va:=d.inv.row.cell (i:=1) zO;have c2:l.cell? ⟨p,2,none⟩=some (.int .i64 t.Aw):=d.inv.row.cell (i:=2) zO;have U:=d.inv.row.frozen 1;have E:l.ownsRow B 3 1 va t.Br.length (GD t.Br):=d.inv.Br;have s:=d.inv.pa;have j:=d.inv.row.lt;have R:=d.inv.hB;clear y o d Z z0 f a g r P Q z;go_region_law
   ((refine xY _ (by rfl) _ _ _ (by rfl) B 3 i3 _ 1 8 underlying69 C I J L rfl zO va t.Br.length (GD t.Br) (by rfl) ((E.alloc _).drew) ⟨l.heap.size,0,none⟩ 1 1 [.int .i64 t.Aw] (by rfl) (by rfl) (yX l _ _) (by simp [Value.oneCell']) zO (by unfold maxLen;omega) zO (by simp;omega) (l.heap.size+1) zS ?_;intro g2 p2 w2 k c q S;have k1:=SF c j s c1;have z1:=TA c j s U))
  all_goals go_wp2_with fail
  all_goals go_end0
  all_goals
   have T:=n.out.inv.mK (b:=t.Aw) ((zB.alloc zL _).drew) c (q.imp id (fun e=>zO)) rfl k;exact ⟨rfl,_,_,n.out.trans T⟩
 ·rw [Tr.FO hd];go_enter func212,ntmps212
  go_wp2_with (go_at_call 182;refine (Bc _ A.out).mono ?_;rw [hd];rintro e O ⟨rfl,rfl⟩)
  go_end0
  exact ⟨rfl,_,_,(Kept.refl A.out).Dt⟩
def ED(S:CF)(ad:Option Addr)(cap:Nat)(ad':Option Addr)(cap':Nat):Array Value:=#[.slice ad S.l.length cap, .slice ad' S.l.length cap', .int .i64 S.many, .bool S.one]
structure JZ(w:World)(S:CF)(ad ad':Option Addr):Prop where
 len:Ap w ad S.l
 fB:Ap w ad' (FR S.l S.l.length)
theorem JZ.below(h:JZ w S ad ad')(a:Below w.heap.size w w'):JZ w' S ad ad':=⟨h.len.below a zL,h.fB.below a zL⟩
theorem TY{n c:Int}(h:l.getD i 0=n/\rv l i=c):findFrom l n c (r+1) i=i:=by simp only [findFrom];rw [zC h]
theorem KY{n c:Int}(h:¬ (l.getD i 0=n/\rv l i=c)):findFrom l n c (r+1) i=findFrom l n c r (i+1):=by rw [findFrom,zA h]
theorem Ap.mN(h:Ap w ad l)(hk:k<l.length):∃ b o x,ad=some ⟨b,o,none⟩/\b<w.heap.size/\w.cell? ⟨b,o+k,none⟩=some (.int .i64 x)/\Hid (l[k]=x):=by
 obtain ⟨b,o,e,a,hc⟩:=h k hk;exact ⟨b,o,l[k],e,a,by rw [hc];simp [hk],show l[k]=l[k] from rfl⟩
theorem ax(h:k<(FR l l.length).length):(FR l l.length)[k]=rv l k:=by simp [FR]
theorem cJ(S:CF)(ad ad':Option Addr)(cap a:Nat)(n c:Int)(w:World)(h:JZ w S ad ad')(hl:S.l.length<=1000000) :
  Calls prog 221 #[.agg (ED S ad cap ad' a), .int .i64 n, .int .i64 c] w fun e I=>e= .returned (.int .i64 (find S n c))/\Below w.heap.size w I:=by
 have u:=hid h;have t:Hid (Below w.heap.size w (w.alloc (.cells #[.slice ad S.l.length cap, .slice ad' S.l.length a, .int .i64 S.many, .bool S.one] 273))):=zB.alloc zL _;clear h;unfold ED;go_enter func221,ntmps221
 go_wp2_with fail
 go_loop [7] (fun i=>∃ k:Nat,k<=S.l.length/\i= .int .i64 k/\findFrom S.l n c (S.l.length - k) k=find S n c) (fun i=>S.l.length - (intOf i).toNat)
 case atStart=>exact ⟨0,zH _,rfl,rfl⟩
 case round=>
  obtain ⟨k,hk,rfl,B⟩:=hrel;have q:=hid B;clear B;by_cases f:k<S.l.length
  ·have g:S.l.length - k=(S.l.length - (k+1))+1:=zO;have d:k<(FR S.l S.l.length).length:=by rw [FP];exact f
   obtain ⟨b,o,x,G,H,L,hx⟩:=u.out.len.mN f;obtain ⟨J,M,y,s,A,g2,C⟩:=u.out.fB.mN d;have j:S.l.getD k 0=x:=by rw [<- hx.out];simp [f]
   have p:rv S.l k=y:=by rw [<- C.out];exact (ax d).symm
   have v:=hid j;have z:=hid p;have r:=hid g;subst G s;clear hx C j p g d;by_cases h1:x=n
   ·subst h1;by_cases h2:y=c
    ·subst h2;go_wp2
     go_ret
     exact ⟨by rw [<- q.out,r.out,TY ⟨v.out,z.out⟩];rfl,t.out⟩
    ·have F:(y==c)=false:=by simpa using h2
     go_wp2_with fail
     go_round
     case rel=>exact ⟨k+1,zO,by go_num,by rw [<- q.out,r.out,KY (fun e=>h2 (by rw [<- z.out,e.2]))]⟩
     case measure=>simp [intOf];omega
   ·have E:(x==n)=false:=by simpa using h1
    go_wp2_with fail
    go_round
    case rel=>exact ⟨k+1,zO,by go_num,by rw [<- q.out,r.out,KY (fun e=>h1 (by rw [<- v.out,e.1]))]⟩
    case measure=>simp [intOf];omega
  ·obtain rfl:k=S.l.length:=zO;have e:=q.out;rw [kX] at e;have D:Hid (find S n c= -1):=by show find S n c= -1;rw [<- e];rfl
   clear e;go_wp2
   go_ret
   exact ⟨by rw [D.out];rfl,t.out⟩
theorem DN(S:CF)(ad ad':Option Addr)(cap a:Nat):(prog.info? 273).map (·.size)=some (ED S ad cap ad' a).size:=zK
theorem GF(S:CF)(ad ad':Option Addr)(cap a:Nat):(ED S ad cap ad' a).all (·.oneCell')=true:=by simp [ED,Value.oneCell']
def Fl(n:Nat)(ad:Option Addr):Prop:=∀ b o f,ad=some ⟨b,o,f⟩->n<=b
theorem Ap.Ih(h:Ap w ad l)(hs:w.heap.size<=w'.heap.size)(c:∀ b o f,ad=some ⟨b,o,f⟩->b<w.heap.size->w'.heap[b]?=w.heap[b]?):Ap w' ad l:=fun k hk=>by
 obtain ⟨b,o,e,a,hc⟩:=h k hk;exact ⟨b,o,e,zM a hs,by rw [yV (w:=w) (c b o none e a),hc]⟩
theorem Xj{e:TypeId}{m cap:Nat}(h:w.ownsRow B e sz (.slice ad m cap) n xs):Fl B ad:=fun b o f a=>by
 subst a;exact (h.lt b rfl).1
theorem MX(ad:Option Addr)(cap:Nat)(l:List Int)(w:World)(hl:l.length<=269)(hc:Ap w ad l)(t:Ae l=true) :
  Calls prog 213 #[.slice ad l.length cap] w fun e u=>∃ ad' a,e= .returned (.agg (ED (Ax l) ad cap ad' a))/\JZ u (Ax l) ad ad'/\Fl w.heap.size ad'/\Below w.heap.size w u:=by
 have p:Hid (Below w.heap.size w (w.alloc (.cells #[.slice none 0 0, .slice none 0 0, .int .i64 0, .bool false] 273))):=zB.alloc zL _;have k:=hid hc;have q:=hid (hc.below p.out zL);clear hc;go_enter func213,ntmps213
 go_wp2_with fail
 refine (LR ad cap l _ hl q.out t).mono ?_;rintro e w1 ⟨v,rfl,c,d⟩;obtain ⟨ad',a,rfl,h⟩:=OI.cells (w:=w1) (l:=FR l l.length) (by rw [OI,FP];exact c);rw [FP] at *;have s:=Xj c;have g:=hid (q.out.below d zL);have h0:=(d.block _ zS).trans (zJ _ _);have j:=hid h;have i:=hid (Ds p.out d);have r:Hid (Fl (w.heap.size+1) ad'):=fun b o f e=>by have:=s b o f e;simp at this;omega
 clear c h d s;go_wp2_with fail
 refine (KF ad cap l _ hl g.out).mono ?_;rintro e w2 ⟨rfl,rfl⟩;go_wp2_with fail
 refine (Hs ad cap l _ hl g.out t).mono ?_;rintro e w2 ⟨rfl,rfl⟩;have hs:=xK w1 w.heap.size _ (ED (Ax l) ad cap ad' a) 273 _ h0;go_wp2_with (refine yS rfl 273 _ _ rfl _ (ED (Ax l) ad cap ad' a) rfl rfl 273 _ h0 (DN _ _ _ _ _) rfl (GF _ _ _ _ _) ?_)
 refine zX (v:= .agg (ED (Ax l) ad cap ad' a)) ?_ ?_ ?_
 ·exact xH results213 _ _ _ 273 _ _ _ rfl hs underlying273 rfl (DN _ _ _ _ _)
 ·rfl
 ·have n:=xN i.out zL (ED (Ax l) ad cap ad' a);refine ⟨ad',a,rfl,⟨k.out.below n zL,j.out.Ih (by simp [World.setRow]) (fun b o f e _=>xD w1 w.heap.size b _ (by have:=r.out b o f e;omega))⟩,fun b o f e=>by have:=r.out b o f e;omega,n⟩
theorem Ft.below(h:Ft B p vo va vs t w)(a:Below w.heap.size w w'):Ft B p vo va vs t w':=h.nu (Dv.Bk a) rfl rfl rfl (h.row.of_block (a.block p h.row.lt))
theorem Kept.below{b c:World}(h:Kept B p vo va vs t a b)(d:Below b.heap.size b c):Kept B p vo va vs t a c:=⟨h.inv.below d,h.kp.trans (Dv.Bk d),h.bel.trans (d.mono h.inv.hB)⟩
def WY(p:Nat)(ad:Option Addr):Prop:=∀ b o f,ad=some ⟨b,o,f⟩->b≠p
theorem Ap.JJ(h:Ap w ad l)(hk:Dv p w w')(ho:WY p ad):Ap w' ad l:=h.Ih hk.size (fun b o f e a=>hk.block b a (ho b o f e))
theorem JZ.JJ(h:JZ w S ad ad')(hk:Dv p w w')(ho:WY p ad)(a:WY p ad'):JZ w' S ad ad':=⟨h.len.JJ hk ho,h.fB.JJ hk a⟩
theorem Tr.Sr(h:t.bit.2.ended=true):Tr.sym S (r+1) n c t=(-1,t.bit.2):=by rw [Tr.sym,zC h]
theorem Tr.UL(h:t.bit.2.ended=false)(h2:0<=find S n (2*c+t.bit.1:Nat)):Tr.sym S (r+1) n c t=(find S n (2*c+t.bit.1:Nat),t.bit.2):=by rw [Tr.sym,zA (by rw [h];simp),zC h2]
theorem Tr.gy(h:t.bit.2.ended=false)(h2:¬ 0<=find S n (2*c+t.bit.1:Nat))(h3:S.one=true):Tr.sym S (r+1) n c t=(-1,t.bit.2):=by rw [Tr.sym,zA (by rw [h];simp),zA h2,zC h3]
theorem Tr.eR(h:t.bit.2.ended=false)(h2:¬ 0<=find S n (2*c+t.bit.1:Nat))(h3:S.one=false):Tr.sym S (r+1) n c t=Tr.sym S r (n+1) (2*c+t.bit.1) t.bit.2:=by rw [Tr.sym,zA (by rw [h];simp),zA h2,zA (by rw [h3];simp)]
theorem Tr.bj(t:Tr):t.bit.1<=1:=by show _%2<=1;omega
theorem Mh(S:CF)(ad ad':Option Addr)(cap a:Nat)(w:World)(h:Ft B p vo va vs t w)(hf:t.Ao)(hs:t.s.size<=maxLen)(hS:JZ w S ad ad')(ho:WY p ad)(N:WY p ad')(hl:S.l.length<=1000000) :
  Calls prog 214 #[.pointer (some ⟨p,0,none⟩), .agg (ED S ad cap ad' a)] w fun x X=>x= .returned (.int .i64 (t.symbol S).1)/\Kept B p vo va vs (t.symbol S).2 w X:=by
 have Y:=CL ho N;have HL:=hid hl;have a1:=h.row.lt;obtain ⟨Z,q⟩:=qe (w.alloc (.cells (ED S ad cap ad' a) 273));have Q:Below w.heap.size w Z:=by rw [q];exact zB.alloc zL _
 have u:Z.heap[w.heap.size]?=some (.cells (ED S ad cap ad' a) 273 (0,0)):=by rw [q];exact zJ w _
 have G:=hid ((Kept.refl h).below Q);have H:=hid (hS.below Q);have D:=hid u;have HF:Hid t.Ao:=hf;have HZ:=hid hs;clear h hf hs hS ho N hl Q u;go_enter func214,ntmps214
 go_wp2_with fail
 rw [<- q];clear q;go_loopw [5,6] (fun cs W wr=>∃ (k c:Nat) (t1:Tr),k<=11/\c<=2048/\W= .int .i64 (k+1)/\cs= .int .i64 c/\Hid (c<2^k/\t1.Ao/\t1.s=t.s/\Tr.sym S (11 - k) (k+1) c t1=t.symbol S/\Kept B p vo va vs t1 w wr/\wr.heap[w.heap.size]?=some (.cells (ED S ad cap ad' a) 273 (0,0))/\JZ wr S ad ad')) (fun _ W _=>12 - (intOf W).toNat)
 case atStart=>exact ⟨0,0,t,zO,zO,rfl,rfl,⟨zD,HF.out,rfl,rfl,G.out,D.out,H.out⟩⟩
 case round=>
  obtain ⟨k,c,t1,hk,hc,rfl,rfl,d⟩:=hrel;clear G H D;by_cases a0:k<11
  ·have O:Hid (11 - k=(10 - k)+1):=by show 11 - k=_;omega
   go_wp2_with fail
   refine (eV _ d.out.2.2.2.2.1.inv d.out.2.1 (by rw [d.out.2.2.1];exact HZ.out)).mono ?_;rintro e w1 ⟨rfl,P⟩;have V:=Tr.bj t1;have L:=(P.kp.block _ (Jw d.out.2.2.2.2.2.1) (by show w.heap.size≠p;omega)).trans d.out.2.2.2.2.2.1;have n:=hid L;have C:=hid (d.out.2.2.2.2.2.2.JJ P.kp Y.out.1 Y.out.2);have i:=hid (d.out.2.2.2.2.1.trans P);have F:Hid (2*c+t1.bit.1<2^(k+1)):=by show _<_;rw [yN];have:=d.out.1;omega
   have M:2*c+t1.bit.1<=2048:=by have h1:=F.out;have:2^(k+1)<=2^11:=yP zD zO;omega
   have o:=hid d.out.2.2.2.1;have I:=CL d.out.2.1 d.out.2.2.1;clear P d L;obtain ⟨b,U⟩:=qe t1.bit.1;rw [<- U] at V M |-;have v:=hid U;clear U;cases he:t1.bit.2.ended
   ·have y:=hid he;clear he;go_wp2_with (first | (go_at_call 182;refine (Bc _ i.out.inv).mono ?_;rw [y.out];rintro e X ⟨rfl,rfl⟩) | (refine yT rfl 273 _ rfl _ rfl 273 _ _ _ n.out underlying273 rfl (DN _ _ _ _ _) ?_))
    refine (cJ S ad ad' cap a _ _ _ C.out HL.out).mono ?_;rintro e w2 ⟨rfl,r⟩;have z:=hid (i.out.below r);have j:=(r.block _ (Jw n.out)).trans n.out;have T:=hid (C.out.below r);have c3:w2.cell? ⟨w.heap.size,3,none⟩=some (.bool S.one):=by rw [yA _ _ 3 _ _ _ j];rfl
    have E:=hid j;have g:Hid (find S ((k:Int)+1) (2*(c:Int)+b)=find S ((k+1:Nat):Int) ((2*c+t1.bit.1:Nat):Int)):=by
     show _=_;rw [<- v.out];simp
    clear r j C i n;obtain ⟨x,hx⟩:=qe (find S ((k:Int)+1) (2*(c:Int)+b));rw [<- hx];rw [<- hx] at g;clear hx;by_cases h0:0<=x
    ·go_wp2
     go_ret
     have f:=o.out;rw [O.out,Tr.UL y.out (by rw [<- g.out];omega),<- g.out] at f;rw [<- f];exact ⟨rfl,z.out⟩
    ·cases h1:S.one
     ·rw [h1] at c3;have A:=hid h1;clear h1;have f:=o.out;rw [O.out,Tr.eR y.out (by rw [<- g.out];omega) A.out,<- v.out] at f;have HN:Hid (Tr.sym S (11 - (k+1)) (k+1+1) (2*c+b) t1.bit.2=t.symbol S):=by
       show _=_;rw [<- f,show 11 - (k+1)=10 - k by omega]
      have R:Hid (2*c+b<2^(k+1)):=by show _<_;rw [v.out];exact F.out
      have J:=CL I.out.1.bit ((Tr.Fb t1).s.trans I.out.2);clear f;go_wp2_with fail
      go_roundw
      case rel=>exact ⟨k+1,2*c+b,t1.bit.2,zO,M,by go_num,by go_num,⟨R.out,J.out.1,J.out.2,HN.out,z.out,E.out,T.out⟩⟩
      case measure=>simp [intOf];omega
     ·rw [h1] at c3;have A:=hid h1;clear h1;go_wp2
      go_ret
      have f:=o.out;rw [O.out,Tr.gy y.out (by rw [<- g.out];omega) A.out] at f;rw [<- f];exact ⟨rfl,z.out⟩
   ·have y:=hid he;clear he;go_wp2_with (first | (go_at_call 182;refine (Bc _ i.out.inv).mono ?_;rw [y.out];rintro e X ⟨rfl,rfl⟩))
    go_ret
    have f:=o.out;rw [O.out,Tr.Sr y.out] at f;rw [<- f];exact ⟨rfl,i.out⟩
  ·obtain rfl:k=11:=zO;go_wp2
   go_ret
   have f:=d.out.2.2.2.1;rw [<- f];exact ⟨rfl,d.out.2.2.2.2.1⟩
theorem Tr.Uu(n:Nat)(h:t.ended=true):Tr.bytes n t=t:=by
 cases n with
 | zero=>rfl
 | succ n=>rw [Tr.bytes,zC h]
theorem Tr.Wq(n:Nat)(h:t.ended=false):Tr.bytes (n+1) t=Tr.bytes n (t.Ad.2.put t.Ad.1):=by rw [Tr.bytes,zA (by rw [h];simp)]
theorem Tr.NT{K:Nat}(h:t.cost<=K):t.out.length<=K:=by unfold Tr.cost at h;omega
def bX(B p:Nat)(vo va vs:Value)(t0:Tr)(w:World)(fin:Tr)(n k:Nat)(wr:World):Prop:=
 ∃ (t1:Tr) (vo' va':Value),Tr.bytes (n - k) t1=fin/\EH B p vo va vs vo' va' t1 w wr/\t1.Ao/\t1.cost<=1000000000000/\t1.s=t0.s
theorem hU(w:World)(h:Ft B p vo va vs t w)(hf:t.Ao)(hs:t.s.size<=maxLen)(hc:t.cost<=1000000000000) :
  Calls prog 199 #[.pointer (some ⟨p,0,none⟩)] w fun x W=>x= .returned (.tuple #[])/\∃ U S,EH B p vo va vs U S t.plain w W:=by
 have P:=Ji hs hf hc;have HI:=hid h;clear h hf hs hc;have s0:=(Tr.Lt t).s;have s1:=(Tr.CS t.skip).s;have s2:=(Tr.CS t.skip.Ad.2).s;have s3:=(Tr.CS t.skip.Ad.2.Ad.2).s;have O:Hid (t.skip.s.size<=maxLen/\t.skip.Ad.2.s.size<=maxLen/\t.skip.Ad.2.Ad.2.s.size<=maxLen/\t.skip.Ad.2.Ad.2.Ad.2.s.size<=maxLen):=by
  have:=P.out.1;show _/\_;rw [s3,s2,s1,s0];exact ⟨this,this,this,this⟩
 clear s0 s1 s2 s3;go_enter func199,ntmps199
 go_wp2_with fail
 refine (ea _ HI.out).mono ?_;rintro e w1 ⟨rfl,k1⟩;have o:=hid k1;clear k1;go_wp2_with fail
 refine (Gc _ o.out.inv O.out.1).mono ?_;rintro e w2 ⟨rfl,k2⟩;have q:=hid (o.out.trans k2);clear k2;go_wp2_with fail
 refine (Gc _ q.out.inv O.out.2.1).mono ?_;rintro e w3 ⟨rfl,k3⟩;have r:=hid (q.out.trans k3);clear k3;go_wp2_with fail
 refine (Gc _ r.out.inv O.out.2.2.1).mono ?_;rintro e w4 ⟨rfl,k4⟩;have u:=hid (r.out.trans k4);clear k4;go_wp2_with fail
 refine (Gc _ u.out.inv O.out.2.2.2).mono ?_;rintro e w5 ⟨rfl,k5⟩;have g:=hid (u.out.trans k5);clear k5 o q r u;obtain ⟨a,F⟩:=qe t.skip.Ad.1;obtain ⟨b,G⟩:=qe t.skip.Ad.2.Ad.1;obtain ⟨c,hc⟩:=qe t.skip.Ad.2.Ad.2.Ad.1;obtain ⟨d,hd⟩:=qe t.skip.Ad.2.Ad.2.Ad.2.Ad.1;have la:a<256:=by rw [F];exact Tr.Dl _
 have lb:b<256:=by rw [G];exact Tr.Dl _
 have lc:c<256:=by rw [hc];exact Tr.Dl _
 have ld:d<256:=by rw [hd];exact Tr.Dl _
 rw [<- F,<- G,<- hc,<- hd];have R:Hid (t.Cp.1=a+256*b):=by show t.Cp.1=_;rw [F,G];rfl
 have j:Hid (t.Cp.2=if c+256*d=65535 - (a+256*b) then t.skip.Ad.2.Ad.2.Ad.2.Ad.2 else t.skip.Ad.2.Ad.2.Ad.2.Ad.2.fail 9):=by show t.Cp.2=_;rw [F,G,hc,hd];rfl
 clear F G hc hd;by_cases hq:c+256*d=65535 - (a+256*b)
 case' pos=>
  have v:Hid (Kept B p vo va vs t.Cp.2 w w5):=by show Kept _ _ _ _ _ _ _ _;rw [j.out,zC hq];exact g.out
  have I:((c:Int)+256*d !=65535 - ((a:Int)+256*b))=false:=by simp;omega
  clear g j hq;go_wp2_with fail
 case' neg=>
  have l:Hid (∀ N,Kept B p vo va vs (t.skip.Ad.2.Ad.2.Ad.2.Ad.2.fail 9) w5 N->Kept B p vo va vs t.Cp.2 w N):=fun N k6=>by rw [j.out,zA hq];exact g.out.trans k6
  have I:((c:Int)+256*d !=65535 - ((a:Int)+256*b))=true:=by simp;omega
  clear j hq;go_wp2_with fail
  refine (Dn 9 _ g.out.inv).mono ?_;rintro e N ⟨rfl,k6⟩;have v:=hid (l.out N k6);clear k6 g l;go_wp2_with fail
 all_goals
  clear I;go_loopw [7] (fun i wr=>∃ k:Nat,k<=a+256*b/\i= .int .i64 k/\Hid (bX B p vo va vs t w t.plain (a+256*b) k wr)) (fun i _=>a+256*b - (intOf i).toNat)
  case atStart=>
   refine ⟨0,zH _,rfl,?_⟩;have f:=Tr.IP t;exact ⟨t.Cp.2,vo,va,by rw [Nat.sub_zero,<- R.out];rfl,v.out.Dt,P.out.2.1.Cp,zG f.cost P.out.2.2,f.s⟩
  case round=>
   obtain ⟨k,hk,rfl,X⟩:=hrel;clear v;obtain ⟨t1,M,L,H,Z,hF,Y,J⟩:=X.out;have n:=hid H;have A:=hid Z;have z:=Ji hF Y J;clear X H Z hF Y J;by_cases a0:k<a+256*b
   ·cases he:t1.ended
    ·have C:=hid he;clear he;have HN:Hid (Tr.bytes (a+256*b - (k+1)) (t1.Ad.2.put t1.Ad.1)=t.plain):=by
      show _=_;rw [<- n.out,show a+256*b - k=(a+256*b - (k+1))+1 by omega,Tr.Wq _ C.out]
     go_wp2_with (first | (go_at_call 182;refine (Bc _ A.out.inv).mono ?_;rw [C.out];rintro e W ⟨rfl,rfl⟩) | (go_at_call 205;refine (Gc _ A.out.inv (by rw [z.out.2.2];exact P.out.1)).mono ?_;rintro e w7 ⟨rfl,k7⟩;have D:=hid (A.out.then k7);clear k7))
     rw [show ((t1.Ad.1:Nat):Int)%256=((t1.Ad.1:Nat):Int) by have:=Tr.Dl t1;omega];have y:t1.Ad.2.out.length<=1000000000000/\t1.Ad.2.Br.length<=1000000000000:=by
      have h1:=Tr.NT (zG (Tr.CS t1).cost z.out.2.1);have h2:=z.out.1.Ad.Br;exact ⟨h1,by rw [h2];exact h1⟩
     refine (eZ _ _ D.out.inv y.1 y.2).mono ?_;rintro e w8 ⟨rfl,V,T,m8⟩;have Q:Hid (bX B p vo va vs t w t.plain (a+256*b) (k+1) w8):=⟨_,V,T,HN.out,D.out.trans m8,z.out.1.Ad.put _,zG (Tr.Qg t1).cost z.out.2.1,(Tr.Qg t1).s.trans z.out.2.2⟩
     clear m8 y;go_wp2_with fail
     go_roundw
     case rel=>exact ⟨k+1,zO,by go_num,Q⟩
     case measure=>simp [intOf];omega
    ·have C:=hid he;clear he;go_wp2_with (first | (go_at_call 182;refine (Bc _ A.out.inv).mono ?_;rw [C.out];rintro e W ⟨rfl,rfl⟩))
     go_end0
     have E:=n.out;rw [Tr.Uu _ C.out] at E;rw [<- E];exact ⟨rfl,M,L,A.out⟩
   ·obtain rfl:k=a+256*b:=zO;go_wp2
    go_end0
    have E:=n.out;rw [kX] at E;rw [<- E];exact ⟨rfl,M,L,A.out⟩
theorem WQ(a k:Nat)(w:World)(s:a<=3)(hk:k<=15) :
  Calls prog 222 #[.int .i64 a, .int .i64 k] w fun e o=>e= .returned (.tuple #[.int .i64 (Tr.Ar a k), .int .i64 (Tr.Ag k)])/\w=o:=by
 by_cases h4:k<4
 ·have c:Tr.Ar a k=a+k:=zC h4;have d:Tr.Ag k=0:=zC h4;rw [c,d];clear c d;go_enter func222,ntmps222
  go_wp2_with fail
  go_ret2
  exact ⟨zS,rfl⟩
 ·have c:Tr.Ar a k=a+(2+k%2)*2^((k - 2) / 2):=zA h4;have d:Tr.Ag k=(k - 2) / 2:=zA h4;obtain ⟨j,g⟩:=qe ((k - 2) / 2);have h:j<=7:=zO;have q:((k:Int) - 2) / 2=(j:Int):=zO;have p:Hid (Tr.Ag k=j):=by show _=_;rw [d,g]
  have l:=(RB j zO).2;have b:Hid (Tr.Ar a k=a+(2+k%2)*Jy j):=by show _=_;rw [c,g];rfl
  have r:Jy j<=128:=by
   have:Jy j<=2^7:=yP (n:=2) zD h;omega
  clear c d g l;have f:k%2=0\/k%2=1:=zO;rcases f with hp | hp
  ·have i:(k:Int)%2=0:=zO;rw [hp] at b;go_enter func222,ntmps222
   go_wp2_with (go_at_call 211;refine (NU j _ zO).mono ?_;rintro e o ⟨rfl,rfl⟩)
   go_ret2
   rw [b.out,p.out];exact ⟨zS,rfl⟩
  ·have i:(k:Int)%2=1:=zO;rw [hp] at b;go_enter func222,ntmps222
   go_wp2_with (go_at_call 211;refine (NU j _ zO).mono ?_;rintro e o ⟨rfl,rfl⟩)
   go_ret2
   rw [b.out,p.out];exact ⟨zS,rfl⟩
theorem Tr.Wz{far:Nat}(h:t.ended=false):Tr.DC far (n+1) t=Tr.DC far n (t.put (t.out.getD (t.out.length - far) 0)):=by rw [Tr.DC,zA (by rw [h];simp)]
theorem Ft.bo(h:Ft B p vo va vs t w){q:Nat}(hq:q<t.out.length):∃ g cap,vo= .slice (some ⟨g,0,none⟩) t.out.length cap/\w.cell? ⟨g,q,none⟩=some (.int .u8 (t.out.getD q 0:Nat)):=by
 obtain ⟨g,cap,e,_,_⟩:=h.out.form zO;refine ⟨g,cap,e,?_⟩;have a:=h.out;rw [e] at a;rw [xO a q zO];simp [EJ,hq]
theorem Tr.UM(h:t.ended=true):(t.symbol S).1= -1:=by
 unfold Tr.symbol;rw [Tr.Sr ((Tr.Fb t).ended h)]
def hZ(B p:Nat)(vo va vs:Value)(w:World)(fin:Tr)(far n k:Nat)(wr:World):Prop:=
 ∃ (t1:Tr) (vo' va':Value),Tr.DC far (n - k) t1=fin/\EH B p vo va vs vo' va' t1 w wr/\t1.Ao/\t1.out.length<=900000000000+k/\(t1.ended=false->far<=t1.out.length)
theorem Tr.OE(h:k<=15):Tr.Ag k<=6:=by unfold Tr.Ag;split <;> omega
theorem Tr.UG(a:b<=3)(h:k<=15):0<b+k->0<Tr.Ar b k/\Tr.Ar b k<=400:=by
 have:k=0\/k=1\/k=2\/k=3\/k=4\/k=5\/k=6\/k=7\/k=8\/k=9\/k=10\/k=11\/k=12\/k=13\/k=14\/k=15:=zO;rcases this with rfl | rfl | rfl | rfl | rfl | rfl | rfl | rfl | rfl | rfl | rfl | rfl | rfl | rfl | rfl | rfl <;> simp [Tr.Ar] <;> omega
theorem eW(S:CF)(ad ad':Option Addr)(cap z k:Nat)(w:World)(h:Ft B p vo va vs t w)(hf:t.Ao)(hs:t.s.size<=maxLen)(hlen:t.out.length<=900000000000)(hS:JZ w S ad ad')(ho:WY p ad)(c6:WY p ad')(hl:S.l.length<=16)(hk:k<=11) :
  Calls prog 215 #[.pointer (some ⟨p,0,none⟩), .agg (ED S ad cap ad' z), .int .i64 k] w fun x w'=>x= .returned (.tuple #[])/\∃ e4 e2,EH B p vo va vs e4 e2 (t.Dh S k) w w':=by
 have V:=CL ho c6;have HL:=hid hl;have f2:=h.row.lt;obtain ⟨W0,R⟩:=qe (w.alloc (.cells (ED S ad cap ad' z) 273));have B0:Below w.heap.size w W0:=by rw [R];exact zB.alloc zL _
 have Y:W0.heap[w.heap.size]?=some (.cells (ED S ad cap ad' z) 273 (0,0)):=by rw [R];exact zJ w _
 have a4:=hid ((Kept.refl h).below B0);have b3:=hid (hS.below B0);have a2:=hid Y;have HF:Hid t.Ao:=hf;have HZ:=hid hs;have d4:=hid hlen;clear h hf hs hS ho c6 hl B0 Y hlen;have f1:Tr.Ag k<=6:=Tr.OE zO;have c5:=Tr.Uz hk (Tr.Dy t (Tr.Ag k));obtain ⟨m,hm⟩:=qe ((t.number (Tr.Ag k)).1);obtain ⟨le,a8⟩:=qe (Tr.Ar 3 k);rw [<- hm,<- a8] at c5;have HM:=hid hm;have b2:=hid a8;clear hm a8;go_enter func215,ntmps215
 go_wp2_with (go_at_call 222;refine (WQ 3 k _ zO zO).mono ?_;rintro e w' ⟨rfl,rfl⟩)
 rw [<- R];clear R;refine (FG _ _ a4.out.inv HF.out HZ.out zO).mono ?_;rintro e w1 ⟨rfl,k1⟩;have H:=hid (a4.out.trans k1);have M:=(k1.kp.block _ (Jw a2.out) (by show w.heap.size≠p;omega)).trans a2.out;have c2:w1.cell? ⟨w.heap.size,2,none⟩=some (.int .i64 S.many):=by rw [yA _ _ 2 _ _ _ M];rfl
 have d:=hid M;have I:=hid (b3.out.JJ k1.kp V.out.1 V.out.2);clear k1 M a4 a2 b3;obtain ⟨a,r⟩:=qe (if S.many=0 then (t.number (Tr.Ag k)).2.fail 11 else (t.number (Tr.Ag k)).2);have b5:Tr.Da t a:=by
  rw [r];split
  ·exact (Tr.Bb t _).trans (Tr.CK _ zD)
  ·exact Tr.Bb t _
 have b0:a.Ao:=by
  rw [r];split
  ·exact (HF.out.number _).fail zD
  ·exact HF.out.number _
 have y:=CL b5 b0;have HC:Hid (t.Dh S k=if (a.symbol S).1<0 then (a.symbol S).2.fail 11 else Tr.DC (Tr.Ar 1 (a.symbol S).1.toNat+((a.symbol S).2.number (Tr.Ag (a.symbol S).1.toNat)).1) (le+m) (if ((a.symbol S).2.number (Tr.Ag (a.symbol S).1.toNat)).2.out.length - ((a.symbol S).2.number (Tr.Ag (a.symbol S).1.toNat)).2.CY<Tr.Ar 1 (a.symbol S).1.toNat+((a.symbol S).2.number (Tr.Ag (a.symbol S).1.toNat)).1 then ((a.symbol S).2.number (Tr.Ag (a.symbol S).1.toNat)).2.fail 11 else ((a.symbol S).2.number (Tr.Ag (a.symbol S).1.toNat)).2)):=by
  show _=_;rw [r,HM.out,b2.out];rfl
 rw [<- HM.out,<- b2.out];clear b5 b0;by_cases Bq:S.many=0
 ·rw [Bq] at c2;rw [zC Bq] at r;have HT:=hid r;clear r Bq;go_wp2_with fail
  refine (Dn 11 _ H.out.inv).mono ?_;rintro e w2 ⟨rfl,k2⟩;have C:Hid (Kept B p vo va vs a w w2):=by show Kept _ _ _ _ _ _ _ _;rw [HT.out];exact H.out.trans k2
  have u:=hid ((k2.kp.block _ (Jw d.out) (by show w.heap.size≠p;omega)).trans d.out);have J:=hid (I.out.JJ k2.kp V.out.1 V.out.2);have b4:Hid ((a.symbol S).1<0):=by show (a.symbol S).1<0;rw [Tr.UM (by rw [HT.out];exact Tr.Cz _ zD)];omega
  clear k2 HT;clear H d I;go_wp2_with (refine yT rfl 273 _ rfl _ rfl 273 _ _ _ u.out underlying273 rfl (DN _ _ _ _ _) ?_)
  refine (Mh S ad ad' cap z _ C.out.inv y.out.2 (by rw [y.out.1.s];exact HZ.out) J.out V.out.1 V.out.2 (by have:=HL.out;omega)).mono ?_;rintro e w3 ⟨rfl,k3⟩;have v:=hid (C.out.trans k3);clear k3 C u J c2;have a6:=Tr.Iq a S;have L:=CL (y.out.1.trans (Tr.Dj a S)) (y.out.2.symbol S);have E:=b4.out;clear b4;generalize a.symbol S=D at *;have G:Hid (t.Dh S k=D.2.fail 11):=by show _=_;rw [HC.out,zC E]
  clear HC;go_wp2_with fail
  refine (Dn 11 _ v.out.inv).mono ?_;rintro e w4 ⟨rfl,k4⟩;have c:=hid (v.out.trans k4);clear k4;go_wp2_with fail
  refine zX (vM rfl _ _ _) rfl ?_;rw [G.out];exact ⟨rfl,vo,va,c.out.Dt⟩
 ·have f0:(S.many==0)=false:=by simpa using Bq
  rw [zA Bq] at r;obtain ⟨w2,d0⟩:=qe w1;rw [<- d0] at H d I c2 |-;have C:Hid (Kept B p vo va vs a w w2):=by show Kept _ _ _ _ _ _ _ _;rw [r];exact H.out
  have u:=d;have J:=I;clear r Bq d0;clear H d I;go_wp2_with (refine yT rfl 273 _ rfl _ rfl 273 _ _ _ u.out underlying273 rfl (DN _ _ _ _ _) ?_)
  refine (Mh S ad ad' cap z _ C.out.inv y.out.2 (by rw [y.out.1.s];exact HZ.out) J.out V.out.1 V.out.2 (by have:=HL.out;omega)).mono ?_;rintro e w3 ⟨rfl,k3⟩;have v:=hid (C.out.trans k3);clear k3 C u J c2;have a6:=Tr.Iq a S;have L:=CL (y.out.1.trans (Tr.Dj a S)) (y.out.2.symbol S);generalize a.symbol S=D at *;by_cases E:D.1<0
  ·have G:Hid (t.Dh S k=D.2.fail 11):=by show _=_;rw [HC.out,zC E]
   clear HC;go_wp2_with fail
   refine (Dn 11 _ v.out.inv).mono ?_;rintro e w4 ⟨rfl,k4⟩;have c:=hid (v.out.trans k4);clear k4;go_wp2_with fail
   refine zX (vM rfl _ _ _) rfl ?_;rw [G.out];exact ⟨rfl,vo,va,c.out.Dt⟩
  ·obtain ⟨f,b8⟩:∃ f:Nat,D.1=(f:Int):=⟨D.1.toNat,zO⟩
   have Z:f<=15:=by have:=HL.out;omega
   rw [b8] at a6 HC |-;clear E;have d7:=Tr.OE Z;have e0:=Tr.UG (b:=1) zO Z zO;have d9:=Tr.Dy D.2 (Tr.Ag f);have b9:(D.2.number (Tr.Ag f)).1<64:=by
    have:2^Tr.Ag f<=2^6:=yP zD d7;omega
   have G:Hid (t.Dh S k=Tr.DC (Tr.Ar 1 f+(D.2.number (Tr.Ag f)).1) (le+m) (if (D.2.number (Tr.Ag f)).2.out.length - (D.2.number (Tr.Ag f)).2.CY<Tr.Ar 1 f+(D.2.number (Tr.Ag f)).1 then (D.2.number (Tr.Ag f)).2.fail 11 else (D.2.number (Tr.Ag f)).2)):=by
    show _=_;rw [HC.out,zA zO];rfl
   have P:Hid (Tr.Da t (D.2.number (Tr.Ag f)).2/\(D.2.number (Tr.Ag f)).2.Ao):=⟨L.out.1.trans (Tr.Bb _ _),L.out.2.number _⟩
   have d5:Hid (D.2.s.size<=maxLen):=by show _<=_;rw [L.out.1.s];exact HZ.out
   clear HC d9;go_wp2_with (go_at_call 222;refine (WQ 1 f _ zO zO).mono ?_;rintro e w' ⟨rfl,rfl⟩)
   refine (FG _ _ v.out.inv L.out.2 d5.out zO).mono ?_;rintro e w4 ⟨rfl,k4⟩;have c:=hid (v.out.trans k4);clear k4 v;generalize D.2.number (Tr.Ag f)=F at *;generalize Tr.Ar 1 f=X at *;obtain ⟨aO,cO,c8⟩:∃ aO cO,vo= .slice aO F.2.out.length cO:=by
    rcases c.out.inv.out.2 with ⟨e,h0⟩ | ⟨g,cp,_,e,_⟩
    ·exact ⟨none,0,by rw [e,h0]⟩
    ·exact ⟨_,cp,e⟩
   have c0:w4.cell? ⟨p,0,none⟩=some (.slice aO F.2.out.length cO):=by rw [<- c8];exact c.out.inv.row.cell (i:=0) zO
   have c9:w4.cell? ⟨p,9,none⟩=some (.int .i64 F.2.CY):=c.out.inv.row.cell (i:=9) zO;have e8:=P.out.2.CY;have a0:F.2.out.length<=900000000000:=by rw [P.out.1.out];exact d4.out
   clear c8;have d8:decide ((f:Int)<0)=false:=zS;obtain ⟨W,A⟩:=qe (if F.2.out.length - F.2.CY<X+F.1 then F.2.fail 11 else F.2);have Q:Hid (W.Ao/\W.out.length<=900000000000/\(W.ended=false->X+F.1<=W.out.length)):=by
    show _/\_;rw [A];split
    ·refine ⟨P.out.2.fail zD,?_,fun h=>?_⟩
     ·rw [(Tr.CK F.2 (e:=11) zD).out];exact a0
     ·rw [Tr.Cz F.2 (e:=11) zD] at h;cases h
    ·exact ⟨P.out.2,a0,fun _=>zO⟩
   have b1:Hid (t.Dh S k=Tr.DC (X+F.1) (le+m) W):=by show _=_;rw [G.out,A]
   clear G;by_cases N:F.2.out.length - F.2.CY<X+F.1
   case' pos=>
    have a7:decide ((F.2.out.length:Int) - F.2.CY<(X:Int)+F.1)=true:=by simp;omega
    rw [zC N] at A;go_wp2_with fail
    go_quiet (fail)
    go_wp2_with fail
    refine (Dn 11 _ (c.out.inv.drewN _)).mono ?_;rintro e w5 ⟨rfl,k5⟩;have a5:Hid (Kept B p vo va vs W w w5):=by show Kept _ _ _ _ _ _ _ _;rw [A];exact (c.out.drewN _).trans k5
    clear k5 c a7 A;go_wp2_with fail
   case' neg=>
    have a7:decide ((F.2.out.length:Int) - F.2.CY<(X:Int)+F.1)=false:=by simp;omega
    rw [zA N] at A;go_wp2_with fail
    go_quiet (fail)
    go_wp2_with fail
    obtain ⟨w5,a9⟩:=qe (w4.drewN nq);rw [<- a9];have a5:Hid (Kept B p vo va vs W w w5):=by show Kept _ _ _ _ _ _ _ _;rw [A,a9];exact c.out.drewN _
    clear c a7 A a9
   all_goals
    obtain ⟨o,c1⟩:=qe (X+F.1);have c3:(X:Int)+F.1=(o:Int):=zO;have e6:0<o:=zO;have e7:o<=500:=zO;rw [<- c1] at Q b1;rw [c3];clear N d8 c0 c9 b8 a6 c3 c1 e0 b9;go_loopw [13] (fun i wr=>∃ j:Nat,j<=le+m/\i= .int .i64 j/\Hid (hZ B p vo va vs w (t.Dh S k) o (le+m) j wr)) (fun i _=>le+m - (intOf i).toNat)
    case atStart=>
     refine ⟨0,zH _,rfl,?_⟩;exact ⟨W,vo,va,by rw [Nat.sub_zero,b1.out],a5.out.Dt,Q.out.1,by have:=Q.out.2.1;omega,Q.out.2.2⟩
    case round=>
     obtain ⟨j,hj,rfl,HH⟩:=hrel;clear a5;obtain ⟨t1,d2,d1,b6,hM,hF,hC,c7⟩:=HH.out;have a3:=hid b6;have n:=hid hM;have O:=CL hF c7;clear HH b6 hM hF c7;by_cases e9:j<le+m
     ·cases he:t1.ended
      ·have U:=hid he;clear he;have HN:Hid (Tr.DC o (le+m - (j+1)) (t1.put (t1.out.getD (t1.out.length - o) 0))=t.Dh S k):=by
        show _=_;rw [<- a3.out,show le+m - j=(le+m - (j+1))+1 by omega,Tr.Wz U.out]
       have c4:=O.out.2 U.out;obtain ⟨n1,T⟩:=qe t1.out.length;rw [<- T] at c4 hC HN;obtain ⟨q,hq⟩:=qe (n1 - o);have f4:(q:Int)<(n1:Int):=zO;have f3:IntKind.i64.wrap ((n1:Int) - o)=(q:Int):=by
        rw [kG];rw [xW _ ⟨zO,zO⟩];omega
       obtain ⟨g,d6,a1,cq⟩:=n.out.inv.bo (q:=q) zO;rw [<- T] at a1;subst a1;have c0:wr.cell? ⟨p,0,none⟩=some (.slice (some ⟨g,0,none⟩) n1 d6):=n.out.inv.row.cell (i:=0) zO;have HQ:=hid T.symm;rw [<- hq] at HN;obtain ⟨bv,b7⟩:=qe (t1.out.getD q 0);rw [<- b7] at HN cq;clear T hq;clear c4 b7;go_wp2_with (go_at_call 182;refine (Bc _ n.out.inv).mono ?_;rw [U.out];rintro e w' ⟨rfl,rfl⟩)
       go_region_with (go_at_call 212;refine (eZ _ _ (n.out.inv.drewN 1) (by rw [HQ.out];omega) (by rw [O.out.1.Br,HQ.out];omega)).mono ?_;rintro e w8 ⟨rfl,e5,e3,m8⟩)
       all_goals
        have d3:Hid (hZ B p vo va vs w (t.Dh S k) o (le+m) (j+1) w8):=⟨_,e5,e3,HN.out,(n.out.then ((Kept.refl n.out.inv).drewN 1)).trans m8,O.out.1.put _,by have h1:=Tr.Ou t1 bv;have h2:=HQ.out;omega,fun he=>by
          have h1:=O.out.2 U.out;have h2:(t1.put bv).out=t1.out++[bv]:=by rw [Tr.CG U.out]
          rw [h2];simp;omega⟩
        clear m8;go_wp2_with fail
        go_roundw
        case rel=>exact ⟨j+1,zO,by go_num,d3⟩
        case measure=>simp [intOf];omega
      ·have U:=hid he;clear he;go_wp2_with (first | (go_at_call 182;refine (Bc _ n.out.inv).mono ?_;rw [U.out];rintro e w' ⟨rfl,rfl⟩))
       go_end0
       have e1:=a3.out;rw [Tr.Je _ U.out] at e1;rw [<- e1];exact ⟨rfl,d2,d1,n.out⟩
     ·obtain rfl:j=le+m:=zO;go_wp2
      go_end0
      have e1:=a3.out;rw [kX] at e1;rw [<- e1];exact ⟨rfl,d2,d1,n.out⟩
def Fs(w:World)(p:Nat)(vo va:Value)(ad:Option Addr):Prop:=∀ b o f,ad=some ⟨b,o,f⟩->b<w.heap.size/\b≠p/\vo.ownBlock≠some b/\va.ownBlock≠some b
theorem Fs.off(h:Fs w p vo va ad):WY p ad:=fun b o f e=>(h b o f e).2.1
theorem Fs.none(w:World)(p:Nat)(b a:Value):Fs w p b a Option.none:=fun _ _ _ e=>by cases e
theorem Fs.block(h:Fs w p vo va ad)(hm:EH B p vo va vs vo' va' t' w w'){o:Nat}{f:Option Nat}(e:ad=some ⟨b,o,f⟩):w'.heap[b]?=w.heap[b]?:=by
 obtain ⟨h1,h2,h3,h4⟩:=h b o f e;exact hm.nO b h1 h2 h3 h4
theorem Fs.Dt(h:Fs w p vo va ad)(hm:EH B p vo va vs vo' va' t' w w'):Fs w' p vo' va' ad:=fun b o f e=>by
 obtain ⟨h1,h2,h3,h4⟩:=h b o f e;refine ⟨zM h1 hm.size,h2,fun c=>?_,fun c=>?_⟩
 ·rcases hm.no b c with a | a
  ·exact h3 a
  ·omega
 ·rcases hm.na b c with a | a
  ·exact h4 a
  ·omega
theorem Fs.below(h:Fs w p vo va ad)(a:Below w.heap.size w w'):Fs w' p vo va ad:=fun b o f e=>by
 obtain ⟨h1,h2⟩:=h b o f e;exact ⟨zM h1 a.size,h2⟩
theorem Ap.Dt(h:Ap w ad l)(hl:Fs w p vo va ad)(hm:EH B p vo va vs vo' va' t' w w'):Ap w' ad l:=
 h.Ih hm.size (fun _ _ _ e _=>hl.block hm e)
structure Mn(w:World)(p:Nat)(vo va:Value)(S:CF)(ad ad':Option Addr):Prop where
 set:JZ w S ad ad'
 la:Fs w p vo va ad
 lb:Fs w p vo va ad'
theorem Mn.Dt(h:Mn w p vo va S ad ad')(hm:EH B p vo va vs vo' va' t' w w'):Mn w' p vo' va' S ad ad':=⟨⟨h.set.len.Dt h.la hm,h.set.fB.Dt h.lb hm⟩,h.la.Dt hm,h.lb.Dt hm⟩
theorem Mn.below(h:Mn w p vo va S ad ad')(a:Below w.heap.size w w'):Mn w' p vo va S ad ad':=⟨h.set.below a,h.la.below a,h.lb.below a⟩
structure OG(w:World)(p:Nat)(vo va:Value)(g:Nat)(o:Obj):Prop where
 at_:w.heap[g]?=some o
 jk:Fs w p vo va (some ⟨g,0,Option.none⟩)
theorem OG.Dt(h:OG w p vo va g o)(hm:EH B p vo va vs vo' va' t' w w'):OG w' p vo' va' g o:=⟨(h.jk.block hm rfl).trans h.at_,h.jk.Dt hm⟩
theorem OG.below(h:OG w p vo va g o)(a:Below w.heap.size w w'):OG w' p vo va g o:=⟨(a.block g (Jw h.at_)).trans h.at_,h.jk.below a⟩
theorem OG.new(h:Ft B p vo va vs t w)(o:Obj)(n:Nat)(a:n=w.heap.size):OG (w.alloc o) p vo va n o:=by
 subst a;refine ⟨zJ w o,fun b c f e=>?_⟩;simp only [xP,xX] at e;obtain ⟨rfl,_,_⟩:=e;refine ⟨zS,by have:=h.row.lt;omega,fun e=>by have:=(h.out.lt _ e).2;omega,fun e=>by have:=(h.Br.lt _ e).2;omega⟩
def Ml(p:Nat)(w:World):Nat:=
 match w.cell? ⟨p,2,none⟩,w.cell? ⟨p,4,none⟩,w.cell? ⟨p,5,none⟩,w.cell? ⟨p,6,none⟩,w.cell? ⟨p,8,none⟩ with
 | some (.int _ i),some (.int _ e),some (.bool n),some (.string s),some (.int _ l)=>if e !=0 || n then 0 else 1+8*(s.size - i.toNat)+l.toNat
 | _,_,_,_,_=>0
theorem Ft.Ml(h:Ft B p vo va vs t w):Ml p w=t.mu:=by
 have c2:w.cell? ⟨p,2,none⟩=some (.int .i64 t.Aw):=h.row.cell (i:=2) zO;have a:w.cell? ⟨p,4,none⟩=some (.int .i64 t.err):=h.row.cell (i:=4) zO;have b:w.cell? ⟨p,5,none⟩=some (.bool t.CZ):=h.row.cell (i:=5) zO;have c6:w.cell? ⟨p,6,none⟩=some (.string t.s):=h.row.cell (i:=6) zO;have c:w.cell? ⟨p,8,none⟩=some (.int .i64 t.left):=h.row.cell (i:=8) zO;unfold YtbcjmakpempkiaaGreatDoor.Ml Tr.mu Tr.ended;rw [c2,a,b,c6,c];have e:(((t.err:Nat):Int) !=0)=(t.err !=0):=by
  by_cases h0:t.err=0
  ·rw [h0];rfl
  ·have h1:((t.err:Int) !=0)=true:=by simp;omega
   rw [h1];simp [h0]
 simp only [e,jW]
structure Wa(B p:Nat)(vo va vs:Value)(w:World)(t0 fin:Tr)(SA SB:CF)(ca cb:Array Value)(a1 a2 b1 b2:Option Addr)(wr:World)(t1:Tr)(vo1 va1:Value):Prop where
 nU:Tr.content SA SB t1=fin
 Kz:EH B p vo va vs vo1 va1 t1 w wr
 CU:t1.Ao
 cost:t1.cost<=900000000000
 s:t1.s=t0.s
 ba:OG wr p vo1 va1 w.heap.size (.cells ca 273)
 bb:OG wr p vo1 va1 (w.heap.size+1) (.cells cb 273)
 sa:Mn wr p vo1 va1 SA a1 a2
 sb:Mn wr p vo1 va1 SB b1 b2
theorem Wa.kept{fin:Tr}{SA SB:CF}{ca cb:Array Value}{a1 a2 b1 b2:Option Addr}{wr wq:World}{vo1 va1 vo2 va2:Value}(h:Wa B p vo va vs w t0 fin SA SB ca cb a1 a2 b1 b2 wr t1 vo1 va1)
  (hm:EH B p vo1 va1 vs vo2 va2 t2 wr wq) (hc:Tr.content SA SB t2=fin) (b:t2.Ao) (a:Tr.Df t1 t2):Wa B p vo va vs w t0 fin SA SB ca cb a1 a2 b1 b2 wq t2 vo2 va2:=⟨hc,h.Kz.trans hm,b,zG a.cost h.cost,a.s.trans h.s,h.ba.Dt hm,h.bb.Dt hm,h.sa.Dt hm,h.sb.Dt hm⟩
theorem Sv(c f:CF)(H a2 I J:Option Addr)(k1 k2 l1 l2:Nat)(w:World)(h:Ft B p vo va vs t w)(hf:t.Ao)(hs:t.s.size<=maxLen)(n:t.cost<=900000000000)
  (hA:Mn w p vo va c H a2) (hB:Mn w p vo va f I J) (Z:c.l.length<=269) (a0:f.l.length<=16) :
  Calls prog 201 #[.pointer (some ⟨p,0,none⟩), .agg (ED c H k1 a2 k2), .agg (ED f I l1 J l2)] w fun x Q=>x= .returned (.tuple #[])/\∃ a9 a8,EH B p vo va vs a9 a8 (Tr.content c f t) w Q:=by
 obtain ⟨z,E⟩:=qe (ED c H k1 a2 k2);obtain ⟨R,F⟩:=qe (ED f I l1 J l2);rw [<- E,<- F];have a4:=hid E;have a5:=hid F;have a6:Hid ((prog.info? 273).map (·.size)=some z.size):=by show _=_;rw [E];exact DN _ _ _ _ _
 have a7:Hid ((prog.info? 273).map (·.size)=some R.size):=by show _=_;rw [F];exact DN _ _ _ _ _
 clear E F;obtain ⟨W0,C⟩:=qe ((w.alloc (.cells z 273)).alloc (.cells R 273));have B1:Below w.heap.size w (w.alloc (.cells z 273)):=zB.alloc zL _;have B2:Below (w.alloc (.cells z 273)).heap.size (w.alloc (.cells z 273)) W0:=by rw [C];exact zB.alloc zL _
 have B0:=B1.trans (B2.mono zS);have I1:=h.below B1;have H0:Hid (Wa B p vo va vs w t (Tr.content c f t) c f z R H a2 I J W0 t vo va):=by
  refine ⟨rfl,((Kept.refl h).below B0).Dt,hf,n,rfl,?_,?_,hA.below B0,hB.below B0⟩
  ·exact (OG.new h _ _ rfl).below B2
  ·rw [C];exact OG.new I1 _ _ zS
 have HZ:=hid hs;have U:=CL Z a0;clear h hf hs n hA hB Z a0 B0 B1 B2 I1;go_enter func201,ntmps201
 go_wp2_with fail
 rw [<- C];clear C;go_loopw [6] (fun _ wr=>∃ (t1:Tr) (r o:Value),Hid (Wa B p vo va vs w t (Tr.content c f t) c f z R H a2 I J wr t1 r o)) (fun _ wr=>Ml p wr)
 case atStart=>exact ⟨t,vo,va,H0⟩
 case round=>
  obtain ⟨t1,r,o,g⟩:=hrel;clear H0;cases he:t1.ended
  ·have M:=hid he;clear he;go_wp2_with (first | (go_at_call 182;refine (Bc _ g.out.Kz.inv).mono ?_;rw [M.out];rintro e Q ⟨rfl,rfl⟩) | (refine yT rfl 273 _ rfl _ rfl 273 _ _ _ g.out.ba.at_ underlying273 rfl a6.out ?_))
   have d:=Mh c H a2 k1 k2 wr g.out.Kz.inv g.out.CU (by rw [g.out.s];exact HZ.out) g.out.sa.set g.out.sa.la.off g.out.sa.lb.off (by have:=U.out.1;omega);rw [<- a4.out] at d;refine d.mono ?_;clear d;rintro e w1 ⟨rfl,q1⟩;have HF:=hid (Tr.Dj t1 c);have i:=hid q1.Dt;have S:Hid (t1.symbol c).2.Ao:=g.out.CU.symbol c;have b3:=Tr.Iq t1 c;have b4:(t1.symbol c).1<269:=by have:=U.out.1;omega
   have v:Hid (Tr.Bd t1 c f=if (t1.symbol c).1<256 then (t1.symbol c).2.put ((t1.symbol c).1%256).toNat else (t1.symbol c).2.Dh f ((t1.symbol c).1 - 257).toNat):=by show _=_;rfl
   have T:Hid ((t1.symbol c).2.ended=false->(t1.symbol c).1≠256->Tr.content c f (t1.Bd c f)=Tr.content c f t):=fun a b=>by rw [<- Tr.Hi U.out.1 M.out a b];exact g.out.nU
   have N:Hid ((t1.symbol c).2.ended=true\/(t1.symbol c).1=256->(t1.symbol c).2=Tr.content c f t):=fun a=>by rw [<- Tr.Fz (b:=f) M.out a];exact g.out.nU
   have y:Hid (Tr.Df t1 (t1.Bd c f)/\(t1.Bd c f).mu<t1.mu):=Tr.Fc U.out.1 M.out;clear q1;generalize t1.symbol c=D at *;cases hd:D.2.ended
   ·have L:=hid hd;clear hd;by_cases j:D.1=256
    ·have O:(D.1==256)=true:=by simp [j]
     go_wp2_with (go_at_call 182;refine (Bc _ i.out.inv).mono ?_;rw [L.out];rintro e Q ⟨rfl,rfl⟩)
     refine zX (vM rfl _ _ _) rfl ?_;rw [<- N.out (Or.inr j)];exact ⟨rfl,r,o,g.out.Kz.trans i.out⟩
    ·have O:(D.1==256)=false:=by simpa using j
     have HG:=T.out L.out j;have G:=hid HG;clear HG T N;by_cases a3:D.1<256
     ·have V:Hid (Tr.Bd t1 c f=D.2.put (D.1%256).toNat):=by show _=_;rw [v.out,zC a3]
      clear v;obtain ⟨bv,W⟩:=qe ((D.1%256).toNat:Nat);have b0:D.1%256=(bv:Int):=zO;rw [<- W] at V;clear W;go_wp2_with (go_at_call 182;refine (Bc _ i.out.inv).mono ?_;rw [L.out];rintro e Q ⟨rfl,rfl⟩)
      have P:D.2.out.length<=900000000000:=by rw [HF.out.out];exact Tr.NT g.out.cost
      refine (eZ bv w1 i.out.inv zO (by rw [S.out.Br];omega)).mono ?_;rintro e w2 ⟨rfl,u,q,m2⟩;have k:Hid (Wa B p vo va vs w t (Tr.content c f t) c f z R H a2 I J w2 (t1.Bd c f) u q):=by
       have m:=i.out.trans m2;rw [<- V.out] at m;exact g.out.kept m G.out (g.out.CU.Bd c f) y.out.1
      clear m2;go_wp2_with fail
      go_roundw
      case rel=>exact ⟨_,u,q,k⟩
      case measure=>rw [k.out.Kz.inv.Ml,g.out.Kz.inv.Ml];exact y.out.2
     ·have V:Hid (Tr.Bd t1 c f=D.2.Dh f (D.1 - 257).toNat):=by show _=_;rw [v.out,zA a3]
      clear v;obtain ⟨kv,Y⟩:=qe ((D.1 - 257).toNat:Nat);have b5:D.1 - 257=(kv:Int):=zO;have X:kv<=11:=zO;rw [<- Y] at V;clear Y;go_wp2_with (first | (go_at_call 182;refine (Bc _ i.out.inv).mono ?_;rw [L.out];rintro e Q ⟨rfl,rfl⟩) | (refine yT rfl 273 _ rfl _ rfl 273 _ _ _ (g.out.bb.Dt i.out).at_ underlying273 rfl a7.out ?_))
      have P:D.2.out.length<=900000000000:=by rw [HF.out.out];exact Tr.NT g.out.cost
      have A:=g.out.sb.Dt i.out;have d:=eW f I J l1 l2 kv w1 i.out.inv S.out (by rw [HF.out.s,g.out.s];exact HZ.out) P A.set A.la.off A.lb.off U.out.2 X;rw [<- a5.out] at d;refine d.mono ?_;clear d A P;rintro e w2 ⟨rfl,u,q,m2⟩;have k:Hid (Wa B p vo va vs w t (Tr.content c f t) c f z R H a2 I J w2 (t1.Bd c f) u q):=by
       have m:=i.out.trans m2;rw [<- V.out] at m;exact g.out.kept m G.out (g.out.CU.Bd c f) y.out.1
      clear m2;go_wp2_with fail
      go_roundw
      case rel=>exact ⟨_,u,q,k⟩
      case measure=>rw [k.out.Kz.inv.Ml,g.out.Kz.inv.Ml];exact y.out.2
   ·have L:=hid hd;clear hd;go_wp2_with (go_at_call 182;refine (Bc _ i.out.inv).mono ?_;rw [L.out];rintro e Q ⟨rfl,rfl⟩)
    refine zX (vM rfl _ _ _) rfl ?_;rw [<- N.out (Or.inl L.out)];exact ⟨rfl,r,o,g.out.Kz.trans i.out⟩
  ·have M:=hid he;clear he;go_wp2_with (go_at_call 182;refine (Bc _ g.out.Kz.inv).mono ?_;rw [M.out];rintro e Q ⟨rfl,rfl⟩)
   go_end0
   have e1:=g.out.nU;rw [Tr.Eh M.out] at e1;rw [<- e1];exact ⟨rfl,r,o,g.out.Kz⟩
theorem Kept.low{b:World}(h:Kept B p vo va vs t w a)(h0:Ft B p vo va vs t0 w)(c:Below w.heap.size a b):Kept B p vo va vs t w b:=by
 have hs:=h.kp.size;refine ⟨⟨h.inv.pB,zG h.inv.hB c.size,h.inv.row.of_block (c.block p h0.row.lt),?_,?_,?_,h.inv.po,h.inv.pa,h.inv.ps,h.inv.oa,h.inv.os,h.inv.sa⟩,⟨zG hs c.size,fun k hk hp=>(c.block k hk).trans (h.kp.block k hk hp)⟩,h.bel.trans (c.mono h0.hB)⟩
 ·exact As (R:=fun k=>w.heap.size<=k) (ρ:=fun k=>k) h.inv.out ⟨c.size,fun k _ hk=>c.block k zO⟩ (fun g d=>by have:=(h0.out.lt g d).2;omega)
 ·exact As (R:=fun k=>w.heap.size<=k) (ρ:=fun k=>k) h.inv.Br ⟨c.size,fun k _ hk=>c.block k zO⟩ (fun g d=>by have:=(h0.Br.lt g d).2;omega)
 ·exact As (R:=fun k=>w.heap.size<=k) (ρ:=fun k=>k) h.inv.Ua ⟨c.size,fun k _ hk=>c.block k zO⟩ (fun g d=>by have:=(h0.Ua.lt g d).2;omega)
theorem MO{B':Nat}{e:TypeId}(h:w.ownsRow B e sz v n xs)(hB:B'<=B):w.ownsRow B' e sz v n xs:=by
 refine ⟨h.1,?_⟩;rcases h.2 with hn | ⟨g,cap,cur,rfl,a,rest⟩
 ·exact .inl hn
 ·exact .inr ⟨g,cap,cur,rfl,zG hB a,rest⟩
structure ep(B p:Nat)(vo va vs:Value)(W:World)(H:CF)(n:Nat)(t0:Tr)(fin:List Int×Tr)(v:Value)(wr:World)(l:List Int)(t1:Tr):Prop where
 row:Tr.row H n l t1=fin
 own:wr.ownsRow W.heap.size 3 1 v l.length (Al l)
 kept:Kept B p vo va vs t1 W wr
 CU:t1.Ao
 s:t1.s=t0.s
 len:l.length<=n
 ON:Ae l=true
structure bQ(B p:Nat)(vo va vs:Value)(W:World)(T2:Tr)(l:List Int)(x:Int)(v:Value)(wz:World)(j:Nat):Prop where
 own:wz.ownsRow W.heap.size 3 1 v (l.length+j) (Al (l++List.replicate j x))
 kept:Kept B p vo va vs T2 W wz
 zero:T2.ended=true->j=0
theorem bQ.next{W:World}{T2:Tr}{x:Int}{wz w5:World}{j:Nat}(h0:Ft B p vo va vs t0 W)(h:bQ B p vo va vs W T2 l x v wz j)(he:T2.ended=false)
  (b:w5.ownsRow W.heap.size 3 1 (.slice (some ⟨g,0,none⟩) (l.length+j+1) c) (l.length+j+1) (Al (l++List.replicate j x)++[.int .i64 x])) (a:(wz.alloc o).grownBy w5 v.ownBlock):bQ B p vo va vs W T2 l x (.slice (some ⟨g,0,none⟩) (l.length+j+1) c) w5 (j+1):=by
 have d:=h.kept.kp.size;refine ⟨?_,h.kept.low h0 ((zB.alloc d _).grown a (by simp;omega) (fun g f=>(h.own.lt g f).1)),fun e=>by rw [he] at e;cases e⟩;have e:Al (l++List.replicate (j+1) x)=Al (l++List.replicate j x)++[.int .i64 x]:=by simp [Al,BP]
 rw [e];exact b
theorem nM(H:CF)(ad ad':Option Addr)(cap O n:Nat)(w:World)(h:Ft B p vo va vs t w)(hf:t.Ao)(hs:t.s.size<=maxLen)(hS:JZ w H ad ad')(ho:WY p ad)(c2:WY p ad')(hl:H.l.length=15)(hn:n<=300)(hr:Ae H.l=true)(hc:sumOf gw H.l=2048)(h1:H.one=false) :
  Calls prog 216 #[.pointer (some ⟨p,0,none⟩), .agg (ED H ad cap ad' O), .int .i64 n] w fun x w'=>∃ v,x= .returned v/\w'.ownsRow w.heap.size 3 1 v (Tr.row H n [] t).1.length (Al (Tr.row H n [] t).1)/\Kept B p vo va vs (Tr.row H n [] t).2 w w'/\(Tr.row H n [] t).1.length<=n/\Ae (Tr.row H n [] t).1=true:=by
 obtain ⟨cb,Z⟩:=qe (ED H ad cap ad' O);rw [<- Z];have c5:=hid Z;have c7:Hid ((prog.info? 273).map (·.size)=some cb.size):=by show _=_;rw [Z];exact DN _ _ _ _ _
 clear Z;obtain ⟨M,R⟩:=qe (w.alloc (.cells cb 273));have c3:M.heap.size=w.heap.size+1:=by rw [R];simp
 have a0:M.heap[w.heap.size]?=some (.cells cb 273 (0,0)):=by rw [R];exact zJ w _
 have B0:Below w.heap.size w M:=by rw [R];exact zB.alloc zL _
 have a9:=hid (h.below B0);have b0:=hid ((Kept.refl h).below B0);have e7:=h.row.lt;have g:Hid (WY p ad/\WY p ad'/\H.l.length=15/\Ae H.l=true/\sumOf gw H.l=2048/\H.one=false/\t.s.size<=maxLen):=⟨ho,c2,hl,hr,hc,h1,hs⟩
 have H0:Hid (ep B p vo va vs M H n t (Tr.row H n [] t) (.slice none 0 0) M [] t):=⟨rfl,yU _ _ _ _,Kept.refl a9.out,hf,rfl,zH _,rfl⟩
 have d1:=hid (hS.below B0);have c4:=hid a0;clear h hf hs hS ho c2 hl hr hc h1 B0 a0;go_enter func216,ntmps216
 go_wp2_with fail
 rw [<- R];clear R;go_loopw [7] (fun v wr=>∃ (l:List Int) (t1:Tr),Hid (ep B p vo va vs M H n t (Tr.row H n [] t) v wr l t1)) (fun _ wr=>Ml p wr)
 case atStart=>exact ⟨[],t,H0⟩
 case round=>
  obtain ⟨l,t1,a⟩:=hrel;clear H0;have e6:=a.out.len;have a7:=hid ((a.out.kept.kp.block _ (by rw [c3];omega) (by show w.heap.size≠p;omega)).trans c4.out);have d2:=hid (d1.out.JJ a.out.kept.kp g.out.1 g.out.2.1);obtain ⟨la,lc,hv,b8⟩:=OI.cells (w:=wr) (B:=M.heap.size) (l:=l) a.out.own;subst hv;by_cases a4:l.length<n
  ·cases he:t1.ended
   ·have W:=hid he;clear he;go_wp2_with (first | (go_at_call 182;refine (Bc _ a.out.kept.inv).mono ?_;rw [W.out];rintro e w' ⟨rfl,rfl⟩) | (refine yT rfl 273 _ rfl _ rfl 273 _ _ _ a7.out underlying273 rfl c7.out ?_))
    have C:=Mh H ad ad' cap O wr a.out.kept.inv a.out.CU (by rw [a.out.s];exact g.out.2.2.2.2.2.2) d2.out g.out.1 g.out.2.1 (by have:=g.out.2.2.1;omega);rw [<- c5.out] at C;refine C.mono ?_;clear C;rintro e w1 ⟨rfl,q1⟩;have HF:=CL (Tr.Dj t1 H) (a.out.CU.symbol H);have k:=hid q1;have b2:Hid (WY p la):=fun b o f e=>by
     subst e;have:=(a.out.own.lt b rfl).1;omega
    have a1:=b8.JJ q1.kp b2.out;have a2:=hid a1;have d3:=Tr.Iq t1 H;have b9:(t1.symbol H).1<15:=by have:=g.out.2.2.1;omega
    have b3:=hid (Tr.JG H n l t1);have a8:=hid (OQ g.out.2.2.2.1 g.out.2.2.2.2.1 g.out.2.2.2.2.2.1 t1);have e3:=hid (Tr.NN H W.out);have Y:Hid ((t1.symbol H).2.s.size<=maxLen):=by show _<=_;rw [HF.out.1.s,a.out.s];exact g.out.2.2.2.2.2.2
    clear q1 b8 a1;generalize t1.symbol H=D at *;go_upto_block 2 with fail
    go_cut [9,10] (fun sv sm wx=>∃ (x:Int) (m:Nat),sv= .int .i64 x/\sm= .int .i64 m/\m<=74/\Hid (x=(Tr.Bu D.2 D.1 l).1/\m=(Tr.Bu D.2 D.1 l).2.1/\Kept B p vo va vs (Tr.Bu D.2 D.1 l).2.2 wr wx))
    case first=>
     by_cases z:D.1=12
     ·have b4:(D.1==12)=true:=by simp [z]
      have r:Hid (Tr.Bu D.2 D.1 l=(if l.length=0 then 0 else l.getD (l.length - 1) 0,3+(D.2.number 2).1,if l.length=0 then (D.2.number 2).2.fail 10 else (D.2.number 2).2)):=by show _=_;unfold Tr.Bu;rw [zC z]
      have f0:(D.2.number 2).1<4:=Tr.Dy D.2 2;clear z;by_cases T:l.length=0
      ·have c0:((l.length:Int)==0)=true:=by rw [T];rfl
       have b1:=hid T;clear T;go_wp2_with (go_at_call 198;refine (FG 2 _ k.out.inv HF.out.2 Y.out zO).mono ?_;rintro e w2 ⟨rfl,I⟩;have u:=hid (k.out.trans I);clear I)
       refine (Dn 10 _ u.out.inv).mono ?_;rintro e w3 ⟨rfl,q3⟩;have N:=hid (u.out.trans q3);clear q3;go_wp2_with fail
       go_meet
       refine ⟨0,3+(D.2.number 2).1,rfl,by go_num,zO,?_⟩;show _/\_/\_;rw [r.out,zC b1.out,zC b1.out];exact ⟨rfl,rfl,N.out⟩
      ·have c0:((l.length:Int)==0)=false:=by rw [BJ];omega
       obtain ⟨q,hq⟩:∃ q,l.length=q+1:=⟨l.length - 1,zO⟩
       have e8:(l.length:Int) - 1=(q:Int):=zO;have e9:(q:Int)<(l.length:Int):=zO;obtain ⟨b,o,d5,_,_⟩:=a2.out q zO;subst d5;have c8:Hid (∀ w2,Kept B p vo va vs (D.2.number 2).2 w1 w2->w2.cell? ⟨b,o+q,none⟩=some (.int .i64 (l.getD q 0))):=fun w2 I=>by
        obtain ⟨b',o',e,_,hc⟩:=(a2.out.JJ I.kp b2.out) q zO;simp only [xP,xX,and_true] at e;rw [e.1,e.2];exact hc
       have c6:Hid (Tr.Bu D.2 D.1 l=(l.getD q 0,3+(D.2.number 2).1,(D.2.number 2).2)):=by show _=_;rw [r.out,zA T,zA T,hq,Nat.add_sub_cancel]
       clear hq;go_wp2_with (go_at_call 198;refine (FG 2 _ k.out.inv HF.out.2 Y.out zO).mono ?_;rintro e w2 ⟨rfl,I⟩;have u:=hid (k.out.trans I);have cq:=c8.out w2 I;clear I)
       go_meet
       refine ⟨l.getD q 0,3+(D.2.number 2).1,rfl,by go_num,zO,?_⟩;show _/\_/\_;rw [c6.out];exact ⟨rfl,rfl,u.out⟩
     ·have b4:(D.1==12)=false:=by simpa using z
      by_cases J:D.1=13
      ·have b5:(D.1==13)=true:=by simp [J]
       have r:Hid (Tr.Bu D.2 D.1 l=(0,3+(D.2.number 3).1,(D.2.number 3).2)):=by show _=_;unfold Tr.Bu;rw [zA z,zC J]
       have f1:(D.2.number 3).1<8:=Tr.Dy D.2 3;clear J;go_wp2_with (go_at_call 198;refine (FG 3 _ k.out.inv HF.out.2 Y.out zO).mono ?_;rintro e w2 ⟨rfl,I⟩;have u:=hid (k.out.trans I);clear I)
       go_meet
       refine ⟨0,3+(D.2.number 3).1,rfl,by go_num,zO,?_⟩;show _/\_/\_;rw [r.out];exact ⟨rfl,rfl,u.out⟩
      ·have b5:(D.1==13)=false:=by simpa using J
       by_cases P:D.1=14
       ·have b6:(D.1==14)=true:=by simp [P]
        have r:Hid (Tr.Bu D.2 D.1 l=(0,11+(D.2.number 6).1,(D.2.number 6).2)):=by show _=_;unfold Tr.Bu;rw [zA z,zA J,zC P]
        have e2:(D.2.number 6).1<64:=Tr.Dy D.2 6;clear P;go_wp2_with (go_at_call 198;refine (FG 6 _ k.out.inv HF.out.2 Y.out zO).mono ?_;rintro e w2 ⟨rfl,I⟩;have u:=hid (k.out.trans I);clear I)
        go_meet
        refine ⟨0,11+(D.2.number 6).1,rfl,by go_num,zO,?_⟩;show _/\_/\_;rw [r.out];exact ⟨rfl,rfl,u.out⟩
       ·have b6:(D.1==14)=false:=by simpa using P
        have r:Hid (Tr.Bu D.2 D.1 l=(D.1,1,D.2)):=by show _=_;unfold Tr.Bu;rw [zA z,zA J,zA P]
        go_wp2_with fail
        go_meet
        refine ⟨D.1,1,rfl,rfl,zO,?_⟩;show _/\_/\_;rw [r.out];exact ⟨rfl,rfl,k.out⟩
    case rest=>
    obtain ⟨x,m,rfl,rfl,d9,X⟩:=hcut;have a3:Hid (Tr.Da D.2 (Tr.Bu D.2 D.1 l).2.2/\(Tr.Bu D.2 D.1 l).2.2.Ao):=⟨Tr.Ks _ _ _,HF.out.2.Bu _ _⟩
    have d0:=hid (Tr.Tc a.out.ON d3.2 b9 a8.out);clear k a2 a8;generalize Tr.Bu D.2 D.1 l=q at *;obtain ⟨E,Q⟩:=qe (Tr.JH n l.length q);have y:Hid (Tr.Da q.2.2 E/\E.Ao/\(E.ended=false->l.length+m<=n)/\(E.ended=false->De x=true)):=by
     show _/\_;rw [Q,X.out.1,X.out.2.1];refine ⟨Tr.Ls _ _ _,Tr.Ao.JH _ _ a3.out.2,Tr.WD,fun he=>d0.out ((Tr.Ls n l.length q).Gh he)⟩
    by_cases S:n<l.length+m
    case' pos=>
     have A:decide ((n:Int)<(l.length:Int)+m)=true:=by simp;omega
     have HT:Hid (E=q.2.2.fail 10):=by show E=_;rw [Q];unfold Tr.JH;rw [<- X.out.2.1,zC S]
     go_wp2_with fail
     refine (Dn 10 _ X.out.2.2.inv).mono ?_;rintro e w3 ⟨rfl,q3⟩;have N:Hid (Kept B p vo va vs E wr w3):=by show Kept _ _ _ _ _ _ _ _;rw [HT.out];exact X.out.2.2.trans q3
     clear q3 HT A;go_wp2_with fail
    case' neg=>
     have A:decide ((n:Int)<(l.length:Int)+m)=false:=by simp;omega
     have HT:Hid (E=q.2.2):=by show E=_;rw [Q];unfold Tr.JH;rw [<- X.out.2.1,zA S]
     go_wp2_with fail
     obtain ⟨w3,a5⟩:=qe wc;rw [<- a5];have N:Hid (Kept B p vo va vs E wr w3):=by show Kept _ _ _ _ _ _ _ _;rw [HT.out,a5];exact X.out.2.2
     clear HT A a5
    all_goals
     clear S;have a6:Hid (bQ B p vo va vs M E l x (.slice la l.length lc) w3 0):=⟨by simpa using Hp a.out.own N.out.kp (fun e=>by have:=(a.out.own.lt p e).1;omega),a.out.kept.trans N.out,fun _=>rfl⟩
     go_loopw [7,14] (fun vv i wz=>∃ j:Nat,j<=m/\i= .int .i64 j/\Hid (bQ B p vo va vs M E l x vv wz j)) (fun _ i _=>m - (intOf i).toNat)
     case atStart=>exact ⟨0,zH _,rfl,a6⟩
     case round=>
      obtain ⟨j,hj,rfl,L⟩:=hrel;clear a6;by_cases e4:j<m
      ·cases hd:E.ended
       ·have HD:=hid hd;clear hd;have U:=L.out.own;have e0:=L.out.kept.kp.size;have e5:=y.out.2.2.1 HD.out;obtain ⟨i3,d4,d6,d7,d8⟩:=yM Gf;go_wp2_with (first | (go_at_call 182;refine (Bc _ L.out.kept.inv).mono ?_;rw [HD.out];rintro e w' ⟨rfl,rfl⟩) | (at_builtin;refine xC _ rfl _ _ 69 rfl M.heap.size 3 i3 (.int .i64 0) 1 8 underlying69 d4 d6 d7 d8 rfl zD u7 (l.length+j) (Al (l++List.replicate j x)) rfl (U.alloc _) ⟨wr.heap.size,0,none⟩ 1 1 [.int .i64 x] rfl rfl (yX _ _ _) (by simp [Value.oneCell']) zO (by unfold maxLen;omega) zO (by simp;omega) (wr.heap.size+1) zS ?_;intro g2 p2 w5 V F b7 c1))
        have HN:=L.out.next a9.out HD.out V F;have c9:=hid HN;clear HN V F b7 c1 U;go_roundw
        case rel=>exact ⟨j+1,zO,by go_num,c9⟩
        case measure=>simp [intOf];omega
       ·have HD:=hid hd;clear hd;go_wp2_with (first | (go_at_call 182;refine (Bc _ L.out.kept.inv).mono ?_;rw [HD.out];rintro e w' ⟨rfl,rfl⟩))
        have HR:Hid (ep B p vo va vs M H n t (Tr.row H n [] t) u7 wr (Tr.Et H n l t1).1 (Tr.Et H n l t1).2):=by
         have d:=b3.out;rw [<- Q] at d;have h0:=L.out.zero HD.out;subst h0;rw [zC HD.out] at d;have c:=L.out.own;simp only [BO,xV,vS] at c;have hlen:=a.out.len;have G:=a.out.ON;refine ⟨?_,?_,?_,?_,?_,?_,?_⟩
         ·rw [<- a.out.row,Tr.Tz a4 W.out]
         ·rw [d];exact c
         ·rw [d];exact L.out.kept
         ·rw [d];exact y.out.2.1
         ·rw [d];exact (y.out.1.s.trans (a3.out.1.s.trans HF.out.1.s)).trans a.out.s
         ·rw [d];exact hlen
         ·rw [d];exact G
        go_roundw
        case rel=>exact ⟨_,_,HR⟩
        case measure=>rw [HR.out.kept.inv.Ml,a.out.kept.inv.Ml];exact Tr.JB W.out
      ·obtain rfl:j=m:=zO;go_wp2_with fail
       have HR:Hid (ep B p vo va vs M H n t (Tr.row H n [] t) u7 wr (Tr.Et H n l t1).1 (Tr.Et H n l t1).2):=by
        have d:=b3.out;rw [<- Q] at d;cases hd:E.ended
        case' false=>
         rw [zA (by rw [hd];simp),<- X.out.1,<- X.out.2.1] at d;have c:=L.out.own;rw [show l.length+j=(l++List.replicate j x).length by simp] at c;have hlen:(l++List.replicate j x).length<=n:=by have:=y.out.2.2.1 hd;simp;omega
         have G:=Tr.Dk a.out.ON (y.out.2.2.2 hd) j
        case' true=>
         have h0:=L.out.zero hd;rw [zC hd] at d;have c:=L.out.own;rw [h0] at c;simp only [BO,xV,vS] at c;have hlen:=a.out.len;have G:=a.out.ON
        all_goals
         refine ⟨?_,?_,?_,?_,?_,?_,?_⟩
         ·rw [<- a.out.row,Tr.Tz a4 W.out]
         ·rw [d];exact c
         ·rw [d];exact L.out.kept
         ·rw [d];exact y.out.2.1
         ·rw [d];exact (y.out.1.s.trans (a3.out.1.s.trans HF.out.1.s)).trans a.out.s
         ·rw [d];exact hlen
         ·rw [d];exact G
       go_roundw
       case rel=>exact ⟨_,_,HR⟩
       case measure=>rw [HR.out.kept.inv.Ml,a.out.kept.inv.Ml];exact Tr.JB W.out
   ·have W:=hid he;clear he;go_wp2_with (go_at_call 182;refine (Bc _ a.out.kept.inv).mono ?_;rw [W.out];rintro e w' ⟨rfl,rfl⟩)
    go_ret
    have d:=a.out.row;rw [Tr.Im (by rw [W.out];simp)] at d;rw [<- d];exact ⟨_,rfl,MO a.out.own zO,b0.out.trans a.out.kept,a.out.len,a.out.ON⟩
  ·go_wp2
   go_ret
   have d:=a.out.row;rw [Tr.Im (fun e=>a4 e.1)] at d;rw [<- d];exact ⟨_,rfl,MO a.out.own zO,b0.out.trans a.out.kept,a.out.len,a.out.ON⟩
theorem eh{P:Program}{ops:Array Oper}{o:Oper}{a:Act}{K:Act->World->Prop}{Q:Exit->Act->World->Prop}{E:Prop}(c:o.guard=none)(b:TypeId)(x:Operand)(ho:o.op= .load b x)
  (g:Nat) (hx:a.eval x= .pointer (some ⟨g,0,none⟩)) (t:TypeId) (cs:Array Value) (fr:Nat×Nat) (d:TypeDesc) (e:w.heap[g]?=some (.cells cs t fr))
  (f:P.underlying b=some d) (hd:(match d with | .struct _ | .array _ _=>true | _=>false)=true) (hi:(P.info? b).map (·.size)=some cs.size)
  (h:K (a.put o.dst (.agg cs)) w):if Region.wanted o (yielded ops a.tmps)=true then Oper.wp P o a w K Q else E:=by
 have hw:Region.wanted o (yielded ops a.tmps)=true:=by simp [Region.wanted,c]
 rw [zC hw];exact wp_load_row b x ho g hx t cs fr d e f hd hi h
theorem Es{P:Program}{fn:Func}{p q:Tmp}{ty:TypeId}(h:fn.results=#[.cell p ty, .cell q ty])(a:Array Value)(w:World)(g e:Nat)(t n:TypeId)(cs b:Array Value)(fr c:Nat×Nat)(d:TypeDesc)
  (hp:a.getD p undef= .pointer (some ⟨g,0,none⟩)) (hq:a.getD q undef= .pointer (some ⟨e,0,none⟩)) (o:w.heap[g]?=some (.cells cs t fr)) (f:w.heap[e]?=some (.cells b n c))
  (l:P.underlying ty=some d) (hd:(match d with | .struct _ | .array _ _=>true | _=>false)=true) (hi:(P.info? ty).map (·.size)=some cs.size) (i:(P.info? ty).map (·.size)=some b.size) :
  (results fn a).run P w= .ok (.tuple #[.agg cs, .agg b]) w:=by
 have j:a[p]?.getD undef= .pointer (some ⟨g,0,none⟩):=by simpa using hp
 have k:a[q]?.getD undef= .pointer (some ⟨e,0,none⟩):=by simpa using hq
 simp [results,h,j,k,asAddr,AC w g t ty cs fr d o l hd hi,AC w e n ty b c d f l hd i]
theorem Gy{cs:Array Value}{t:TypeId}{fr:Nat×Nat}(b:w.heap[g]?=some (.cells cs t fr))(hv:cs[i]?=some v):w.setCell ⟨g,i,none⟩ v=w:=by
 have this:(w.setCell ⟨g,i,none⟩ v).heap=w.heap:=by
  apply BI;intro k;by_cases e:k=g
  ·subst e;have h1:(w.setCell ⟨k,i,none⟩ v).heap[k]?=some (.cells (cs.setIfInBounds i v) t fr):=by
    simp [World.setCell,Array.getElem?_modify,b]
   have h2:cs.setIfInBounds i v=cs:=by
    apply BI;intro j;rw [Array.getElem?_setIfInBounds];by_cases e:i=j
    ·subst e;have a:=(yQ.1 hv).1;rw [zC rfl,zC a,hv]
    ·rw [zA e]
   rw [h1,h2,b]
  ·exact zZ _ _ _ _ e
 have e:(w.setCell ⟨g,i,none⟩ v)={ w with heap:=(w.setCell ⟨g,i,none⟩ v).heap }:=rfl;rw [e,this]
def Eu(b k:Nat):Array Value:=#[.int .i64 (Tr.Ar b k), .int .i64 (Tr.Ag k)]
theorem FX(cs:Array Value)(h:cs.size=2):(prog.info? 125).map (·.size)=some cs.size:=by rw [h];kernel_rfl
theorem eG(a:b<=3)(h4:¬ k<4)(hk:k<=15):wrap64 ((b:Int)+wrap64 ((2+(k:Int)%2)*2^((k - 2) / 2)))=(Tr.Ar b k:Int)/\((k:Int) - 2) / 2=(Tr.Ag k:Int):=by
 have:k=4\/k=5\/k=6\/k=7\/k=8\/k=9\/k=10\/k=11\/k=12\/k=13\/k=14\/k=15:=zO;rcases this with rfl | rfl | rfl | rfl | rfl | rfl | rfl | rfl | rfl | rfl | rfl | rfl <;> (simp [Tr.Ar,Tr.Ag,wrap64];try omega)
theorem Ql(b k:Nat)(w:World)(c:b<=3)(hk:k<=15) :
  Calls prog 210 #[.int .i64 k, .int .i64 b] w fun x d=>x= .returned (.agg (Eu b k))/\Below w.heap.size w d:=by
 by_cases h4:k<4
 ·have e:Eu b k=#[.int .i64 ((b:Int)+k), .int .i64 0]:=by unfold Eu;rw [show Tr.Ar b k=b+k from zC h4,show Tr.Ag k=0 from zC h4];simp
  rw [e];clear e;go_enter func210,ntmps210
  go_wp2_with fail
  refine zX (v:= .agg #[.int .i64 ((b:Int)+k), .int .i64 0]) ?_ rfl ?_
  ·exact xH results210 _ _ _ 125 _ _ _ rfl (zJ _ _) underlying125 rfl (FX _ rfl)
  ·exact ⟨rfl,zB.alloc zL _⟩
 ·have a:Hid (True->Eu b k=#[.int .i64 (wrap64 ((b:Int)+wrap64 ((2+(k:Int)%2)*2^((k - 2) / 2)))), .int .i64 (((k:Int) - 2) / 2)]):=fun _=>by
   have h:=eG c h4 hk;unfold Eu;rw [h.1,h.2]
  go_enter func210,ntmps210
  go_wp2_with fail
  refine zX (v:= .agg #[.int .i64 (wrap64 ((b:Int)+wrap64 ((2+(k:Int)%2)*2^((k - 2) / 2)))), .int .i64 (((k:Int) - 2) / 2)]) ?_ rfl ?_
  ·exact xH results210 _ _ _ 125 _ _ _ rfl (zJ _ _) underlying125 rfl (FX _ rfl)
  ·exact ⟨by rw [a.out trivial],zB.alloc zL _⟩
theorem Pn(k:Nat)(w:World)(hk:k<=15) :
  Calls prog 194 #[.int .i64 k] w fun x j=>x= .returned (.agg (Eu 1 k))/\Below w.heap.size w j:=by
 have i:Below w.heap.size w (w.alloc (.cells #[.int .i64 0, .int .i64 0] 125)):=zB.alloc zL _;have f:=hid i;clear i;go_enter func194,ntmps194
 go_wp2_with fail
 refine (Ql 1 k _ zO hk).mono ?_;rintro e w1 ⟨rfl,b⟩;have h1:w1.heap[w.heap.size]?=some (.cells #[.int .i64 0, .int .i64 0] 125 (0,0)):=(b.block _ zS).trans (zJ _ _);have g:=hid (Ds f.out b);obtain ⟨cs,a⟩:=qe (Eu 1 k);have c:cs.size=2:=by rw [a];rfl
 have d:cs.all (·.oneCell')=true:=by rw [a];simp [Eu,Value.oneCell']
 rw [<- a];have h:Hid (True->cs=Eu 1 k):=fun _=>a
 clear a b;go_wp2_with (refine yS rfl 125 _ _ rfl w.heap.size cs rfl rfl 125 _ h1 (FX _ c) c.symm d ?_)
 refine zX (v:= .agg cs) ?_ rfl ?_
 ·exact xH results194 _ _ _ 125 _ _ _ rfl (xK _ _ _ _ 125 _ h1) underlying125 rfl (FX _ c)
 ·exact ⟨by rw [h.out trivial],xN g.out zL _⟩
end Go.Proofs.YtbcjmakpempkiaaGreatDoor
