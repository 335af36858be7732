import Derived.Test.YtbcjmakpempkiaaGreatDoorX06
import Derived.Test.YtbcjmakpempkiaaGreatDoorX15
set_option maxRecDepth 100000
set_option maxHeartbeats 8000000
set_option linter.all false
namespace Go.Proofs.YtbcjmakpempkiaaGreatDoor
structure Quo where
 out:Nat
 ratio:Nat
 slack:Nat
 steps:Nat
def vcn(q:Quo)(i o:Nat):Nat:=if q.steps<=i+o then 16 else if q.out<=o then 17 else if q.ratio*i+q.slack<=o then 18 else 0
inductive j3w(q:Quo)(D:Nat)(s:ByteArray):Cf->Cf->Prop
 | take (c:Cf):c.σ.act= .take->c.pre.length<s.size->¬ q.steps<=c.pre.length+c.outs.length->j3w q D s c { c with σ:=c.σ.add (k0w s c.pre.length),pre:=c.pre++[k0w s c.pre.length] }
 | put (c:Cf) (b:Nat) (σ':St):c.σ.act= .put b σ'->¬ D+64<=c.outs.length->vcn q c.pre.length c.outs.length=0->j3w q D s c { c with σ:=σ',outs:=c.outs++[b],ats:=c.ats++[c.pre.length] }
 | tau (c:Cf) (σ':St):c.σ.act= .tau σ'->j3w q D s c { c with σ:=σ',starts:=if c.σ.st=23 then c.starts++[c.pre.length - 1] else c.starts }
inductive v44(q:Quo)(D:Nat)(s:ByteArray):Cf->Cf->Prop
 | refl (c:Cf):v44 q D s c c
 | step (a b c:Cf):j3w q D s a b->v44 q D s b c->v44 q D s a c
theorem v44.trans{q:Quo}{D:Nat}{s:ByteArray}{a b c:Cf}(h:v44 q D s a b)(k:v44 q D s b c):v44 q D s a c:=by
 induction h with
 | refl=>exact k
 | step a b _ h1 _ ih=>exact .step a b _ h1 (ih k)
theorem v44.one{q:Quo}{D:Nat}{s:ByteArray}{a b:Cf}(h:j3w q D s a b):v44 q D s a b:= .step a b b h (.refl b)
inductive Halt(q:Quo)(D:Nat)(s:ByteArray)(closed:Bool)(c:Cf):Nat->Option Bool->Prop
 | hungry:c.σ.act= .take->s.size<=c.pre.length->Halt q D s closed c (if closed=true∧c.σ.st<23 then 15 else 0) (if closed=true then some (decide (¬ c.σ.st<23)) else none)
 | steps:c.σ.act= .take->c.pre.length<s.size->q.steps<=c.pre.length+c.outs.length->Halt q D s closed c 16 none
 | full (b:Nat) (σ':St):c.σ.act= .put b σ'->D+64<=c.outs.length->Halt q D s closed c 0 none
 | quota (b:Nat) (σ':St):c.σ.act= .put b σ'->¬ D+64<=c.outs.length->vcn q c.pre.length c.outs.length≠0->Halt q D s closed c (vcn q c.pre.length c.outs.length) none
 | fail (e:Nat):c.σ.act= .fail e->Halt q D s closed c e none
structure ypc(c:Cf):Prop where
 below:∀ x∈c.starts,x=0∨x<c.pre.length
 none:c.pre.length=0->c.starts=[0]
 one:c.σ.fmt≠2->c.starts=[0]
 bytes:∀ x∈c.pre,x<256
theorem ypc.begin(fm mem lim:Nat):ypc (Cf.begin fm mem lim):=⟨fun x hx=>by have:x∈[0]:=hx;simp at this;exact Or.inl this,fun _=>rfl,fun _=>rfl,fun x hx=>(by cases hx)⟩
theorem GI.step{fm mem lim:Nat}{q:Quo}{D:Nat}{s:ByteArray}{c c':Cf}(h:GI fm mem lim c)(st:j3w q D s c c')(ht:zik c.pre s):GI fm mem lim c'∧zik c'.pre s:=by
 cases st with
 | take h1 h2 h3=>exact ⟨h.take h1 (z5g _ _),ht.push h2⟩
 | put b σ' h1 h2 h3=>exact ⟨(h.put h1).1,ht⟩
 | tau σ' h1=>exact ⟨h.tau h1,ht⟩
theorem zck{c:Cf}{fm mem lim:Nat}(h:GI fm mem lim c)(hst:c.σ.st=23):c.σ.count=0∨c.σ.count=8:=by
 have few:=h.wf.few;rw [hst] at few;exact St.head_count few
theorem jqu{pre:List Nat}(h:∀ x∈pre,x<256):∃ s:ByteArray,s.size≠0∧zik pre s:=by
 refine ⟨⟨((pre++[0]).map UInt8.ofNat).toArray⟩,by simp [ByteArray.size],⟨by simp [ByteArray.size],fun k hk=>?_⟩⟩;unfold k0w;have h1:=h pre[k] (List.getElem_mem hk);simp only [List.getD_eq_getElem?_getD,List.getElem?_map,List.getElem?_append_left hk,List.getElem?_eq_getElem hk,Option.map_some,Option.getD_some];simp;omega
theorem vv2{c:Cf}{fm mem lim:Nat}(h:GI fm mem lim c)(hby:∀ x∈c.pre,x<256){σ':St}(ha:c.σ.act= .tau σ')(hst:c.σ.st=23):c.σ.fmt=2∧0<c.pre.length:=by
 have hc:=zck h hst;have ha2:=ha;rw [St.act_at hst] at ha2;simp only [St.actAt,St.need] at ha2;have h8:¬ c.σ.count<8:=fun h8=>by rw [if_pos h8] at ha2;cases ha2
 rw [if_neg h8] at ha2;have hf:c.σ.fmt=2:=Classical.byContradiction fun hf=>by rw [if_pos hf] at ha2;cases ha2
 refine ⟨hf,?_⟩;have e:=jqu hby;obtain ⟨s,hs,ht⟩:=e;obtain ⟨t,R,e1,e2,_⟩:=h.tr s hs ht;rw [← e2];show 0<t.inn+c.σ.count / 8;omega
theorem ypc.step{fm mem lim:Nat}{q:Quo}{D:Nat}{s:ByteArray}{c c':Cf}(h:GI fm mem lim c)(b:ypc c)(st:j3w q D s c c'):ypc c':=by
 have N:=St.next h.wf;cases st with
 | take h1 h2 h3=>
  refine ⟨fun x hx=>?_,fun h0=>?_,b.one,St.om_snoc b.bytes (z5g _ _)⟩
  ·have h4:=b.below x hx;show x=0∨x<(c.pre++[_]).length;rw [List.length_append,List.length_singleton];omega
  ·have h5:(c.pre++[k0w s c.pre.length]).length=0:=h0;simp at h5
 | put y σ' h1 h2 h3=>
  rw [h1] at N;exact ⟨b.below,b.none,fun hf=>b.one (by have:=N.2.2.2.1;intro h6;exact hf (this.trans h6)),b.bytes⟩
 | tau σ' h1=>
  rw [h1] at N;have hf:=N.2.2.1;by_cases hst:c.σ.st=23
  ·obtain ⟨f2,hp⟩:=vv2 h b.bytes h1 hst;refine ⟨fun x hx=>?_,fun h0=>by have:c.pre.length=0:=h0;omega,fun h6=>absurd (hf.trans f2) h6,b.bytes⟩;have hx2:x∈(if c.σ.st=23 then c.starts++[c.pre.length - 1] else c.starts):=hx;rw [if_pos hst] at hx2;rcases List.mem_append.1 hx2 with h7 | h7
   ·exact b.below x h7
   ·simp at h7;right;show x<c.pre.length;omega
  ·have e:(if c.σ.st=23 then c.starts++[c.pre.length - 1] else c.starts)=c.starts:=if_neg hst;exact ⟨fun x hx=>b.below x (by rw [← e];exact hx),fun h0=>e.trans (b.none h0),fun h6=>e.trans (b.one fun h7=>h6 (hf.trans h7)),b.bytes⟩
open Go.RowKit
def StrO(w:World)(ad:Option Addr)(P:List ByteArray):Prop:=∀ k (hk:k<P.length),∃ b o,ad=some ⟨b,o,none⟩∧b<w.heap.size∧w.cell? ⟨b,o+k,none⟩=some (.string P[k])
structure MS where
 fm:Nat
 ou:Nat
 ra:Nat
 sl:Nat
 me:Nat
 he:Nat
 sp:Nat
 st:Nat
 er:Nat
 tk:Nat
 pu:Nat
 mb:Nat
 held:Nat
 count:Nat
 marks:Nat
 head:Nat
 hsum:Nat
 sx:Nat
 sy:Nat
 size:Nat
 last:Bool
 left:Nat
 nl:Nat
 nd:Nat
 told:Nat
 hlen:Nat
 hbef:Bool
 hleast:Nat
 hbits:Nat
 lit:Nat
 least:Nat
 bits:Nat
 dist:Nat
 rest:List Nat
 qa:List Nat
 qc:List Nat
 hl:List Int
 row:List Int
 hs:List Int
 la:List Int
 lb:List Int
structure Lo where
 a:Nat
 b:Nat
 c:Nat
 d:Nat
 sv:Value
 sa:Nat
 hv:Value
 hp:Value
 rv:Value
 fx:Value
 sets:Value
def k7n(x:MS)(L:Lo):List Value:=
 [.int .i64 x.fm, .int .i64 x.ou, .int .i64 x.ra, .int .i64 x.sl, .int .i64 x.me, .int .i64 x.he, .int .i64 x.sp,
  .int .i64 x.st, .int .i64 x.er, .int .i64 x.tk, .int .i64 x.pu, .int .i64 x.mb,L.sv, .int .i64 L.sa, .int .u64 x.held, .int .i64 x.count,
  .pointer (some ⟨L.a,0,none⟩), .pointer (some ⟨L.c,0,none⟩), .int .u8 x.marks, .int .i64 x.head, .int .u8 x.hsum, .int .i64 x.sx, .int .i64 x.sy, .int .u16 x.size,
  .bool x.last, .int .i64 x.left, .int .i64 x.nl, .int .i64 x.nd, .int .i64 x.told,L.hv,L.hp, .int .i64 x.hlen, .bool x.hbef, .int .i64 x.hleast, .int .i64 x.hbits,L.rv,
  L.fx,L.sets, .int .u8 x.lit, .int .i64 x.least, .int .i64 x.bits, .int .i64 x.dist]
def lrow(l:List Value)(j:Nat):Value:=l.getD j (.int .i64 0)
theorem ypd{w:World}{p:Nat}{T:TypeId}{n:Nat}{l:List Value}(h:w.rowIs p T n (lrow l))(i:Nat)(v:Value)(hn:l.length=n):(w.setCell ⟨p,i,none⟩ v).rowIs p T n (lrow (l.set i v)):=by
 refine (h.set i v).congr fun j hj=>?_
 unfold lrow;by_cases e:j=i
 ·subst e;rw [if_pos rfl];simp [List.getD_eq_getElem?_getD,hn,hj]
 ·rw [if_neg e];simp [List.getD_eq_getElem?_getD,Ne.symm e]
structure TabS(ρ:Nat->Nat)(w:World)(T:TypeId)(k:Nat)(mean:Nat->List Value)(t:Nat)(l:List Int):Prop where
 tab:∃ m n mg,TabI w T k t m n (cn l) (fc (cn l)) (bgTo l 12) (lgTo l 12) mg∧bsum l 12=n∧(∀ i,i<l.length->0<l.getD i 0->mg (pos l i)=mean i)∧ρ m=8
 role:ρ t=8
 rng:inRange l=true
 len:l.length<=269
def yoe(ρ:Nat->Nat)(w:World)(g:Nat)(la lb:List Int):Prop:=
 ∃ t u,w.rowIs g 224 2 (lrow [.pointer (some ⟨t,0,none⟩), .pointer (some ⟨u,0,none⟩)])∧ρ g=8∧
  TabS ρ w 268 4 (fun i=>(litC i).toList) t la∧TabS ρ w 271 2 (fun i=>(y5c 1 i).toList) u lb
def strN(s:ByteArray):List Nat:=s.data.toList.map UInt8.toNat
structure SupI(ρ:Nat->Nat)(w:World)(v:Value)(sa:Nat)(rest:List Nat):Prop where
 at_:∃ ad P cap,v= .slice ad P.length cap∧StrO w ad P∧P.length<=cap∧cap<=maxLen∧(∀ s∈P,s.size<=maxLen)∧sa<=((P.head?.map ByteArray.size).getD 0)∧rest=(P.flatMap strN).drop sa∧∀ b o,ad=some ⟨b,o,none⟩->ρ b=9
structure MB(ρ:Nat->Nat)(w:World)(p:Nat)(x:MS)(L:Lo):Prop where
 row:w.rowIs p 132 42 (lrow (k7n x L))
 ra:∃ o f,RgI w L.a L.b 64 o f x.qa
 rc:∃ o f,RgI w L.c L.d 256 o f x.qc
 rp:ρ p=1
 rl:ρ L.a=2∧ρ L.b=3∧ρ L.c=4∧ρ L.d=5
structure MT(ρ:Nat->Nat)(w:World)(x:MS)(L:Lo):Prop where
 sup:SupI ρ w L.sv L.sa x.rest
 hl:OI w 0 L.hv x.hl∧∀ g,L.hv.ownBlock=some g->ρ g=6
 rw:OI w 0 L.rv x.row∧∀ g,L.rv.ownBlock=some g->ρ g=7
 hp:x.hs=[]∨∃ t,L.hp= .pointer (some ⟨t,0,none⟩)∧TabS ρ w 265 4 (fun i=>(v3q i).toList) t x.hs
 sets:x.la=[]∨∃ g,L.sets= .pointer (some ⟨g,0,none⟩)∧yoe ρ w g x.la x.lb
 fx:L.fx= .pointer none∨∃ g,L.fx= .pointer (some ⟨g,0,none⟩)∧yoe ρ w g Tr.fixedA Tr.fixedB
 lt:∀ k,ρ k≠0->k<w.heap.size
def MM(ρ:Nat->Nat)(w:World)(p:Nat)(x:MS):Prop:=∃ L,MB ρ w p x L∧MT ρ w x L
structure Fr(R:Nat->Prop)(ρ:Nat->Nat)(w w':World):Prop where
 kp:Kp R ρ w w'
 os:w'.os=w.os
 tape:w'.tape=w.tape
 output:w'.output=w.output
theorem Fr.refl(R:Nat->Prop)(ρ:Nat->Nat)(w:World):Fr R ρ w w:=⟨Kp.refl _ _ _,rfl,rfl,rfl⟩
theorem Fr.trans{R:Nat->Prop}{ρ:Nat->Nat}{a b c:World}(h:Fr R ρ a b)(k:Fr R ρ b c):Fr R ρ a c:=⟨h.kp.trans k.kp,k.os.trans h.os,k.tape.trans h.tape,k.output.trans h.output⟩
theorem Fr.mono{R R':Nat->Prop}{ρ:Nat->Nat}{a b:World}(h:Fr R ρ a b)(hR:∀ x,R x->R' x):Fr R' ρ a b:=⟨h.kp.mono hR,h.os,h.tape,h.output⟩
theorem Fr.below{R:Nat->Prop}{ρ:Nat->Nat}{a b:World}(h:Below a.heap.size a b):Fr R ρ a b:=⟨Kp.of_below h,h.os,h.tape,h.output⟩
theorem Fr.set{R:Nat->Prop}{ρ:Nat->Nat}(a:World)(p:Nat)(i:Nat)(v:Value)(hR:R (ρ p)):Fr R ρ a (a.setCell ⟨p,i,none⟩ v):=⟨Kp.of_set a _ _ hR,rfl,rfl,rfl⟩
theorem Fr.drewN{R:Nat->Prop}{ρ:Nat->Nat}{a b:World}(h:Fr R ρ a b)(n:Nat):Fr R ρ a (b.drewN n):=⟨⟨h.kp.size,h.kp.block⟩,h.os,h.tape,h.output⟩
theorem Fr.two{R:Nat->Prop}{ρ:Nat->Nat}{r c:Nat}{a b:World}(h:Two r c a b)(h1:R (ρ r))(h2:R (ρ c)):Fr R ρ a b:=⟨⟨h.kp.size,fun k hk hr=>h.kp.block k hk (fun e=>by rcases e with e | e <;> subst e <;> exact hr (by assumption))⟩,h.os,h.tape,h.output⟩
theorem TabS.fr{R:Nat->Prop}{ρ:Nat->Nat}{w w':World}{T:TypeId}{k:Nat}{mean:Nat->List Value}{t:Nat}{l:List Int}(h:TabS ρ w T k mean t l)(f:Kp R ρ w w')(h8:¬ R 8):TabS ρ w' T k mean t l:=by
 obtain ⟨m,n,mg,I,h1,h2,h3⟩:=h.tab;refine ⟨⟨m,n,mg,⟨zlz I.row f (by rw [h.role];exact h8),fun j hj=>⟨(I.at_ j hj).1,?_⟩,⟨Nat.lt_of_lt_of_le I.pm.1 f.size,Nat.lt_of_lt_of_le I.pm.2 f.size⟩⟩,h1,h2,h3⟩,h.role,h.rng,h.len⟩;intro i v hv;have:=(I.at_ j hj).2 i v hv;unfold World.cell? at this ⊢;rw [f.block m I.pm.2 (by rw [h3];exact h8)];exact this
theorem yoe.fr{R:Nat->Prop}{ρ:Nat->Nat}{w w':World}{g:Nat}{la lb:List Int}(h:yoe ρ w g la lb)(f:Kp R ρ w w')(h8:¬ R 8):yoe ρ w' g la lb:=by
 obtain ⟨t,u,h1,h2,h3,h4⟩:=h;exact ⟨t,u,zlz h1 f (by rw [h2];exact h8),h2,h3.fr f h8,h4.fr f h8⟩
theorem StrO.kp{R:Nat->Prop}{ρ:Nat->Nat}{w w':World}{ad:Option Addr}{P:List ByteArray}(h:StrO w ad P)(f:Kp R ρ w w')(h0:∀ b o,ad=some ⟨b,o,none⟩->¬ R (ρ b)):StrO w' ad P:=fun k hk=>by
 obtain ⟨b,o,e,h1,h2⟩:=h k hk;refine ⟨b,o,e,Nat.lt_of_lt_of_le h1 f.size,?_⟩;unfold World.cell? at h2 ⊢;rw [f.block b h1 (h0 b o e)];exact h2
theorem SupI.fr{R:Nat->Prop}{ρ:Nat->Nat}{w w':World}{v:Value}{sa:Nat}{rest:List Nat}(h:SupI ρ w v sa rest)(f:Kp R ρ w w')(h0:¬ R 9):SupI ρ w' v sa rest:=by
 obtain ⟨ad,P,cap,e,h1,h2,h3,h4,h5,h6,h7⟩:=h.at_;exact ⟨ad,P,cap,e,h1.kp f (fun b o hb=>by rw [h7 b o hb];exact h0),h2,h3,h4,h5,h6,h7⟩
theorem MT.fr{R:Nat->Prop}{ρ:Nat->Nat}{w w':World}{x:MS}{L:Lo}(h:MT ρ w x L)(f:Kp R ρ w w')(hR:∀ r,R r->r<=5):MT ρ w' x L where
 sup:=h.sup.fr f (fun e=>by have:=hR 9 e;omega)
 hl:=⟨kcz h.hl.1 f (fun g hg e=>by rw [h.hl.2 g hg] at e;have:=hR 6 e;omega),h.hl.2⟩
 rw:=⟨kcz h.rw.1 f (fun g hg e=>by rw [h.rw.2 g hg] at e;have:=hR 7 e;omega),h.rw.2⟩
 hp:=h.hp.imp id fun ⟨t,e,k⟩=>⟨t,e,k.fr f (fun e=>by have:=hR 8 e;omega)⟩
 sets:=h.sets.imp id fun ⟨t,e,k⟩=>⟨t,e,k.fr f (fun e=>by have:=hR 8 e;omega)⟩
 fx:=h.fx.imp id fun ⟨t,e,k⟩=>⟨t,e,k.fr f (fun e=>by have:=hR 8 e;omega)⟩
 lt:=fun k hk=>Nat.lt_of_lt_of_le (h.lt k hk) f.size
theorem x1n{ρ:Nat->Nat}{a b i j:Nat}(ha:ρ a=i)(hb:ρ b=j)(h:i≠j):a≠b:=fun e=>h (by rw [← ha,← hb,e])
theorem RgI.kp{R:Nat->Prop}{ρ:Nat->Nat}{w w':World}{r c N o:Nat}{f:Nat->Nat}{q:List Nat}(h:RgI w r c N o f q)(k:Kp R ρ w w')(h1:¬ R (ρ r))(h2:¬ R (ρ c)):RgI w' r c N o f q:=⟨zlz h.row k h1,zlz h.cells k h2,h.pos,h.small,h.ho,h.hq,h.at_,h.ne⟩
theorem MB.fr{ρ:Nat->Nat}{w w':World}{p:Nat}{x:MS}{L:Lo}(h:MB ρ w p x L)(f:Kp (fun _=>False) ρ w w'):MB ρ w' p x L where
 row:=zlz h.row f (fun e=>e)
 ra:=by obtain ⟨o,g,k⟩:=h.ra;exact ⟨o,g,k.kp f (fun e=>e) (fun e=>e)⟩
 rc:=by obtain ⟨o,g,k⟩:=h.rc;exact ⟨o,g,k.kp f (fun e=>e) (fun e=>e)⟩
 rp:=h.rp
 rl:=h.rl
theorem MM.fr{ρ:Nat->Nat}{w w':World}{p:Nat}{x:MS}(h:MM ρ w p x)(f:Kp (fun _=>False) ρ w w'):MM ρ w' p x:=by
 obtain ⟨L,h1,h2⟩:=h;exact ⟨L,h1.fr f,h2.fr f (fun _ e=>e.elim)⟩
theorem MM.below{ρ:Nat->Nat}{w w':World}{p:Nat}{x:MS}(h:MM ρ w p x)(f:Below w.heap.size w w'):MM ρ w' p x:=h.fr (Kp.of_below f)
theorem MM.drewN{ρ:Nat->Nat}{w:World}{p:Nat}{x:MS}(h:MM ρ w p x)(n:Nat):MM ρ (w.drewN n) p x:=h.fr ⟨Nat.le_refl _,fun _ _ _=>rfl⟩
theorem MB.drewN{ρ:Nat->Nat}{w:World}{p:Nat}{x:MS}{L:Lo}(h:MB ρ w p x L)(n:Nat):MB ρ (w.drewN n) p x L:=h.fr ⟨Nat.le_refl _,fun _ _ _=>rfl⟩
theorem MT.drewN{ρ:Nat->Nat}{w:World}{x:MS}{L:Lo}(h:MT ρ w x L)(n:Nat):MT ρ (w.drewN n) x L:=h.fr (R:=fun _=>False) ⟨Nat.le_refl _,fun _ _ _=>rfl⟩ (fun _ e=>e.elim)
theorem MB.set{ρ:Nat->Nat}{w:World}{p:Nat}{x y:MS}{L M:Lo}(h:MB ρ w p x L)(i:Nat)(v:Value)(e:(k7n x L).set i v=k7n y M)(ha:M.a=L.a∧M.b=L.b∧M.c=L.c∧M.d=L.d)(hq:y.qa=x.qa∧y.qc=x.qc):MB ρ (w.setCell ⟨p,i,none⟩ v) p y M:=by
 obtain ⟨o,f,k⟩:=h.ra;obtain ⟨o2,f2,k2⟩:=h.rc;have hk:Kp (fun r=>r=1) ρ w (w.setCell ⟨p,i,none⟩ v):=Kp.of_set w _ _ h.rp;obtain ⟨r1,r2,r3,r4⟩:=h.rl;obtain ⟨a1,a2,a3,a4⟩:=ha;refine ⟨by rw [← e];exact ypd h.row i v rfl,⟨o,f,?_⟩,⟨o2,f2,?_⟩,h.rp,by rw [a1,a2,a3,a4];exact h.rl⟩
 ·rw [a1,a2,hq.1];exact k.kp hk (by rw [r1];decide) (by rw [r2];decide)
 ·rw [a3,a4,hq.2];exact k2.kp hk (by rw [r3];decide) (by rw [r4];decide)
theorem MT.set{ρ:Nat->Nat}{w:World}{p:Nat}{x:MS}{L:Lo}(h:MT ρ w x L)(hp:ρ p=1)(i:Nat)(v:Value):MT ρ (w.setCell ⟨p,i,none⟩ v) x L:=h.fr (R:=fun r=>r=1) (Kp.of_set w _ _ hp) (fun r e=>by omega)
namespace MS
def refuse(x:MS)(e:Nat):MS×Nat:=({ x with er:=e,qa:=[] },3)
def rd(x:MS)(k:Nat):MS:={ x with held:=x.held / 2^k,count:=x.count - k }
def num(x:MS)(k:Nat):Nat:=x.held%2^k
def andThen(r:MS×Nat)(f:MS->MS×Nat):MS×Nat:=if r.2=0 then f r.1 else r
def fed(x:MS)(b:Nat)(l:List Nat):MS:={ x with held:=x.held+2^x.count*b,count:=x.count+8,tk:=x.tk+1,rest:=l }
def takeL(x:MS):List Nat->MS×Nat
 | []=>(x,1)
 | b :: l=>if x.sp<=x.tk+x.pu then x.refuse 16 else (x.fed b l,0)
def take(x:MS):MS×Nat:=x.takeL x.rest
def needL(k:Nat):List Nat->MS->MS×Nat
 | [],x=>if k<=x.count then (x,0) else (x,1)
 | b :: l,x=>if k<=x.count then (x,0) else if x.sp<=x.tk+x.pu then x.refuse 16 else needL k l (x.fed b l)
def need(k:Nat)(x:MS):MS×Nat:=needL k x.rest x
def putE(x:MS):Nat:=if x.sp<=x.tk+x.pu then 16 else if x.ou<=x.pu then 17 else if x.ra*x.tk+x.sl<=x.pu then 18 else 0
def pushed(q:List Nat)(b:Nat):List Nat:=if q.length=256 then q.tail++[b] else q++[b]
def putted(x:MS)(b:Nat):MS:={ x with pu:=x.pu+1,qa:=x.qa++[b],qc:=pushed x.qc b,sx:=(x.sx+b)%65521,sy:=(x.sy+(x.sx+b)%65521)%65521,size:=(x.size+1)%65536 }
def put(x:MS)(b:Nat):MS×Nat:=if x.qa.length=64 then (x,2) else if x.putE≠0 then x.refuse x.putE else (x.putted b,0)
def symL(l:List Int):Nat->Nat->Nat->MS->MS×Nat×Nat
 | 0,_,_,x=>((x.refuse 11).1,3,0)
 | r+1,n,code,x=>
  if (need n x).2≠0 then ((need n x).1,(need n x).2,0)
  else if 0<=find (rset l) n ((2*code+(need n x).1.held / 2^(n - 1)%2:Nat):Int) then ((need n x).1.rd n,0,(find (rset l) n ((2*code+(need n x).1.held / 2^(n - 1)%2:Nat):Int)).toNat)
  else symL l r (n+1) (2*code+(need n x).1.held / 2^(n - 1)%2) (need n x).1
def sym(l:List Int)(x:MS):MS×Nat×Nat:=symL l (lgTo l 12) 1 0 x
def symThen(r:MS×Nat×Nat)(f:MS->Nat->MS×Nat):MS×Nat:=if r.2.1=0 then f r.1 r.2.2 else (r.1,r.2.1)
def spanR(x:MS)(least bits:Nat):MS×Nat×Nat:=if (need bits x).2=0 then ((need bits x).1.rd bits,0,least+(need bits x).1.num bits) else ((need bits x).1,(need bits x).2,0)
def beginMember(x:MS):MS×Nat:=andThen (need 8 x) fun y=>if y.mb=y.me then y.refuse 6 else ({ y with mb:=y.mb+1,marks:=0,head:=0,hsum:=0,sx:=1,sy:=0,size:=0,qc:=[] },0)
def headRead(y:MS):MS:={ y.rd 8 with head:=y.head+1,hsum:=(y.hsum+y.num 8)%256 }
def takeHead(x:MS):MS×Nat×Nat:=if (need 8 x).2≠0 then ((need 8 x).1,(need 8 x).2,0) else if (need 8 x).1.head=(need 8 x).1.he then (((need 8 x).1.refuse 5).1,3,0) else ((need 8 x).1.headRead,0,(need 8 x).1.num 8)
def passByte(want:Nat)(x:MS):MS×Nat:=symThen x.takeHead fun y b=>if b=want then (y,0) else y.refuse 4
def passFixed(want:Nat)(x:MS):MS×Nat:=if x.fm=0 then (x,0) else passByte want x
def passMarks(x:MS):MS×Nat:=if x.fm=2 then symThen x.takeHead fun y b=>if 7<b then y.refuse 4 else ({ y with marks:=b },0) else (x,0)
def textL:Nat->MS->MS×Nat
 | 0,x=>(x,1)
 | f+1,x=>if x.takeHead.2.1≠0∨x.takeHead.2.2=0 then (x.takeHead.1,x.takeHead.2.1) else textL f x.takeHead.1
def more(x:MS):Nat:=x.rest.length+x.count / 8
def passText(mark:Nat)(x:MS):MS×Nat:=if x.marks / mark%2=0 then (x,0) else textL (x.more+1) x
def passCheck(x:MS):MS×Nat:=if x.marks / 4%2=0 then (x,0) else passByte x.hsum x
def first(fm:Nat):Nat:=if fm=1 then 115 else 76
def second(fm:Nat):Nat:=if fm=1 then 1 else 2
def h6(x:MS):MS×Nat:=andThen (passCheck x) fun y=>({ y with st:=7 },0)
def h5(x:MS):MS×Nat:=andThen (passText 2 x) fun y=>h6 { y with st:=6 }
def h4(x:MS):MS×Nat:=andThen (passText 1 x) fun y=>h5 { y with st:=5 }
def h3(x:MS):MS×Nat:=andThen (passMarks x) fun y=>h4 { y with st:=4 }
def h2(x:MS):MS×Nat:=andThen (passFixed (second x.fm) x) fun y=>h3 { y with st:=3 }
def h1(x:MS):MS×Nat:=andThen (passFixed (first x.fm) x) fun y=>h2 { y with st:=2 }
def h0(x:MS):MS×Nat:=andThen (beginMember x) fun y=>h1 { y with st:=1 }
def skipBits(x:MS):MS×Nat:=if x.num x.count=0 then (x.rd x.count,0) else (x.rd x.count).refuse 8
def endBlock(x:MS):MS×Nat:=if x.last then skipBits { x with st:=22 } else ({ x with st:=7 },0)
def kind(y:MS):MS×Nat:=
 if y.held / 2%4=0 then skipBits { y.rd 3 with last:=y.num 1==1,st:=8 }
 else if y.held / 2%4=1 then ({ y.rd 3 with last:=y.num 1==1,la:=Tr.fixedA,lb:=Tr.fixedB,st:=17 },0)
 else if y.held / 2%4=2 then ({ y.rd 3 with last:=y.num 1==1,st:=10 },0)
 else ({ y.rd 3 with last:=y.num 1==1 }:MS).refuse 7
def b7(x:MS):MS×Nat:=andThen (need 3 x) kind
def plainL:Nat->MS->MS×Nat
 | 0,x=>endBlock x
 | n+1,x=>andThen (need 8 x) fun y=>andThen (y.put (y.num 8)) fun z=>plainL n { z.rd 8 with left:=n }
def b9(x:MS):MS×Nat:=plainL x.left x
def b8(x:MS):MS×Nat:=andThen (need 32 x) fun y=>if y.held / 65536%65536=65535 - y.num 16 then b9 { y.rd 32 with left:=y.num 16,st:=9 } else ({ y.rd 32 with left:=y.num 16 }:MS).refuse 9
def helpersMade(x:MS):MS×Nat:=if jwa gw (hset x.hl)=2048 then ({ x with hs:=hset x.hl,st:=14 },0) else x.refuse 10
def hlL:Nat->MS->MS×Nat
 | 0,x=>helpersMade x
 | n+1,x=>andThen (need 3 x) fun y=>hlL n { y.rd 3 with hl:=y.hl++[(y.num 3:Int)] }
def o13(x:MS):MS×Nat:=hlL (x.told - x.hl.length) x
def o12(x:MS):MS×Nat:=andThen (need 4 x) fun y=>if 11<y.num 4 then ({ y.rd 4 with told:=4+y.num 4 }:MS).refuse 10 else o13 { y.rd 4 with told:=4+y.num 4,st:=13 }
def o11(x:MS):MS×Nat:=andThen (need 4 x) fun y=>o12 { y.rd 4 with nd:=1+y.num 4,st:=12 }
def o10(x:MS):MS×Nat:=andThen (need 4 x) fun y=>if 12<y.num 4 then ({ y.rd 4 with nl:=257+y.num 4 }:MS).refuse 10 else o11 { y.rd 4 with nl:=257+y.num 4,st:=11 }
def endRow(x:MS):MS×Nat:=
 if jcj (x.row.take x.nl) (x.row.drop x.nl) then x.refuse 10
 else ({ x with la:=x.row.take x.nl,lb:=x.row.drop x.nl,nl:=0,nd:=0,told:=0,hl:=[],hs:=[],hlen:=0,hbef:=false,hleast:=0,hbits:=0,row:=[],st:=17 },0)
def rowLen(x:MS):Int:=if x.hbef then x.row.getD (x.row.length - 1) 0 else x.hlen
def rowEnd(x:MS):MS×Nat:=if x.row.length=x.nl+x.nd then endRow x else (x,0)
def r15(x:MS):MS×Nat:=symThen (x.spanR x.hleast x.hbits) fun y times=>
 if (y.hbef=true∧y.row.length=0)∨y.nl+y.nd<y.row.length+times then y.refuse 10
 else rowEnd { y with row:=y.row++List.replicate times y.rowLen,st:=14 }
def helped(x:MS)(k:Nat):MS:={ x with hlen:=if k=12∨k=13∨k=14 then 0 else k,hbef:=decide (k=12),hleast:=Go.Proofs.YtbcjmakpempkiaaGreatDoor.hleast k,hbits:=Go.Proofs.YtbcjmakpempkiaaGreatDoor.hbits k }
def r14(x:MS):MS×Nat:=symThen (x.sym x.hs) fun y k=>r15 { y.helped k with st:=15 }
def copyL:Nat->MS->MS×Nat
 | 0,x=>({ x with st:=17 },0)
 | n+1,x=>andThen (x.put (x.qc.getD (x.qc.length - x.dist) 0)) fun y=>copyL n { y with left:=n }
def c21(x:MS):MS×Nat:=copyL x.left x
def c20(x:MS):MS×Nat:=symThen (x.spanR x.least x.bits) fun y n=>if y.qc.length<n then y.refuse 11 else c21 { y with dist:=n,st:=21 }
def c19(x:MS):MS×Nat:=symThen (x.sym x.lb) fun y k=>c20 { y with least:=Tr.spanLeast 1 k,bits:=Tr.spanBits k,st:=20 }
def c18(x:MS):MS×Nat:=symThen (x.spanR x.least x.bits) fun y n=>c19 { y with left:=n,st:=19 }
def c17(x:MS):MS×Nat:=symThen (x.sym x.la) fun y k=>
 if k<256 then ({ y with lit:=k,st:=16 },0) else if k=256 then endBlock y
 else c18 { y with least:=Tr.spanLeast 3 (k - 257),bits:=Tr.spanBits (k - 257),st:=18 }
def c16(x:MS):MS×Nat:=andThen (x.put x.lit) fun y=>c17 { y with st:=17 }
def e24(x:MS):MS×Nat:=andThen (need 8 x) fun y=>if y.fm=2 then ({ y with st:=0 },0) else y.refuse 14
def passSize(x:MS):MS×Nat:=if x.fm=2 then andThen (need 16 x) fun y=>if y.num 16=y.size then (y.rd 16,0) else (y.rd 16).refuse 13 else (x,0)
def e23(x:MS):MS×Nat:=andThen (passSize x) fun y=>e24 { y with st:=24 }
def passSum(x:MS):MS×Nat:=if x.fm=0 then (x,0) else andThen (need 32 x) fun y=>if big4 y.held=65536*y.sy+y.sx then (y.rd 32,0) else (y.rd 32).refuse 12
def e22(x:MS):MS×Nat:=andThen (passSum x) fun y=>e23 { y with st:=23 }
def advance(x:MS):MS×Nat:=
 match x.st with
 | 0=>h0 x
 | 1=>h1 x
 | 2=>h2 x
 | 3=>h3 x
 | 4=>h4 x
 | 5=>h5 x
 | 6=>h6 x
 | 7=>b7 x
 | 8=>b8 x
 | 9=>b9 x
 | 10=>o10 x
 | 11=>o11 x
 | 12=>o12 x
 | 13=>o13 x
 | 14=>r14 x
 | 15=>r15 x
 | 16=>c16 x
 | 17=>c17 x
 | 18=>c18 x
 | 19=>c19 x
 | 20=>c20 x
 | 21=>c21 x
 | 22=>e22 x
 | 23=>e23 x
 | _=>e24 x
end MS
def y0y(ρ:Nat->Nat)(w:World)(p:Nat)(r:MS×Nat)(e:Ending)(w':World):Prop:=e= .returned (.int .i64 r.2)∧MM ρ w' p r.1∧Fr (fun k=>1<=k∧k<=5) ρ w w'
theorem ve5{w:World}{r c N o:Nat}{f:Nat->Nat}{q:List Nat}(h:RgI w r c N o f q) :
  Calls Tryz.prog 109 #[.pointer (some ⟨r,0,none⟩)] w fun x w'=>x= .returned (.tuple #[])∧RgI w' r c N o f []∧Two r c w w':=by
 have c2:w.cell? ⟨r,2,none⟩=some (.int .i64 q.length):=h.row.cell (i:=2) (by omega);have f2:=h.row.frozen 2;have HR:Hid (RgI (w.setCell ⟨r,2,none⟩ (.int .i64 0)) r c N o f []∧Two r c w (w.setCell ⟨r,2,none⟩ (.int .i64 0))):=by
  refine ⟨⟨(h.row.set 2 _).congr (xgl rfl rfl rfl),h.cells.setOther (a:=⟨r,2,none⟩) (Ne.symm h.ne) _,h.pos,h.small,h.ho,Nat.zero_le _,fun i hi=>by simp at hi,h.ne⟩,Two.set1 r c w 2 _⟩
 clear h;go_enter Tryz.func109,Tryz.ntmps109
 go_wp2_with fail
 go_end0
 exact ⟨rfl,HR.out⟩
theorem MB.ringA{ρ:Nat->Nat}{w w':World}{p:Nat}{x:MS}{L:Lo}(h:MB ρ w p x L){o:Nat}{f:Nat->Nat}{q:List Nat}(hr:RgI w' L.a L.b 64 o f q)(ht:Two L.a L.b w w'):MB ρ w' p { x with qa:=q } L:=by
 have k:Fr (fun r=>r=2∨r=3) ρ w w':=Fr.two ht (Or.inl h.rl.1) (Or.inr h.rl.2.1);obtain ⟨o2,f2,k2⟩:=h.rc;exact ⟨zlz h.row k.kp (by rw [h.rp];decide),⟨o,f,hr⟩,⟨o2,f2,k2.kp k.kp (by rw [h.rl.2.2.1];decide) (by rw [h.rl.2.2.2];decide)⟩,h.rp,h.rl⟩
theorem MB.ringC{ρ:Nat->Nat}{w w':World}{p:Nat}{x:MS}{L:Lo}(h:MB ρ w p x L){o:Nat}{f:Nat->Nat}{q:List Nat}(hr:RgI w' L.c L.d 256 o f q)(ht:Two L.c L.d w w'):MB ρ w' p { x with qc:=q } L:=by
 have k:Fr (fun r=>r=4∨r=5) ρ w w':=Fr.two ht (Or.inl h.rl.2.2.1) (Or.inr h.rl.2.2.2);obtain ⟨o2,f2,k2⟩:=h.ra;exact ⟨zlz h.row k.kp (by rw [h.rp];decide),⟨o2,f2,k2.kp k.kp (by rw [h.rl.1];decide) (by rw [h.rl.2.1];decide)⟩,⟨o,f,hr⟩,h.rp,h.rl⟩
theorem MT.same{ρ:Nat->Nat}{w:World}{x y:MS}{L:Lo}(h:MT ρ w x L)(h1:y.rest=x.rest)(h2:y.hl=x.hl)(h3:y.row=x.row)(h4:y.hs=x.hs)(h5:y.la=x.la∧y.lb=x.lb):MT ρ w y L:=⟨by rw [h1];exact h.sup,by rw [h2];exact h.hl,by rw [h3];exact h.rw,by rw [h4];exact h.hp,by rw [h5.1,h5.2];exact h.sets,h.fx,h.lt⟩
theorem Fr.five{ρ:Nat->Nat}{w w':World}{r c i j:Nat}(h:Two r c w w')(h1:ρ r=i)(h2:ρ c=j)(hi:1<=i∧i<=5)(hj:1<=j∧j<=5):Fr (fun k=>1<=k∧k<=5) ρ w w':=Fr.two h (by rw [h1];exact hi) (by rw [h2];exact hj)
theorem MT.fr5{ρ:Nat->Nat}{w w':World}{x:MS}{L:Lo}(h:MT ρ w x L)(f:Fr (fun k=>1<=k∧k<=5) ρ w w'):MT ρ w' x L:=h.fr f.kp (fun _ e=>e.2)
theorem Fr.own{ρ:Nat->Nat}(w:World)(p i:Nat)(v:Value)(h:ρ p=1):Fr (fun k=>1<=k∧k<=5) ρ w (w.setCell ⟨p,i,none⟩ v):=Fr.set w p i v (by rw [h];decide)
theorem kv8{ρ:Nat->Nat}{w:World}{p:Nat}{x:MS}(e:Nat)(h:MM ρ w p x) :
  Calls Tryz.prog 79 #[.pointer (some ⟨p,0,none⟩), .int .i64 e] w fun v w'=>y0y ρ w p (x.refuse e) v w':=by
 obtain ⟨L,B,T⟩:=h;have f8:=B.row.frozen 8;have c8:w.cell? ⟨p,8,none⟩=some (.int .i64 x.er):=B.row.cell (i:=8) (by omega);have c16:w.cell? ⟨p,16,none⟩=some (.pointer (some ⟨L.a,0,none⟩)):=B.row.cell (i:=16) (by omega);have HB:Hid (MB ρ (w.setCell ⟨p,8,none⟩ (.int .i64 e)) p { x with er:=e } L∧MT ρ (w.setCell ⟨p,8,none⟩ (.int .i64 e)) x L∧Fr (fun k=>1<=k∧k<=5) ρ w (w.setCell ⟨p,8,none⟩ (.int .i64 e))):=⟨B.set 8 (.int .i64 e) rfl ⟨rfl,rfl,rfl,rfl⟩ ⟨rfl,rfl⟩,T.set B.rp 8 _,Fr.own w p 8 _ B.rp⟩
 clear B T;go_enter Tryz.func79,Tryz.ntmps79
 go_wp2_with fail
 obtain ⟨o,f,hr⟩:=HB.out.1.ra;refine (ve5 hr).mono ?_;rintro v w1 ⟨rfl,hr1,ht1⟩;have F1:=Fr.five ht1 HB.out.1.rl.1 HB.out.1.rl.2.1 (by decide) (by decide);have HR:Hid (MM ρ w1 p (x.refuse e).1∧Fr (fun k=>1<=k∧k<=5) ρ w w1):=⟨⟨L,HB.out.1.ringA hr1 ht1,(HB.out.2.1.fr5 F1).same rfl rfl rfl rfl ⟨rfl,rfl⟩⟩,HB.out.2.2.trans F1⟩
 clear hr hr1 ht1 F1;go_wp2_with fail
 go_ret
 exact ⟨rfl,HR.out⟩
structure SupP(ρ:Nat->Nat)(w:World)(v:Value)(sa:Nat)(rest:List Nat)(ad:Option Addr)(P:List ByteArray)(cap:Nat):Prop where
 v:v= .slice ad P.length cap
 str:StrO w ad P
 capL:P.length<=cap
 capM:cap<=maxLen
 each:∀ s∈P,s.size<=maxLen
 le:sa<=((P.head?.map ByteArray.size).getD 0)
 rest:rest=(P.flatMap strN).drop sa
 role:∀ b o,ad=some ⟨b,o,none⟩->ρ b=9
theorem SupI.open_{ρ:Nat->Nat}{w:World}{v:Value}{sa:Nat}{rest:List Nat}(h:SupI ρ w v sa rest):∃ ad P cap,SupP ρ w v sa rest ad P cap:=by
 obtain ⟨ad,P,cap,h1,h2,h3,h4,h5,h6,h7,h8⟩:=h.at_;exact ⟨ad,P,cap,h1,h2,h3,h4,h5,h6,h7,h8⟩
theorem SupP.shut{ρ:Nat->Nat}{w:World}{v:Value}{sa:Nat}{rest:List Nat}{ad:Option Addr}{P:List ByteArray}{cap:Nat}(h:SupP ρ w v sa rest ad P cap):SupI ρ w v sa rest:=⟨ad,P,cap,h.v,h.str,h.capL,h.capM,h.each,h.le,h.rest,h.role⟩
theorem zty(s:ByteArray):(strN s).length=s.size:=by unfold strN;rw [List.length_map];rfl
theorem SupP.tail{ρ:Nat->Nat}{w:World}{v:Value}{sa:Nat}{rest:List Nat}{ad:Option Addr}{s:ByteArray}{P:List ByteArray}{cap:Nat}(h:SupP ρ w v sa rest ad (s :: P) cap)(hs:sa=s.size){ad':Option Addr}(ha:∀ b o,ad=some ⟨b,o,none⟩->ad'=some ⟨b,o+1,none⟩∨(P=[]∧ad'=some ⟨b,o,none⟩)):SupP ρ w (.slice ad' P.length (cap - 1)) 0 rest ad' P (cap - 1):=by
 obtain ⟨b,o,e,h1,h2⟩:=h.str 0 (by simp);have hc:=h.capL;simp at hc;refine ⟨rfl,fun k hk=>?_,by omega,by have:=h.capM;omega,fun s hs=>h.each s (List.mem_cons_of_mem _ hs),Nat.zero_le _,?_,fun b' o' e'=>?_⟩
 ·obtain ⟨b2,o2,e2,h3,h4⟩:=h.str (k+1) (by simp;omega);rcases ha b2 o2 e2 with e3 | e3
  ·exact ⟨b2,o2+1,e3,h3,by rw [show o2+1+k=o2+(k+1) by omega];simpa using h4⟩
  ·rw [e3.1] at hk;simp at hk
 ·rw [h.rest,hs,List.flatMap_cons,List.drop_zero,List.drop_append_of_le_length (by rw [zty];exact Nat.le_refl _),List.drop_eq_nil_of_le (by rw [zty];exact Nat.le_refl _),List.nil_append]
 ·rcases ha b o e with e3 | e3
  ·rw [e3] at e';injection e' with e';injection e' with e1 e2;rw [← e1];exact h.role b o e
  ·rw [e3.2] at e';injection e' with e';injection e' with e1 e2;rw [← e1];exact h.role b o e
def lenW(w:World)(p:Nat):Nat:=match w.cell? ⟨p,12,none⟩ with | some (.slice _ n _)=>n | _=>0
theorem xts{w:World}{p:Nat}{ad:Option Addr}{n cap:Nat}(h:w.cell? ⟨p,12,none⟩=some (.slice ad n cap)):lenW w p=n:=by unfold lenW;rw [h]
theorem MB.supply{ρ:Nat->Nat}{w:World}{p:Nat}{x:MS}{L:Lo}(h:MB ρ w p x L)(v:Value)(n:Nat):MB ρ ((w.setCell ⟨p,12,none⟩ v).setCell ⟨p,13,none⟩ (.int .i64 n)) p x { L with sv:=v,sa:=n }:=
 (h.set (y:=x) (M:={ L with sv:=v }) 12 v rfl ⟨rfl,rfl,rfl,rfl⟩ ⟨rfl,rfl⟩).set 13 (.int .i64 n) rfl ⟨rfl,rfl,rfl,rfl⟩ ⟨rfl,rfl⟩
theorem MT.supply{ρ:Nat->Nat}{w:World}{x:MS}{L:Lo}(h:MT ρ w x L){v:Value}{n:Nat}{l:List Nat}(hs:SupI ρ w v n l):MT ρ w { x with rest:=l } { L with sv:=v,sa:=n }:=⟨hs,h.hl,h.rw,h.hp,h.sets,h.fx,h.lt⟩
structure zox(ρ:Nat->Nat)(w:World)(p:Nat)(x:MS)(L:Lo)(w':World):Prop where
 mb:MB ρ w' p x L
 mt:MT ρ w' x L
 fr:Fr (fun k=>1<=k∧k<=5) ρ w w'
theorem xyh{ρ:Nat->Nat}{w:World}{p:Nat}{x:MS}(h:MM ρ w p x) :
  Calls Tryz.prog 186 #[.pointer (some ⟨p,12,none⟩)] w fun v w'=>v= .returned (.bool (decide (x.rest=[])))∧∃ L,zox ρ w p x L w'∧(x.rest≠[]->∃ ad s P cap,SupP ρ w' L.sv L.sa x.rest ad (s :: P) cap∧L.sa<s.size):=by
 obtain ⟨L0,B0,T0⟩:=h;have H0:Hid (∃ L,zox ρ w p x L w):=⟨L0,B0,T0,Fr.refl _ _ _⟩
 clear B0 T0 L0;go_enter Tryz.func186,Tryz.ntmps186
 go_wp2_with fail
 go_loopw [] (fun wr=>Hid (∃ L,zox ρ w p x L wr)) (fun wr=>lenW wr p)
 case atStart=>exact H0
 case round=>
  clear H0;obtain ⟨L,E⟩:=hrel.out;obtain ⟨ad,P,cap,S⟩:=E.mt.sup.open_;have c12:wr.cell? ⟨p,12,none⟩=some L.sv:=E.mb.row.cell (i:=12) (by omega);have c13:wr.cell? ⟨p,13,none⟩=some (.int .i64 L.sa):=E.mb.row.cell (i:=13) (by omega);have f12:=E.mb.row.frozen 12;have f13:=E.mb.row.frozen 13;rw [S.v] at c12;have hlen:=xts c12;cases P with
  | nil=>
   have hr0:x.rest=[]:=by rw [S.rest];simp
   have HE:Hid (∃ L,zox ρ w p x L (wr.drewN 1)):=⟨L,E.mb.drewN 1,E.mt.drewN 1,E.fr.drewN 1⟩
   have HR0:Hid (x.rest=[]):=hr0;simp only [List.length_nil] at c12;clear E S hrel hr0 hlen;go_wp2_with fail
   go_quiet (fail)
   go_wp2_with fail
   go_ret
   obtain ⟨L',E'⟩:=HE.out;refine ⟨by rw [HR0.out];simp,L',⟨E'.mb.fr ⟨Nat.le_refl _,fun _ _ _=>rfl⟩,E'.mt.fr (R:=fun _=>False) ⟨Nat.le_refl _,fun _ _ _=>rfl⟩ (fun _ e=>e.elim),⟨⟨E'.fr.kp.size,E'.fr.kp.block⟩,E'.fr.os,E'.fr.tape,E'.fr.output⟩⟩,fun h=>absurd HR0.out h⟩
  | cons s P=>
   obtain ⟨b,o,rfl,hb,hcell⟩:=S.str 0 (by simp);have hcell0:wr.cell? ⟨b,o,none⟩=some (.string s):=hcell;by_cases hsa:L.sa=s.size
   ·have hsai:((L.sa:Int)==(s.size:Int))=true:=by simp [hsa]
    have hss:s.size<=maxLen:=S.each s (by simp);have hPl:P.length+1<=cap:=by have:=S.capL;simp at this;omega
    have hPm:=S.capM;unfold maxLen at hPm hss;simp only [List.length_cons] at c12;have HS:Hid (SupP ρ wr L.sv L.sa x.rest (some ⟨b,o,none⟩) (s :: P) cap):=S;have HE:Hid (zox ρ w p x L wr):=E;clear E S hrel hcell;go_wp2_with fail
    go_quiet (fail)
    go_wp2_with fail
    have S1:SupP ρ (wr.drewN nq) L.sv L.sa x.rest (some ⟨b,o,none⟩) (s :: P) cap:=⟨HS.out.v,HS.out.str,HS.out.capL,HS.out.capM,HS.out.each,HS.out.le,HS.out.rest,HS.out.role⟩
    have S2:=S1.tail hsa (ad':=if cap=1 then some ⟨b,o,none⟩ else some ⟨b,o+1,none⟩) (fun b' o' e=>by
     injection e with e
     injection e with e1 e2
     subst e1 e2;by_cases h1:cap=1
     ·rw [if_pos h1];exact Or.inr ⟨List.length_eq_zero_iff.1 (by omega),rfl⟩
     ·rw [if_neg h1];exact Or.inl rfl)
    have T1:=(HE.out.mt.drewN nq).supply S2.shut;have F1:Fr (fun k=>1<=k∧k<=5) ρ (wr.drewN nq) (((wr.drewN nq).setCell ⟨p,12,none⟩ (.slice (if cap=1 then some ⟨b,o,none⟩ else some ⟨b,o+1,none⟩) P.length (cap - 1))).setCell ⟨p,13,none⟩ (.int .i64 0)):=(Fr.own _ p 12 _ HE.out.mb.rp).trans (Fr.own _ p 13 _ HE.out.mb.rp);have B1:=(HE.out.mb.drewN nq).supply (.slice (if cap=1 then some ⟨b,o,none⟩ else some ⟨b,o+1,none⟩) P.length (cap - 1)) 0;refine ⟨⟨_,B1,(T1.fr5 F1).same rfl rfl rfl rfl ⟨rfl,rfl⟩,(HE.out.fr.drewN nq).trans F1⟩,?_⟩;rw [hlen];have c12':=B1.row.cell (i:=12) (by omega);exact Nat.lt_of_le_of_lt (Nat.le_of_eq (xts (ad:=if cap=1 then some ⟨b,o,none⟩ else some ⟨b,o+1,none⟩) (n:=P.length) (cap:=cap - 1) c12')) (by simp)
   ·have hlt:L.sa<s.size:=by have:=S.le;simp at this;omega
    have hsai:((L.sa:Int)==(s.size:Int))=false:=by simp;omega
    have hPm:=S.capM;have hss:s.size<=maxLen:=S.each s (by simp);unfold maxLen at hPm hss;have hPl:P.length+1<=cap:=by have:=S.capL;simp at this;omega
    simp only [List.length_cons] at c12;have HS:Hid (SupP ρ wr L.sv L.sa x.rest (some ⟨b,o,none⟩) (s :: P) cap):=S;have HE:Hid (zox ρ w p x L wr):=E;clear E S hrel hcell;go_wp2_with fail
    go_quiet (fail)
    go_wp2_with fail
    go_ret
    have hne:x.rest≠[]:=by
     rw [HS.out.rest,List.flatMap_cons,List.drop_append_of_le_length (by rw [zty];omega)];intro e;have:=congrArg List.length e;rw [List.length_append,List.length_drop,zty] at this;simp at this;omega
    refine ⟨by rw [decide_eq_false hne];rfl,L,⟨HE.out.mb.drewN nq,HE.out.mt.drewN nq,HE.out.fr.drewN nq⟩,fun _=>⟨some ⟨b,o,none⟩,s,P,cap,⟨HS.out.v,HS.out.str,HS.out.capL,HS.out.capM,HS.out.each,HS.out.le,HS.out.rest,HS.out.role⟩,hlt⟩⟩
theorem SupP.cons{ρ:Nat->Nat}{w:World}{v:Value}{sa:Nat}{rest:List Nat}{ad:Option Addr}{s:ByteArray}{P:List ByteArray}{cap:Nat}(h:SupP ρ w v sa rest ad (s :: P) cap)(hs:sa<s.size):rest=(s[sa]).toNat :: (((s :: P).flatMap strN).drop (sa+1))∧SupP ρ w v (sa+1) (((s :: P).flatMap strN).drop (sa+1)) ad (s :: P) cap:=by
 have hl:sa<((s :: P).flatMap strN).length:=by rw [List.flatMap_cons,List.length_append,zty];omega
 refine ⟨?_,h.v,h.str,h.capL,h.capM,h.each,by simp;omega,rfl,h.role⟩;rw [h.rest,List.drop_eq_getElem_cons hl];congr 1
 have h2:sa<(strN s).length:=by rw [zty];exact hs
 simp only [List.flatMap_cons];rw [List.getElem_append_left h2];exact (List.getElem_map UInt8.toNat (h:=h2)).trans rfl
theorem je7{ρ:Nat->Nat}{w:World}{p:Nat}{x:MS}{L:Lo}{ad:Option Addr}{s:ByteArray}{P:List ByteArray}{cap:Nat}(B:MB ρ w p x L)(T:MT ρ w x L)(S:SupP ρ w L.sv L.sa x.rest ad (s :: P) cap)(hs:L.sa<s.size) :
  Calls Tryz.prog 189 #[.pointer (some ⟨p,12,none⟩)] w fun v w'=>v= .returned (.int .u8 ((s[L.sa]).toNat:Nat))∧∃ n,w'=(w.drewN n).setCell ⟨p,13,none⟩ (.int .i64 (L.sa+1:Nat)):=by
 have c12:w.cell? ⟨p,12,none⟩=some L.sv:=B.row.cell (i:=12) (by omega);have c13:w.cell? ⟨p,13,none⟩=some (.int .i64 L.sa):=B.row.cell (i:=13) (by omega);have f13:=B.row.frozen 13;obtain ⟨b,o,rfl,hb,hcell⟩:=S.str 0 (by simp);have hcell0:w.cell? ⟨b,o,none⟩=some (.string s):=hcell;rw [S.v] at c12;have hss:s.size<=maxLen:=S.each s (by simp);have hPl:P.length+1<=cap:=by have:=S.capL;simp at this;omega
 have hPm:=S.capM;unfold maxLen at hPm hss;simp only [List.length_cons] at c12;clear B T S hcell;go_enter Tryz.func189,Tryz.ntmps189
 go_wp2_with fail
 go_quiet (fail)
 go_wp2_with fail
 go_ret
 refine ⟨rfl,nq,?_⟩;have e:((L.sa+1:Nat):Int)=(L.sa:Int)+1:=by omega
 rw [e]
end Go.Proofs.YtbcjmakpempkiaaGreatDoor
