import Derived.Deep.Slices
import Derived.Lib.LaidTab
import Derived.Test.YtbcjmakpempkiaaGreatDoorX10
set_option maxRecDepth 100000
set_option maxHeartbeats 8000000
set_option linter.all false
namespace Go.Proofs.YtbcjmakpempkiaaGreatDoor
open Go.RowKit
structure GM(B:Nat)(K:Nat->Prop)(w:World)(q fm mem lim:Nat)(m:MG):Prop where
 ex:∃ ρ p x acc,GPI B ρ w q p x m.closed acc∧PG x acc m∧∀ k,K k↔(k=q∨ρ k≠0)
 good:zi6 fm mem lim m.c
 kept:y58 m
 qb:m.q.steps<=1000000
theorem GM.at_{B:Nat}{K:Nat->Prop}{w:World}{q fm mem lim:Nat}{m:MG}(h:GM B K w q fm mem lim m){k:Nat}(hk:K k):B<=k∧k<w.heap.size:=by
 obtain ⟨ρ,p,x,acc,g,_,hK⟩:=h.ex;rcases (hK k).1 hk with rfl | hr
 ·exact ⟨g.qB,g.row.lt⟩
 ·exact ⟨g.nw k hr,g.mq.lt.1 k hr⟩
theorem GM.same{B:Nat}{K:Nat->Prop}{w w':World}{q fm mem lim:Nat}{m:MG}(h:GM B K w q fm mem lim m)(hs:w.heap.size<=w'.heap.size)(hb:∀ k,K k->w'.heap[k]?=w.heap[k]?):GM B K w' q fm mem lim m:=by
 obtain ⟨ρ,p,x,acc,g,pg,hK⟩:=h.ex;have k0:Kp (fun r=>r=0) ρ w w':=⟨hs,fun k _ hr=>hb k ((hK k).2 (Or.inr hr))⟩
 exact ⟨⟨ρ,p,x,acc,⟨g.row.of_block (hb q ((hK q).2 (Or.inl rfl))),g.mq.fr0 k0,g.rq,g.nw,g.qB,Nat.le_trans g.hB hs⟩,pg,hK⟩,h.good,h.kept,h.qb⟩
theorem GM.below{B:Nat}{K:Nat->Prop}{w w':World}{q fm mem lim:Nat}{m:MG}(h:GM B K w q fm mem lim m)(b:Below w.heap.size w w'):GM B K w' q fm mem lim m:=h.same b.size fun k hk=>b.block k (h.at_ hk).2
structure ywe(B:Nat)(K:Nat->Prop)(w:World)(q fm mem lim:Nat)(m:MG)(w':World):Prop where
 ex:∃ K',(∀ k,k<w.heap.size->(K' k↔K k))∧GM B K' w' q fm mem lim m
 size:w.heap.size<=w'.heap.size
 block:∀ k,k<w.heap.size->¬ K k->w'.heap[k]?=w.heap[k]?
 os:w'.os=w.os
 tape:w'.tape=w.tape
 output:w'.output=w.output
theorem ywe.refl{B:Nat}{K:Nat->Prop}{w:World}{q fm mem lim:Nat}{m:MG}(h:GM B K w q fm mem lim m):ywe B K w q fm mem lim m w:=⟨⟨K,fun _ _=>Iff.rfl,h⟩,Nat.le_refl _,fun _ _ _=>rfl,rfl,rfl,rfl⟩
theorem ywe.below{B:Nat}{K:Nat->Prop}{w:World}{q fm mem lim:Nat}{m m':MG}{w':World}(h:GM B K w q fm mem lim m)(a:ywe B K w q fm mem lim m' w'):Below B w w':=by
 obtain ⟨ρ,p,x,acc,g,_,hK⟩:=h.ex;refine ⟨a.os,a.tape,a.output,a.size,fun k hk=>a.block k (Nat.lt_of_lt_of_le hk g.hB) fun e=>?_⟩;have:=(h.at_ e).1;omega
theorem z3n.m{B:Nat}{ρ:Nat->Nat}{w w':World}{q p:Nat}{x x':MS}{cl cl' acc acc':Bool}{K:Nat->Prop}{fm mem lim:Nat}{m':MG}(g:GPI B ρ w q p x cl acc)(hK:∀ k,K k↔(k=q∨ρ k≠0))(A:z3n B ρ w q p x' cl' acc' w')(pg:PG x' acc' m')(hc:m'.closed=cl')(G:zi6 fm mem lim m'.c)(M:y58 m')(hq:m'.q.steps<=1000000):ywe B K w q fm mem lim m' w':=by
 obtain ⟨ρ',e,g'⟩:=A.ex;subst hc;refine ⟨⟨fun k=>k=q∨ρ' k≠0,fun k hk=>?_,⟨ρ',p,x',acc',g',pg,fun _=>Iff.rfl⟩,G,M,hq⟩,A.fr.size,fun k hk hn=>?_,A.fr.os,A.fr.tape,A.fr.output⟩
 ·show (k=q∨ρ' k≠0)↔K k;rw [hK k,e k hk]
 ·rw [hK k] at hn;have h0:ρ k=0:=Classical.byContradiction fun h0=>hn (Or.inr h0)
  exact A.fr.block k hk (fun h=>hn (Or.inl h)) (by rw [h0];exact jxt)
structure PcM(K:Nat->Prop)(w:World)(ad:Option Addr)(cap:Nat)(P:List ByteArray):Prop where
 str:StrO w ad P
 caps:P.length<=cap∧cap<=maxLen
 each:∀ s∈P,s.size<=maxLen
 off:∀ b o,ad=some ⟨b,o,none⟩->¬ K b∧b≠0∧b<w.heap.size
theorem PG.shutE{x:MS}{acc:Bool}{m:MG}(h:PG x acc m):vhx x m.closed=if m.err=0∧m.closed=true then 3 else m.err:=by
 unfold vhx;rw [h.er]
theorem jvn{B:Nat}{K:Nat->Prop}{w:World}{q fm mem lim:Nat}{m:MG}(h:GM B K w q fm mem lim m)(ad:Option Addr)(cap:Nat)(P:List ByteArray)(hP:PcM K w ad cap P)(hO:OrdP w)(hG:¬ K 0) :
  Calls Tryz.prog 26 #[.pointer (some ⟨q,0,none⟩), .slice ad P.length cap] w fun e w'=>∃ n er m',e= .returned (.tuple #[.int .i64 n, .int .i64 (er:Nat)])∧vsf m P m' n er∧ywe B K w q fm mem lim m' w':=by
 obtain ⟨ρ,p,x,acc,g,pg,hK⟩:=h.ex;have hse:=pg.shutE;by_cases h0:m.err=0
 ·cases hc:m.closed with
  | true=>
   rw [if_pos ⟨h0,hc⟩] at hse;refine (x3n g ad P.length cap (by rw [hse];decide)).mono ?_;rintro e w' ⟨rfl,rfl⟩;exact ⟨0,3,m,by rw [hse], .closed h0 hc,ywe.refl h⟩
  | false=>
   rw [if_neg (by rw [hc];simp),h0] at hse;obtain ⟨s,m',x',acc',T,hz,hg,go,pg'⟩:=pg.goOn h0 fm mem lim h.good P (fun ha=>by have:=(pg.acc1 ha).1;rw [hc] at this;cases this);obtain ⟨M',q',d',c',gr⟩:=go.kept h.kept;have t0:=pg.tk.1;have t1:=pg'.tk.1;have s0:=h.kept.ck.st;have s1:=M'.ck.st;have hq:=h.qb;rw [q'] at s1;have hr:∀ k,¬ K k->ρ k=0:=fun k hn=>Classical.byContradiction fun h0=>hn ((hK k).2 (Or.inr h0))
   refine (xnq g hse (v:= .slice ad P.length cap) (P:=P) ⟨ad,cap,rfl,hP.str,hP.caps.1,hP.caps.2,hP.each,fun b o e=>⟨⟨hr b (hP.off b o e).1,(hP.off b o e).2.1⟩,(hP.off b o e).2.2⟩⟩ hg hO (hr _ hG) ⟨by omega,by omega⟩).mono ?_;rintro e w' ⟨rfl,A⟩;refine ⟨_,_,m',?_, .goes s m' h0 hc T hz go,A.m g hK pg' c' (go.good h.good (zbe P T)) M' (by rw [q'];exact h.qb)⟩;rw [t0,t1,pg'.er]
 ·rw [if_neg (fun hh=>h0 hh.1)] at hse;refine (x3n g ad P.length cap (by rw [hse];exact h0)).mono ?_;rintro e w' ⟨rfl,rfl⟩;exact ⟨0,m.err,m,by rw [hse], .refused h0,ywe.refl h⟩
theorem v7a{B:Nat}{K:Nat->Prop}{w:World}{q fm mem lim:Nat}{m:MG}(h:GM B K w q fm mem lim m)(n:Int)(hn: -9223372036854775808<=n∧n<=9223372036854775807)(hO:OrdP w)(hG:¬ K 0) :
  Calls Tryz.prog 30 #[.pointer (some ⟨q,0,none⟩), .int .i64 n] w fun e w'=>∃ l er m',e= .returned (.tuple #[.string (xu6 l), .int .i64 (er:Nat)])∧v6p m n m' l er∧ywe B K w q fm mem lim m' w':=by
 obtain ⟨ρ,p,x,acc,g,pg,hK⟩:=h.ex;have her:=pg.er;by_cases h0:m.err=0
 ·by_cases h1:n<0
  ·refine (zn4 g n (her.trans h0) h1).mono ?_;rintro e w' ⟨rfl,A⟩;exact ⟨[],2,m,rfl, .wrong h0 h1,A.m g hK pg rfl h.good h.kept h.qb⟩
  ·obtain ⟨k,rfl⟩:∃ k:Nat,n=k:=⟨n.toNat,by omega⟩
   have hqa:x.qa=m.c.outs.drop m.drained:=by rw [pg.qa,if_pos h0]
   have hql:x.qa.length=m.c.outs.length - m.drained:=by rw [hqa,List.length_drop]
   have hdr:=h.kept.dr;have pg1:=pg.drained h0 (min k x.qa.length) (by omega);obtain ⟨s,m',x',acc',T,hz,hg,go,pg'⟩:=pg1.goOn h0 fm mem lim h.good [] (fun _=>rfl);have k1:y58 ({ m with drained:=m.drained+min k x.qa.length }:MG):=by
    have c:=h.kept.ck;exact ⟨⟨c.st,c.ou,c.ra,by have:=c.ro;show m.c.outs.length<=m.drained+min k x.qa.length+64;omega⟩,by show m.drained+min k x.qa.length<=m.c.outs.length;omega⟩
   obtain ⟨M',q',d',c',gr⟩:=go.kept k1;have hr:∀ k,¬ K k->ρ k=0:=fun k hn=>Classical.byContradiction fun h0=>hn ((hK k).2 (Or.inr h0))
   refine (kj6 g k (her.trans h0) (by have:=hn.2;omega) hg hO (hr _ hG)).mono ?_;rintro e w' ⟨rfl,A⟩;refine ⟨_,0,m',rfl,?_,A.m g hK pg' c' (go.good h.good T) M' (by rw [q'];exact h.qb)⟩;rw [hqa,List.length_drop];rw [hql] at go;exact .goes s m' h0 (by omega) T hz go
 ·refine (ju7 g n (by rw [her];exact h0)).mono ?_;rintro e w' ⟨rfl,A⟩;exact ⟨[],m.err,m,by rw [her];rfl, .refused h0,A.m g hK pg rfl h.good h.kept h.qb⟩
theorem x7y{B:Nat}{K:Nat->Prop}{w:World}{q fm mem lim:Nat}{m:MG}(h:GM B K w q fm mem lim m)(hO:OrdP w)(hG:¬ K 0) :
  Calls Tryz.prog 31 #[.pointer (some ⟨q,0,none⟩)] w fun e w'=>∃ er m',e= .returned (.int .i64 (er:Nat))∧jlu m m' er∧ywe B K w q fm mem lim m' w':=by
 obtain ⟨ρ,p,x,acc,g,pg,hK⟩:=h.ex;have hse:=pg.shutE;by_cases h0:m.err=0
 ·cases hc:m.closed with
  | true=>
   rw [if_pos ⟨h0,hc⟩] at hse;refine (vo4 g (by rw [hse];decide)).mono ?_;rintro e w' ⟨rfl,rfl⟩;exact ⟨3,m,by rw [hse], .closed h0 hc,ywe.refl h⟩
  | false=>
   rw [if_neg (by rw [hc];simp),h0] at hse;obtain ⟨pg1,ha⟩:=pg.shut hc;obtain ⟨s,m',x',acc',T,hz,hg,go,pg'⟩:=pg1.goOn h0 fm mem lim h.good [] (fun _=>rfl);have k1:y58 ({ m with closed:=true }:MG):=⟨h.kept.ck,h.kept.dr⟩
   obtain ⟨M',q',d',c',gr⟩:=go.kept k1;have hr:∀ k,¬ K k->ρ k=0:=fun k hn=>Classical.byContradiction fun h0=>hn ((hK k).2 (Or.inr h0))
   refine (yhi g hse hg hO (hr _ hG) (fun e=>hG ((hK _).2 (Or.inl e.symm)))).mono ?_;rintro e w' ⟨rfl,A⟩;exact ⟨_,m',by rw [pg'.er], .goes s m' h0 hc T hz go,A.m g hK pg' c' (go.good h.good T) M' (by rw [q'];exact h.qb)⟩
 ·rw [if_neg (fun hh=>h0 hh.1)] at hse;refine (vo4 g (by rw [hse];exact h0)).mono ?_;rintro e w' ⟨rfl,rfl⟩;exact ⟨m.err,m,by rw [hse], .refused h0,ywe.refl h⟩
theorem kp2{c:Cfg}(w:World)(h:c.right=true) :
  Calls Tryz.prog 21 #[c.val] w fun e w'=>∃ q K,e= .returned (.tuple #[.pointer (some ⟨q,0,none⟩), .int .i64 0])∧GM w.heap.size K w' q c.fm.toNat c.mem.toNat c.lim.toNat (MG.fresh c)∧K q∧Below w.heap.size w w':=by
 have hk:=yur.1 h;refine (yuf c w h).mono ?_;rintro e w' ⟨q,p,ρ,rfl,g,b⟩;refine ⟨q,fun k=>k=q∨ρ k≠0,rfl,⟨⟨ρ,p,_,false,g,PG.fresh h,fun _=>Iff.rfl⟩,zi6.begin (by omega) (by omega),⟨⟨?_,?_,?_,?_⟩,Nat.zero_le _⟩,?_⟩,Or.inl rfl,b⟩
 ·exact Nat.zero_le _
 ·exact Nat.zero_le _
 ·exact Nat.zero_le _
 ·exact Nat.zero_le _
 ·show c.steps.toNat<=1000000;omega
def MG.wait(m:MG):Nat:=if m.err=0 then m.c.outs.length - m.drained else 0
def MG.begun(m:MG):Nat:=if m.c.pre.length=0 then 0 else m.c.starts.length
def MG.stateV(m:MG):Value:= .agg #[.int .i64 m.c.pre.length, .int .i64 m.c.outs.length, .int .i64 m.wait, .int .i64 m.begun, .int .i64 ((m.c.pre.length:Int)+m.c.outs.length), .bool m.acc, .int .i64 m.err]
theorem jzk{B:Nat}{K:Nat->Prop}{w:World}{q fm mem lim:Nat}{m:MG}(h:GM B K w q fm mem lim m) :
  Calls Tryz.prog 27 #[.pointer (some ⟨q,0,none⟩)] w fun e w'=>e= .returned m.stateV∧Below w.heap.size w w':=by
 obtain ⟨ρ,p,x,acc,g,pg,hK⟩:=h.ex;obtain ⟨t1,t2,t3⟩:=pg.tk;have s0:=h.kept.ck.st;have hq:=h.qb;refine (k9r g (by omega)).mono ?_;rintro e w' ⟨rfl,b⟩;refine ⟨?_,b⟩;unfold MS.stateV MG.stateV MG.begun;have hw:x.qa.length=m.wait:=by
  rw [pg.qa];unfold MG.wait;by_cases h0:m.err=0
  ·rw [if_pos h0,if_pos h0,List.length_drop]
  ·rw [if_neg h0,if_neg h0];rfl
 rw [hw,t1,t2,t3,pg.er,pg.accE,Int.natCast_add]
theorem vw8(a b:List Nat):xu6 a++xu6 b=xu6 (a++b):=by
 unfold xu6 strOfNums;apply ByteArray.ext;simp
theorem xvb(l:List Nat):(xu6 l).size=l.length:=by
 unfold xu6;simp [strOfNums,ByteArray.size]
def MG.got(m:MG):ByteArray:=xu6 (m.c.outs.take m.drained)
theorem MG.got_size{m:MG}(k:y58 m):m.got.size=m.drained:=by
 unfold MG.got;rw [xvb,List.length_take];have:=k.dr;omega
theorem x3w{l l':List Nat}{d k:Nat}(h:∃ x,l'=l++x)(hk:d+k<=l.length):l.take d++(l.drop d).take k=l'.take (d+k):=by
 obtain ⟨x,rfl⟩:=h;rw [List.take_append_of_le_length hk,List.take_add]
structure Drn(m m':MG)(l:List Nat)(n:Nat):Prop where
 got:m.got++xu6 l=m'.got
 dr:m'.drained=m.drained+l.length
 len:l.length=min n (m.c.outs.length - m.drained)
theorem v6p.drn{m m':MG}{n:Nat}{l:List Nat}{e:Nat}(h:v6p m n m' l e)(he:m.err=0)(k:y58 m):e=0∧Drn m m' l n∧∃ s,zik m.c.pre s∧s.size=m.c.pre.length∧Goes { m with drained:=m.drained+l.length } s m':=by
 cases h with
 | refused h0=>exact absurd he h0
 | wrong _ h1=>exact absurd h1 (by omega)
 | goes s _ h0 h1 T hz go=>
  have hd:=k.dr;have e1:((n:Int)).toNat=n:=by simp
  rw [e1] at go ⊢;have hl:((m.c.outs.drop m.drained).take (min n (m.c.outs.length - m.drained))).length=min n (m.c.outs.length - m.drained):=by
   rw [List.length_take,List.length_drop];omega
  have k1:y58 ({ m with drained:=m.drained+min n (m.c.outs.length - m.drained) }:MG):=by
   have c:=k.ck;exact ⟨⟨c.st,c.ou,c.ra,by have:=c.ro;show m.c.outs.length<=m.drained+min n (m.c.outs.length - m.drained)+64;omega⟩,by show m.drained+min n (m.c.outs.length - m.drained)<=m.c.outs.length;omega⟩
  obtain ⟨M',q',d',c',gr⟩:=go.kept k1;refine ⟨rfl,⟨?_,by rw [d',hl],hl⟩,s,T,hz,by rw [hl];exact go⟩;unfold MG.got;rw [vw8,x3w gr.outs (by show m.drained+min n (m.c.outs.length - m.drained)<=m.c.outs.length;omega),d']
structure zp6(fm mem lim:Nat)(s:ByteArray)(m:MG):Prop where
 way:Way fm mem lim s m
 err:m.err≠0->Ends fm mem lim s m∧m.acc=false
 ok:m.err=0->m.closed=true∧(m.drained+64<=m.c.outs.length∨(Ends fm mem lim s m∧m.acc=true))
 all:m.err=0->s.size<=m.c.pre.length
theorem zp6.close{fm mem lim:Nat}{s:ByteArray}{m m':MG}{e:Nat}(W:Way fm mem lim s m)(G:zi6 fm mem lim m.c)(k:y58 m)(hs:s.size=m.c.pre.length)(hc:m.err=0->m.closed=false∧m.acc=false)(he:m.err≠0->Ends fm mem lim s m∧m.acc=false)(h:jlu m m' e):zp6 fm mem lim s m'∧e=m'.err∧m'.q=m.q∧m'.drained=m.drained∧z1f m.c m'.c∧m'.got=m.got:=by
 cases h with
 | refused h0=>exact ⟨⟨W,he,fun h=>absurd h h0,fun h=>absurd h h0⟩,rfl,rfl,rfl,z1f.refl _,rfl⟩
 | closed h0 h1=>rw [(hc h0).1] at h1;cases h1
 | goes s0 _ h0 h1 T hz go=>
  have es:s0=s:=vs5 T W.tk hz hs;subst es;have k1:y58 ({ m with closed:=true }:MG):=⟨k.ck,k.dr⟩
  have S:=Goes.shut_ (m:={ m with closed:=true }) W.shut G k1 rfl h0 (fun ha=>by have:m.acc=true:=ha;rw [(hc h0).2] at this;cases this) (Nat.le_of_eq hs) go;obtain ⟨M',q',d',c',gr⟩:=go.kept k1;refine ⟨⟨S.way,S.err,fun h=>⟨S.shut,S.ok h⟩,fun _=>by rw [S.pre];exact Nat.le_of_eq hs⟩,rfl,q',d',gr,?_⟩;unfold MG.got;rw [d'];have h9:=x3w (l:=m.c.outs) (l':=m'.c.outs) (d:=m.drained) (k:=0) gr.outs (by have:=k.dr;omega);have h8:List.take m.drained m'.c.outs=List.take m.drained m.c.outs:=by simpa using h9.symm
  exact congrArg xu6 h8
theorem zp6.drain{fm mem lim:Nat}{s:ByteArray}{m m':MG}{n e:Nat}{l:List Nat}(S:zp6 fm mem lim s m)(G:zi6 fm mem lim m.c)(k:y58 m)(hacc:m.acc=true->m.c.σ.act= .take∧¬ m.c.σ.st<23)(he:m.err=0)(h:v6p m n m' l e):zp6 fm mem lim s m'∧e=0∧Drn m m' l n∧m'.q=m.q:=by
 obtain ⟨e0,D,s0,T,hz,go⟩:=h.drn he k;have hs:=S.all he;have hss:s.size=m.c.pre.length:=Nat.le_antisymm hs S.way.tk.len;have es:s0=s:=vs5 T S.way.tk hz hss;subst es;have k1:y58 ({ m with drained:=m.drained+l.length }:MG):=by
  have c:=k.ck;have hd:=k.dr;have hl:=D.len;exact ⟨⟨c.st,c.ou,c.ra,by have:=c.ro;show m.c.outs.length<=m.drained+l.length+64;omega⟩,by show m.drained+l.length<=m.c.outs.length;omega⟩
 have S2:=Goes.shut_ (m:={ m with drained:=m.drained+l.length }) (S.way.drained _) G k1 (S.ok he).1 he hacc hs go;obtain ⟨M',q',d',c',gr⟩:=go.kept k1;exact ⟨⟨S2.way,S2.err,fun h=>⟨S2.shut,S2.ok h⟩,fun _=>by rw [S2.pre];exact hs⟩,e0,D,q'⟩
theorem zp6.done{fm mem lim:Nat}{s:ByteArray}{m:MG}(S:zp6 fm mem lim s m)(k:y58 m)(hw:m.wait=0):Ends fm mem lim s m∧((m.err=0∧m.acc=true∧m.drained=m.c.outs.length)∨(m.err≠0∧m.acc=false)):=by
 by_cases h0:m.err=0
 ·unfold MG.wait at hw;rw [if_pos h0] at hw;have hd:=k.dr;rcases (S.ok h0).2 with h | ⟨h1,h2⟩
  ·omega
  ·exact ⟨h1,Or.inl ⟨h0,h2,by omega⟩⟩
 ·exact ⟨(S.err h0).1,Or.inr ⟨h0,(S.err h0).2⟩⟩
theorem GM.acc_{B:Nat}{K:Nat->Prop}{w:World}{q fm mem lim:Nat}{m:MG}(h:GM B K w q fm mem lim m)(ha:m.acc=true):m.closed=true∧(m.err=0->m.c.σ.act= .take∧¬ m.c.σ.st<23):=by
 obtain ⟨ρ,p,x,acc,g,pg,hK⟩:=h.ex;exact pg.acc1 ha
def jh4(w0:World)(p b:Nat)(s:ByteArray)(res:ByteArray×Nat)(w:World)(n:Nat):Prop:=∃ ρ x pb vb l,xpd w0 p b s res ρ x pb vb l w∧x0d s n x l res
open Classical in
noncomputable def jv8(w0:World)(p b:Nat)(s:ByteArray)(res:ByteArray×Nat)(w:World):Nat:=if h:∃ n,jh4 w0 p b s res w n then Classical.choose (least h) else 0
theorem v90{w0:World}{p b:Nat}{s:ByteArray}{res:ByteArray×Nat}{w:World}{n:Nat}(h:jh4 w0 p b s res w n):jh4 w0 p b s res w (jv8 w0 p b s res w)∧jv8 w0 p b s res w<=n:=by
 have h':∃ n,jh4 w0 p b s res w n:=⟨n,h⟩
 unfold jv8;rw [dif_pos h'];have:=Classical.choose_spec (least h');exact ⟨this.1,this.2 n h⟩
theorem x0d.turn{s:ByteArray}{n:Nat}{x:MS}{l:List Nat}{res:ByteArray×Nat}(h:x0d s n x l res):∃ j r,x.tk<=s.size∧vgc j { x with rest:=jlo s x.tk } r∧r.1.qa.length<=64∧(∀ y∈l++r.1.qa,y<256)∧l.length+64<=10000000000000∧
  ((r.2=2∧∃ k,n=k+1∧x0d s k { r.1 with rest:=[],qa:=[] } (l++r.1.qa) res)∨(r.2≠2∧res=if MS.verdict r.1≠0 then (⟨#[]⟩,MS.verdict r.1) else (xu6 (l++r.1.qa),0))):=by
 cases h with
 | go k j _ _ r _ h1 h2 h3 h4 h5 h6 h7=>exact ⟨j,r,h1,h2,h4,h5,h6,Or.inl ⟨h3,k,rfl,h7⟩⟩
 | stop j _ _ r h1 h2 h3 h4 h5 h6=>exact ⟨j,r,h1,h2,h4,h5,h6,Or.inr ⟨h3,rfl⟩⟩
theorem zpf(fm:Nat)(s:ByteArray)(w:World)(hfm:fm<=2)(hs:s.size<=1000000000)(hO:OrdP w) :
  Calls Tryz.prog 24 #[.int .i64 fm, .string s] w fun x w'=>vht w (Tr.readAll fm s).mean x w':=by
 have hw:wi fm 0 2=true:=xaq.2 ⟨by omega,by omega⟩;obtain ⟨k0,hK⟩:=y1x (fm:=fm) (by omega) hs;generalize (Tr.readAll fm s).mean=res at *;have HK:Hid (x0d s k0 (MS.fresh fm 9223372036854775807 0 9223372036854775807 9223372036854775807 9223372036854775807 9223372036854775807) [] res):=hK;have HO:Hid (OrdP w):=hO;clear hK hO;go_enter Tryz.func24,Tryz.ntmps24
 go_wp2_with fail
 refine (ykv fm w).mono ?_;rintro e w1 ⟨rfl,rfl⟩;rw [hw];clear hw;go_wp2_with fail
 refine (kec fm w).mono ?_;rintro e w1 ⟨rfl,b1⟩;have H1:Hid (Below w.heap.size w w1):=b1;clear b1;go_wp2_with fail
 refine (j54 fm 9223372036854775807 0 9223372036854775807 9223372036854775807 9223372036854775807 9223372036854775807 w1).mono ?_;rintro e w2 ⟨p,ρ,rfl,M,hk,b2⟩;have H2:Hid (MQ ρ w2 p (MS.fresh fm 9223372036854775807 0 9223372036854775807 9223372036854775807 9223372036854775807 9223372036854775807)∧(∀ k,ρ k≠0->w1.heap.size<=k)∧Below w1.heap.size w1 w2):=⟨M,hk,b2⟩
 clear M hk b2;have HI0:Hid (jh4 w p w2.heap.size s res (w2.alloc (.cells #[.pointer none, .slice none 0 0] 106)) k0):=by
  obtain ⟨M,hk,b2⟩:=H2.out;have hsz1:=H1.out.size;have hsz2:=b2.size;have al:Below w2.heap.size w2 (w2.alloc (.cells #[.pointer none, .slice none 0 0] 106)):=(Below.refl _ _).alloc (Nat.le_refl _) _;refine ⟨ρ,_, .pointer none, .slice none 0 0,[],⟨M.below al,⟨by omega,?_,World.ownsRow_nil _ _ _ _,by simp [Value.ownBlock],Or.inl rfl⟩,?_,fun g hg=>by simp [Value.ownBlock] at hg,fun k hk'=>by have:=hk k hk';omega,(H1.out.trans (b2.mono hsz1)).trans (al.mono (by omega))⟩,HK.out⟩
  ·exact World.rowIs_alloc w2 _ _ _ (fun i hi=>by
    simp at hi;have:i=0∨i=1:=by omega
    rcases this with rfl | rfl <;> rfl)
  ·exact Classical.byContradiction fun hc=>by have:=M.lt.1 _ hc;omega
 have hlb:w.heap.size<=w2.heap.size:=Nat.le_trans H1.out.size H2.out.2.2.size;clear H1 H2 HK;go_wp2_with fail
 go_loopw [] (fun wr=>Hid (∃ k,jh4 w p w2.heap.size s res wr k)) (fun wr=>jv8 w p w2.heap.size s res wr)
 case atStart=>exact ⟨k0,HI0.out⟩
 case round=>
  clear HI0;obtain ⟨k,hk⟩:=hrel.out;obtain ⟨⟨ρ1,x,pb,vb,l,I,MN⟩,_⟩:=v90 hk;obtain ⟨j,r,ht,R,hq,hby,hll,hc⟩:=MN.turn;have HI:Hid (xpd w p w2.heap.size s res ρ1 x pb vb l wr):=I;have HR:Hid (vgc j { x with rest:=jlo s x.tk } r∧(∀ y∈l++r.1.qa,y<256)∧((r.2=2∧∃ k,jv8 w p w2.heap.size s res wr=k+1∧x0d s k { r.1 with rest:=[],qa:=[] } (l++r.1.qa) res)∨(r.2≠2∧res=if MS.verdict r.1≠0 then (⟨#[]⟩,MS.verdict r.1) else (xu6 (l++r.1.qa),0)))):=⟨R,hby,hc⟩
  have ctk:=I.mq.tk;clear hk I MN R hby hc hrel;have al:Below wr.heap.size wr (wr.alloc (.cells #[.string (s.extract x.tk s.size)] 9)):=(Below.refl _ _).alloc (Nat.le_refl _) _;have HI1:Hid (xpd w p w2.heap.size s res ρ1 x pb vb l (wr.alloc (.cells #[.string (s.extract x.tk s.size)] 9))):=HI.out.below al;have HP1:Hid (Pcs ρ1 (wr.alloc (.cells #[.string (s.extract x.tk s.size)] 9)) (.slice (some ⟨wr.heap.size,0,none⟩) 1 1) [s.extract x.tk s.size]):=by
   have hO':=HO.out.lt;have hszz:=HI.out.bel.size;refine ⟨some ⟨wr.heap.size,0,none⟩,1,rfl,fun k hk=>?_,Nat.le_refl _,by unfold maxLen;omega,fun t ht'=>?_,fun b o e=>?_⟩
   ·have hk0:k=0:=by simp at hk;omega
    subst hk0;refine ⟨wr.heap.size,0,rfl,by simp,?_⟩;rw [cell_of_row _ _ (0+0) _ _ _ (heap_alloc_new wr _)];rfl
   ·rw [List.mem_singleton.1 ht',ByteArray.size_extract];unfold maxLen;omega
   ·injection e with e
    injection e with e1 e2
    subst e1;refine ⟨⟨Classical.byContradiction fun hc=>by have:=HI.out.mq.lt.1 _ hc;omega,by omega⟩,by simp⟩
  have HR1:Hid (vgc j { x with rest:=[s.extract x.tk s.size].flatMap strN } r):=by
   have e:[s.extract x.tk s.size].flatMap strN=jlo s x.tk:=by rw [List.flatMap_cons,List.flatMap_nil,List.append_nil,x2f ht]
   rw [e];exact HR.out.1
  clear al;go_wp2_with fail
  have hOP:=HO.out.below (HI1.out.bel);have hG0:ρ1 0=0:=Classical.byContradiction fun hc=>by have:=HI1.out.nw _ hc;have:=HO.out.lt;omega
  refine (mRun HI1.out.mq HP1.out HR1.out hOP hG0).mono ?_;rintro e w3 ⟨rfl,A3⟩;obtain ⟨ρ2,I3⟩:=HI1.out.ran A3;have HI3:Hid (xpd w p w2.heap.size s res ρ2 { r.1 with rest:=[] } pb vb l w3):=I3;clear I3 A3 hOP hG0 HR1 HP1 HI1 HI ctk;rcases HR.out.2.2 with ⟨h2,k',hk',MN'⟩ | ⟨h2,hres⟩
  ·have HM:Hid (jv8 w p w2.heap.size s res wr=k'+1∧x0d s k' { r.1 with rest:=[],qa:=[] } (l++r.1.qa) res):=⟨hk',MN'⟩
   clear hk' MN';rw [h2];obtain ⟨rr,c16,TK⟩:=(show MQ ρ2 w3 p { r.1 with rest:=[] } from HI3.out.mq).taken 64 (by decide);have HTK:Hid _:=TK;clear TK;go_wp2_with fail
   refine Calls.mono HTK.out ?_;rintro e w4 ⟨g,rfl,hg,hrow,M4,F4⟩;have hmin:min 64 r.1.qa.length=r.1.qa.length:=by omega
   have hdrop:r.1.qa.drop (min 64 r.1.qa.length)=[]:=by rw [hmin,List.drop_length]
   have HI4:Hid (xpd w p w2.heap.size s res ρ2 { r.1 with rest:=[],qa:=[] } pb vb l w4):=by
    have M4':MQ ρ2 w4 p { r.1 with rest:=[],qa:=[] }:=by
     have h:=M4;simp only [hdrop] at h;exact h
    exact HI3.out.took M4' F4
   have HR4:Hid (w4.rowIs g 5 r.1.qa.length (fun j=> .int .u8 (r.1.qa.getD j 0:Nat))∧g≠w2.heap.size):=⟨by rw [← hmin];exact hrow,fun e=>by have:=HI3.out.bl.lt;omega⟩
   clear M4 F4 hrow HTK c16 hg;rw [show min 64 ({ r.1 with rest:=[] }:MS).qa.length=r.1.qa.length from hmin];clear hmin hdrop;go_wp2_with fail
   refine (x4f HI4.out.bl HI4.out.bel.size HR4.out.1 rfl HR4.out.2 (by omega)).mono ?_;rintro e w5 ⟨v5,rfl,B5,hv5,F5⟩;have HI5:Hid (xpd w p w2.heap.size s res ρ2 { r.1 with rest:=[],qa:=[] } (.pointer (some ⟨w2.heap.size,0,none⟩)) v5 (l++r.1.qa) w5):=HI4.out.wrote B5 hv5 F5;clear B5 hv5 F5 HR4 HI4;have HL5:Hid (jh4 w p w2.heap.size s res w5 k'):=⟨_,_,_,_,_,HI5.out,HM.out.2⟩
   go_wp2_with fail
   go_roundw
   case rel=>exact ⟨k',HL5.out⟩
   case measure=>
    have h1:=(v90 HL5.out).2;have h2:=HM.out.1;omega
  ·have HM:Hid (res=if MS.verdict r.1≠0 then (⟨#[]⟩,MS.verdict r.1) else (xu6 (l++r.1.qa),0)):=hres;clear hres;have h2i:¬ ((r.2:Nat):Int)=2:=by omega
   obtain ⟨rr,c16,TK⟩:=(show MQ ρ2 w3 p { r.1 with rest:=[] } from HI3.out.mq).taken 64 (by decide);have HTK:Hid _:=TK;clear TK;go_wp2_with fail
   refine Calls.mono HTK.out ?_;rintro e w4 ⟨g,rfl,hg,hrow,M4,F4⟩;have hmin:min 64 r.1.qa.length=r.1.qa.length:=by omega
   have hdrop:r.1.qa.drop (min 64 r.1.qa.length)=[]:=by rw [hmin,List.drop_length]
   have HI4:Hid (xpd w p w2.heap.size s res ρ2 { r.1 with rest:=[],qa:=[] } pb vb l w4):=by
    have M4':MQ ρ2 w4 p { r.1 with rest:=[],qa:=[] }:=by
     have h:=M4;simp only [hdrop] at h;exact h
    exact HI3.out.took M4' F4
   have HR4:Hid (w4.rowIs g 5 r.1.qa.length (fun j=> .int .u8 (r.1.qa.getD j 0:Nat))∧g≠w2.heap.size):=⟨by rw [← hmin];exact hrow,fun e=>by have:=HI3.out.bl.lt;omega⟩
   clear M4 F4 hrow HTK c16 hg;rw [show min 64 ({ r.1 with rest:=[] }:MS).qa.length=r.1.qa.length from hmin];clear hmin hdrop;go_wp2_with fail
   refine (x4f HI4.out.bl HI4.out.bel.size HR4.out.1 rfl HR4.out.2 (by omega)).mono ?_;rintro e w5 ⟨v5,rfl,B5,hv5,F5⟩;have HI5:Hid (xpd w p w2.heap.size s res ρ2 { r.1 with rest:=[],qa:=[] } (.pointer (some ⟨w2.heap.size,0,none⟩)) v5 (l++r.1.qa) w5):=HI4.out.wrote B5 hv5 F5;clear B5 hv5 F5 HR4 HI4;go_wp2_with fail
   refine (z9n HI5.out.mq.mm).mono ?_;rintro e w6 ⟨rfl,rfl⟩;rw [show MS.verdict ({ r.1 with rest:=[],qa:=[] }:MS)=MS.verdict r.1 from rfl];by_cases hv:MS.verdict r.1=0
   ·have HM2:Hid (res=(xu6 (l++r.1.qa),0)):=by show _=_;rw [show res=_ from HM.out,if_neg (by rw [hv];simp)]
    rw [hv];go_wp2_with fail
    refine (vfo HI5.out.bl HI5.out.bel.size HR.out.2.1).mono ?_;rintro e w7 ⟨rfl,b7⟩;have HB7:Hid (Below w.heap.size w w7):=HI5.out.bel.trans b7;clear b7;go_wp2_with fail
    go_ret2
    rw [HM2.out];exact ⟨rfl,HB7.out⟩
   ·have HM2:Hid (res=(⟨#[]⟩,MS.verdict r.1)):=by show _=_;rw [show res=_ from HM.out,if_pos hv]
    have hvi:¬ ((MS.verdict r.1:Nat):Int)=0:=by omega
    go_wp2_with fail
    go_ret2
    rw [HM2.out];exact ⟨rfl,HI5.out.bel⟩
theorem x6l{P:Program}{w:World}:∀ {l:List (String×DataW Unit)} {ps:List MemPlace},DataW.LaidVars P w l ps->∀ n d,(n,d)∈l->∃ g t cs fuel p,P.globalNamed n=some g∧(P.globals[g]?).map (·.type)=some t∧w.var? P n=some cs∧DataW.trod (fun _=>()) P w 0 (fun _=>true) false fuel t cs.toList=some (d,p)
 | [],_,_,_,_,hm=>by cases hm
 | (n',d') :: r,ps,h,n,d,hm=>by
  obtain ⟨g,t,cs,fuel,p,q,h1,h2,h3,h4,h5,_⟩:=h;rcases List.mem_cons.1 hm with e | hm
  ·injection e with e1 e2
   subst e1;subst e2;exact ⟨g,t,cs,fuel,p,h1,h2,h3,h4⟩
  ·exact x6l h5 n d hm
def xm6:List Int:=[13,14,12,0,7,8,6,9,5,10,4,11,3,2,1]
theorem v18:xm6.map (fun z=>Value.int .i64 z)=ky5.toList:=rfl
theorem yip:Tryz.prog.cellsOf 3=1:=by kernel_rfl
theorem knh:Tryz.prog.cellsOf 245=15:=by kernel_rfl
theorem zpy{W:World}{laid:List (String×DataW Unit)}{name:String}{g0:Nat}(hl:laidMetH Tryz.prog laid W)(hf:(laid.filter fun x=>x.2.handleName?.isSome)=[])(hm:(name,Lib.tabData .i64 xm6)∈laid)(hg:Tryz.prog.globalNamed name=some g0)(ht:(Tryz.prog.globals[g0]?).map (·.type)=some 245)(hgl:g0<Tryz.prog.globals.size)
  (hrow:∃ z,(((begin Tryz.prog (fun _ _=>0) default).world.heap[g0]?).bind Obj.row?)=some (z,245)) (hs:W.ShapedOpen Tryz.prog):∃ fr,W.heap[g0]?=some (.cells ky5 245 fr):=by
 unfold laidMetH at hl;rw [hf] at hl;obtain ⟨ps,hL,_,_⟩:=hl;obtain ⟨g,t,cs,fuel,p,h1,h2,h3,h4⟩:=x6l hL _ _ hm;rw [hg] at h1;injection h1 with h1
 subst h1;rw [ht] at h2;injection h2 with h2
 subst h2;have e:=Lib.cells_of_tab (zs:=xm6) Tryz.underlying245 Tryz.underlying3 yip knh h4;rw [v18] at e;have e':cs=ky5:=Array.ext' e;obtain ⟨z,hz⟩:=hrow;obtain ⟨cs',hc,_,_⟩:=hs.1 g0 z 245 hgl hz;refine ⟨(0,0),?_⟩;unfold World.var? at h3;rw [hg] at h3;simp only [Option.bind_some,hc,Option.some.injEq] at h3;rw [hc,h3,e']
theorem ordp_laid {W : World} {laid : List (String × DataW Unit)} (hl : laidMetH Tryz.prog laid W) (hf : (laid.filter fun x => x.2.handleName?.isSome) = []) (h2 : ("floodgate/floodgate.helperOrder", Lib.tabData .i64 xm6) ∈ laid) (hs : W.ShapedOpen Tryz.prog) : OrdP W := by
 obtain ⟨fr',h'⟩:=zpy (g0:=0) hl hf h2 (by kernel_rfl) (by kernel_rfl) (of_decide_eq_true (by kernel_rfl)) ⟨#[.int .i64 0, .int .i64 0, .int .i64 0, .int .i64 0, .int .i64 0, .int .i64 0, .int .i64 0, .int .i64 0, .int .i64 0, .int .i64 0, .int .i64 0, .int .i64 0, .int .i64 0, .int .i64 0, .int .i64 0],by kernel_rfl⟩ hs;exact ⟨fr',h'⟩
open Go.RowKit Go.Deep
theorem ybc:Tryz.prog.cellsOf 3=1:=by kernel_rfl
def inI(z:Int):Prop:= -9223372036854775808<=z∧z<=9223372036854775807
theorem zu0{z:Int}(h:(Lit.int .i64 z).wf=true):inI z:=by
 have h':decide (IntKind.i64.min<=z)=true∧decide (z<=IntKind.i64.max)=true:=by
  have h2:(decide (IntKind.i64.min<=z) && decide (z<=IntKind.i64.max))=true:=h;exact Bool.and_eq_true_iff.1 h2
 exact ⟨of_decide_eq_true h'.1,of_decide_eq_true h'.2⟩
theorem z9k(c:Int)(w:World)(hc:inI c) :
  Calls Tryz.prog 25 #[.int .i64 c] w fun e w'=>(∃ k:Nat,e= .returned (.int .i64 k)∧1<=k∧k<=400)∧w'=w:=by
 obtain ⟨h1,h2⟩:=hc;by_cases h0:c<0
 ·have hd:decide (c<0)=true:=by simpa using h0
  obtain ⟨r,hr⟩:∃ r:Nat,((-(c+1)).tmod 400:Int)=r:=⟨((-(c+1))%400).toNat,by rw [Int.tmod_eq_emod_of_nonneg (by omega)];omega⟩
  have hr2:r<400:=by rw [Int.tmod_eq_emod_of_nonneg (by omega)] at hr;omega
  go_enter Tryz.func25,Tryz.ntmps25
  go_wp2_with fail
  go_ret
  exact ⟨⟨1+r,by simp,by omega,by omega⟩,rfl⟩
 ·have hd:decide (c<0)=false:=by simpa using h0
  obtain ⟨r,hr⟩:∃ r:Nat,(c.tmod 400:Int)=r:=⟨(c%400).toNat,by rw [Int.tmod_eq_emod_of_nonneg (by omega)];omega⟩
  have hr2:r<400:=by rw [Int.tmod_eq_emod_of_nonneg (by omega)] at hr;omega
  go_enter Tryz.func25,Tryz.ntmps25
  go_wp2_with fail
  go_ret
  exact ⟨⟨1+r,by simp,by omega,by omega⟩,rfl⟩
theorem ya0(c:Cfg)(w:World):Calls Tryz.prog 20 #[c.val] w fun e w'=>e= .returned (.bool c.right)∧Below w.heap.size w w':=by
 have HB:Hid (Below w.heap.size w (w.alloc (.cells #[.int .i64 c.fm, .int .i64 c.out, .int .i64 c.ratio, .int .i64 c.slack, .int .i64 c.mem, .int .i64 c.lim, .int .i64 c.steps] 42))):=(Below.refl _ _).alloc (Nat.le_refl _) _;have HR:Hid (c.right=true↔(0<=c.fm∧c.fm<=2)∧(0<=c.out∧c.out<=100000)∧(0<=c.ratio∧c.ratio<=1000)∧(0<=c.slack∧c.slack<=100000)∧(1<=c.mem∧c.mem<=100)∧(0<=c.lim∧c.lim<=100)∧(0<=c.steps∧c.steps<=1000000)):=yur;unfold Cfg.val;generalize c.right=R at *;obtain ⟨fm,ou,ra,sl,me,he,sp⟩:=c;simp only at HB HR ⊢;by_cases h0:0<=fm
 rotate_left
 ·have hR:R=false:=by
   cases hR:R with
   | false=>rfl
   | true=>have:=HR.out.1 hR;omega
  have t0:decide (0<=fm)=false:=by simpa using h0
  clear HR;go_enter Tryz.func20,Tryz.ntmps20
  go_wp2_with fail
  go_ret
  exact ⟨rfl,HB.out⟩
 have t0:decide (0<=fm)=true:=by simpa using h0
 by_cases h1:fm<=2
 rotate_left
 ·have hR:R=false:=by
   cases hR:R with
   | false=>rfl
   | true=>have:=HR.out.1 hR;omega
  have t1:decide (fm<=2)=false:=by simpa using h1
  clear HR;go_enter Tryz.func20,Tryz.ntmps20
  go_wp2_with fail
  go_ret
  exact ⟨rfl,HB.out⟩
 have t1:decide (fm<=2)=true:=by simpa using h1
 by_cases h2:0<=ou
 rotate_left
 ·have hR:R=false:=by
   cases hR:R with
   | false=>rfl
   | true=>have:=HR.out.1 hR;omega
  have t2:decide (0<=ou)=false:=by simpa using h2
  clear HR;go_enter Tryz.func20,Tryz.ntmps20
  go_wp2_with fail
  go_ret
  exact ⟨rfl,HB.out⟩
 have t2:decide (0<=ou)=true:=by simpa using h2
 by_cases h3:ou<=100000
 rotate_left
 ·have hR:R=false:=by
   cases hR:R with
   | false=>rfl
   | true=>have:=HR.out.1 hR;omega
  have t3:decide (ou<=100000)=false:=by simpa using h3
  clear HR;go_enter Tryz.func20,Tryz.ntmps20
  go_wp2_with fail
  go_ret
  exact ⟨rfl,HB.out⟩
 have t3:decide (ou<=100000)=true:=by simpa using h3
 by_cases h4:0<=ra
 rotate_left
 ·have hR:R=false:=by
   cases hR:R with
   | false=>rfl
   | true=>have:=HR.out.1 hR;omega
  have t4:decide (0<=ra)=false:=by simpa using h4
  clear HR;go_enter Tryz.func20,Tryz.ntmps20
  go_wp2_with fail
  go_ret
  exact ⟨rfl,HB.out⟩
 have t4:decide (0<=ra)=true:=by simpa using h4
 by_cases h5:ra<=1000
 rotate_left
 ·have hR:R=false:=by
   cases hR:R with
   | false=>rfl
   | true=>have:=HR.out.1 hR;omega
  have t5:decide (ra<=1000)=false:=by simpa using h5
  clear HR;go_enter Tryz.func20,Tryz.ntmps20
  go_wp2_with fail
  go_ret
  exact ⟨rfl,HB.out⟩
 have t5:decide (ra<=1000)=true:=by simpa using h5
 by_cases h6:0<=sl
 rotate_left
 ·have hR:R=false:=by
   cases hR:R with
   | false=>rfl
   | true=>have:=HR.out.1 hR;omega
  have t6:decide (0<=sl)=false:=by simpa using h6
  clear HR;go_enter Tryz.func20,Tryz.ntmps20
  go_wp2_with fail
  go_ret
  exact ⟨rfl,HB.out⟩
 have t6:decide (0<=sl)=true:=by simpa using h6
 by_cases h7:sl<=100000
 rotate_left
 ·have hR:R=false:=by
   cases hR:R with
   | false=>rfl
   | true=>have:=HR.out.1 hR;omega
  have t7:decide (sl<=100000)=false:=by simpa using h7
  clear HR;go_enter Tryz.func20,Tryz.ntmps20
  go_wp2_with fail
  go_ret
  exact ⟨rfl,HB.out⟩
 have t7:decide (sl<=100000)=true:=by simpa using h7
 by_cases h8:1<=me
 rotate_left
 ·have hR:R=false:=by
   cases hR:R with
   | false=>rfl
   | true=>have:=HR.out.1 hR;omega
  have t8:decide (1<=me)=false:=by simpa using h8
  clear HR;go_enter Tryz.func20,Tryz.ntmps20
  go_wp2_with fail
  go_ret
  exact ⟨rfl,HB.out⟩
 have t8:decide (1<=me)=true:=by simpa using h8
 by_cases h9:me<=100
 rotate_left
 ·have hR:R=false:=by
   cases hR:R with
   | false=>rfl
   | true=>have:=HR.out.1 hR;omega
  have t9:decide (me<=100)=false:=by simpa using h9
  clear HR;go_enter Tryz.func20,Tryz.ntmps20
  go_wp2_with fail
  go_ret
  exact ⟨rfl,HB.out⟩
 have t9:decide (me<=100)=true:=by simpa using h9
 by_cases h10:0<=he
 rotate_left
 ·have hR:R=false:=by
   cases hR:R with
   | false=>rfl
   | true=>have:=HR.out.1 hR;omega
  have t10:decide (0<=he)=false:=by simpa using h10
  clear HR;go_enter Tryz.func20,Tryz.ntmps20
  go_wp2_with fail
  go_ret
  exact ⟨rfl,HB.out⟩
 have t10:decide (0<=he)=true:=by simpa using h10
 by_cases h11:he<=100
 rotate_left
 ·have hR:R=false:=by
   cases hR:R with
   | false=>rfl
   | true=>have:=HR.out.1 hR;omega
  have t11:decide (he<=100)=false:=by simpa using h11
  clear HR;go_enter Tryz.func20,Tryz.ntmps20
  go_wp2_with fail
  go_ret
  exact ⟨rfl,HB.out⟩
 have t11:decide (he<=100)=true:=by simpa using h11
 by_cases h12:0<=sp
 rotate_left
 ·have hR:R=false:=by
   cases hR:R with
   | false=>rfl
   | true=>have:=HR.out.1 hR;omega
  have t12:decide (0<=sp)=false:=by simpa using h12
  clear HR;go_enter Tryz.func20,Tryz.ntmps20
  go_wp2_with fail
  go_ret
  exact ⟨rfl,HB.out⟩
 have t12:decide (0<=sp)=true:=by simpa using h12
 by_cases h13:sp<=1000000
 rotate_left
 ·have hR:R=false:=by
   cases hR:R with
   | false=>rfl
   | true=>have:=HR.out.1 hR;omega
  have t13:decide (sp<=1000000)=false:=by simpa using h13
  clear HR;go_enter Tryz.func20,Tryz.ntmps20
  go_wp2_with fail
  go_ret
  exact ⟨rfl,HB.out⟩
 have t13:decide (sp<=1000000)=true:=by simpa using h13
 have hR:R=true:=HR.out.2 (by omega);clear HR;go_enter Tryz.func20,Tryz.ntmps20
 go_wp2_with fail
 go_ret
 exact ⟨by rw [hR];rfl,HB.out⟩
def MG.cells(m:MG):List Value:=[.int .i64 m.c.pre.length, .int .i64 m.c.outs.length, .int .i64 m.wait, .int .i64 m.begun, .int .i64 ((m.c.pre.length:Int)+m.c.outs.length), .bool m.acc, .int .i64 m.err]
theorem MG.cells_len(m:MG):m.cells.length=7:=rfl
theorem MG.cells_one(m:MG):∀ v∈m.cells,v.oneCell'=true:=by
 unfold MG.cells;simp [Value.oneCell']
def j9u:Value->Nat
 | .string s=>s.size
 | _=>0
structure FinI(B g5 g8 q fm mem lim:Nat)(s:ByteArray)(Q:Quo)(w:World)(o:Value)(wr:World):Prop where
 ex:∃ K m,GM B K wr q fm mem lim m∧zp6 fm mem lim s m∧m.q=Q∧o= .string m.got∧wr.rowIs g8 50 7 (lrow m.cells)∧¬ K g8∧¬ K g5
 row:∃ f,wr.rowIs g5 50 7 f
 ne:g5≠g8
 lt:B<=g5∧B<=g8
 bel:Below B w wr
theorem OrdP.belowB{B:Nat}{w w':World}(h:OrdP w)(hb:Below B w w')(hg:0<B):OrdP w':=by
 obtain ⟨fr,h1⟩:=h;exact ⟨fr,(hb.block _ hg).trans h1⟩
theorem GM.noG{B:Nat}{K:Nat->Prop}{w:World}{q fm mem lim:Nat}{m:MG}(h:GM B K w q fm mem lim m)(hg:0<B):¬ K 0:=fun e=>by
 have:=(h.at_ e).1;omega
theorem k8e{b k:Nat}(h:k≠b):∀ (vs:List Value) (o:Nat) (w:World),(w.setCells b o vs).heap[k]?=w.heap[k]?
 | [],_,_=>rfl
 | v :: vs,o,w=>(k8e h vs (o+1) _).trans (Below.heap_setCell _ _ _ _ h)
theorem jbu(b:Nat):∀ (vs:List Value) (o:Nat) (w:World),(w.setCells b o vs).heap.size=w.heap.size
 | [],_,_=>rfl
 | v :: vs,o,w=>(jbu b vs (o+1) _).trans (by simp [World.setCell])
theorem xy5{w:World}{b n:Nat}{T:TypeId}{f:Nat->Value}{l:List Value}(h:w.rowIs b T n f)(hl:l.length=n):(w.setCells b 0 l).rowIs b T n (lrow l):=by
 have key:∀ (vs:List Value) (o:Nat) (w:World) (f:Nat->Value),w.rowIs b T n f->o+vs.length<=n->(w.setCells b o vs).rowIs b T n (fun i=>if o<=i∧i<o+vs.length then vs.getD (i - o) (.int .i64 0) else f i):=by
  intro vs;induction vs with
  | nil=>intro o w f h _;exact h.congr fun i hi=>by rw [if_neg (by simp only [List.length_nil];omega)]
  | cons v vs ih=>
   intro o w f h ho;simp only [List.length_cons] at ho;have h1:=ih (o+1) (w.setCell ⟨b,o,none⟩ v) _ (h.set o v) (by omega);refine h1.congr fun i hi=>?_
   simp only [List.length_cons];by_cases e:i=o
   ·subst e;rw [if_neg (by omega),if_pos rfl,if_pos (by omega),Nat.sub_self];rfl
   ·by_cases h2:o+1<=i∧i<o+1+vs.length
    ·rw [if_pos h2,if_pos (by omega),show i - o=(i - (o+1))+1 by omega];rfl
    ·rw [if_neg h2,if_neg e,if_neg (by omega)]
 refine (key l 0 w f h (by omega)).congr fun i hi=>?_
 rw [if_pos (by omega)];rfl
theorem y5z{s:ByteArray}(h:s.size≠0):s.toList.isEmpty=false:=by
 rw [ByteArray.toList_eq];cases hl:s.data.toList with
 | nil=>
  have h0:s.data.toList.length=0:=by rw [hl];rfl
  exact absurd (by simpa using h0) h
 | cons _ _=>rfl
theorem kye{B:Nat}{K:Nat->Prop}{w:World}{q fm mem lim:Nat}{m:MG}{s:ByteArray}(h:GM B K w q fm mem lim m)(W:Way fm mem lim s m)(hs:s.size=m.c.pre.length)(hc:m.err=0->m.closed=false∧m.acc=false)(he:m.err≠0->Ends fm mem lim s m∧m.acc=false)(hO:OrdP w)(hG:0<B) :
  Calls Tryz.prog 47 #[.pointer (some ⟨q,0,none⟩), .string m.got] w fun e w'=>(∃ m',e= .returned (.tuple #[.string m'.got,m'.stateV, .bool true])∧Ends fm mem lim s m'∧y58 m'∧m'.q=m.q∧(m'.err=0->m'.drained=m'.c.outs.length∧m'.acc=true))∧Below B w w':=by
 have hB:B<=w.heap.size:=by obtain ⟨ρ,p,x,acc,g,_,_⟩:=h.ex;exact g.hB
 obtain ⟨W0,hW0⟩:∃ W0,W0=w.alloc (.cells #[.int .i64 0, .int .i64 0, .int .i64 0, .int .i64 0, .int .i64 0, .bool false, .int .i64 0] 50):=⟨_,rfl⟩
 have b0:Below w.heap.size w W0:=by rw [hW0];exact (Below.refl _ _).alloc (Nat.le_refl _) _
 have g0:W0.rowIs w.heap.size 50 7 (lrow [.int .i64 0, .int .i64 0, .int .i64 0, .int .i64 0, .int .i64 0, .bool false, .int .i64 0]):=by rw [hW0];exact World.rowIs_alloc w #[.int .i64 0, .int .i64 0, .int .i64 0, .int .i64 0, .int .i64 0, .bool false, .int .i64 0] _ _ (ytu rfl rfl rfl rfl rfl rfl rfl)
 have HC:Hid (Calls Tryz.prog 31 #[.pointer (some ⟨q,0,none⟩)] W0 fun e w'=>∃ er m',e= .returned (.int .i64 (er:Nat))∧jlu m m' er∧ywe B K W0 q fm mem lim m' w'):=x7y (h.below b0) (hO.below b0) (h.noG hG);have HS:Hid (∀ m' er,jlu m m' er->zp6 fm mem lim s m'∧er=m'.err∧m'.q=m.q∧m'.drained=m.drained∧z1f m.c m'.c∧m'.got=m.got):=fun m' er c=>zp6.close W h.good h.kept hs hc he c
 have HB:Hid (GM B K w q fm mem lim m∧Below w.heap.size w W0∧W0.rowIs w.heap.size 50 7 (lrow [.int .i64 0, .int .i64 0, .int .i64 0, .int .i64 0, .int .i64 0, .bool false, .int .i64 0])∧B<=w.heap.size∧OrdP w∧0<B):=⟨h,b0,g0,hB,hO,hG⟩
 clear h W hs hc he hO hG b0 g0 hB;go_enter Tryz.func47,Tryz.ntmps47
 go_upto_region 1 with fail
 rw [← hW0];clear hW0;go_upto_region 2 with (go_at_call 31;refine HC.out.mono ?_;rintro e w1 ⟨er,m1,rfl,c1,A1⟩)
 obtain ⟨S1,he1,hq1,hd1,gr1,hgot⟩:=HS.out m1 er c1;obtain ⟨⟨K1,hK1,G1⟩,sz1,bl1,o1,o2,o3⟩:=A1;have HT:Hid (Calls Tryz.prog 27 #[.pointer (some ⟨q,0,none⟩)] w1 fun e w'=>e= .returned (.agg #[.int .i64 m1.c.pre.length, .int .i64 m1.c.outs.length, .int .i64 m1.wait, .int .i64 m1.begun, .int .i64 ((m1.c.pre.length:Int)+m1.c.outs.length), .bool m1.acc, .int .i64 m1.err])∧Below w1.heap.size w1 w'):=jzk G1;subst he1;go_upto_region 3 with (go_at_call 27;refine HT.out.mono ?_;rintro e w2 ⟨rfl,b2⟩)
 obtain ⟨W3,hW3⟩:∃ W3,W3=w2.alloc (.cells #[.int .i64 m1.c.pre.length, .int .i64 m1.c.outs.length, .int .i64 m1.wait, .int .i64 m1.begun, .int .i64 ((m1.c.pre.length:Int)+m1.c.outs.length), .bool m1.acc, .int .i64 m1.err] 50):=⟨_,rfl⟩
 rw [← hW3];have b3:Below w2.heap.size w2 W3:=by rw [hW3];exact (Below.refl _ _).alloc (Nat.le_refl _) _
 have r3:W3.rowIs w2.heap.size 50 7 (lrow m1.cells):=by rw [hW3];exact World.rowIs_alloc w2 #[.int .i64 m1.c.pre.length, .int .i64 m1.c.outs.length, .int .i64 m1.wait, .int .i64 m1.begun, .int .i64 ((m1.c.pre.length:Int)+m1.c.outs.length), .bool m1.acc, .int .i64 m1.err] _ _ (ytu rfl rfl rfl rfl rfl rfl rfl)
 have c6:W3.cell? ⟨w2.heap.size,6,none⟩=some (.int .i64 m1.err):=r3.cell (i:=6) (by omega);have b13:Below w1.heap.size w1 W3:=b2.trans (b3.mono b2.size);have bB:Below B w W3:=by
  have q1:Below B W0 w1:=ywe.below (HB.out.1.below HB.out.2.1) ⟨⟨K1,hK1,G1⟩,sz1,bl1,o1,o2,o3⟩;exact ((HB.out.2.1.mono HB.out.2.2.2.1).trans q1).trans (b13.mono (Nat.le_trans HB.out.2.2.2.1 (Nat.le_trans HB.out.2.1.size sz1)))
 have hw0:w.heap.size<W0.heap.size:=HB.out.2.2.1.lt;have HI:Hid (FinI B w.heap.size w2.heap.size q fm mem lim s m.q w (.string m.got) W3):=by
  have n5:¬ K1 w.heap.size:=fun e=>by
   have:=(hK1 w.heap.size hw0).1 e;have:=(HB.out.1.at_ this).2;omega
  refine ⟨⟨K1,m1,G1.below b13,S1,hq1,by rw [hgot],r3,fun e=>?_,n5⟩,⟨_,(HB.out.2.2.1.of_block (bl1 _ hw0 (fun e=>by have:=(HB.out.1.at_ e).2;omega))).of_block (b13.block _ (Nat.lt_of_lt_of_le hw0 sz1))⟩,?_,⟨HB.out.2.2.2.1,?_⟩,bB⟩
  ·have:=(G1.at_ e).2;have:=b2.size;omega
  ·have:=b2.size;omega
  ·have:=b2.size;have:=HB.out.2.2.2.1;omega
 have HO:Hid (OrdP w∧0<B):=HB.out.2.2.2.2;clear hW3 b3 r3 b13 bB hw0 HB HS HC HT S1 hq1 hd1 gr1 hgot G1 hK1 sz1 bl1 o1 o2 o3 c1 b2;go_wp2_with fail
 clear c6;obtain ⟨g5,hg5⟩:∃ g5,g5=w.heap.size:=⟨_,rfl⟩
 obtain ⟨g8,hg8⟩:∃ g8,g8=w2.heap.size:=⟨_,rfl⟩
 rw [← hg5,← hg8] at HI ⊢;clear hg5 hg8;go_loopw [1,9,10] (fun o _ _ wr=>Hid (FinI B g5 g8 q fm mem lim s m.q w o wr)) (fun o _ _ _=>1000001 - j9u o)
 case atStart=>exact HI
 case round=>
  obtain ⟨⟨K2,m2,G2,S2,hq2,rfl,r2,n8,n5⟩,⟨f5,r5⟩,ne,lt,bel⟩:=hrel.out;clear HI hrel;have c2:wr.cell? ⟨g8,2,none⟩=some (.int .i64 m2.wait):=r2.cell (i:=2) (by omega);by_cases hw:0<m2.wait
  ·have hw1:decide (0<m2.wait)=true:=by simpa using hw
   have he0:m2.err=0:=Classical.byContradiction fun h=>by unfold MG.wait at hw;rw [if_neg h] at hw;omega
   have hwe:m2.wait=m2.c.outs.length - m2.drained:=by unfold MG.wait;rw [if_pos he0]
   have hgs:=MG.got_size G2.kept;have hst:=G2.kept.ck.st;have hqb:=G2.qb;have HI2:Hid (GM B K2 wr q fm mem lim m2∧zp6 fm mem lim s m2∧m2.q=m.q∧¬ K2 g8∧¬ K2 g5∧m2.err=0∧m2.wait=m2.c.outs.length - m2.drained∧m2.drained<=1000000):=⟨G2,S2,hq2,n8,n5,he0,hwe,by have:=G2.kept.dr;omega⟩
   have HR:Hid (wr.rowIs g8 50 7 (lrow m2.cells)∧wr.rowIs g5 50 7 f5∧g5≠g8∧(B<=g5∧B<=g8)∧Below B w wr):=⟨r2,r5,ne,lt,bel⟩
   have HD:Hid (Calls Tryz.prog 30 #[.pointer (some ⟨q,0,none⟩), .int .i64 (7:Nat)] wr fun e w'=>∃ l er m',e= .returned (.tuple #[.string (xu6 l), .int .i64 (er:Nat)])∧v6p m2 (7:Nat) m' l er∧ywe B K2 wr q fm mem lim m' w'):=v7a G2 7 (by omega) (HO.out.1.belowB bel HO.out.2) (G2.noG HO.out.2);have hg6:m2.got.size<=1000000:=by omega
   clear G2 S2 hq2 r2 n8 n5 r5 ne lt bel he0 hwe hgs hst hqb;go_upto_region 7 with (go_at_call 30;refine HD.out.mono ?_;rintro e w3 ⟨l,er,m3,rfl,D3,A3⟩)
   obtain ⟨S3,he3,Dr,hq3⟩:=zp6.drain HI2.out.2.1 HI2.out.1.good HI2.out.1.kept (fun ha=>(HI2.out.1.acc_ ha).2 HI2.out.2.2.2.2.2.1) HI2.out.2.2.2.2.2.1 D3;subst he3;obtain ⟨⟨K3,hK3,G3⟩,sz3,bl3,o1,o2,o3⟩:=A3;obtain ⟨bl,hbl⟩:∃ bl,bl=xu6 l:=⟨_,rfl⟩
   have hl7:l.length<=7∧1<=l.length:=by have h1:=Dr.len;have h2:=HI2.out.2.2.2.2.2.2.1;omega
   have hbs:bl.size=l.length:=by rw [hbl,xvb]
   have hb7:bl.size<=7:=by omega
   have hne2:bl.toList.isEmpty=false:=y5z (by omega);have HG3:Hid (m2.got++bl=m3.got∧m3.drained=m2.drained+l.length):=⟨by rw [hbl];exact Dr.got,Dr.dr⟩
   rw [← hbl];have HT:Hid (Calls Tryz.prog 27 #[.pointer (some ⟨q,0,none⟩)] w3 fun e w'=>e= .returned (.agg #[.int .i64 m3.c.pre.length, .int .i64 m3.c.outs.length, .int .i64 m3.wait, .int .i64 m3.begun, .int .i64 ((m3.c.pre.length:Int)+m3.c.outs.length), .bool m3.acc, .int .i64 m3.err])∧Below w3.heap.size w3 w'):=jzk G3;clear hbl;go_upto_region 10 with fail
   have h38:g8<wr.heap.size:=HR.out.1.lt;have h35:g5<wr.heap.size:=HR.out.2.1.lt;have B3:Below B wr w3:=ywe.below HI2.out.1 ⟨⟨K3,hK3,G3⟩,sz3,bl3,o1,o2,o3⟩;have HX:Hid (∀ w4:World,Below w3.heap.size w3 w4->w4.there g8 0 7∧FinI B g5 g8 q fm mem lim s m.q w (.string (m2.got++bl)) (w4.setCells g8 0 m3.cells)):=fun w4 b4=>by
    have r8:w4.rowIs g8 50 7 (lrow m2.cells):=(HR.out.1.of_block (bl3 g8 h38 HI2.out.2.2.2.1)).of_block (b4.block _ (Nat.lt_of_lt_of_le h38 sz3));have r5:w4.rowIs g5 50 7 f5:=(HR.out.2.1.of_block (bl3 g5 h35 HI2.out.2.2.2.2.1)).of_block (b4.block _ (Nat.lt_of_lt_of_le h35 sz3));have hth:w4.there g8 0 7:=fun j hj=>⟨by rw [Nat.zero_add];exact Option.isSome_iff_exists.2 ⟨_,r8.cell hj⟩,r8.frozen _⟩
    have n8:¬ K3 g8:=fun e=>HI2.out.2.2.2.1 ((hK3 g8 h38).1 e)
    have n5:¬ K3 g5:=fun e=>HI2.out.2.2.2.2.1 ((hK3 g5 h35).1 e)
    have hsame:∀ k,k≠g8->(w4.setCells g8 0 m3.cells).heap[k]?=w4.heap[k]?:=fun k hk=>k8e hk _ _ _
    refine ⟨hth,⟨⟨K3,m3,?_,S3,hq3.trans HI2.out.2.2.1,by rw [HG3.out.1],xy5 r8 rfl,n8,n5⟩,⟨f5,r5.of_block (hsame g5 HR.out.2.2.1)⟩,HR.out.2.2.1,HR.out.2.2.2.1,?_⟩⟩
    ·have g4:=G3.below b4;exact g4.same (by rw [jbu];exact Nat.le_refl _) fun k hk=>hsame k (fun e=>n8 (by rw [← e];exact hk))
    ·refine xue HR.out.2.2.2.1.2 _ _ ((HR.out.2.2.2.2.trans B3).trans (b4.mono ?_));have:=HR.out.2.2.2.1.2;omega
   have HL:Hid (j9u (.string (m2.got++bl))=j9u (.string m2.got)+l.length∧1<=l.length∧m2.got.size<=1000000):=⟨by show (m2.got++bl).size=m2.got.size+_;rw [ByteArray.size_append,hbs],hl7.2,hg6⟩
   clear HI2 HR HD D3 S3 Dr hq3 K3 hK3 G3 sz3 bl3 o1 o2 o3 hbs hb7 hl7 hne2 HG3 h38 h35 B3 hg6 c2 hw hw1;go_wp2_with (first
    | (go_at_call 27;refine HT.out.mono ?_;rintro e w4 ⟨rfl,b4⟩;have HX4:Hid (w4.there g8 0 7∧FinI B g5 g8 q fm mem lim s m.q w (.string (m2.got++bl)) (w4.setCells g8 0 m3.cells)):=HX.out w4 b4;clear b4)
    | (refine wpList_store_mid rfl 50 _ _ rfl g8 0 #[.int .i64 m3.c.pre.length, .int .i64 m3.c.outs.length, .int .i64 m3.wait, .int .i64 m3.begun, .int .i64 ((m3.c.pre.length:Int)+m3.c.outs.length), .bool m3.acc, .int .i64 m3.err] rfl rfl HX4.out.1 zmr (all_oneCell_toArray (by simp [Value.oneCell'])) ?_))
   simp only [Go.Act.put];go_roundw
   case rel=>exact HX4.out.2
   case measure=>
    have h1:=HL.out;show 1000001 - j9u (.string (m2.got++bl))<1000001 - j9u (.string m2.got);rw [h1.1];have h2:j9u (.string m2.got)=m2.got.size:=rfl;omega
  ·have hw0:m2.wait=0:=by omega
   have hw1:decide (0<m2.wait)=false:=by simp [hw0]
   obtain ⟨E2,hcase⟩:=S2.done G2.kept hw0;have HE:Hid (Ends fm mem lim s m2∧y58 m2∧m2.q=m.q∧(m2.err=0->m2.drained=m2.c.outs.length∧m2.acc=true)):=⟨E2,G2.kept,hq2,fun h0=>hcase.elim (fun h=>⟨h.2.2,h.2.1⟩) (fun h=>absurd h0 h.1)⟩
   have HR:Hid (wr.rowIs g8 50 7 (lrow m2.cells)∧wr.rowIs g5 50 7 f5∧g5≠g8∧(B<=g5∧B<=g8)∧Below B w wr):=⟨r2,r5,ne,lt,bel⟩
   have HF:Hid (∀ wv:World,wv.rowIs g8 50 7 (lrow m2.cells)->wv.cell? ⟨g8,0,none⟩=some (.int .i64 m2.c.pre.length)∧wv.cell? ⟨g8,1,none⟩=some (.int .i64 m2.c.outs.length)∧wv.cell? ⟨g8,2,none⟩=some (.int .i64 m2.wait)∧wv.cell? ⟨g8,3,none⟩=some (.int .i64 m2.begun)∧wv.cell? ⟨g8,4,none⟩=some (.int .i64 ((m2.c.pre.length:Int)+m2.c.outs.length))∧wv.cell? ⟨g8,5,none⟩=some (.bool m2.acc)∧wv.cell? ⟨g8,6,none⟩=some (.int .i64 m2.err)):=fun wv h=>⟨h.cell (i:=0) (by omega),h.cell (i:=1) (by omega),h.cell (i:=2) (by omega),h.cell (i:=3) (by omega),h.cell (i:=4) (by omega),h.cell (i:=5) (by omega),h.cell (i:=6) (by omega)⟩
   obtain ⟨b,hb1,hb2⟩:∃ b:Bool,((m2.err:Int) !=0)=b∧m2.acc= !b:=by
    rcases hcase with ⟨h1,h2,_⟩ | ⟨h1,h2⟩
    ·exact ⟨false,by simp [h1],h2⟩
    ·exact ⟨true,by simp;omega,h2⟩
   have HV:Hid (m2.stateV= .agg #[.int .i64 m2.c.pre.length, .int .i64 m2.c.outs.length, .int .i64 m2.wait, .int .i64 m2.begun, .int .i64 ((m2.c.pre.length:Int)+m2.c.outs.length), .bool m2.acc, .int .i64 m2.err]):=rfl;have HB2:Hid (m2.acc= !b):=hb2;clear G2 S2 hq2 r2 n8 n5 r5 ne lt bel E2 hcase hw hb2;go_upto_region 11 with fail
   clear c2 hw1 hw0;all_goals
    refine wp_region_held_drew (S:=fun wv=>wv.rowIs g8 50 7 (lrow m2.cells)∧wv.there g5 0 7) (by kernel_rfl) ⟨HR.out.1,fun j hj=>⟨by rw [Nat.zero_add];exact Option.isSome_iff_exists.2 ⟨_,HR.out.2.1.cell hj⟩,HR.out.2.1.frozen _⟩⟩ (fun hHeld=>?_);refine wpAnyH_take (i:=0) (v:=?v0) rfl (by kernel_rfl) (by kernel_rfl) (by kernel_rfl) (fun _ _ _ h=>h) (Or.inl ⟨by rfl,?y0⟩) hHeld ?r0
    case y0=>(intro wv hS;go_simp;try (with_reducible rfl))
    case r0=>
    simp only [Go.Act.put,List.getElem_toArray,List.getElem_cons_succ,List.getElem_cons_zero,List.setIfInBounds_toArray,List.set_cons_zero,List.set_cons_succ];refine wpAnyH_take (i:=1) (v:=?v1) rfl (by kernel_rfl) (by kernel_rfl) (by kernel_rfl) (fun _ _ _ h=>h) (Or.inl ⟨by rfl,?y1⟩) hHeld ?r1
    case y1=>(intro wv hS;obtain ⟨d0,d1,d2,d3,d4,d5,d6⟩:=HF.out wv hS.1;go_simp;try (with_reducible rfl))
    case r1=>
    simp only [Go.Act.put,List.getElem_toArray,List.getElem_cons_succ,List.getElem_cons_zero,List.setIfInBounds_toArray,List.set_cons_zero,List.set_cons_succ];refine wpAnyH_take (i:=2) (v:=?v2) rfl (by kernel_rfl) (by kernel_rfl) (by kernel_rfl) (fun _ _ _ h=>h) (Or.inl ⟨by rfl,?y2⟩) hHeld ?r2
    case y2=>(intro wv hS;go_simp;try (with_reducible rfl))
    case r2=>
    simp only [Go.Act.put,List.getElem_toArray,List.getElem_cons_succ,List.getElem_cons_zero,List.setIfInBounds_toArray,List.set_cons_zero,List.set_cons_succ];refine wpAnyH_take (i:=3) (v:=?v3) rfl (by kernel_rfl) (by kernel_rfl) (by kernel_rfl) (fun _ _ _ h=>h) (Or.inl ⟨by rfl,?y3⟩) hHeld ?r3
    case y3=>(intro wv hS;obtain ⟨d0,d1,d2,d3,d4,d5,d6⟩:=HF.out wv hS.1;go_simp;try (with_reducible rfl))
    case r3=>
    simp only [Go.Act.put,List.getElem_toArray,List.getElem_cons_succ,List.getElem_cons_zero,List.setIfInBounds_toArray,List.set_cons_zero,List.set_cons_succ];refine wpAnyH_take (i:=4) (v:=?v4) rfl (by kernel_rfl) (by kernel_rfl) (by kernel_rfl) (fun _ _ _ h=>h) (Or.inl ⟨by rfl,?y4⟩) hHeld ?r4
    case y4=>(intro wv hS;go_simp;try (with_reducible rfl))
    case r4=>
    simp only [Go.Act.put,List.getElem_toArray,List.getElem_cons_succ,List.getElem_cons_zero,List.setIfInBounds_toArray,List.set_cons_zero,List.set_cons_succ];refine wpAnyH_take (i:=5) (v:=?v5) rfl (by kernel_rfl) (by kernel_rfl) (by kernel_rfl) (fun _ _ _ h=>h) (Or.inl ⟨by rfl,?y5⟩) hHeld ?r5
    case y5=>(intro wv hS;obtain ⟨d0,d1,d2,d3,d4,d5,d6⟩:=HF.out wv hS.1;go_simp;try (with_reducible rfl))
    case r5=>
    simp only [Go.Act.put,List.getElem_toArray,List.getElem_cons_succ,List.getElem_cons_zero,List.setIfInBounds_toArray,List.set_cons_zero,List.set_cons_succ];refine wpAnyH_take (i:=6) (v:=?v6) rfl (by kernel_rfl) (by kernel_rfl) (by kernel_rfl) (fun _ _ _ h=>h) (Or.inl ⟨by rfl,?y6⟩) hHeld ?r6
    case y6=>(intro wv hS;go_simp;try (with_reducible rfl))
    case r6=>
    simp only [Go.Act.put,List.getElem_toArray,List.getElem_cons_succ,List.getElem_cons_zero,List.setIfInBounds_toArray,List.set_cons_zero,List.set_cons_succ];refine wpAnyH_take (i:=7) (v:=?v7) rfl (by kernel_rfl) (by kernel_rfl) (by kernel_rfl) (fun _ _ _ h=>h) (Or.inl ⟨by rfl,?y7⟩) hHeld ?r7
    case y7=>(intro wv hS;go_simp;try (with_reducible rfl))
    case r7=>
    simp only [Go.Act.put,List.getElem_toArray,List.getElem_cons_succ,List.getElem_cons_zero,List.setIfInBounds_toArray,List.set_cons_zero,List.set_cons_succ];refine wpAnyH_take (i:=8) (v:=?v8) rfl (by kernel_rfl) (by kernel_rfl) (by kernel_rfl) (fun _ _ _ h=>h) (Or.inl ⟨by rfl,?y8⟩) hHeld ?r8
    case y8=>(intro wv hS;go_simp;try (with_reducible rfl))
    case r8=>
    simp only [Go.Act.put,List.getElem_toArray,List.getElem_cons_succ,List.getElem_cons_zero,List.setIfInBounds_toArray,List.set_cons_zero,List.set_cons_succ];refine wpAnyH_ready (rs:=[9]) (by kernel_rfl) (by simp) ?_;refine AllReadyH.cons rfl (fun K hK=>?_) AllReadyH.nil;rw [if_pos (by rfl)];refine wp_store_mid 50 _ _ rfl g5 0 m2.cells.toArray rfl rfl hHeld.2 zmr (all_oneCell_toArray m2.cells_one) ?_;have hin:=World.cell?_setCells_in g5 m2.cells 0 _ (fun j hj=>(hHeld.2 j hj).1);have HZ:Hid (Below B w (World.setCells wr.drew g5 0 m2.cells)):=xue HR.out.2.2.2.1.1 _ _ HR.out.2.2.2.2.drew;refine hK.out _ _ ⟨hHeld.1.of_block (k8e (Ne.symm HR.out.2.2.1) _ _ _),World.there_setCells hHeld.2 _ _ _⟩ (fun hHeld=>?_);simp only [Go.Act.put,List.getElem_toArray,List.getElem_cons_succ,List.getElem_cons_zero,List.setIfInBounds_toArray,List.set_cons_zero,List.set_cons_succ];refine wpAnyH_take (i:=10) (v:=?v10) rfl (by kernel_rfl) (by kernel_rfl) (by kernel_rfl) (fun _ _ _ h=>h) (Or.inl ⟨by rfl,?y10⟩) hHeld ?r10
    case y10=>(intro wv hS;go_simp;try (with_reducible rfl))
    case r10=>
    simp only [Go.Act.put,List.getElem_toArray,List.getElem_cons_succ,List.getElem_cons_zero,List.setIfInBounds_toArray,List.set_cons_zero,List.set_cons_succ];refine wpAnyH_done (by kernel_rfl) ?_ _;have s0:(World.setCells wr.drew g5 0 m2.cells).cell? ⟨g5,0,none⟩=some (.int .i64 m2.c.pre.length):=hin 0 (by rw [MG.cells_len];omega);have s1:(World.setCells wr.drew g5 0 m2.cells).cell? ⟨g5,1,none⟩=some (.int .i64 m2.c.outs.length):=hin 1 (by rw [MG.cells_len];omega);have s2:(World.setCells wr.drew g5 0 m2.cells).cell? ⟨g5,2,none⟩=some (.int .i64 m2.wait):=hin 2 (by rw [MG.cells_len];omega);have s3:(World.setCells wr.drew g5 0 m2.cells).cell? ⟨g5,3,none⟩=some (.int .i64 m2.begun):=hin 3 (by rw [MG.cells_len];omega);have s4:(World.setCells wr.drew g5 0 m2.cells).cell? ⟨g5,4,none⟩=some (.int .i64 ((m2.c.pre.length:Int)+m2.c.outs.length)):=hin 4 (by rw [MG.cells_len];omega);have s5:(World.setCells wr.drew g5 0 m2.cells).cell? ⟨g5,5,none⟩=some (.bool m2.acc):=hin 5 (by rw [MG.cells_len];omega);have s6:(World.setCells wr.drew g5 0 m2.cells).cell? ⟨g5,6,none⟩=some (.int .i64 m2.err):=hin 6 (by rw [MG.cells_len];omega);clear hin hHeld hK;show Exit.then _ _ _ _ (World.setCells wr.drew g5 0 m2.cells);generalize World.setCells wr.drew g5 0 m2.cells=W9 at *;go_wp2_with fail
    have hq9:¬ m2.acc=b:=by rw [HB2.out];cases b <;> decide
    refine bodyPost_ret (v:= .tuple #[.string m2.got, .agg #[.int .i64 m2.c.pre.length, .int .i64 m2.c.outs.length, .int .i64 m2.wait, .int .i64 m2.begun, .int .i64 ((m2.c.pre.length:Int)+m2.c.outs.length), .bool m2.acc, .int .i64 m2.err], .bool true]) (by simp [results,Tryz.results47,go_sem, *]) rfl ⟨⟨m2,rfl,HE.out⟩,HZ.out⟩
theorem k9d(s:ByteArray)(a b k:Nat)(hb:b<=s.size)(hk:a+k<b):k0w (s.extract a b) k=k0w s (a+k):=by
 rw [jap _ _ (by rw [ByteArray.size_extract];omega),jap _ _ (by omega),ByteArray.getElem_extract]
theorem jrs(s:ByteArray)(a n:Nat)(h:a+n<=s.size):(s.extract a s.size).extract 0 n=s.extract a (a+n):=by
 refine jsz (by simp only [ByteArray.size_extract];omega) fun k hk=>?_
 have hk2:k<n:=by simp only [ByteArray.size_extract] at hk;omega
 rw [k9d _ _ _ _ (by rw [ByteArray.size_extract];omega) (by omega),k9d _ _ _ _ (Nat.le_refl _) (by omega),k9d _ _ _ _ h (by omega)];congr 1
 omega
theorem vjp(s:ByteArray)(a k:Nat)(h:a+k<=s.size):(s.extract a s.size).extract k (s.extract a s.size).size=s.extract (a+k) s.size:=by
 refine jsz (by simp only [ByteArray.size_extract];omega) fun i hi=>?_
 have hi2:a+k+i<s.size:=by simp only [ByteArray.size_extract] at hi;omega
 rw [k9d _ _ _ _ (Nat.le_refl _) (by rw [ByteArray.size_extract];omega),k9d _ _ _ _ (Nat.le_refl _) (by omega),k9d _ _ _ _ (Nat.le_refl _) (by omega)];congr 1
 omega
theorem kv1(s p:ByteArray)(k:Nat)(h:k<p.size):k0w (s++p) (s.size+k)=k0w p k:=by
 rw [jap _ _ (by rw [ByteArray.size_append];omega),jap _ _ h,ByteArray.getElem_append_right (by omega)];simp
theorem vd1{pre:List Nat}{s s0:ByteArray}{j:Nat}(hs:zik pre s)(T:zik pre s0)(hz:s0.size=pre.length)(hj:pre.length+j<=s.size) :
  (s0++s.extract pre.length (pre.length+j)).size=pre.length+j∧∀ l,zik l (s0++s.extract pre.length (pre.length+j))->zik l s:=by
 have hp:(s.extract pre.length (pre.length+j)).size=j:=by rw [ByteArray.size_extract];omega
 have hsz:(s0++s.extract pre.length (pre.length+j)).size=pre.length+j:=by rw [ByteArray.size_append,hz,hp]
 refine ⟨hsz,fun l t=>⟨by have:=t.len;omega,fun k hk=>?_⟩⟩;have hl:=t.len;rw [← t.at_ k hk];by_cases h:k<pre.length
 ·rw [jq5 _ _ _ (by omega),hs.at_ k h,T.at_ k h]
 ·have e:k=s0.size+(k - pre.length):=by omega
  rw [show k0w (s0++s.extract pre.length (pre.length+j)) k=k0w (s0++s.extract pre.length (pre.length+j)) (s0.size+(k - pre.length)) by rw [← e],kv1 _ _ _ (by omega),k9d _ _ _ _ (by omega) (by omega)];congr 1
  omega
structure y5u(fm mem lim:Nat)(s:ByteArray)(m m':MG)(j:Nat)(n:Int)(er:Nat):Prop where
 op:jyu fm mem lim s m m'
 er:er=m'.err
 n:n=(m'.c.pre.length:Int) - m.c.pre.length
 lo:m.c.pre.length<=m'.c.pre.length
 up:m'.c.pre.length<=m.c.pre.length+j
 dr:m'.drained=m.drained
 got:m'.got=m.got
 ok:m'.err=0->m'.c.pre.length=m.c.pre.length+j∨m'.drained+64<=m'.c.outs.length
theorem MG.got_grows{m m':MG}(k:y58 m)(hd:m'.drained=m.drained)(g:z1f m.c m'.c):m'.got=m.got:=by
 unfold MG.got;rw [hd];have h9:=x3w (l:=m.c.outs) (l':=m'.c.outs) (d:=m.drained) (k:=0) g.outs (by have:=k.dr;omega);have h8:List.take m.drained m'.c.outs=List.take m.drained m.c.outs:=by simpa using h9.symm
 exact congrArg xu6 h8
theorem vsf.open_{fm mem lim:Nat}{s:ByteArray}{m m':MG}{j er:Nat}{n:Int}(W:Way fm mem lim s m)(G:zi6 fm mem lim m.c)(k:y58 m)(hc:m.closed=false)(ha:m.acc=false)(he:m.err=0)(hj:m.c.pre.length+j<=s.size)(h:vsf m [s.extract m.c.pre.length (m.c.pre.length+j)] m' n er):y5u fm mem lim s m m' j n er:=by
 cases h with
 | refused h0=>exact absurd he h0
 | closed _ h1=>rw [hc] at h1;cases h1
 | goes s0 _ h0 h1 T hz go=>
  obtain ⟨hsz,hp⟩:=vd1 W.tk T hz hj;have ht:zik m.c.pre (s0++s.extract m.c.pre.length (m.c.pre.length+j)):=T.append _;have go':Goes m (s0++s.extract m.c.pre.length (m.c.pre.length+j)) m':=go;have O:=go'.open_ W G k hc ha ht hp (by omega);obtain ⟨M',q',d',c',gr⟩:=go'.kept k;have G':=go'.good G ht;obtain ⟨x,hx⟩:=gr.pre;have hlo:m.c.pre.length<=m'.c.pre.length:=by rw [hx,List.length_append];omega
  obtain ⟨c1,e1,a1,r1,r2,r3⟩:=go'.run;have t1:=(zi6.steps r1 G ht).2;have hup:c1.pre.length<=m.c.pre.length+j:=by have:=t1.len;omega
  refine ⟨O,rfl,rfl,hlo,by rw [r3];exact hup,d',MG.got_grows k d' gr,fun h9=>?_⟩;rw [r3] at h9 G' ⊢;rw [hc] at r2;cases r2 with
  | hungry g1 g2=>exact Or.inl (by show c1.pre.length=_;omega)
  | steps _ _ _=>cases h9
  | full _ _ _ g2=>exact Or.inr g2
  | quota _ _ _ _ g3=>exact absurd h9 g3
  | fail _ g1=>exact absurd h9 (G'.gi.fail_ne g1)
structure kfv(fm mem lim:Nat)(s:ByteArray)(m m':MG)(j:Nat)(n:Int)(er:Nat):Prop where
 way:Way fm mem lim s m'
 open_:m'.closed=false
 acc:m'.acc=false
 q:m'.q=m.q
 ends:m'.err≠0->Ends fm mem lim s m'
 er:er=m'.err
 n:n=(m'.c.pre.length:Int) - m.c.pre.length
 lo:m.c.pre.length<=m'.c.pre.length
 up:m'.c.pre.length<=m.c.pre.length+j
 dr:m'.drained=m.drained
 got:m'.got=m.got
 ok:m'.err=0->m'.c.pre.length=m.c.pre.length+j∨m'.drained+64<=m'.c.outs.length
theorem vsf.any{fm mem lim:Nat}{s:ByteArray}{m m':MG}{j er:Nat}{n:Int}(W:Way fm mem lim s m)(G:zi6 fm mem lim m.c)(k:y58 m)(hc:m.closed=false)(ha:m.acc=false)(he:m.err≠0->Ends fm mem lim s m)(hj:m.c.pre.length+j<=s.size)(h:vsf m [s.extract m.c.pre.length (m.c.pre.length+j)] m' n er):kfv fm mem lim s m m' j n er:=by
 by_cases h0:m.err=0
 ·have O:=vsf.open_ W G k hc ha h0 hj h;exact ⟨O.op.way,O.op.open_,O.op.acc.trans ha,O.op.q,O.op.err,O.er,O.n,O.lo,O.up,O.dr,O.got,O.ok⟩
 ·cases h with
  | refused _=>exact ⟨W,hc,ha,rfl,he,rfl,by omega,Nat.le_refl _,by omega,rfl,rfl,fun h=>absurd h h0⟩
  | closed h1 _=>exact absurd h1 h0
  | goes _ _ h1 _ _ _ _=>exact absurd h1 h0
structure kji(fm mem lim:Nat)(s:ByteArray)(m m':MG)(l:List Nat)(n:Nat)(er:Nat):Prop where
 way:Way fm mem lim s m'
 open_:m'.closed=false
 q:m'.q=m.q
 acc:m'.acc=false
 err:m'.err≠0->Ends fm mem lim s m'
 er:er=0
 pre:m'.c.pre=m.c.pre
 drn:Drn m m' l n
theorem v6p.open_{fm mem lim:Nat}{s:ByteArray}{m m':MG}{n er:Nat}{l:List Nat}(W:Way fm mem lim s m)(G:zi6 fm mem lim m.c)(k:y58 m)(hc:m.closed=false)(ha:m.acc=false)(he:m.err=0)(h:v6p m n m' l er):kji fm mem lim s m m' l n er:=by
 obtain ⟨e0,D,s0,T,hz,go⟩:=h.drn he k;have k1:y58 ({ m with drained:=m.drained+l.length }:MG):=by
  have c:=k.ck;have hd:=k.dr;have hl:=D.len;exact ⟨⟨c.st,c.ou,c.ra,by have:=c.ro;show m.c.outs.length<=m.drained+l.length+64;omega⟩,by show m.drained+l.length<=m.c.outs.length;omega⟩
 have hss:=W.tk.len;have hp:∀ t,zik t s0->zik t s:=fun t ht=>⟨by have:=ht.len;omega,fun i hi=>by
  have hl:=ht.len;rw [← ht.at_ i hi,W.tk.at_ i (by omega),T.at_ i (by omega)]⟩
 have O:=Goes.open_ (m:={ m with drained:=m.drained+l.length }) (W.drained _) G k1 hc ha go T hp (by omega);obtain ⟨c1,e1,a1,r1,r2,r3⟩:=go.run;have hpre:c1.pre=m.c.pre:=r1.same (by show s0.size<=m.c.pre.length;omega);exact ⟨O.way,O.open_,O.q,O.acc.trans ha,O.err,e0,by rw [r3];exact hpre,D⟩
theorem two2{P:Nat->Prop}(h0:P 0)(h1:P 1)(i:Nat)(hi:i<2):P i:=by
 have:i=0∨i=1:=by omega
 rcases this with rfl | rfl <;> assumption
def PassO(w:World)(ad:Option Addr)(n:Nat):Prop:=n<=maxLen∧∀ k,k<n->∃ (bl o:Nat) (a b:Int),ad=some ⟨bl,o,none⟩∧bl<w.heap.size∧w.cell? ⟨bl,o+k*2,none⟩=some (.int .i64 a)∧w.cell? ⟨bl,o+k*2+1,none⟩=some (.int .i64 b)∧inI a∧inI b
theorem PassO.below{w w':World}{ad:Option Addr}{n B:Nat}(h:PassO w ad n)(b:Below B w w')(hB:w.heap.size<=B):PassO w' ad n:=⟨h.1,fun k hk=>by
 obtain ⟨bl,o,x,y,e,hl,c1,c2,i1,i2⟩:=h.2 k hk;exact ⟨bl,o,x,y,e,Nat.lt_of_lt_of_le hl b.size,(b.cell (p:=⟨bl,o+k*2,none⟩) (Nat.lt_of_lt_of_le hl hB)).trans c1,(b.cell (p:=⟨bl,o+k*2+1,none⟩) (Nat.lt_of_lt_of_le hl hB)).trans c2,i1,i2⟩⟩
structure ThrI(B q fm mem lim:Nat)(s:ByteArray)(Q:Quo)(w:World)(o r t:Value)(wr:World):Prop where
 ex:∃ K m,GM B K wr q fm mem lim m∧Way fm mem lim s m∧m.closed=false∧m.acc=false∧m.q=Q∧(m.err≠0->Ends fm mem lim s m)∧o= .string m.got∧r= .string (s.extract m.c.pre.length s.size)∧∃ k:Nat,t= .int .i64 k∧k<=m.c.pre.length+m.drained
 bel:Below B w wr
def Cfg.quo(c:Cfg):Quo:=⟨c.out.toNat,c.ratio.toNat,c.slack.toNat,c.steps.toNat⟩
structure ThrE(c:Cfg)(s:ByteArray)(m:MG):Prop where
 fin:Ends c.fm.toNat c.mem.toNat c.lim.toNat s m
 kept:y58 m
 q:m.q=c.quo
 ok:m.err=0->m.drained=m.c.outs.length∧m.acc=true
theorem yxp{s:ByteArray}(h:s.size=0):s.toList.isEmpty=true:=by
 rw [ByteArray.toList_eq];have h0:s.data.toList.length=0:=by simpa using h
 rw [List.length_eq_zero_iff.1 h0];rfl
theorem MG.row_at{m:MG}{g:Nat}{wv:World}(h:wv.rowIs g 50 7 (lrow m.cells)):wv.cell? ⟨g,0,none⟩=some (.int .i64 m.c.pre.length)∧wv.cell? ⟨g,1,none⟩=some (.int .i64 m.c.outs.length)∧wv.cell? ⟨g,2,none⟩=some (.int .i64 m.wait)∧wv.cell? ⟨g,3,none⟩=some (.int .i64 m.begun)∧wv.cell? ⟨g,4,none⟩=some (.int .i64 ((m.c.pre.length:Int)+m.c.outs.length))∧wv.cell? ⟨g,5,none⟩=some (.bool m.acc)∧wv.cell? ⟨g,6,none⟩=some (.int .i64 m.err):=⟨h.cell (i:=0) (by omega),h.cell (i:=1) (by omega),h.cell (i:=2) (by omega),h.cell (i:=3) (by omega),h.cell (i:=4) (by omega),h.cell (i:=5) (by omega),h.cell (i:=6) (by omega)⟩
theorem MG.set_at{m:MG}{g:Nat}{W:World}(hin:∀ j (hj:j<m.cells.length),W.cell? ⟨g,0+j,none⟩=some m.cells[j]):W.cell? ⟨g,0,none⟩=some (.int .i64 m.c.pre.length)∧W.cell? ⟨g,1,none⟩=some (.int .i64 m.c.outs.length)∧W.cell? ⟨g,2,none⟩=some (.int .i64 m.wait)∧W.cell? ⟨g,3,none⟩=some (.int .i64 m.begun)∧W.cell? ⟨g,4,none⟩=some (.int .i64 ((m.c.pre.length:Int)+m.c.outs.length))∧W.cell? ⟨g,5,none⟩=some (.bool m.acc)∧W.cell? ⟨g,6,none⟩=some (.int .i64 m.err):=⟨hin 0 (by rw [MG.cells_len];omega),hin 1 (by rw [MG.cells_len];omega),hin 2 (by rw [MG.cells_len];omega),hin 3 (by rw [MG.cells_len];omega),hin 4 (by rw [MG.cells_len];omega),hin 5 (by rw [MG.cells_len];omega),hin 6 (by rw [MG.cells_len];omega)⟩
theorem vu6(c:Cfg)(s:ByteArray)(ad:Option Addr)(np cap:Nat)(w:World)(hc:c.right=true)(hs:s.size<=1000000000)(hp:PassO w ad np)(hO:OrdP w) :
  Calls Tryz.prog 22 #[c.val, .string s, .slice ad np cap] w fun e w'=>(∃ m,e= .returned (.tuple #[.string m.got,m.stateV, .bool true])∧ThrE c s m)∧Below w.heap.size w w':=by
 have HC:Hid (c.right=true):=hc;have HP:Hid (PassO w ad np∧OrdP w∧0<w.heap.size):=⟨hp,hO,by obtain ⟨fr,h1⟩:=hO;exact (Array.getElem?_eq_some_iff.1 h1).1⟩
 have hnp:=hp.1;unfold maxLen at hnp;obtain ⟨W0,hW0⟩:∃ W0,W0=((w.alloc (.cells #[.int .i64 c.fm, .int .i64 c.out, .int .i64 c.ratio, .int .i64 c.slack, .int .i64 c.mem, .int .i64 c.lim, .int .i64 c.steps] 42)).alloc (.cells #[.int .i64 0, .int .i64 0, .int .i64 0, .int .i64 0, .int .i64 0, .bool false, .int .i64 0] 50)).alloc (.cells #[.int .i64 0, .int .i64 0, .int .i64 0, .int .i64 0, .int .i64 0, .bool false, .int .i64 0] 50):=⟨_,rfl⟩
 have b0:Below w.heap.size w W0:=by rw [hW0];exact (((Below.refl _ _).alloc (Nat.le_refl _) _).alloc (by simp) _).alloc (by simp;omega) _
 have g7:W0.rowIs (w.heap.size+1) 50 7 (lrow [.int .i64 0, .int .i64 0, .int .i64 0, .int .i64 0, .int .i64 0, .bool false, .int .i64 0]):=by
  rw [hW0];have h:=World.rowIs_alloc (w.alloc (.cells #[.int .i64 c.fm, .int .i64 c.out, .int .i64 c.ratio, .int .i64 c.slack, .int .i64 c.mem, .int .i64 c.lim, .int .i64 c.steps] 42)) #[.int .i64 0, .int .i64 0, .int .i64 0, .int .i64 0, .int .i64 0, .bool false, .int .i64 0] 50 (lrow [.int .i64 0, .int .i64 0, .int .i64 0, .int .i64 0, .int .i64 0, .bool false, .int .i64 0]) (ytu rfl rfl rfl rfl rfl rfl rfl);have h2:=h.alloc (.cells #[.int .i64 0, .int .i64 0, .int .i64 0, .int .i64 0, .int .i64 0, .bool false, .int .i64 0] 50);simpa using h2
 have HG:Hid (Below w.heap.size w W0∧W0.rowIs (w.heap.size+1) 50 7 (lrow [.int .i64 0, .int .i64 0, .int .i64 0, .int .i64 0, .int .i64 0, .bool false, .int .i64 0])):=⟨b0,g7⟩
 have HM:Hid (Calls Tryz.prog 21 #[.agg #[.int .i64 c.fm, .int .i64 c.out, .int .i64 c.ratio, .int .i64 c.slack, .int .i64 c.mem, .int .i64 c.lim, .int .i64 c.steps]] W0 fun e w'=>∃ q K,e= .returned (.tuple #[.pointer (some ⟨q,0,none⟩), .int .i64 0])∧GM W0.heap.size K w' q c.fm.toNat c.mem.toNat c.lim.toNat (MG.fresh c)∧K q∧Below W0.heap.size W0 w'):=kp2 W0 hc;clear hc hp hO b0 g7;unfold Cfg.val;go_enter Tryz.func22,Tryz.ntmps22
 go_upto_region 3 with (go_at_call 21;rw [← hW0];refine HM.out.mono ?_;rintro e w1 ⟨q,K1,rfl,G1,kq,b1⟩)
 clear hW0;have HI:Hid (ThrI W0.heap.size q c.fm.toNat c.mem.toNat c.lim.toNat s c.quo W0 (.string ⟨#[]⟩) (.string s) (.int .i64 0) w1):=⟨⟨K1,MG.fresh c,G1,Way.fresh c s,rfl,rfl,rfl,fun h=>absurd rfl h,rfl,by show Value.string s=Value.string (s.extract 0 s.size);rw [ByteArray.extract_zero_size],0,rfl,Nat.zero_le _⟩,b1⟩
 have hB0:Hid (w.heap.size+1<W0.heap.size):=HG.out.2.lt;clear G1 kq b1 HM;go_wp2_with fail
 obtain ⟨g7,hg7⟩:∃ g7,g7=w.heap.size+1:=⟨_,rfl⟩
 rw [← hg7] at HG hB0 ⊢;have HG7:Hid (g7=w.heap.size+1):=hg7;clear hg7;go_loopw [12,13,14,15,16,17,18,19,20,21] (fun o r t _ _ _ _ _ _ _ wr=>Hid (ThrI W0.heap.size q c.fm.toNat c.mem.toNat c.lim.toNat s c.quo W0 o r t wr)) (fun o r _ _ _ _ _ _ _ _ _=>j9u r+(1000001 - j9u o))
 case atStart=>exact HI
 case round=>
  obtain ⟨⟨K,m,G,W,hcl,hac,hq,hen,rfl,rfl,k,rfl,hk⟩,bel⟩:=hrel.out;clear HI hrel;have hst:=G.kept.ck.st;have hqb:=G.qb;have hdr:=G.kept.dr;have hkb:k<=2000000:=by omega
  have hpre:=W.tk.len;obtain ⟨rest,hrest⟩:∃ rest,rest=s.extract m.c.pre.length s.size:=⟨_,rfl⟩
  have hrs:rest.size=s.size - m.c.pre.length:=by rw [hrest,ByteArray.size_extract];omega
  have HRS:Hid (rest=s.extract m.c.pre.length s.size∧rest.size=s.size - m.c.pre.length∧m.c.pre.length<=s.size):=⟨hrest,hrs,hpre⟩
  have hrl:rest.size<=1000000000:=by omega
  rw [← hrest];have HGM:Hid (GM W0.heap.size K wr q c.fm.toNat c.mem.toNat c.lim.toNat m∧Way c.fm.toNat c.mem.toNat c.lim.toNat s m∧m.closed=false∧m.acc=false∧m.q=c.quo∧(m.err≠0->Ends c.fm.toNat c.mem.toNat c.lim.toNat s m)∧k<=m.c.pre.length+m.drained∧m.drained<=1000000):=⟨G,W,hcl,hac,hq,hen,hk,by omega⟩
  have HBL:Hid (Below W0.heap.size W0 wr):=bel;have HPO:Hid (PassO wr ad np∧OrdP wr∧0<W0.heap.size):=⟨HP.out.1.below ((HG.out.1).trans (bel.mono HG.out.1.size)) (Nat.le_refl _),(HP.out.2.1.below HG.out.1).belowB bel (Nat.lt_of_lt_of_le HP.out.2.2 HG.out.1.size),Nat.lt_of_lt_of_le HP.out.2.2 HG.out.1.size⟩
  clear G W hcl hac hq hen hk hst hqb hdr hpre bel hrest hrs;obtain ⟨W1,hW1⟩:∃ W1,W1=wr.alloc (.cells #[.int .i64 399, .int .i64 399] 59):=⟨_,rfl⟩
  have bw:Below wr.heap.size wr W1:=by rw [hW1];exact (Below.refl _ _).alloc (Nat.le_refl _) _
  have r1:W1.rowIs wr.heap.size 59 2 (lrow [.int .i64 399, .int .i64 399]):=by rw [hW1];exact World.rowIs_alloc wr #[.int .i64 399, .int .i64 399] _ _ (two2 rfl rfl)
  have HW1:Hid (Below wr.heap.size wr W1∧W1.rowIs wr.heap.size 59 2 (lrow [.int .i64 399, .int .i64 399])):=⟨bw,r1⟩
  clear bw r1;go_upto_if 39 with fail
  rw [← hW1];clear hW1;go_cut [39] (fun _ wx=>∃ x y:Int,inI x∧inI y∧Hid (Below wr.heap.size wr wx∧wx.rowIs wr.heap.size 59 2 (lrow [.int .i64 x, .int .i64 y])))
  case first=>
   by_cases hlt:k<np
   ·have hd1:decide (k<np)=true:=by simpa using hlt
    have hd2:decide ((k:Int)<np)=true:=by simp;omega
    obtain ⟨bl,o,x,y,rfl,hbl,c1,c2,i1,i2⟩:=HPO.out.1.2 k hlt;have e1:W1.cell? ⟨bl,o+k*2,none⟩=some (.int .i64 x):=(HW1.out.1.cell (p:=⟨bl,o+k*2,none⟩) hbl).trans c1;have e2:W1.cell? ⟨bl,o+k*2+1,none⟩=some (.int .i64 y):=(HW1.out.1.cell (p:=⟨bl,o+k*2+1,none⟩) hbl).trans c2;have q0:W1.cell? ⟨wr.heap.size,0,none⟩=some (.int .i64 399):=HW1.out.2.cell (i:=0) (by omega);have q1:W1.cell? ⟨wr.heap.size,1,none⟩=some (.int .i64 399):=HW1.out.2.cell (i:=1) (by omega);have z0:=HW1.out.2.frozen 0;have z1:=HW1.out.2.frozen 1;clear c1 c2;go_wp2_with fail
    go_meet
    refine ⟨x,y,i1,i2,?_,?_⟩
    ·exact ((HW1.out.1.setCell (p:=⟨wr.heap.size,0,none⟩) (Nat.le_refl _) _).setCell (p:=⟨wr.heap.size,1,none⟩) (Nat.le_refl _) _)
    ·exact ypd (ypd HW1.out.2 0 (.int .i64 x) rfl) 1 (.int .i64 y) rfl
   ·have hd1:decide (k<np)=false:=by simpa using hlt
    have hd2:decide ((k:Int)<np)=false:=by simp;omega
    go_wp2_with fail
    go_meet
    exact ⟨399,399,by unfold inI;omega,by unfold inI;omega,HW1.out⟩
  case rest=>
  obtain ⟨x,y,ix,iy,HW2⟩:=hcut;clear HW1;have p0:wc.cell? ⟨wr.heap.size,0,none⟩=some (.int .i64 x):=HW2.out.2.cell (i:=0) (by omega);have HAX:Hid (Calls Tryz.prog 25 #[.int .i64 x] wc fun e w'=>(∃ k:Nat,e= .returned (.int .i64 k)∧1<=k∧k<=400)∧w'=wc):=z9k x wc ix;go_upto_if 52 with (go_at_call 25;refine HAX.out.mono ?_;rintro e w9 ⟨⟨n0,rfl,hn0,hn1⟩,rfl⟩)
  go_cut [16,52] (fun s16 _ wx=>∃ n:Nat,s16= .int .i64 n∧n<=rest.size∧n<=400∧(rest.size=0∨1<=n)∧wx=w9)
  case first=>
   by_cases hlt:rest.size<n0
   ·have hd1:decide (rest.size<n0)=true:=by simpa using hlt
    have hd2:decide ((rest.size:Int)<n0)=true:=by simp;omega
    go_wp2_with fail
    go_meet
    exact ⟨rest.size,rfl,Nat.le_refl _,by omega,by omega,rfl⟩
   ·have hd1:decide (rest.size<n0)=false:=by simpa using hlt
    have hd2:decide ((rest.size:Int)<n0)=false:=by simp;omega
    go_wp2_with fail
    go_meet
    exact ⟨n0,rfl,by omega,hn1,Or.inr hn0,rfl⟩
  case rest=>
  obtain ⟨n,rfl,hn,hn4,hne,hwx⟩:=hcut;subst hwx;clear HAX hn0 hn1 p0;have hni:(n:Int)<=rest.size:=by omega
  obtain ⟨pc,hpc⟩:∃ pc,pc=rest.extract 0 n:=⟨_,rfl⟩
  obtain ⟨W3,hW3⟩:∃ W3,W3=wc.alloc (.cells #[.string pc] 9):=⟨_,rfl⟩
  have HW:Hid (Calls Tryz.prog 26 #[.pointer (some ⟨q,0,none⟩), .slice (some ⟨wc.heap.size,0,none⟩) 1 1] W3 fun e w'=>∃ nn er m',e= .returned (.tuple #[.int .i64 nn, .int .i64 (er:Nat)])∧kfv c.fm.toNat c.mem.toNat c.lim.toNat s m m' n nn er∧ywe W0.heap.size K W3 q c.fm.toNat c.mem.toNat c.lim.toNat m' w'):=by
   have b3:Below wc.heap.size wc W3:=by rw [hW3];exact (Below.refl _ _).alloc (Nat.le_refl _) _
   have hh:W3.heap[wc.heap.size]?=some (.cells #[.string pc] 9 (0,0)):=by rw [hW3];exact heap_alloc_new wc _
   have bb:Below wr.heap.size wr W3:=HW2.out.1.trans (b3.mono HW2.out.1.size);obtain ⟨h1,h2,h3⟩:=HRS.out;have hpe:pc=s.extract m.c.pre.length (m.c.pre.length+n):=by rw [hpc,h1];exact jrs s _ n (by omega)
   have G3:=HGM.out.1.below bb;have e1:W3.cell? ⟨wc.heap.size,0,none⟩=some (.string pc):=by rw [cell_of_row _ _ 0 _ _ _ hh];rfl
   have hl:wc.heap.size<W3.heap.size:=World.block_lt_of_cell? W3 _ e1;refine (jvn G3 (some ⟨wc.heap.size,0,none⟩) 1 [pc] ⟨fun i hi=>?_,⟨Nat.le_refl _,by unfold maxLen;omega⟩,fun t ht=>?_,fun b o e=>?_⟩ (HPO.out.2.1.below bb) (G3.noG HPO.out.2.2)).mono ?_
   ·obtain rfl:i=0:=by simp at hi;omega
    exact ⟨wc.heap.size,0,rfl,hl,e1⟩
   ·rw [List.mem_singleton.1 ht,hpc,ByteArray.size_extract];unfold maxLen;omega
   ·injection e with e
    injection e with e2 _ _
    subst e2;refine ⟨fun hk=>?_,?_,hl⟩
    ·have:=(HGM.out.1.at_ hk).2;have:=HW2.out.1.size;omega
    ·have:=HPO.out.2.2;have:=HBL.out.size;have:=HW2.out.1.size;omega
   ·rintro e w' ⟨nn,er,m',rfl,hw,A⟩;exact ⟨nn,er,m',rfl,vsf.any HGM.out.2.1 HGM.out.1.good HGM.out.1.kept HGM.out.2.2.1 HGM.out.2.2.2.1 HGM.out.2.2.2.2.2.1 (by omega) (by rw [← hpe];exact hw),A⟩
  go_upto_region 16 with (go_at_call 26;rw [← hpc,← hW3];refine HW.out.mono ?_;rintro e w4 ⟨nn,er,m1,rfl,U,A4⟩)
  obtain ⟨kk,hkk,hkn⟩:∃ kk:Nat,nn=kk∧kk<=n∧m1.c.pre.length=m.c.pre.length+kk:=⟨m1.c.pre.length - m.c.pre.length,by have:=U.n;have:=U.lo;omega,by have:=U.up;omega,by have:=U.lo;omega⟩
  obtain ⟨hkn,hkp⟩:=hkn;have hee:=U.er;subst hkk;subst hee;obtain ⟨⟨K4,hK4,G4⟩,sz4,bl4,o1,o2,o3⟩:=A4;have h3:wc.heap.size<W3.heap.size:=by rw [hW3];simp
  have bW3:Below wr.heap.size wr W3:=HW2.out.1.trans (by rw [hW3];exact (Below.refl _ _).alloc HW2.out.1.size _);have B4:Below W0.heap.size W3 w4:=ywe.below (HGM.out.1.below bW3) ⟨⟨K4,hK4,G4⟩,sz4,bl4,o1,o2,o3⟩;have rp:w4.rowIs wr.heap.size 59 2 (lrow [.int .i64 x, .int .i64 y]):=by
   have hl:=HW2.out.2.lt;have e1:W3.rowIs wr.heap.size 59 2 (lrow [.int .i64 x, .int .i64 y]):=by rw [hW3];exact HW2.out.2.alloc _
   refine e1.of_block (bl4 _ (by omega) fun hk=>?_);have:=(HGM.out.1.at_ hk).2;omega
  obtain ⟨rest1,hr1⟩:∃ rest1,rest1=rest.extract kk rest.size:=⟨_,rfl⟩
  have HR1:Hid (rest1=s.extract (m.c.pre.length+kk) s.size∧rest1.size=rest.size - kk):=by
   obtain ⟨h1,h2,h3⟩:=HRS.out;refine ⟨?_,by rw [hr1,ByteArray.size_extract];omega⟩;rw [hr1,h1];exact vjp s _ kk (by omega)
  have hB3:W0.heap.size<=wr.heap.size:=HBL.out.size;have HU:Hid (GM W0.heap.size K4 w4 q c.fm.toNat c.mem.toNat c.lim.toNat m1∧kfv c.fm.toNat c.mem.toNat c.lim.toNat s m m1 n kk m1.err∧Below W0.heap.size W0 w4∧w4.rowIs wr.heap.size 59 2 (lrow [.int .i64 x, .int .i64 y])∧¬ K4 wr.heap.size∧m1.c.pre.length=m.c.pre.length+kk):=by
   refine ⟨G4,U,(HBL.out.trans (bW3.mono hB3)).trans B4,rp,fun hk=>?_,hkp⟩;have hl:=HW2.out.2.lt;have:=(HGM.out.1.at_ ((hK4 _ (by omega)).1 hk)).2;omega
  have HT:Hid (Calls Tryz.prog 27 #[.pointer (some ⟨q,0,none⟩)] w4 fun e w'=>e= .returned (.agg #[.int .i64 m1.c.pre.length, .int .i64 m1.c.outs.length, .int .i64 m1.wait, .int .i64 m1.begun, .int .i64 ((m1.c.pre.length:Int)+m1.c.outs.length), .bool m1.acc, .int .i64 m1.err])∧Below w4.heap.size w4 w'):=jzk G4;have hkd1:decide (n<kk)=false:=by simp;omega
  have hkd2:decide ((n:Int)<kk)=false:=by simp;omega
  have hkr:(kk:Int)<=rest.size:=by omega
  have hw3:=HW2.out.1.size;clear G4 U hK4 sz4 bl4 o1 o2 o3 h3 bW3 B4 rp HW hW3 HW2 hkp;go_upto_region 20 with (go_at_call 27;refine HT.out.mono ?_;rintro e w5 ⟨rfl,b5⟩)
  rw [← hr1];clear hr1;obtain ⟨W6,hW6⟩:∃ W6,W6=w5.alloc (.cells #[.int .i64 m1.c.pre.length, .int .i64 m1.c.outs.length, .int .i64 m1.wait, .int .i64 m1.begun, .int .i64 ((m1.c.pre.length:Int)+m1.c.outs.length), .bool m1.acc, .int .i64 m1.err] 50):=⟨_,rfl⟩
  have r6:W6.rowIs w5.heap.size 50 7 (lrow m1.cells):=by rw [hW6];exact World.rowIs_alloc w5 #[.int .i64 m1.c.pre.length, .int .i64 m1.c.outs.length, .int .i64 m1.wait, .int .i64 m1.begun, .int .i64 ((m1.c.pre.length:Int)+m1.c.outs.length), .bool m1.acc, .int .i64 m1.err] _ _ (ytu rfl rfl rfl rfl rfl rfl rfl)
  have b6:Below w4.heap.size w4 W6:=b5.trans (by rw [hW6];exact (Below.refl _ _).alloc b5.size _);have H6:Hid (Below w4.heap.size w4 W6∧W6.rowIs w5.heap.size 50 7 (lrow m1.cells)∧w4.heap.size<=w5.heap.size):=⟨b6,r6,b5.size⟩
  have t6:W6.cell? ⟨w5.heap.size,6,none⟩=some (.int .i64 m1.err):=r6.cell (i:=6) (by omega);rw [← hW6];obtain ⟨gt,hgt⟩:∃ gt,gt=w5.heap.size:=⟨_,rfl⟩
  rw [← hgt] at H6 t6 ⊢;clear hW6 r6 b6 b5 HT hgt;by_cases he1:m1.err=0
  ·have p6:W6.cell? ⟨wr.heap.size,1,none⟩=some (.int .i64 y):=(HU.out.2.2.2.1.of_block (H6.out.1.block _ HU.out.2.2.2.1.lt)).cell (i:=1) (by omega);have HAY:Hid (Calls Tryz.prog 25 #[.int .i64 y] W6 fun e w'=>(∃ k:Nat,e= .returned (.int .i64 k)∧1<=k∧k<=400)∧w'=W6):=z9k y W6 iy;rw [he1] at t6 ⊢;go_upto_region 25 with (go_at_call 25;refine HAY.out.mono ?_;rintro e W7 ⟨⟨d,rfl,hd1,hd4⟩,rfl⟩)
   clear t6 p6 HAY;have HD:Hid (Calls Tryz.prog 30 #[.pointer (some ⟨q,0,none⟩), .int .i64 d] W7 fun e w'=>∃ l er m',e= .returned (.tuple #[.string (xu6 l), .int .i64 (er:Nat)])∧v6p m1 d m' l er∧ywe W0.heap.size K4 W7 q c.fm.toNat c.mem.toNat c.lim.toNat m' w'):=v7a (HU.out.1.below H6.out.1) d (by omega) (((HP.out.2.1.below HG.out.1).belowB HU.out.2.2.1 HPO.out.2.2).below H6.out.1) ((HU.out.1.below H6.out.1).noG HPO.out.2.2);go_upto_region 26 with (go_at_call 30;refine HD.out.mono ?_;rintro e w8 ⟨l,er2,m2,rfl,D2,A8⟩)
   have O2:=v6p.open_ HU.out.2.1.way HU.out.1.good HU.out.1.kept HU.out.2.1.open_ HU.out.2.1.acc he1 D2;have hee:=O2.er;subst hee;have B8:Below W0.heap.size W7 w8:=ywe.below (HU.out.1.below H6.out.1) A8;obtain ⟨⟨K8,hK8,G8⟩,sz8,bl8,o1,o2,o3⟩:=A8;obtain ⟨bl,hbl⟩:∃ bl,bl=xu6 l:=⟨_,rfl⟩
   have hbs:bl.size=l.length:=by rw [hbl,xvb]
   have hlen:=O2.drn.len;have hbd:bl.size<=d:=by omega
   rw [← hbl];have hgs:=MG.got_size HGM.out.1.kept;have hdm:=HGM.out.2.2.2.2.2.2.2;have hgm:m.got.size<=1000000:=by omega
   have hbd1:decide (d<bl.size)=false:=by simp;omega
   have hbd2:decide ((d:Int)<bl.size)=false:=by simp;omega
   have hb4:bl.size<=400:=by omega
   have HD2:Hid (m.got++bl=m2.got∧m2.drained=m.drained+bl.size∧m2.c.pre.length=m.c.pre.length+kk):=by
    refine ⟨?_,by rw [O2.drn.dr,HU.out.2.1.dr,hbs],by rw [O2.pre];exact HU.out.2.2.2.2.2⟩;rw [hbl,← HU.out.2.1.got];exact O2.drn.got
   have HM2:Hid (GM W0.heap.size K8 w8 q c.fm.toNat c.mem.toNat c.lim.toNat m2∧Way c.fm.toNat c.mem.toNat c.lim.toNat s m2∧m2.closed=false∧m2.acc=false∧m2.q=c.quo∧(m2.err≠0->Ends c.fm.toNat c.mem.toNat c.lim.toNat s m2)∧Below W0.heap.size W0 w8):=⟨G8,O2.way,O2.open_,O2.acc,O2.q.trans (HU.out.2.1.q.trans HGM.out.2.2.2.2.1),O2.err,(HU.out.2.2.1.trans (H6.out.1.mono HU.out.2.2.1.size)).trans B8⟩
   have hcase:((kk:Int)==0)=false∧1<=kk∨(((kk:Int)==0)=true∧bl.toList.isEmpty=false∧1<=bl.size)∨(((kk:Int)==0)=true∧bl.toList.isEmpty=true∧rest1.toList.isEmpty=true∧rest1.size=0):=by
    by_cases hk0:kk=0
    ·right
     have hb0:((kk:Int)==0)=true:=by simp [hk0]
     by_cases hb:bl.size=0
     ·right
      have h9:=HU.out.2.1.ok he1;have h8:=HU.out.2.2.2.2.2;have h7:n=0:=by
       rcases h9 with h9 | h9
       ·omega
       ·omega
      have hr0:rest1.size=0:=by have:=HR1.out.2;omega
      exact ⟨hb0,yxp hb,yxp hr0,hr0⟩
     ·exact Or.inl ⟨hb0,y5z hb,by omega⟩
    ·exact Or.inl ⟨by simp;omega,by omega⟩
   have HCS:Hid (1<=kk∨1<=bl.size∨rest1.size=0):=by
    rcases hcase with h | h | h
    ·exact Or.inl h.2
    ·exact Or.inr (Or.inl h.2.2)
    ·exact Or.inr (Or.inr h.2.2.2)
   clear hbl hlen O2 D2 B8 hK8 G8 sz8 bl8 o1 o2 o3 HD hgs hdm HU H6 hbs;obtain ⟨oo,hoo⟩:∃ oo,oo=m.got++bl:=⟨_,rfl⟩
   have hos:oo.size=m.got.size+bl.size:=by rw [hoo,ByteArray.size_append]
   have HOO:Hid (oo=m2.got∧oo.size=m.got.size+bl.size):=⟨by rw [hoo];exact HD2.out.1,hos⟩
   go_upto_region 27 with fail
   rw [← hoo];clear hoo hos;rcases hcase with ⟨hz1,_⟩ | ⟨hz1,hz2,_⟩ | ⟨hz1,hz2,hz3,hz4⟩
   all_goals
    go_upto_region 32 with fail
   all_goals
    by_cases hr0:rest1.size=0
    ·have hre:rest1.toList.isEmpty=true:=yxp hr0;have HF:Hid (Calls Tryz.prog 47 #[.pointer (some ⟨q,0,none⟩), .string oo] w8 fun e w'=>(∃ m',e= .returned (.tuple #[.string m'.got, .agg #[.int .i64 m'.c.pre.length, .int .i64 m'.c.outs.length, .int .i64 m'.wait, .int .i64 m'.begun, .int .i64 ((m'.c.pre.length:Int)+m'.c.outs.length), .bool m'.acc, .int .i64 m'.err], .bool true])∧Ends c.fm.toNat c.mem.toNat c.lim.toNat s m'∧y58 m'∧m'.q=m2.q∧(m'.err=0->m'.drained=m'.c.outs.length∧m'.acc=true))∧Below W0.heap.size w8 w'):=by
      rw [HOO.out.1];refine kye HM2.out.1 HM2.out.2.1 ?_ (fun _=>⟨HM2.out.2.2.1,HM2.out.2.2.2.1⟩) (fun h=>⟨HM2.out.2.2.2.2.2.1 h,HM2.out.2.2.2.1⟩) ((HP.out.2.1.below HG.out.1).belowB HM2.out.2.2.2.2.2.2 HPO.out.2.2) HPO.out.2.2;have h1:=HR1.out.2;have h2:=HRS.out.2;have h3:=HD2.out.2.2;omega
     have HX:Hid (∀ w9,Below W0.heap.size w8 w9->w9.there g7 0 7∧∀ l,Below w.heap.size w (w9.setCells g7 0 l)):=fun w9 b9=>by
      have hl7:g7<W0.heap.size:=hB0.out;have r7:=HG.out.2.of_block ((b9.block g7 hl7).trans (HM2.out.2.2.2.2.2.2.block g7 hl7));refine ⟨fun j hj=>⟨by rw [Nat.zero_add];exact Option.isSome_iff_exists.2 ⟨_,r7.cell hj⟩,r7.frozen _⟩,fun l=>xue (by rw [HG7.out];omega) _ _ ?_⟩;exact HG.out.1.trans ((HM2.out.2.2.2.2.2.2.trans b9).mono HG.out.1.size)
     go_wp2_with (first
      | (go_at_call 47;refine HF.out.mono ?_;rintro e w9 ⟨⟨m3,rfl,E3,k3,q3,f3⟩,b9⟩;have HX9:=HX.out w9 b9;have HE3:Hid (ThrE c s m3):=⟨E3,k3,q3.trans HM2.out.2.2.2.2.1,f3⟩;have HH9:Hid (w9.there g7 0 7∧∀ l,Below w.heap.size w (w9.setCells g7 0 l)):=HX9;clear HX9 E3 k3 q3 f3 b9)
      | (refine wpList_store_mid rfl 50 _ _ rfl g7 0 m3.cells.toArray rfl rfl HH9.out.1 zmr (all_oneCell_toArray m3.cells_one) ?_;have HIN:=MG.set_at (World.cell?_setCells_in g7 m3.cells 0 w9 (fun j hj=>(HH9.out.1 j hj).1));obtain ⟨s0,s1,s2,s3,s4,s5,s6⟩:=HIN;have HZ:Hid (Below w.heap.size w (w9.setCells g7 0 m3.cells)):=HH9.out.2 _;generalize w9.setCells g7 0 m3.cells=WF at *))
     refine bodyPost_ret (v:= .tuple #[.string m3.got, .agg #[.int .i64 m3.c.pre.length, .int .i64 m3.c.outs.length, .int .i64 m3.wait, .int .i64 m3.begun, .int .i64 ((m3.c.pre.length:Int)+m3.c.outs.length), .bool m3.acc, .int .i64 m3.err], .bool true]) (by simp [results,Tryz.results22,go_sem, *]) rfl ⟨⟨m3,rfl,HE3.out⟩,HZ.out⟩
    ·have hre:rest1.toList.isEmpty=false:=y5z hr0;have HK:Hid (k+1<=m2.c.pre.length+m2.drained∧rest1.size+(1000001 - oo.size)<rest.size+(1000001 - m.got.size)):=by
      have h1:=HGM.out.2.2.2.2.2.2.1;have h2:=HD2.out.2;have h3:=HCS.out;have h4:=HOO.out.2;have h5:=HR1.out.2;exact ⟨by omega,by omega⟩
     first
      | exact absurd hz4 hr0
      | (go_wp2_with fail;go_roundw)
     all_goals first | exact HK.out.2 | exact ⟨⟨K8,m2,HM2.out.1,HM2.out.2.1,HM2.out.2.2.1,HM2.out.2.2.2.1,HM2.out.2.2.2.2.1,HM2.out.2.2.2.2.2.1,by rw [HOO.out.1],by rw [HR1.out.1,HD2.out.2.2],k+1,by go_num,HK.out.1⟩,HM2.out.2.2.2.2.2.2⟩
  ·have hei:¬ (m1.err:Int)=0:=by omega
   have heb:((m1.err:Int) !=0)=true:=by simp;omega
   go_upto_region 23 with fail
   clear t6;have hl7:g7<W0.heap.size:=hB0.out;have r7:W6.rowIs g7 50 7 (lrow [.int .i64 0, .int .i64 0, .int .i64 0, .int .i64 0, .int .i64 0, .bool false, .int .i64 0]):=HG.out.2.of_block ((H6.out.1.block g7 (Nat.lt_of_lt_of_le hl7 HU.out.2.2.1.size)).trans (HU.out.2.2.1.block g7 hl7));have hgg:g7≠gt:=by have:=H6.out.2.2;have:=HU.out.2.2.1.size;omega
   have bwW:Below w.heap.size w W6:=HG.out.1.trans ((HU.out.2.2.1.mono HG.out.1.size).trans (H6.out.1.mono (Nat.le_trans HG.out.1.size HU.out.2.2.1.size)));refine wp_region_held_drew (S:=fun wv=>wv.rowIs gt 50 7 (lrow m1.cells)∧wv.there g7 0 7) (by kernel_rfl) ⟨H6.out.2.1,fun j hj=>⟨by rw [Nat.zero_add];exact Option.isSome_iff_exists.2 ⟨_,r7.cell hj⟩,r7.frozen _⟩⟩ (fun hHeld=>?_);refine wpAnyH_take (i:=0) (v:=?v0) rfl (by kernel_rfl) (by kernel_rfl) (by kernel_rfl) (fun _ _ _ h=>h) (Or.inl ⟨by rfl,?y0⟩) hHeld ?r0
   case y0=>(intro wv hS;go_simp;try (with_reducible rfl))
   case r0=>
   simp only [Go.Act.put,List.getElem_toArray,List.getElem_cons_succ,List.getElem_cons_zero,List.setIfInBounds_toArray,List.set_cons_zero,List.set_cons_succ];refine wpAnyH_take (i:=1) (v:=?v1) rfl (by kernel_rfl) (by kernel_rfl) (by kernel_rfl) (fun _ _ _ h=>h) (Or.inl ⟨by rfl,?y1⟩) hHeld ?r1
   case y1=>(intro wv hS;obtain ⟨d0,d1,d2,d3,d4,d5,d6⟩:=MG.row_at hS.1;go_simp;try (with_reducible rfl))
   case r1=>
   simp only [Go.Act.put,List.getElem_toArray,List.getElem_cons_succ,List.getElem_cons_zero,List.setIfInBounds_toArray,List.set_cons_zero,List.set_cons_succ];refine wpAnyH_take (i:=2) (v:=?v2) rfl (by kernel_rfl) (by kernel_rfl) (by kernel_rfl) (fun _ _ _ h=>h) (Or.inl ⟨by rfl,?y2⟩) hHeld ?r2
   case y2=>(intro wv hS;go_simp;try (with_reducible rfl))
   case r2=>
   simp only [Go.Act.put,List.getElem_toArray,List.getElem_cons_succ,List.getElem_cons_zero,List.setIfInBounds_toArray,List.set_cons_zero,List.set_cons_succ];refine wpAnyH_ready (rs:=[3]) (by kernel_rfl) (by simp) ?_;refine AllReadyH.cons rfl (fun K hK=>?_) AllReadyH.nil;rw [if_pos (by rfl)];refine wp_store_mid 50 _ _ rfl g7 0 m1.cells.toArray rfl rfl hHeld.2 zmr (all_oneCell_toArray m1.cells_one) ?_;have hin:=World.cell?_setCells_in g7 m1.cells 0 _ (fun j hj=>(hHeld.2 j hj).1);have HZ:Hid (Below w.heap.size w (World.setCells W6.drew g7 0 m1.cells)):=xue (by rw [HG7.out];omega) _ _ bwW.drew;refine hK.out _ _ ⟨hHeld.1.of_block (k8e (Ne.symm hgg) _ _ _),World.there_setCells hHeld.2 _ _ _⟩ (fun hHeld=>?_);simp only [Go.Act.put,List.getElem_toArray,List.getElem_cons_succ,List.getElem_cons_zero,List.setIfInBounds_toArray,List.set_cons_zero,List.set_cons_succ];refine wpAnyH_take (i:=4) (v:=?v4) rfl (by kernel_rfl) (by kernel_rfl) (by kernel_rfl) (fun _ _ _ h=>h) (Or.inl ⟨by rfl,?y4⟩) hHeld ?r4
   case y4=>(intro wv hS;go_simp;try (with_reducible rfl))
   case r4=>
   simp only [Go.Act.put,List.getElem_toArray,List.getElem_cons_succ,List.getElem_cons_zero,List.setIfInBounds_toArray,List.set_cons_zero,List.set_cons_succ];refine wpAnyH_done (by kernel_rfl) ?_ _;obtain ⟨s0,s1,s2,s3,s4,s5,s6⟩:=MG.set_at hin;clear hin hHeld hK;show Exit.then _ _ _ _ (World.setCells W6.drew g7 0 m1.cells);generalize World.setCells W6.drew g7 0 m1.cells=W9 at *;go_wp2_with fail
   have HE:Hid (ThrE c s m1∧m.got=m1.got):=⟨⟨HU.out.2.1.ends he1,HU.out.1.kept,HU.out.2.1.q.trans HGM.out.2.2.2.2.1,fun h=>absurd h he1⟩,HU.out.2.1.got.symm⟩
   refine bodyPost_ret (v:= .tuple #[.string m.got, .agg #[.int .i64 m1.c.pre.length, .int .i64 m1.c.outs.length, .int .i64 m1.wait, .int .i64 m1.begun, .int .i64 ((m1.c.pre.length:Int)+m1.c.outs.length), .bool m1.acc, .int .i64 m1.err], .bool true]) (by simp [results,Tryz.results22,go_sem, *]) rfl ⟨⟨m1,by rw [HE.out.2];rfl,HE.out.1⟩,HZ.out⟩
def Cf.next(s:ByteArray)(c:Cf):Cf:=
 match c.σ.act with
 | .take=>{ c with σ:=c.σ.add (k0w s c.pre.length),pre:=c.pre++[k0w s c.pre.length] }
 | .put b σ'=>{ c with σ:=σ',outs:=c.outs++[b],ats:=c.ats++[c.pre.length] }
 | .tau σ'=>{ c with σ:=σ',starts:=if c.σ.st=23 then c.starts++[c.pre.length - 1] else c.starts }
 | .fail _=>c
def Cf.may(q:Quo)(D:Nat)(s:ByteArray)(c:Cf):Bool:=
 match c.σ.act with
 | .take=>decide (c.pre.length<s.size) && decide (¬ q.steps<=c.pre.length+c.outs.length)
 | .put _ _=>decide (¬ D+64<=c.outs.length) && decide (vcn q c.pre.length c.outs.length=0)
 | .tau _=>true
 | .fail _=>false
theorem Cf.step_next{q:Quo}{D:Nat}{s:ByteArray}{c:Cf}(h:c.may q D s=true):j3w q D s c (c.next s):=by
 unfold Cf.may at h;unfold Cf.next;cases ha:c.σ.act with
 | take=>
  rw [ha] at h;simp only [Bool.and_eq_true,decide_eq_true_eq] at h;exact .take c ha h.1 h.2
 | put b σ'=>
  rw [ha] at h;simp only [Bool.and_eq_true,decide_eq_true_eq] at h;exact .put c b σ' ha h.1 h.2
 | tau σ'=>exact .tau c σ' ha
 | fail e=>rw [ha] at h;cases h
def Cf.run(s:ByteArray):Nat->Cf->Cf
 | 0,c=>c
 | n+1,c=>Cf.run s n (c.next s)
def Cf.mays(q:Quo)(D:Nat)(s:ByteArray):Nat->Cf->Bool
 | 0,_=>true
 | n+1,c=>c.may q D s && Cf.mays q D s n (c.next s)
theorem Cf.steps_run{q:Quo}{D:Nat}{s:ByteArray}(n:Nat):∀ {c:Cf},Cf.mays q D s n c=true->v44 q D s c (Cf.run s n c):=by
 induction n with
 | zero=>exact fun _=> .refl _
 | succ n ih=>
  intro c h;unfold Cf.mays at h;simp only [Bool.and_eq_true] at h;exact .step _ _ _ (Cf.step_next h.1) (ih h.2)
def hiS:ByteArray:=⟨#[1,2,0,253,255,104,105]⟩
def hiC:Cfg:=⟨0,2,1,0,1,0,9⟩
theorem kda:hiC.right=true:=by decide
theorem zqh:Cf.mays hiC.quo 2 hiS 14 (Cf.begin 0 1 0)=true∧(Cf.run hiS 14 (Cf.begin 0 1 0)).σ.act= .take∧(Cf.run hiS 14 (Cf.begin 0 1 0)).σ.st=23∧(Cf.run hiS 14 (Cf.begin 0 1 0)).pre=[1,2,0,253,255,104,105]∧(Cf.run hiS 14 (Cf.begin 0 1 0)).outs=[104,105]∧(Cf.run hiS 14 (Cf.begin 0 1 0)).starts=[0]:=⟨by kernel_rfl,by kernel_rfl,by kernel_rfl,by kernel_rfl,by kernel_rfl,by kernel_rfl⟩
theorem zky{m:MG}(h:ThrE hiC hiS m):m.err=0∧m.acc=true∧m.got=⟨#[104,105]⟩∧m.c.pre.length=7∧m.c.outs.length=2∧m.begun=1:=by
 obtain ⟨h1,h2,h3,h4,h5,h6⟩:=zqh;have st:=Cf.steps_run 14 h1;generalize hc:Cf.run hiS 14 (Cf.begin 0 1 0)=c at *;have tk:zik c.pre hiS:=by
  rw [h4];refine ⟨by decide,fun k hk=>?_⟩;have hk7:k<7:=hk;have:k=0∨k=1∨k=2∨k=3∨k=4∨k=5∨k=6:=by omega
  rcases this with rfl | rfl | rfl | rfl | rfl | rfl | rfl <;> rfl
 have E:Ends 0 1 0 hiS ⟨c,hiC.quo,0,true,0,true⟩:=⟨some true,rfl,fun D hD=>⟨st.mono hD tk,by
  have hh:=Halt.hungry (q:=hiC.quo) (D:=D) (s:=hiS) (closed:=true) (c:=c) h2 (by rw [h4];decide);have e1:(if true=true∧c.σ.st<23 then 15 else 0)=0:=by rw [h3];rfl
  have e2:(if true=true then some (decide ¬ c.σ.st<23) else none)=some true:=by rw [h3];rfl
  rw [e1,e2] at hh;exact hh⟩⟩
 obtain ⟨r1,r2,r3⟩:=Ends.same h.fin E h.q;have r1:m.c=c:=r1;have r2:m.err=0:=r2;have r3:m.acc=true:=r3;obtain ⟨k1,_⟩:=h.ok r2;refine ⟨r2,r3,?_,by rw [r1,h4];rfl,by rw [r1,h5];rfl,?_⟩
 ·unfold MG.got;rw [k1,r1,h5];rfl
 ·unfold MG.begun;rw [r1,h4,h6];rfl
theorem j93(w:World)(hO:OrdP w):Calls Tryz.prog 19 #[] w fun e w'=>e= .returned (.bool true)∧Below w.heap.size w w':=by
 obtain ⟨W0,hW0⟩:∃ W0,W0=w.alloc (.cells #[.int .i64 0, .int .i64 2, .int .i64 1, .int .i64 0, .int .i64 1, .int .i64 0, .int .i64 9] 42):=⟨_,rfl⟩
 have b0:Below w.heap.size w W0:=by rw [hW0];exact (Below.refl _ _).alloc (Nat.le_refl _) _
 have HT:Hid (Calls Tryz.prog 22 #[.agg #[.int .i64 0, .int .i64 2, .int .i64 1, .int .i64 0, .int .i64 1, .int .i64 0, .int .i64 9], .string ⟨#[1,2,0,253,255,104,105]⟩, .slice none 0 0] W0 fun e w'=>(∃ m,e= .returned (.tuple #[.string ⟨#[104,105]⟩, .agg #[.int .i64 7, .int .i64 2, .int .i64 m, .int .i64 1, .int .i64 9, .bool true, .int .i64 0], .bool true]))∧Below W0.heap.size W0 w'):=by
  refine (vu6 hiC hiS none 0 0 W0 kda (by decide) ⟨by unfold maxLen;omega,fun k hk=>absurd hk (Nat.not_lt_zero _)⟩ (hO.below b0)).mono ?_;rintro e w' ⟨⟨m,rfl,h⟩,b⟩;obtain ⟨e1,e2,e3,e4,e5,e6⟩:=zky h;refine ⟨⟨(m.wait:Int),?_⟩,b⟩;unfold MG.stateV;rw [e1,e2,e3,e4,e5,e6];rfl
 have HB:Hid (Below w.heap.size w W0):=b0;clear hO b0;go_enter Tryz.func19,Tryz.ntmps19
 go_upto_region 3 with (go_at_call 22;rw [← hW0];refine HT.out.mono ?_;rintro e w1 ⟨⟨x,rfl⟩,b1⟩)
 have HB1:Hid (Below w.heap.size w w1):=HB.out.trans (b1.mono HB.out.size);clear b1 hW0;go_wp2_with fail
 go_ret
 exact ⟨by simp,HB1.out.alloc HB1.out.size _⟩
theorem St.tau23{σ σ':St}(h:σ.st=23)(ha:σ.act= .tau σ'):¬ σ.mem<=σ.begun:=by
 rw [St.act_at h] at ha;simp only [St.actAt,St.need] at ha;repeat' split at ha
 all_goals first
  | (cases ha;done)
  | assumption
theorem St.put23{σ σ':St}{b:Nat}(h:σ.st=23)(ha:σ.act= .put b σ'):False:=by
 rw [St.act_at h] at ha;simp only [St.actAt,St.need] at ha;repeat' split at ha
 all_goals cases ha
structure MemB(c:Cf):Prop where
 bg:c.σ.begun=c.starts.length
 le:c.starts.length<=c.σ.mem
theorem MemB.begin{fm mem lim:Nat}(h:1<=mem):MemB (Cf.begin fm mem lim):=⟨rfl,h⟩
theorem MemB.step{q:Quo}{D:Nat}{s:ByteArray}{c c':Cf}(h:MemB c)(W:St.Wf c.σ)(k:j3w q D s c c'):MemB c'∧c'.σ.mem=c.σ.mem:=by
 cases k with
 | take g1 g2 g3=>exact ⟨⟨h.bg,h.le⟩,rfl⟩
 | put b σ' g1 g2 g3=>
  have E:=St.eff_put W g1;have N:=St.next W;rw [g1] at N;have hn:c.σ.st≠23:=fun e=>St.put23 e g1
  have hm:σ'.mem=c.σ.mem:=N.2.2.2.2.1;exact ⟨⟨(E.bg hn).1.trans h.bg,by show c.starts.length<=σ'.mem;rw [hm];exact h.le⟩,hm⟩
 | tau σ' g1=>
  have E:=St.eff_tau W g1;have N:=St.next W;rw [g1] at N;have hm:σ'.mem=c.σ.mem:=N.2.2.2.1;by_cases h23:c.σ.st=23
  ·have hb:=St.tau23 h23 g1;have e1:=(E.bg2 h23).1;have h1:=h.bg;refine ⟨⟨?_,?_⟩,hm⟩
   ·show σ'.begun=(if c.σ.st=23 then c.starts++[c.pre.length - 1] else c.starts).length;rw [if_pos h23,List.length_append,e1,h1];rfl
   ·show (if c.σ.st=23 then c.starts++[c.pre.length - 1] else c.starts).length<=σ'.mem;rw [if_pos h23,List.length_append,hm];simp only [List.length_cons,List.length_nil];omega
  ·refine ⟨⟨?_,?_⟩,hm⟩
   ·show σ'.begun=(if c.σ.st=23 then c.starts++[c.pre.length - 1] else c.starts).length;rw [if_neg h23];exact (E.bg h23).1.trans h.bg
   ·show (if c.σ.st=23 then c.starts++[c.pre.length - 1] else c.starts).length<=σ'.mem;rw [if_neg h23,hm];exact h.le
theorem MemB.steps{q:Quo}{D:Nat}{s:ByteArray}{fm mem lim:Nat}{c c':Cf}(k:v44 q D s c c'):MemB c->zi6 fm mem lim c->zik c.pre s->MemB c'∧c'.σ.mem=c.σ.mem:=by
 induction k with
 | refl=>exact fun h _ _=>⟨h,rfl⟩
 | step a b c h1 _ ih=>
  intro h G T;obtain ⟨m1,e1⟩:=h.step G.gi.wf h1;obtain ⟨G1,T1⟩:=G.step h1 T;obtain ⟨m2,e2⟩:=ih m1 G1 T1;exact ⟨m2,e2.trans e1⟩
structure MOk(c:Cfg)(m:MG):Prop where
 q:m.q=c.quo
 kept:y58 m
 mb:MemB m.c
 mem:m.c.σ.mem=c.mem.toNat
 acc:m.acc=true->m.err=0
theorem MOk.fresh{c:Cfg}(h:c.right=true):MOk c (MG.fresh c):=by
 have hk:=yur.1 h;exact ⟨rfl,⟨⟨Nat.zero_le _,Nat.zero_le _,Nat.zero_le _,Nat.zero_le _⟩,Nat.zero_le _⟩,MemB.begin (by show 1<=c.mem.toNat;omega),rfl,fun h=>(by cases h)⟩
theorem Halt.acc_err{q:Quo}{D:Nat}{s:ByteArray}{cl:Bool}{c:Cf}{e:Nat}{a:Option Bool}(h:Halt q D s cl c e a):a=some true->e=0:=by
 intro ha;cases h with
 | hungry h1 h2=>
  cases cl with
  | false=>rw [if_neg (by simp)] at ha;cases ha
  | true=>
   rw [if_pos rfl] at ha;injection ha with ha
   exact if_neg (fun h=>of_decide_eq_true ha h.2)
 | steps _ _ _=>cases ha
 | full _ _ _ _=>rfl
 | quota _ _ _ _ _=>cases ha
 | fail _ _=>cases ha
theorem MOk.goes{c:Cfg}{m m':MG}{s:ByteArray}{fm mem lim:Nat}(h:MOk c m)(G:zi6 fm mem lim m.c)(T:zik m.c.pre s)(go:Goes m s m')(ha:m.acc=true->s.size<=m.c.pre.length∧m.closed=true∧m.c.σ.act= .take∧¬ m.c.σ.st<23):MOk c m'∧z1f m.c m'.c∧m'.drained=m.drained∧m'.closed=m.closed:=by
 obtain ⟨M',q',d',c',gr⟩:=go.kept h.kept;obtain ⟨c1,e1,a1,r1,r2,r3⟩:=go.run;obtain ⟨b1,b2⟩:=MemB.steps r1 h.mb G T;refine ⟨⟨q'.trans h.q,M',by rw [r3];exact b1,by rw [r3];exact b2.trans h.mem,fun hA=>?_⟩,gr,d',c'⟩;rw [r3] at hA ⊢;have hA:a1.getD m.acc=true:=hA;show e1=0;cases a1 with
 | some b=>
  have hb:b=true:=hA;subst hb;exact r2.acc_err rfl
 | none=>
  have hm:m.acc=true:=hA;obtain ⟨k1,k2,k3,k4⟩:=ha hm;have e9:=r1.rest_ k3 k1;subst e9;rw [k2] at r2;cases r2 with
  | steps _ h3 _=>omega
  | full _ _ h3 _=>rfl
  | quota _ _ h3 _ _=>rw [k3] at h3;cases h3
  | fail _ h3=>rw [k3] at h3;cases h3
theorem jra(c:Cfg)(i o wt mb st er:Int)(acc:Bool)(w:World)(hc:c.right=true)(h1:0<=wt∧wt<=64)(h2:0<=o∧o<=c.out)(h3:o<=c.ratio*i+c.slack)(hi:0<=i∧i<=1000000)(h4:0<=mb∧mb<=c.mem)(h5:st<=c.steps)(h6:st=i+o)(h7:acc=true->er=0) :
  Calls Tryz.prog 28 #[c.val, .agg #[.int .i64 i, .int .i64 o, .int .i64 wt, .int .i64 mb, .int .i64 st, .bool acc, .int .i64 er]] w fun e w'=>e= .returned (.bool true)∧Below w.heap.size w w':=by
 have hk:=yur.1 hc;obtain ⟨fm,ou,ra,sl,me,li,sp⟩:=c;simp only at hk h2 h3 h4 h5;have hri:0<=ra*i∧ra*i<=1000000000:=by
  have a1:ra*i<=1000*1000000:=Int.mul_le_mul (by omega) (by omega) (by omega) (by omega);exact ⟨Int.mul_nonneg (by omega) (by omega),by omega⟩
 generalize hR:ra*i=R at *;have hR2:ra*i=R:=hR;subst h6;have t1:decide (0<=wt)=true:=by simp;omega
 have t2:decide (wt<=64)=true:=by simp;omega
 have t3:decide (o<=ou)=true:=by simp;omega
 have t4:decide (o<=R+sl)=true:=by simp;omega
 have t5:decide (mb<=me)=true:=by simp;omega
 have t6:decide (i+o<=sp)=true:=by simp;omega
 have t7:decide (0<=o)=true:=by simp;omega
 have t8:decide (0<=i)=true:=by simp;omega
 have t9:decide (0<=mb)=true:=by simp;omega
 unfold Cfg.val;have HB:Hid (Below w.heap.size w ((w.alloc (.cells #[.int .i64 fm, .int .i64 ou, .int .i64 ra, .int .i64 sl, .int .i64 me, .int .i64 li, .int .i64 sp] 42)).alloc (.cells #[.int .i64 i, .int .i64 o, .int .i64 wt, .int .i64 mb, .int .i64 (i+o), .bool acc, .int .i64 er] 50))):=((Below.refl _ _).alloc (Nat.le_refl _) _).alloc (by simp) _;cases acc with
 | true=>
  obtain rfl:er=0:=h7 rfl;go_enter Tryz.func28,Tryz.ntmps28
  go_wp2_with fail
  go_ret
  exact ⟨rfl,HB.out⟩
 | false=>
  go_enter Tryz.func28,Tryz.ntmps28
  go_wp2_with fail
  go_ret
  exact ⟨rfl,HB.out⟩
theorem jzq(c:Cfg)(m:MG)(w:World)(hc:c.right=true)(h:MOk c m):Calls Tryz.prog 28 #[c.val, .agg #[.int .i64 m.c.pre.length, .int .i64 m.c.outs.length, .int .i64 m.wait, .int .i64 m.begun, .int .i64 ((m.c.pre.length:Int)+m.c.outs.length), .bool m.acc, .int .i64 m.err]] w fun e w'=>e= .returned (.bool true)∧Below w.heap.size w w':=by
 have hk:=yur.1 hc;obtain ⟨c1,c2,c3,c4⟩:=h.kept.ck;have hd:=h.kept.dr;rw [h.q] at c1 c2 c3;have q1:c.quo.steps=c.steps.toNat:=rfl;have q2:c.quo.out=c.out.toNat:=rfl;have q3:c.quo.ratio=c.ratio.toNat:=rfl;have q4:c.quo.slack=c.slack.toNat:=rfl;rw [q1] at c1;rw [q2] at c2;rw [q3,q4] at c3;have hw:m.wait<=64:=by unfold MG.wait;split <;> omega
 have hb:m.begun<=c.mem.toNat:=by
  have:=h.mb.le;rw [h.mem] at this;unfold MG.begun;split <;> omega
 have h3:(m.c.outs.length:Int)<=c.ratio*m.c.pre.length+c.slack:=by
  have e1:((c.ratio.toNat*m.c.pre.length+c.slack.toNat:Nat):Int)=c.ratio*m.c.pre.length+c.slack:=by
   rw [Int.natCast_add,Int.natCast_mul,Int.toNat_of_nonneg (by omega),Int.toNat_of_nonneg (by omega)]
  rw [← e1];omega
 exact jra c _ _ _ _ _ _ m.acc w hc (by omega) (by omega) h3 (by omega) (by omega) (by omega) rfl (fun ha=>by rw [h.acc ha];rfl)
theorem vsf.no{m m':MG}{P:List ByteArray}{n:Int}{er:Nat}(h:vsf m P m' n er)(he:m.err≠0):m'=m∧n=0∧er=m.err:=by
 cases h with
 | refused _=>exact ⟨rfl,rfl,rfl⟩
 | closed h1 _=>exact absurd h1 he
 | goes _ _ h1 _ _ _ _=>exact absurd h1 he
theorem v6p.no{m m':MG}{n:Int}{l:List Nat}{er:Nat}(h:v6p m n m' l er)(he:m.err≠0):m'=m∧l=[]∧er=m.err:=by
 cases h with
 | refused _=>exact ⟨rfl,rfl,rfl⟩
 | wrong h1 _=>exact absurd h1 he
 | goes _ _ h1 _ _ _ _=>exact absurd h1 he
theorem jlu.no{m m':MG}{er:Nat}(h:jlu m m' er)(he:m.err≠0):m'=m∧er=m.err:=by
 cases h with
 | refused _=>exact ⟨rfl,rfl⟩
 | closed h1 _=>exact absurd h1 he
 | goes _ _ h1 _ _ _ _=>exact absurd h1 he
end Go.Proofs.YtbcjmakpempkiaaGreatDoor
