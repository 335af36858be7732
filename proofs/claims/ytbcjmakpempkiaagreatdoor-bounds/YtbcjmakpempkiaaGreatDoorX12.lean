import Derived.Test.YtbcjmakpempkiaaGreatDoorX11
set_option maxRecDepth 100000
set_option maxHeartbeats 8000000
set_option linter.all false
namespace Go.Proofs.YtbcjmakpempkiaaGreatDoor
open Go.RowKit
structure GB(B q fm mem lim:Nat)(m:MG)(L:List Nat)(w wr:World):Prop where
 gm:∃ K,GM B K wr q fm mem lim m∧∀ k∈L,¬ K k
 lt:∀ k∈L,B<=k∧k<wr.heap.size
 bel:Below B w wr
 ord:OrdP wr
 hG:0<B
theorem GB.size{B q fm mem lim:Nat}{m:MG}{L:List Nat}{w wr:World}(h:GB B q fm mem lim m L w wr):B<=wr.heap.size:=by
 obtain ⟨K,g,_⟩:=h.gm;obtain ⟨ρ,p,x,acc,g,_,_⟩:=g.ex;exact g.hB
structure GA(B q fm mem lim:Nat)(m:MG)(L:List Nat)(w wr w':World):Prop where
 gb:GB B q fm mem lim m L w w'
 same:∀ k∈L,w'.heap[k]?=wr.heap[k]?
theorem GB.after{B q fm mem lim:Nat}{K:Nat->Prop}{m m':MG}{L:List Nat}{w wr w':World}(h:GB B q fm mem lim m L w wr)(G:GM B K wr q fm mem lim m)(hK:∀ k∈L,¬ K k)(A:ywe B K wr q fm mem lim m' w'):GA B q fm mem lim m' L w wr w':=by
 have b:=ywe.below G A;obtain ⟨K',hk',g⟩:=A.ex;exact ⟨⟨⟨K',g,fun k hk e=>hK k hk ((hk' k (h.lt k hk).2).1 e)⟩,fun k hk=>⟨(h.lt k hk).1,Nat.lt_of_lt_of_le (h.lt k hk).2 A.size⟩,h.bel.trans b,h.ord.belowB b h.hG,h.hG⟩,fun k hk=>A.block k (h.lt k hk).2 (hK k hk)⟩
theorem GB.below{B q fm mem lim:Nat}{m:MG}{L:List Nat}{w wr w':World}(h:GB B q fm mem lim m L w wr)(b:Below wr.heap.size wr w'):GA B q fm mem lim m L w wr w':=by
 obtain ⟨K,g,hK⟩:=h.gm;exact ⟨⟨⟨K,g.below b,hK⟩,fun k hk=>⟨(h.lt k hk).1,Nat.lt_of_lt_of_le (h.lt k hk).2 b.size⟩,h.bel.trans (b.mono h.size),h.ord.below b,h.hG⟩,fun k hk=>b.block k (h.lt k hk).2⟩
theorem GB.more{B q fm mem lim:Nat}{m:MG}{L:List Nat}{w wr w':World}(h:GB B q fm mem lim m L w wr)(b:Below wr.heap.size wr w'){g:Nat}(h1:wr.heap.size<=g)(h2:g<w'.heap.size):GB B q fm mem lim m (g :: L) w w':=by
 obtain ⟨K,gm,hK⟩:=h.gm;have A:=(h.below b).gb;refine ⟨⟨K,gm.below b,fun k hk e=>?_⟩,fun k hk=>?_,A.bel,A.ord,A.hG⟩
 ·rcases List.mem_cons.1 hk with rfl | hk
  ·have:=(gm.at_ e).2;omega
  ·exact hK k hk e
 ·rcases List.mem_cons.1 hk with rfl | hk
  ·exact ⟨Nat.le_trans h.size h1,h2⟩
  ·exact A.lt k hk
theorem GB.write{B q fm mem lim:Nat}{m:MG}{L:List Nat}{w wr:World}(h:GB B q fm mem lim m L w wr){g:Nat}(hg:g∈L)(l:List Value):GB B q fm mem lim m L w (wr.setCells g 0 l):=by
 obtain ⟨K,gm,hK⟩:=h.gm;have b:Below B wr (wr.setCells g 0 l):=xue (h.lt g hg).1 _ _ (Below.refl _ _);refine ⟨⟨K,gm.same (by rw [jbu];exact Nat.le_refl _) fun k hk=>k8e (fun e=>hK g hg (by rw [← e];exact hk)) _ _ _,hK⟩,fun k hk=>⟨(h.lt k hk).1,by rw [jbu];exact (h.lt k hk).2⟩,h.bel.trans b,h.ord.belowB b h.hG,h.hG⟩
theorem x8v{B q fm mem lim:Nat}{m:MG}{L:List Nat}{w wr:World}(h:GB B q fm mem lim m L w wr)(n:Int)(hn: -9223372036854775808<=n∧n<=9223372036854775807) :
  Calls Tryz.prog 30 #[.pointer (some ⟨q,0,none⟩), .int .i64 n] wr fun e w'=>∃ l er m',e= .returned (.tuple #[.string (xu6 l), .int .i64 (er:Nat)])∧v6p m n m' l er∧GA B q fm mem lim m' L w wr w':=by
 obtain ⟨K,g,hK⟩:=h.gm;refine (v7a g n hn h.ord (g.noG h.hG)).mono ?_;rintro e w' ⟨l,er,m',rfl,D,A⟩;exact ⟨l,er,m',rfl,D,h.after g hK A⟩
theorem jsq{B q fm mem lim:Nat}{m:MG}{L:List Nat}{w wr:World}(h:GB B q fm mem lim m L w wr) :
  Calls Tryz.prog 31 #[.pointer (some ⟨q,0,none⟩)] wr fun e w'=>∃ er m',e= .returned (.int .i64 (er:Nat))∧jlu m m' er∧GA B q fm mem lim m' L w wr w':=by
 obtain ⟨K,g,hK⟩:=h.gm;refine (x7y g h.ord (g.noG h.hG)).mono ?_;rintro e w' ⟨er,m',rfl,D,A⟩;exact ⟨er,m',rfl,D,h.after g hK A⟩
theorem xl3{B q fm mem lim:Nat}{m:MG}{L:List Nat}{w wr:World}(h:GB B q fm mem lim m L w wr) :
  Calls Tryz.prog 27 #[.pointer (some ⟨q,0,none⟩)] wr fun e w'=>e= .returned (.agg #[.int .i64 m.c.pre.length, .int .i64 m.c.outs.length, .int .i64 m.wait, .int .i64 m.begun, .int .i64 ((m.c.pre.length:Int)+m.c.outs.length), .bool m.acc, .int .i64 m.err])∧GA B q fm mem lim m L w wr w'∧Below wr.heap.size wr w':=by
 obtain ⟨K,g,hK⟩:=h.gm;refine (jzk g).mono ?_;rintro e w' ⟨rfl,b⟩;exact ⟨rfl,h.below b,b⟩
theorem x9r{B q fm mem lim:Nat}{m:MG}{L:List Nat}{w wr:World}(h:GB B q fm mem lim m L w wr)(P:List ByteArray)(hl:P.length<=2)(hs:∀ s∈P,s.size<=maxLen)(W3:World)(hW3:W3=wr.alloc (.cells (P.map Value.string).toArray 9)) :
  Calls Tryz.prog 26 #[.pointer (some ⟨q,0,none⟩), .slice (some ⟨wr.heap.size,0,none⟩) P.length P.length] W3 fun e w'=>∃ n er m',e= .returned (.tuple #[.int .i64 n, .int .i64 (er:Nat)])∧vsf m P m' n er∧GA B q fm mem lim m' L w wr w':=by
 have b3:Below wr.heap.size wr W3:=by rw [hW3];exact (Below.refl _ _).alloc (Nat.le_refl _) _
 have hh:W3.heap[wr.heap.size]?=some (.cells (P.map Value.string).toArray 9 (0,0)):=by rw [hW3];exact heap_alloc_new wr _
 have h3:=h.below b3;obtain ⟨K0,g0,hK⟩:=h.gm;have hlt:wr.heap.size<W3.heap.size:=(Array.getElem?_eq_some_iff.1 hh).1;have G3:=g0.below b3;refine (jvn G3 (some ⟨wr.heap.size,0,none⟩) P.length P ⟨fun i hi=>?_,⟨Nat.le_refl _,by unfold maxLen;omega⟩,hs,fun b o e=>?_⟩ h3.gb.ord (G3.noG h.hG)).mono ?_
 ·refine ⟨wr.heap.size,0,rfl,hlt,?_⟩;rw [Nat.zero_add,cell_of_row _ _ i _ _ _ hh];simp [hi]
 ·injection e with e
  injection e with e2 _ _
  subst e2;refine ⟨fun hk=>?_,?_,hlt⟩
  ·have:=(g0.at_ hk).2;omega
  ·have:=h.size;have:=h.hG;omega
 ·rintro e w' ⟨n,er,m',rfl,hw,A⟩;have A2:=h3.gb.after G3 hK A;exact ⟨n,er,m',rfl,hw,A2.gb,fun k hk=>(A2.same k hk).trans (h3.same k hk)⟩
theorem yhb{B q fm mem lim:Nat}{m:MG}{L:List Nat}{w wr:World}(h:GB B q fm mem lim m L w wr)(he:m.err≠0) :
  Calls Tryz.prog 29 #[.pointer (some ⟨q,0,none⟩), .agg #[.int .i64 m.c.pre.length, .int .i64 m.c.outs.length, .int .i64 m.wait, .int .i64 m.begun, .int .i64 ((m.c.pre.length:Int)+m.c.outs.length), .bool m.acc, .int .i64 m.err]] wr fun e w'=>e= .returned (.bool true)∧Below B w w':=by
 have HW0:Hid (m.wait=0):=by show _=_;unfold MG.wait;rw [if_neg he]
 obtain ⟨W0,hW0⟩:∃ W0,W0=wr.alloc (.cells #[.int .i64 m.c.pre.length, .int .i64 m.c.outs.length, .int .i64 m.wait, .int .i64 m.begun, .int .i64 ((m.c.pre.length:Int)+m.c.outs.length), .bool m.acc, .int .i64 m.err] 50):=⟨_,rfl⟩
 have b0:Below wr.heap.size wr W0:=by rw [hW0];exact (Below.refl _ _).alloc (Nat.le_refl _) _
 have r0:W0.rowIs wr.heap.size 50 7 (lrow m.cells):=by rw [hW0];exact World.rowIs_alloc wr #[.int .i64 m.c.pre.length, .int .i64 m.c.outs.length, .int .i64 m.wait, .int .i64 m.begun, .int .i64 ((m.c.pre.length:Int)+m.c.outs.length), .bool m.acc, .int .i64 m.err] _ _ (ytu rfl rfl rfl rfl rfl rfl rfl)
 have HE:Hid (m.err≠0):=he;have H0:Hid (GB B q fm mem lim m (wr.heap.size :: L) w W0∧W0.rowIs wr.heap.size 50 7 (lrow m.cells)):=⟨h.more b0 (Nat.le_refl _) r0.lt,r0⟩
 have HW:Hid (∀ W3,W3=W0.alloc (.cells #[.string ⟨#[1,0,0,255,255]⟩, .string ⟨#[115]⟩] 9)->Calls Tryz.prog 26 #[.pointer (some ⟨q,0,none⟩), .slice (some ⟨W0.heap.size,0,none⟩) 2 2] W3 fun e w'=>e= .returned (.tuple #[.int .i64 0, .int .i64 m.err])∧GA B q fm mem lim m (wr.heap.size :: L) w W0 w'):=fun W3 e3=>by
  refine (x9r H0.out.1 [⟨#[1,0,0,255,255]⟩,⟨#[115]⟩] (by decide) (fun s hs=>?_) W3 e3).mono ?_
  ·simp at hs;rcases hs with rfl | rfl
   ·show 5<=_;unfold maxLen;omega
   ·show 1<=_;unfold maxLen;omega
  ·rintro e w' ⟨n,er,m',rfl,hw,A⟩;obtain ⟨rfl,rfl,rfl⟩:=hw.no HE.out;exact ⟨rfl,A⟩
 have HD:Hid (∀ (W V:World) (n:Int),GB B q fm mem lim m (wr.heap.size :: L) w V->(-9223372036854775808<=n∧n<=9223372036854775807)->Calls Tryz.prog 30 #[.pointer (some ⟨q,0,none⟩), .int .i64 n] V fun e w'=>e= .returned (.tuple #[.string ⟨#[]⟩, .int .i64 m.err])∧GA B q fm mem lim m (wr.heap.size :: L) w V w'):=fun _ V n hV hn=>by
  refine (x8v hV n hn).mono ?_;rintro e w' ⟨l,er,m',rfl,hd,A⟩;obtain ⟨rfl,rfl,rfl⟩:=hd.no HE.out;exact ⟨rfl,A⟩
 have HC:Hid (∀ V:World,GB B q fm mem lim m (wr.heap.size :: L) w V->Calls Tryz.prog 31 #[.pointer (some ⟨q,0,none⟩)] V fun e w'=>e= .returned (.int .i64 m.err)∧GA B q fm mem lim m (wr.heap.size :: L) w V w'):=fun V hV=>by
  refine (jsq hV).mono ?_;rintro e w' ⟨er,m',rfl,hd,A⟩;obtain ⟨rfl,rfl⟩:=hd.no HE.out;exact ⟨rfl,A⟩
 clear h b0 r0 he;go_enter Tryz.func29,Tryz.ntmps29
 go_upto_region 1 with fail
 rw [← hW0];clear hW0;go_upto_region 2 with (go_at_call 26;refine (HW.out _ rfl).mono ?_;rintro e w1 ⟨rfl,A1⟩)
 have H1:Hid (GB B q fm mem lim m (wr.heap.size :: L) w w1∧w1.rowIs wr.heap.size 50 7 (lrow m.cells)):=⟨A1.gb,H0.out.2.of_block (A1.same _ (List.mem_cons_self ..))⟩
 clear A1 H0;go_upto_region 3 with (go_at_call 30;refine (HD.out w1 w1 9 H1.out.1 (by omega)).mono ?_;rintro e w2 ⟨rfl,A2⟩)
 have H2:Hid (GB B q fm mem lim m (wr.heap.size :: L) w w2∧w2.rowIs wr.heap.size 50 7 (lrow m.cells)):=⟨A2.gb,H1.out.2.of_block (A2.same _ (List.mem_cons_self ..))⟩
 clear A2 H1;go_upto_region 4 with (go_at_call 30;refine (HD.out w2 w2 (-1) H2.out.1 (by omega)).mono ?_;rintro e w3 ⟨rfl,A3⟩)
 have H3:Hid (GB B q fm mem lim m (wr.heap.size :: L) w w3∧w3.rowIs wr.heap.size 50 7 (lrow m.cells)):=⟨A3.gb,H2.out.2.of_block (A3.same _ (List.mem_cons_self ..))⟩
 clear A3 H2;go_upto_region 5 with (go_at_call 31;refine (HC.out w3 H3.out.1).mono ?_;rintro e w4 ⟨rfl,A4⟩)
 have H4:Hid (GB B q fm mem lim m (wr.heap.size :: L) w w4∧w4.rowIs wr.heap.size 50 7 (lrow m.cells)):=⟨A4.gb,H3.out.2.of_block (A4.same _ (List.mem_cons_self ..))⟩
 clear A4 H3;go_upto_region 6 with (go_at_call 27;refine (xl3 H4.out.1).mono ?_;rintro e w5 ⟨rfl,A5,b5⟩)
 obtain ⟨W6,hW6⟩:∃ W6,W6=w5.alloc (.cells #[.int .i64 m.c.pre.length, .int .i64 m.c.outs.length, .int .i64 m.wait, .int .i64 m.begun, .int .i64 ((m.c.pre.length:Int)+m.c.outs.length), .bool m.acc, .int .i64 m.err] 50):=⟨_,rfl⟩
 have r6:W6.rowIs w5.heap.size 50 7 (lrow m.cells):=by rw [hW6];exact World.rowIs_alloc w5 #[.int .i64 m.c.pre.length, .int .i64 m.c.outs.length, .int .i64 m.wait, .int .i64 m.begun, .int .i64 ((m.c.pre.length:Int)+m.c.outs.length), .bool m.acc, .int .i64 m.err] _ _ (ytu rfl rfl rfl rfl rfl rfl rfl)
 have b6:Below w5.heap.size w5 W6:=by rw [hW6];exact (Below.refl _ _).alloc (Nat.le_refl _) _
 have r7:W6.rowIs wr.heap.size 50 7 (lrow m.cells):=(H4.out.2.of_block (A5.same _ (List.mem_cons_self ..))).of_block (b6.block _ (A5.gb.lt _ (List.mem_cons_self ..)).2);have HZ:Hid (Below B w W6):=(A5.gb.below b6).gb.bel;obtain ⟨d0,d1,d2,d3,d4,d5,d6⟩:=MG.row_at r6;obtain ⟨e0,e1,e2,e3,e4,e5,e6⟩:=MG.row_at r7;rw [← hW6];rw [HW0.out] at d2 e2;clear hW6 r6 b6 r7 A5 b5 H4;go_wp2_with fail
 go_ret
 exact ⟨by simp,HZ.out⟩
structure WrB(c:Cfg)(m m':MG)(z:Nat)(n:Int)(er:Nat):Prop where
 ok:MOk c m'
 open_:m'.closed=false
 er:er=m'.err
 gr:m.c.outs.length<=m'.c.outs.length
 n:∃ kk:Nat,n=kk∧kk<=z∧m'.c.pre.length=m.c.pre.length+kk
theorem vsf.wrB{c:Cfg}{m m':MG}{pc:ByteArray}{n:Int}{er fm mem lim:Nat}(h:vsf m [pc] m' n er)(O:MOk c m)(G:zi6 fm mem lim m.c)(he:m.err=0)(hc:m.closed=false)(ha:m.acc=false):WrB c m m' pc.size n er:=by
 cases h with
 | refused h0=>exact absurd he h0
 | closed _ h1=>rw [hc] at h1;cases h1
 | goes s _ h0 h1 T hz go=>
  have go':Goes m (s++pc) m':=go;obtain ⟨O',gr,d',c'⟩:=O.goes G (T.append pc) go' (fun h=>by rw [ha] at h;cases h);obtain ⟨x,hx⟩:=gr.pre;obtain ⟨y,hy⟩:=gr.outs;obtain ⟨c1,e1,a1,r1,r2,r3⟩:=go'.run;have t1:=(zi6.steps r1 G (T.append pc)).2.len;rw [ByteArray.size_append,hz] at t1;have e9:m'.c=c1:=by rw [r3]
  have hl:m'.c.pre.length=m.c.pre.length+x.length:=by rw [hx,List.length_append]
  exact ⟨O',c'.trans hc,rfl,by rw [hy,List.length_append];omega,x.length,by omega,by rw [e9] at hl;omega,hl⟩
structure DrB(c:Cfg)(m m':MG)(l:List Nat)(er:Nat):Prop where
 ok:MOk c m'
 open_:m'.closed=m.closed
 er:er=0
 pre:m'.c.pre.length=m.c.pre.length
 gr:m.c.outs.length<=m'.c.outs.length
 dr:m'.drained=m.drained+l.length
 le:l.length<=m.wait
theorem v6p.drB{c:Cfg}{m m':MG}{n er fm mem lim:Nat}{l:List Nat}(h:v6p m n m' l er)(O:MOk c m)(G:zi6 fm mem lim m.c)(he:m.err=0)(ha:m.acc=false):DrB c m m' l er:=by
 obtain ⟨e0,D,s0,T,hz,go⟩:=h.drn he O.kept;have hl:=D.len;have hd:=O.kept.dr;have k1:y58 ({ m with drained:=m.drained+l.length }:MG):=by
  have c:=O.kept.ck;exact ⟨⟨c.st,c.ou,c.ra,by have:=c.ro;show m.c.outs.length<=m.drained+l.length+64;omega⟩,by show m.drained+l.length<=m.c.outs.length;omega⟩
 have O1:MOk c ({ m with drained:=m.drained+l.length }:MG):=⟨O.q,k1,O.mb,O.mem,O.acc⟩
 obtain ⟨O',gr,d',c'⟩:=O1.goes G T go (fun h=>by have h':m.acc=true:=h;rw [ha] at h';cases h');obtain ⟨y,hy⟩:=gr.outs;have hy:m'.c.outs=m.c.outs++y:=hy;obtain ⟨c1,e1,a1,r1,r2,r3⟩:=go.run;have hpre:c1.pre=m.c.pre:=r1.same (by show s0.size<=m.c.pre.length;omega);refine ⟨O',c',e0,by rw [r3];exact congrArg List.length hpre,by rw [hy,List.length_append];omega,D.dr,?_⟩;unfold MG.wait;rw [if_pos he];omega
structure ClB(c:Cfg)(m':MG)(er:Nat):Prop where
 ok:MOk c m'
 er:er=m'.err
 shut:m'.err=0->m'.closed=true
theorem jlu.clB{c:Cfg}{m m':MG}{er fm mem lim:Nat}(h:jlu m m' er)(O:MOk c m)(G:zi6 fm mem lim m.c)(he:m.err=0)(hc:m.closed=false)(ha:m.acc=false):ClB c m' er:=by
 cases h with
 | refused h0=>exact absurd he h0
 | closed _ h1=>rw [hc] at h1;cases h1
 | goes s _ h0 h1 T hz go=>
  have O1:MOk c ({ m with closed:=true }:MG):=⟨O.q,⟨O.kept.ck,O.kept.dr⟩,O.mb,O.mem,O.acc⟩
  obtain ⟨O',gr,d',c'⟩:=O1.goes G T go (fun h=>by have h':m.acc=true:=h;rw [ha] at h';cases h');exact ⟨O',rfl,fun _=>c'⟩
theorem vsf.shut{m m':MG}{P:List ByteArray}{n:Int}{er:Nat}(h:vsf m P m' n er)(he:m.err=0)(hc:m.closed=true):m'=m∧n=0∧er=3:=by
 cases h with
 | refused h0=>exact absurd he h0
 | closed _ _=>exact ⟨rfl,rfl,rfl⟩
 | goes _ _ _ h1 _ _ _=>rw [hc] at h1;cases h1
theorem jlu.shut{m m':MG}{er:Nat}(h:jlu m m' er)(he:m.err=0)(hc:m.closed=true):m'=m∧er=3:=by
 cases h with
 | refused h0=>exact absurd he h0
 | closed _ _=>exact ⟨rfl,rfl⟩
 | goes _ _ _ h1 _ _ _=>rw [hc] at h1;cases h1
theorem GB.good{B q fm mem lim:Nat}{m:MG}{L:List Nat}{w wr:World}(h:GB B q fm mem lim m L w wr):zi6 fm mem lim m.c∧(m.closed=false->m.acc=false):=by
 obtain ⟨K,g,_⟩:=h.gm;refine ⟨g.good,fun hc=>?_⟩;cases ha:m.acc with
 | false=>rfl
 | true=>have:=(g.acc_ ha).1;rw [hc] at this;cases this
theorem GB.tell{B q fm mem lim:Nat}{m:MG}{L:List Nat}{w wr w':World}{T:Nat->Value}{g:Nat}(A:GA B q fm mem lim m L w wr w')(hg:g∈L)(hr:wr.rowIs g 50 7 T):w'.there g 0 7∧GB B q fm mem lim m L w (w'.setCells g 0 m.cells)∧(w'.setCells g 0 m.cells).rowIs g 50 7 (lrow m.cells)∧∀ k∈L,k≠g->(w'.setCells g 0 m.cells).heap[k]?=wr.heap[k]?:=by
 have r:=hr.of_block (A.same g hg);exact ⟨fun j hj=>⟨by rw [Nat.zero_add];exact Option.isSome_iff_exists.2 ⟨_,r.cell hj⟩,r.frozen _⟩,A.gb.write hg _,xy5 r rfl,fun k hk hne=>(k8e hne _ _ _).trans (A.same k hk)⟩
theorem GB.less{B q fm mem lim:Nat}{m:MG}{L L':List Nat}{w wr:World}(h:GB B q fm mem lim m L w wr)(hs:∀ k∈L',k∈L):GB B q fm mem lim m L' w wr:=by
 obtain ⟨K,g,hK⟩:=h.gm;exact ⟨⟨K,g,fun k hk=>hK k (hs k hk)⟩,fun k hk=>h.lt k (hs k hk),h.bel,h.ord,h.hG⟩
theorem GB.store{B q fm mem lim:Nat}{m:MG}{L:List Nat}{w wr:World}{T:Nat->Value}{g:Nat}(h:GB B q fm mem lim m L w wr)(hg:g∈L)(hr:wr.rowIs g 50 7 T)(m1:MG):wr.there g 0 7∧GB B q fm mem lim m L w (wr.setCells g 0 m1.cells)∧(wr.setCells g 0 m1.cells).rowIs g 50 7 (lrow m1.cells)∧∀ k∈L,k≠g->(wr.setCells g 0 m1.cells).heap[k]?=wr.heap[k]?:=⟨fun j hj=>⟨by rw [Nat.zero_add];exact Option.isSome_iff_exists.2 ⟨_,hr.cell hj⟩,hr.frozen _⟩,h.write hg _,xy5 hr rfl,fun _ _ hne=>k8e hne _ _ _⟩
structure BoI(c:Cfg)(B q g14:Nat)(w:World)(r i:Value)(np:Nat)(wr:World):Prop where
 ex:∃ m,GB B q c.fm.toNat c.mem.toNat c.lim.toNat m [g14] w wr∧MOk c m∧m.closed=false∧m.err=0∧wr.rowIs g14 50 7 (lrow m.cells)
 rest:∃ s:ByteArray,r= .string s∧s.size<=9223372036854775807
 idx:∃ k:Nat,i= .int .i64 k∧k<=np
theorem bounds_any(c:Cfg)(s:ByteArray)(ad:Option Addr)(np cap:Nat)(w:World)(hs:s.size<=9223372036854775807)(hp:PassO w ad np)(hO:OrdP w) :
  Calls Tryz.prog 10 #[c.val, .string s, .slice ad np cap] w fun e w'=>e= .returned (.bool true)∧Below w.heap.size w w':=by
 have HP:Hid (PassO w ad np∧OrdP w∧0<w.heap.size):=⟨hp,hO,by obtain ⟨fr,h1⟩:=hO;exact (Array.getElem?_eq_some_iff.1 h1).1⟩
 have hnp:=hp.1;unfold maxLen at hnp;obtain ⟨W0,hW0⟩:∃ W0,W0=w.alloc (.cells #[.int .i64 c.fm, .int .i64 c.out, .int .i64 c.ratio, .int .i64 c.slack, .int .i64 c.mem, .int .i64 c.lim, .int .i64 c.steps] 42):=⟨_,rfl⟩
 have b0:Below w.heap.size w W0:=by rw [hW0];exact (Below.refl _ _).alloc (Nat.le_refl _) _
 have r0:W0.rowIs w.heap.size 42 7 (lrow [.int .i64 c.fm, .int .i64 c.out, .int .i64 c.ratio, .int .i64 c.slack, .int .i64 c.mem, .int .i64 c.lim, .int .i64 c.steps]):=by rw [hW0];exact World.rowIs_alloc w #[.int .i64 c.fm, .int .i64 c.out, .int .i64 c.ratio, .int .i64 c.slack, .int .i64 c.mem, .int .i64 c.lim, .int .i64 c.steps] _ _ (ytu rfl rfl rfl rfl rfl rfl rfl)
 have H0:Hid (Below w.heap.size w W0∧W0.rowIs w.heap.size 42 7 (lrow [.int .i64 c.fm, .int .i64 c.out, .int .i64 c.ratio, .int .i64 c.slack, .int .i64 c.mem, .int .i64 c.lim, .int .i64 c.steps])):=⟨b0,r0⟩
 have HCF:Hid (∀ W:World,Below W0.heap.size W0 W->W.cell? ⟨w.heap.size,0,none⟩=some (.int .i64 c.fm)∧W.cell? ⟨w.heap.size,1,none⟩=some (.int .i64 c.out)∧W.cell? ⟨w.heap.size,2,none⟩=some (.int .i64 c.ratio)∧W.cell? ⟨w.heap.size,3,none⟩=some (.int .i64 c.slack)∧W.cell? ⟨w.heap.size,4,none⟩=some (.int .i64 c.mem)∧W.cell? ⟨w.heap.size,5,none⟩=some (.int .i64 c.lim)∧W.cell? ⟨w.heap.size,6,none⟩=some (.int .i64 c.steps)):=fun W b=>by
  have r:=H0.out.2.of_block (b.block _ H0.out.2.lt);exact ⟨r.cell (i:=0) (by omega),r.cell (i:=1) (by omega),r.cell (i:=2) (by omega),r.cell (i:=3) (by omega),r.cell (i:=4) (by omega),r.cell (i:=5) (by omega),r.cell (i:=6) (by omega)⟩
 have HL:Hid (∀ W,Calls Tryz.prog 20 #[.agg #[.int .i64 c.fm, .int .i64 c.out, .int .i64 c.ratio, .int .i64 c.slack, .int .i64 c.mem, .int .i64 c.lim, .int .i64 c.steps]] W fun e w'=>e= .returned (.bool c.right)∧Below W.heap.size W w'):=fun W=>ya0 c W
 have HOP:Hid (Calls Tryz.prog 19 #[] W0 fun e w'=>e= .returned (.bool true)∧Below W0.heap.size W0 w'):=j93 W0 (hO.below b0);clear hp hO b0 r0;unfold Cfg.val;go_enter Tryz.func10,Tryz.ntmps10
 go_upto_region 2 with (go_at_call 19;rw [← hW0];refine HOP.out.mono ?_;rintro e w1 ⟨rfl,b1⟩)
 obtain ⟨d0,d1,d2,d3,d4,d5,d6⟩:=HCF.out w1 b1;have B1:Hid (Below W0.heap.size W0 w1):=b1;clear b1 hW0 HOP;go_upto_region 5 with (go_at_call 20;refine (HL.out w1).mono ?_;rintro e w2 ⟨rfl,b2⟩)
 have B2:Hid (Below W0.heap.size W0 w2):=B1.out.trans (b2.mono B1.out.size);clear d0 d1 d2 d3 d4 d5 d6 b2 B1 HL;obtain ⟨d0,d1,d2,d3,d4,d5,d6⟩:=HCF.out w2 B2.out;cases hr:c.right with
 | false=>
  have HN:Hid (Calls Tryz.prog 21 #[.agg #[.int .i64 c.fm, .int .i64 c.out, .int .i64 c.ratio, .int .i64 c.slack, .int .i64 c.mem, .int .i64 c.lim, .int .i64 c.steps]] w2 fun e w'=>e= .returned (.tuple #[.pointer none, .int .i64 1])∧Below w2.heap.size w2 w'):=zs8 c w2 hr;clear hr;go_wp2_with (go_at_call 21;refine HN.out.mono ?_;rintro e w3 ⟨rfl,b3⟩)
  go_ret
  exact ⟨by simp,H0.out.1.trans ((B2.out.trans (b3.mono B2.out.size)).mono H0.out.1.size)⟩
 | true=>
  have HR:Hid (c.right=true):=hr;have HY:Hid (Calls Tryz.prog 21 #[.agg #[.int .i64 c.fm, .int .i64 c.out, .int .i64 c.ratio, .int .i64 c.slack, .int .i64 c.mem, .int .i64 c.lim, .int .i64 c.steps]] w2 fun e w'=>∃ q K,e= .returned (.tuple #[.pointer (some ⟨q,0,none⟩), .int .i64 0])∧GM w2.heap.size K w' q c.fm.toNat c.mem.toNat c.lim.toNat (MG.fresh c)∧K q∧Below w2.heap.size w2 w'):=kp2 w2 hr;clear hr;go_upto_region 12 with (go_at_call 21;refine HY.out.mono ?_;rintro e w3 ⟨q,K3,rfl,G3,kq,b3⟩)
  clear d0 d1 d2 d3 d4 d5 d6 HY;obtain ⟨W4,hW4⟩:∃ W4,W4=w3.alloc (.cells #[.int .i64 0, .int .i64 0, .int .i64 0, .int .i64 0, .int .i64 0, .bool false, .int .i64 0] 50):=⟨_,rfl⟩
  have b4:Below w3.heap.size w3 W4:=by rw [hW4];exact (Below.refl _ _).alloc (Nat.le_refl _) _
  have r4:W4.rowIs w3.heap.size 50 7 (lrow (MG.fresh c).cells):=by rw [hW4];exact World.rowIs_alloc w3 #[.int .i64 0, .int .i64 0, .int .i64 0, .int .i64 0, .int .i64 0, .bool false, .int .i64 0] _ _ (ytu rfl rfl rfl rfl rfl rfl rfl)
  have hG2:0<w2.heap.size:=Nat.lt_of_lt_of_le HP.out.2.2 (Nat.le_trans H0.out.1.size B2.out.size);have hO2:OrdP w2:=(HP.out.2.1.below H0.out.1).below B2.out;have gb3:GB w2.heap.size q c.fm.toNat c.mem.toNat c.lim.toNat (MG.fresh c) [] w2 w3:=⟨⟨K3,G3,fun k hk=>(by cases hk)⟩,fun k hk=>(by cases hk),b3,hO2.below b3,hG2⟩
  have HI:Hid (BoI c w2.heap.size q w3.heap.size w2 (.string s) (.int .i64 0) np W4):=⟨⟨MG.fresh c,gb3.more b4 (Nat.le_refl _) r4.lt,MOk.fresh HR.out,rfl,rfl,r4⟩,⟨s,rfl,hs⟩,0,rfl,Nat.zero_le _⟩
  have HPS:Hid (∀ W,Below w2.heap.size w2 W->PassO W ad np∧Below W0.heap.size W0 W∧∀ W',Below w2.heap.size w2 W'->Below w.heap.size w W'):=fun W b=>by
   have b':Below W0.heap.size W0 W:=B2.out.trans (b.mono B2.out.size);exact ⟨HP.out.1.below (H0.out.1.trans (b'.mono H0.out.1.size)) (Nat.le_refl _),b',fun W' h'=>H0.out.1.trans ((B2.out.trans (h'.mono B2.out.size)).mono H0.out.1.size)⟩
  go_upto_region 13 with fail
  rw [← hW4];obtain ⟨g14,hg14⟩:∃ g14,g14=w3.heap.size:=⟨_,rfl⟩
  rw [← hg14] at HI ⊢;obtain ⟨B,hB⟩:∃ B,B=w2.heap.size:=⟨_,rfl⟩
  rw [← hB] at HI HPS;clear hW4 b4 r4 gb3 G3 kq b3 hG2 hO2 hg14 hB B2;go_wp2_with fail
  go_loopw [7,13,15,16,17,18,19,20] (fun _ r i _ _ _ _ _ wr=>Hid (BoI c B q g14 w2 r i np wr)) (fun _ _ i _ _ _ _ _ _=>np - (intOf i).toNat)
  case atStart=>exact HI
  case round=>
   obtain ⟨⟨m,gb,ok,hcl,her,rw14⟩,⟨rest,rfl,hrz⟩,k,rfl,hk⟩:=hrel.out;clear HI hrel;have HM:Hid (GB B q c.fm.toNat c.mem.toNat c.lim.toNat m [g14] w2 wr∧MOk c m∧m.closed=false∧m.err=0∧wr.rowIs g14 50 7 (lrow m.cells)):=⟨gb,ok,hcl,her,rw14⟩
   have hst:m.c.pre.length+m.c.outs.length<=1000000:=by
    have h1:=ok.kept.ck.st;obtain ⟨K,g,_⟩:=gb.gm;have h2:=g.qb;omega
   clear gb ok hcl her rw14;by_cases hlt:k<np
   ·have hd1:decide (k<np)=true:=by simpa using hlt
    have hd2:decide ((k:Int)<np)=true:=by simp;omega
    obtain ⟨t0,t1,t2,t3,t4,t5,t6⟩:=MG.row_at HM.out.2.2.2.2;go_upto_region 17 with fail
    clear t0 t1 t2 t3 t4 t5 t6 hd1 hd2;obtain ⟨W5,hW5⟩:∃ W5,W5=wr.alloc (.cells #[.int .i64 m.c.pre.length, .int .i64 m.c.outs.length, .int .i64 m.wait, .int .i64 m.begun, .int .i64 ((m.c.pre.length:Int)+m.c.outs.length), .bool m.acc, .int .i64 m.err] 50):=⟨_,rfl⟩
    have b5:Below wr.heap.size wr W5:=by rw [hW5];exact (Below.refl _ _).alloc (Nat.le_refl _) _
    have r5:W5.rowIs wr.heap.size 50 7 (lrow m.cells):=by rw [hW5];exact World.rowIs_alloc wr #[.int .i64 m.c.pre.length, .int .i64 m.c.outs.length, .int .i64 m.wait, .int .i64 m.begun, .int .i64 ((m.c.pre.length:Int)+m.c.outs.length), .bool m.acc, .int .i64 m.err] _ _ (ytu rfl rfl rfl rfl rfl rfl rfl)
    have H5:Hid (GB B q c.fm.toNat c.mem.toNat c.lim.toNat m [wr.heap.size,g14] w2 W5∧W5.rowIs wr.heap.size 50 7 (lrow m.cells)∧W5.rowIs g14 50 7 (lrow m.cells)):=⟨HM.out.1.more b5 (Nat.le_refl _) r5.lt,r5,HM.out.2.2.2.2.of_block (b5.block _ HM.out.2.2.2.2.lt)⟩
    rw [← hW5];have hg:wr.heap.size≠g14:=by have:=HM.out.2.2.2.2.lt;omega
    obtain ⟨g16,hg16⟩:∃ g16,g16=wr.heap.size:=⟨_,rfl⟩
    rw [← hg16] at H5 hg ⊢;obtain ⟨bl,o,x,y,hae,hbl,c1,c2,ix,iy⟩:=(HPS.out W5 H5.out.1.bel).1.2 k hlt;have HXY:Hid (inI x):=ix;subst hae;clear hW5 b5 r5 hg16 ix iy;have HAX:Hid (Calls Tryz.prog 25 #[.int .i64 x] W5 fun e w'=>(∃ k:Nat,e= .returned (.int .i64 k)∧1<=k∧k<=400)∧w'=W5):=z9k x W5 HXY.out;go_upto_if 71 with (go_at_call 25;refine HAX.out.mono ?_;rintro e w9 ⟨⟨n0,rfl,hn0,hn1⟩,rfl⟩)
    go_cut [17,71] (fun s17 _ wx=>∃ n:Nat,s17= .int .i64 n∧n<=rest.size∧n<=400∧wx=w9)
    case first=>
     by_cases hl9:rest.size<n0
     ·have hd1:decide (rest.size<n0)=true:=by simpa using hl9
      have hd2:decide ((rest.size:Int)<n0)=true:=by simp;omega
      go_wp2_with fail
      go_meet
      exact ⟨rest.size,rfl,Nat.le_refl _,by omega,rfl⟩
     ·have hd1:decide (rest.size<n0)=false:=by simpa using hl9
      have hd2:decide ((rest.size:Int)<n0)=false:=by simp;omega
      go_wp2_with fail
      go_meet
      exact ⟨n0,rfl,by omega,hn1,rfl⟩
    case rest=>
    obtain ⟨n,rfl,hn,hn4,hwx⟩:=hcut;subst hwx;clear HAX hn0 hn1 c1 c2;have hni:(n:Int)<=rest.size:=by omega
    obtain ⟨pc,hpc⟩:∃ pc,pc=rest.extract 0 n:=⟨_,rfl⟩
    have hpz:pc.size=n:=by rw [hpc,ByteArray.size_extract];omega
    have HW:Hid (∀ W3,W3=wc.alloc (.cells #[.string pc] 9)->Calls Tryz.prog 26 #[.pointer (some ⟨q,0,none⟩), .slice (some ⟨wc.heap.size,0,none⟩) 1 1] W3 fun e w'=>∃ kk m',e= .returned (.tuple #[.int .i64 (kk:Nat), .int .i64 m'.err])∧MOk c m'∧m'.closed=false∧m.c.outs.length<=m'.c.outs.length∧kk<=n∧m'.c.pre.length=m.c.pre.length+kk∧GA B q c.fm.toNat c.mem.toNat c.lim.toNat m' [g16,g14] w2 wc w'):=fun W3 e3=>by
     refine (x9r H5.out.1 [pc] (by simp) (fun s hs=>by rw [List.mem_singleton.1 hs,hpz];unfold maxLen;omega) W3 e3).mono ?_;rintro e w' ⟨nn,er,m',rfl,hw,A⟩;obtain ⟨g1,g2⟩:=HM.out.1.good;have U:=hw.wrB HM.out.2.1 g1 HM.out.2.2.2.1 HM.out.2.2.1 (g2 HM.out.2.2.1);obtain ⟨kk,e1,e2,e3⟩:=U.n;rw [hpz] at e2;exact ⟨kk,m',by rw [e1,U.er],U.ok,U.open_,U.gr,e2,e3,A⟩
    go_upto_region 21 with (go_at_call 26;rw [← hpc];refine (HW.out _ rfl).mono ?_;rintro e w4 ⟨kk,m1,rfl,ok1,op1,gr1,hkn,hkp,A4⟩)
    have H4:Hid (GB B q c.fm.toNat c.mem.toNat c.lim.toNat m1 [g16,g14] w2 w4∧w4.rowIs g16 50 7 (lrow m.cells)∧w4.rowIs g14 50 7 (lrow m.cells)):=⟨A4.gb,H5.out.2.1.of_block (A4.same _ (by simp)),H5.out.2.2.of_block (A4.same _ (by simp))⟩
    have HO1:Hid (MOk c m1∧m1.closed=false∧m.c.outs.length<=m1.c.outs.length∧m1.c.pre.length=m.c.pre.length+kk):=⟨ok1,op1,gr1,hkp⟩
    clear A4 H5 HW ok1 op1 hpc hpz;have hb1:((m1.c.pre.length:Int)==(m.c.pre.length:Int)+kk)=true:=by simp;omega
    have hb2:decide (m.c.outs.length<=m1.c.outs.length)=true:=by simpa using gr1
    have hb3:decide ((m.c.outs.length:Int)<=m1.c.outs.length)=true:=by simp;omega
    have hb4:decide (n<kk)=false:=by simp;omega
    have hb5:decide ((n:Int)<kk)=false:=by simp;omega
    have hkr:(kk:Int)<=rest.size:=by omega
    clear hkp gr1;have HKP:Hid (∀ W,Calls Tryz.prog 28 #[.agg #[.int .i64 c.fm, .int .i64 c.out, .int .i64 c.ratio, .int .i64 c.slack, .int .i64 c.mem, .int .i64 c.lim, .int .i64 c.steps], .agg #[.int .i64 m1.c.pre.length, .int .i64 m1.c.outs.length, .int .i64 m1.wait, .int .i64 m1.begun, .int .i64 ((m1.c.pre.length:Int)+m1.c.outs.length), .bool m1.acc, .int .i64 m1.err]] W fun e w'=>e= .returned (.bool true)∧Below W.heap.size W w'):=fun W=>jzq c m1 W HR.out HO1.out.1
    have HFC:Hid (∀ W6,GB B q c.fm.toNat c.mem.toNat c.lim.toNat m1 [g16,g14] w2 W6->W6.rowIs g14 50 7 (lrow m1.cells)->W6.rowIs g16 50 7 (lrow m.cells)->∀ W7,Below W6.heap.size W6 W7->GB B q c.fm.toNat c.mem.toNat c.lim.toNat m1 [g16,g14] w2 W7∧W7.rowIs g14 50 7 (lrow m1.cells)∧W7.rowIs g16 50 7 (lrow m.cells)):=fun W6 h1 h2 h3 W7 b7=>⟨(h1.below b7).gb,h2.of_block (b7.block _ h2.lt),h3.of_block (b7.block _ h3.lt)⟩
    by_cases he1:m1.err=0
    ·have heb:((m1.err:Int) !=0)=false:=by simp [he1]
     have HE1:Hid (m1.err=0):=he1;clear he1;go_wp2_with (first
      | (go_at_call 27;refine (xl3 H4.out.1).mono ?_;rintro e w5 ⟨rfl,A5,b5⟩;have HS5:Hid (w5.there g14 0 7∧GB B q c.fm.toNat c.mem.toNat c.lim.toNat m1 [g16,g14] w2 (w5.setCells g14 0 m1.cells)∧(w5.setCells g14 0 m1.cells).rowIs g14 50 7 (lrow m1.cells)∧(w5.setCells g14 0 m1.cells).rowIs g16 50 7 (lrow m.cells)):=(by obtain ⟨z1,z2,z3,z4⟩:=GB.tell A5 (g:=g14) (by simp) H4.out.2.2;exact ⟨z1,z2,z3,H4.out.2.1.of_block (z4 g16 (by simp) hg)⟩);clear A5 b5)
      | (have hgu:=HS5.out.1;refine wpList_store_mid rfl 50 _ _ rfl g14 0 m1.cells.toArray rfl rfl hgu zmr (all_oneCell_toArray m1.cells_one) ?_;have HS6:=HS5.out.2;obtain ⟨d0,d1,d2,d3,d4,d5,d6⟩:=MG.row_at HS6.2.1;obtain ⟨e0,e1,e2,e3,e4,e5,e6⟩:=MG.row_at HS6.2.2;obtain ⟨f0,f1,f2,f3,f4,f5,f6⟩:=HCF.out _ (HPS.out _ HS6.1.bel).2.1;have HS7:Hid (GB B q c.fm.toNat c.mem.toNat c.lim.toNat m1 [g16,g14] w2 (w5.setCells g14 0 m1.cells)∧(w5.setCells g14 0 m1.cells).rowIs g14 50 7 (lrow m1.cells)∧(w5.setCells g14 0 m1.cells).rowIs g16 50 7 (lrow m.cells)):=HS6;clear hgu HS6 HS5;generalize w5.setCells g14 0 m1.cells=W6 at *)
      | (go_at_call 28;refine (HKP.out _).mono ?_;rintro e w7 ⟨rfl,b7⟩;have HS8:=HFC.out _ HS7.out.1 HS7.out.2.1 HS7.out.2.2 w7 b7;clear d0 d1 d2 d3 d4 d5 d6 e0 e1 e2 e3 e4 e5 e6;obtain ⟨d0,d1,d2,d3,d4,d5,d6⟩:=MG.row_at HS8.2.1;obtain ⟨e0,e1,e2,e3,e4,e5,e6⟩:=MG.row_at HS8.2.2;have HS9:Hid (GB B q c.fm.toNat c.mem.toNat c.lim.toNat m1 [g16,g14] w2 w7):=HS8.1;have HS10:Hid (w7.rowIs g14 50 7 (lrow m1.cells)∧w7.rowIs g16 50 7 (lrow m.cells)):=HS8.2;obtain ⟨bl',o',x',y',hae',hbl',p1',p2',ix',iy'⟩:=(HPS.out w7 HS9.out.bel).1.2 k hlt;have hae2:=Option.some.inj hae';injection hae2 with hb1' hb2' _;subst hb1';subst hb2';have HIY:Hid (inI y'):=iy';clear HS8 b7 hae' ix' iy' p1'))
     go_upto_region 29 with (first
      | (go_at_call 25;refine (z9k _ _ HIY.out).mono ?_;rintro e w8 ⟨⟨d,rfl,hd1,hd4⟩,rfl⟩)
      | (go_at_call 30;refine (x8v HS9.out _ (by omega)).mono ?_;rintro e w9 ⟨l,er2,m2,rfl,D2,A9⟩))
     obtain ⟨y1,y2⟩:=HS9.out.good;have D:=D2.drB HO1.out.1 y1 HE1.out (y2 HO1.out.2.1);obtain ⟨sb,hsb⟩:∃ sb,sb=xu6 l:=⟨_,rfl⟩
     have hsl:sb.size=l.length:=by rw [hsb,xvb]
     have e0:=D.er;subst e0;rw [← hsb];have H9:Hid (GB B q c.fm.toNat c.mem.toNat c.lim.toNat m2 [g16,g14] w2 w9∧w9.rowIs g14 50 7 (lrow m1.cells)∧w9.rowIs g16 50 7 (lrow m.cells)):=⟨A9.gb,HS10.out.1.of_block (A9.same _ (by simp)),HS10.out.2.of_block (A9.same _ (by simp))⟩
     have HS11:Hid (w9.there g16 0 7∧GB B q c.fm.toNat c.mem.toNat c.lim.toNat m2 [g16,g14] w2 (w9.setCells g16 0 m1.cells)∧(w9.setCells g16 0 m1.cells).rowIs g14 50 7 (lrow m1.cells)∧(w9.setCells g16 0 m1.cells).rowIs g16 50 7 (lrow m1.cells)):=by
      obtain ⟨z1,z2,z3,z4⟩:=H9.out.1.store (g:=g16) (by simp) H9.out.2.2 m1;exact ⟨z1,z2,H9.out.2.1.of_block (z4 g14 (by simp) (Ne.symm hg)),z3⟩
     have HD:Hid (MOk c m2∧m2.closed=false):=⟨D.ok,D.open_.trans HO1.out.2.1⟩
     have hpe:((m2.c.pre.length:Int)==m1.c.pre.length)=true:=by have:=D.pre;simp;omega
     have hle1:decide (sb.size<=m1.wait)=true:=by have:=D.le;simp;omega
     have hle2:decide ((sb.size:Int)<=m1.wait)=true:=by have:=D.le;simp;omega
     have HKP2:Hid (∀ W,Calls Tryz.prog 28 #[.agg #[.int .i64 c.fm, .int .i64 c.out, .int .i64 c.ratio, .int .i64 c.slack, .int .i64 c.mem, .int .i64 c.lim, .int .i64 c.steps], .agg #[.int .i64 m2.c.pre.length, .int .i64 m2.c.outs.length, .int .i64 m2.wait, .int .i64 m2.begun, .int .i64 ((m2.c.pre.length:Int)+m2.c.outs.length), .bool m2.acc, .int .i64 m2.err]] W fun e w'=>e= .returned (.bool true)∧Below W.heap.size W w'):=fun W=>jzq c m2 W HR.out HD.out.1
     have HFC2:Hid (∀ W6,GB B q c.fm.toNat c.mem.toNat c.lim.toNat m2 [g16,g14] w2 W6->W6.rowIs g14 50 7 (lrow m2.cells)->W6.rowIs g16 50 7 (lrow m1.cells)->∀ W7,Below W6.heap.size W6 W7->GB B q c.fm.toNat c.mem.toNat c.lim.toNat m2 [g16,g14] w2 W7∧W7.rowIs g14 50 7 (lrow m2.cells)∧W7.rowIs g16 50 7 (lrow m1.cells)):=fun W6 h1 h2 h3 W7 b7=>⟨(h1.below b7).gb,h2.of_block (b7.block _ h2.lt),h3.of_block (b7.block _ h3.lt)⟩
     have hb9:m1.wait<=1000000∧m2.c.outs.length<=1000000∧m1.c.outs.length<=m2.c.outs.length∧sb.size<=m1.wait:=by
      have h1:=HO1.out.1.kept.ck.st;have h2:=D.ok.kept.ck.st;obtain ⟨K1,G1,_⟩:=HS9.out.gm;obtain ⟨K2,G2,_⟩:=A9.gb.gm;have h3:=G1.qb;have h4:=G2.qb;have h5:=D.gr;have h6:=D.le;refine ⟨?_,by omega,h5,by omega⟩;unfold MG.wait;split <;> omega
     have hwt:m2.err=0->(m2.wait:Int)=(m1.wait:Int) - sb.size+m2.c.outs.length - m1.c.outs.length:=fun h0=>by
      have h1:=D.dr;have h2:=D.le;have h3:=D.ok.kept.dr;have h4:=HO1.out.1.kept.dr;have h5:=D.gr;unfold MG.wait at h2 ⊢;rw [if_pos HE1.out] at h2 ⊢;rw [if_pos h0];omega
     clear d0 d1 d2 d3 d4 d5 d6 e0 e1 e2 e3 e4 e5 e6 D A9 D2 y1 y2 hsb hsl f0 f1 f2 f3 f4 f5 f6;obtain ⟨d0,d1,d2,d3,d4,d5,d6⟩:=MG.row_at H9.out.2.1;have hb9a:=hb9.1;have hb9b:=hb9.2.1;have hb9c:=hb9.2.2.1;have hb9d:=hb9.2.2.2;clear hb9;by_cases he2:m2.err=0
     ·have hw:=hwt he2;have hz1:((m2.err:Int)==0)=true:=by simp [he2]
      have hz2:((m2.err:Int) !=0)=false:=by simp [he2]
      have hz3:((m2.wait:Int) !=(m1.wait:Int) - sb.size+m2.c.outs.length - m1.c.outs.length)=false:=by rw [hw];simp
      have HE2:Hid (m2.err=0):=he2;clear he2 hw hwt;go_wp2_with (first
       | (have hgu:=HS11.out.1;refine wpList_store_mid rfl 50 _ _ rfl g16 0 m1.cells.toArray rfl rfl hgu zmr (all_oneCell_toArray m1.cells_one) ?_;have HS12:=HS11.out.2;have HS13:Hid (GB B q c.fm.toNat c.mem.toNat c.lim.toNat m2 [g16,g14] w2 (w9.setCells g16 0 m1.cells)∧(w9.setCells g16 0 m1.cells).rowIs g14 50 7 (lrow m1.cells)∧(w9.setCells g16 0 m1.cells).rowIs g16 50 7 (lrow m1.cells)):=HS12;clear hgu HS12 HS11;generalize w9.setCells g16 0 m1.cells=W10 at *)
       | (go_at_call 27;refine (xl3 HS13.out.1).mono ?_;rintro e w11 ⟨rfl,A11,b11⟩;have HS14:Hid (w11.there g14 0 7∧GB B q c.fm.toNat c.mem.toNat c.lim.toNat m2 [g16,g14] w2 (w11.setCells g14 0 m2.cells)∧(w11.setCells g14 0 m2.cells).rowIs g14 50 7 (lrow m2.cells)∧(w11.setCells g14 0 m2.cells).rowIs g16 50 7 (lrow m1.cells)):=(by obtain ⟨z1,z2,z3,z4⟩:=GB.tell A11 (g:=g14) (by simp) HS13.out.2.1;exact ⟨z1,z2,z3,HS13.out.2.2.of_block (z4 g16 (by simp) hg)⟩);clear A11 b11)
       | (have hgu:=HS14.out.1;refine wpList_store_mid rfl 50 _ _ rfl g14 0 m2.cells.toArray rfl rfl hgu zmr (all_oneCell_toArray m2.cells_one) ?_;have HS15:=HS14.out.2;clear d0 d1 d2 d3 d4 d5 d6;obtain ⟨d0,d1,d2,d3,d4,d5,d6⟩:=MG.row_at HS15.2.1;obtain ⟨e0,e1,e2,e3,e4,e5,e6⟩:=MG.row_at HS15.2.2;obtain ⟨f0,f1,f2,f3,f4,f5,f6⟩:=HCF.out _ (HPS.out _ HS15.1.bel).2.1;have HS16:Hid (GB B q c.fm.toNat c.mem.toNat c.lim.toNat m2 [g16,g14] w2 (w11.setCells g14 0 m2.cells)∧(w11.setCells g14 0 m2.cells).rowIs g14 50 7 (lrow m2.cells)∧(w11.setCells g14 0 m2.cells).rowIs g16 50 7 (lrow m1.cells)):=HS15;clear hgu HS15 HS14;generalize w11.setCells g14 0 m2.cells=W12 at *)
       | (go_at_call 28;refine (HKP2.out _).mono ?_;rintro e w13 ⟨rfl,b13⟩;have HS17:=HFC2.out _ HS16.out.1 HS16.out.2.1 HS16.out.2.2 w13 b13;clear d0 d1 d2 d3 d4 d5 d6 e0 e1 e2 e3 e4 e5 e6;obtain ⟨d0,d1,d2,d3,d4,d5,d6⟩:=MG.row_at HS17.2.1;obtain ⟨e0,e1,e2,e3,e4,e5,e6⟩:=MG.row_at HS17.2.2;have HS18:Hid (GB B q c.fm.toNat c.mem.toNat c.lim.toNat m2 [g16,g14] w2 w13∧w13.rowIs g14 50 7 (lrow m2.cells)):=⟨HS17.1,HS17.2.1⟩;clear HS17 b13))
      go_roundw
      case rel=>exact ⟨⟨m2,HS18.out.1.less (by simp),HD.out.1,HD.out.2,HE2.out,HS18.out.2⟩,⟨_,rfl,by rw [ByteArray.size_extract];omega⟩,k+1,by go_num,by omega⟩
      case measure=>simp [intOf];omega
     ·have hz1:((m2.err:Int)==0)=false:=by simp;omega
      have hz2:((m2.err:Int) !=0)=true:=by simp;omega
      have HE2:Hid (m2.err≠0):=he2;clear he2 hwt;go_wp2_with (first
       | (have hgu:=HS11.out.1;refine wpList_store_mid rfl 50 _ _ rfl g16 0 m1.cells.toArray rfl rfl hgu zmr (all_oneCell_toArray m1.cells_one) ?_;have HS12:=HS11.out.2;have HS13:Hid (GB B q c.fm.toNat c.mem.toNat c.lim.toNat m2 [g16,g14] w2 (w9.setCells g16 0 m1.cells)∧(w9.setCells g16 0 m1.cells).rowIs g14 50 7 (lrow m1.cells)∧(w9.setCells g16 0 m1.cells).rowIs g16 50 7 (lrow m1.cells)):=HS12;clear hgu HS12 HS11;generalize w9.setCells g16 0 m1.cells=W10 at *)
       | (go_at_call 27;refine (xl3 HS13.out.1).mono ?_;rintro e w11 ⟨rfl,A11,b11⟩;have HS14:Hid (w11.there g14 0 7∧GB B q c.fm.toNat c.mem.toNat c.lim.toNat m2 [g16,g14] w2 (w11.setCells g14 0 m2.cells)∧(w11.setCells g14 0 m2.cells).rowIs g14 50 7 (lrow m2.cells)∧(w11.setCells g14 0 m2.cells).rowIs g16 50 7 (lrow m1.cells)):=(by obtain ⟨z1,z2,z3,z4⟩:=GB.tell A11 (g:=g14) (by simp) HS13.out.2.1;exact ⟨z1,z2,z3,HS13.out.2.2.of_block (z4 g16 (by simp) hg)⟩);clear A11 b11)
       | (have hgu:=HS14.out.1;refine wpList_store_mid rfl 50 _ _ rfl g14 0 m2.cells.toArray rfl rfl hgu zmr (all_oneCell_toArray m2.cells_one) ?_;have HS15:=HS14.out.2;clear d0 d1 d2 d3 d4 d5 d6;obtain ⟨d0,d1,d2,d3,d4,d5,d6⟩:=MG.row_at HS15.2.1;obtain ⟨e0,e1,e2,e3,e4,e5,e6⟩:=MG.row_at HS15.2.2;obtain ⟨f0,f1,f2,f3,f4,f5,f6⟩:=HCF.out _ (HPS.out _ HS15.1.bel).2.1;have HS16:Hid (GB B q c.fm.toNat c.mem.toNat c.lim.toNat m2 [g16,g14] w2 (w11.setCells g14 0 m2.cells)∧(w11.setCells g14 0 m2.cells).rowIs g14 50 7 (lrow m2.cells)∧(w11.setCells g14 0 m2.cells).rowIs g16 50 7 (lrow m1.cells)):=HS15;clear hgu HS15 HS14;generalize w11.setCells g14 0 m2.cells=W12 at *)
       | (go_at_call 28;refine (HKP2.out _).mono ?_;rintro e w13 ⟨rfl,b13⟩;have HS17:=HFC2.out _ HS16.out.1 HS16.out.2.1 HS16.out.2.2 w13 b13;clear d0 d1 d2 d3 d4 d5 d6 e0 e1 e2 e3 e4 e5 e6;obtain ⟨d0,d1,d2,d3,d4,d5,d6⟩:=MG.row_at HS17.2.1;obtain ⟨e0,e1,e2,e3,e4,e5,e6⟩:=MG.row_at HS17.2.2;have HS18:Hid (GB B q c.fm.toNat c.mem.toNat c.lim.toNat m2 [g16,g14] w2 w13∧w13.rowIs g14 50 7 (lrow m2.cells)):=⟨HS17.1,HS17.2.1⟩;clear HS17 b13)
       | (go_at_call 29;refine (yhb HS18.out.1 HE2.out).mono ?_;rintro e w14 ⟨rfl,b14⟩))
      go_ret
      exact ⟨rfl,(HPS.out w2 (Below.refl _ _)).2.2 w14 b14⟩
    ·have hei:¬ (m1.err:Int)=0:=by omega
     have heb:((m1.err:Int) !=0)=true:=by simp;omega
     go_wp2_with (first
      | (go_at_call 27;refine (xl3 H4.out.1).mono ?_;rintro e w5 ⟨rfl,A5,b5⟩;have HS5:Hid (w5.there g14 0 7∧GB B q c.fm.toNat c.mem.toNat c.lim.toNat m1 [g16,g14] w2 (w5.setCells g14 0 m1.cells)∧(w5.setCells g14 0 m1.cells).rowIs g14 50 7 (lrow m1.cells)∧(w5.setCells g14 0 m1.cells).rowIs g16 50 7 (lrow m.cells)):=(by obtain ⟨z1,z2,z3,z4⟩:=GB.tell A5 (g:=g14) (by simp) H4.out.2.2;exact ⟨z1,z2,z3,H4.out.2.1.of_block (z4 g16 (by simp) hg)⟩);clear A5 b5)
      | (have hgu:=HS5.out.1;refine wpList_store_mid rfl 50 _ _ rfl g14 0 m1.cells.toArray rfl rfl hgu zmr (all_oneCell_toArray m1.cells_one) ?_;have HS6:=HS5.out.2;obtain ⟨d0,d1,d2,d3,d4,d5,d6⟩:=MG.row_at HS6.2.1;obtain ⟨e0,e1,e2,e3,e4,e5,e6⟩:=MG.row_at HS6.2.2;obtain ⟨f0,f1,f2,f3,f4,f5,f6⟩:=HCF.out _ (HPS.out _ HS6.1.bel).2.1;have HS7:Hid (GB B q c.fm.toNat c.mem.toNat c.lim.toNat m1 [g16,g14] w2 (w5.setCells g14 0 m1.cells)∧(w5.setCells g14 0 m1.cells).rowIs g14 50 7 (lrow m1.cells)∧(w5.setCells g14 0 m1.cells).rowIs g16 50 7 (lrow m.cells)):=HS6;clear hgu HS6 HS5;generalize w5.setCells g14 0 m1.cells=W6 at *)
      | (go_at_call 28;refine (HKP.out _).mono ?_;rintro e w7 ⟨rfl,b7⟩;have HS8:=HFC.out _ HS7.out.1 HS7.out.2.1 HS7.out.2.2 w7 b7;clear d0 d1 d2 d3 d4 d5 d6 e0 e1 e2 e3 e4 e5 e6;obtain ⟨d0,d1,d2,d3,d4,d5,d6⟩:=MG.row_at HS8.2.1;obtain ⟨e0,e1,e2,e3,e4,e5,e6⟩:=MG.row_at HS8.2.2;have HS9:Hid (GB B q c.fm.toNat c.mem.toNat c.lim.toNat m1 [g16,g14] w2 w7):=HS8.1;clear HS8 b7)
      | (go_at_call 29;refine (yhb HS9.out he1).mono ?_;rintro e w8 ⟨rfl,b8⟩))
     go_ret
     exact ⟨rfl,(HPS.out w2 (Below.refl _ _)).2.2 w8 b8⟩
   ·have hd1:decide (k<np)=false:=by simpa using hlt
    have hd2:decide ((k:Int)<np)=false:=by simp;omega
    go_upto_region 37 with (go_at_call 31;refine (jsq HM.out.1).mono ?_;rintro e w4 ⟨er,m1,rfl,C1,A4⟩)
    obtain ⟨y1,y2⟩:=HM.out.1.good;have D:=C1.clB HM.out.2.1 y1 HM.out.2.2.2.1 HM.out.2.2.1 (y2 HM.out.2.2.1);have e0:=D.er;subst e0;have H4:Hid (GB B q c.fm.toNat c.mem.toNat c.lim.toNat m1 [g14] w2 w4∧w4.rowIs g14 50 7 (lrow m.cells)):=⟨A4.gb,HM.out.2.2.2.2.of_block (A4.same _ (by simp))⟩
    have HD:Hid (MOk c m1∧(m1.err=0->m1.closed=true)):=⟨D.ok,D.shut⟩
    have HKP:Hid (∀ W,Calls Tryz.prog 28 #[.agg #[.int .i64 c.fm, .int .i64 c.out, .int .i64 c.ratio, .int .i64 c.slack, .int .i64 c.mem, .int .i64 c.lim, .int .i64 c.steps], .agg #[.int .i64 m1.c.pre.length, .int .i64 m1.c.outs.length, .int .i64 m1.wait, .int .i64 m1.begun, .int .i64 ((m1.c.pre.length:Int)+m1.c.outs.length), .bool m1.acc, .int .i64 m1.err]] W fun e w'=>e= .returned (.bool true)∧Below W.heap.size W w'):=fun W=>jzq c m1 W HR.out HD.out.1
    clear A4 C1 D y1 y2 hd1 hd2;by_cases he1:m1.err=0
    ·have heb:((m1.err:Int) !=0)=false:=by simp [he1]
     have HE1:Hid (m1.err=0∧m1.closed=true):=⟨he1,HD.out.2 he1⟩
     clear he1;have HW9:Hid (∀ W,GB B q c.fm.toNat c.mem.toNat c.lim.toNat m1 [g14] w2 W->∀ W3,W3=W.alloc (.cells #[.string ⟨#[120]⟩] 9)->Calls Tryz.prog 26 #[.pointer (some ⟨q,0,none⟩), .slice (some ⟨W.heap.size,0,none⟩) 1 1] W3 fun e w'=>e= .returned (.tuple #[.int .i64 0, .int .i64 3])∧GA B q c.fm.toNat c.mem.toNat c.lim.toNat m1 [g14] w2 W w'):=fun W hG W3 e3=>by
      refine (x9r hG [⟨#[120]⟩] (by simp) (fun s hs=>by rw [List.mem_singleton.1 hs];show 1<=_;unfold maxLen;omega) W3 e3).mono ?_;rintro e w' ⟨nn,er,m',rfl,hw,A⟩;obtain ⟨rfl,rfl,rfl⟩:=hw.shut HE1.out.1 HE1.out.2;exact ⟨rfl,A⟩
     have HC9:Hid (∀ W,GB B q c.fm.toNat c.mem.toNat c.lim.toNat m1 [g14] w2 W->Calls Tryz.prog 31 #[.pointer (some ⟨q,0,none⟩)] W fun e w'=>e= .returned (.int .i64 3)∧GA B q c.fm.toNat c.mem.toNat c.lim.toNat m1 [g14] w2 W w'):=fun W hG=>by
      refine (jsq hG).mono ?_;rintro e w' ⟨er,m',rfl,hw,A⟩;obtain ⟨rfl,rfl⟩:=hw.shut HE1.out.1 HE1.out.2;exact ⟨rfl,A⟩
     go_wp2_with (first
      | (go_at_call 27;refine (xl3 H4.out.1).mono ?_;rintro e w5 ⟨rfl,A5,b5⟩;have HS5:Hid (w5.there g14 0 7∧GB B q c.fm.toNat c.mem.toNat c.lim.toNat m1 [g14] w2 (w5.setCells g14 0 m1.cells)∧(w5.setCells g14 0 m1.cells).rowIs g14 50 7 (lrow m1.cells)):=(by obtain ⟨z1,z2,z3,z4⟩:=GB.tell A5 (g:=g14) (by simp) H4.out.2;exact ⟨z1,z2,z3⟩);clear A5 b5)
      | (have hgu:=HS5.out.1;refine wpList_store_mid rfl 50 _ _ rfl g14 0 m1.cells.toArray rfl rfl hgu zmr (all_oneCell_toArray m1.cells_one) ?_;have HS6:=HS5.out.2;obtain ⟨d0,d1,d2,d3,d4,d5,d6⟩:=MG.row_at HS6.2;obtain ⟨f0,f1,f2,f3,f4,f5,f6⟩:=HCF.out _ (HPS.out _ HS6.1.bel).2.1;have HS7:Hid (GB B q c.fm.toNat c.mem.toNat c.lim.toNat m1 [g14] w2 (w5.setCells g14 0 m1.cells)∧(w5.setCells g14 0 m1.cells).rowIs g14 50 7 (lrow m1.cells)):=HS6;clear hgu HS6 HS5;generalize w5.setCells g14 0 m1.cells=W6 at *)
      | (go_at_call 28;refine (HKP.out _).mono ?_;rintro e w7 ⟨rfl,b7⟩;have HS8:Hid (GB B q c.fm.toNat c.mem.toNat c.lim.toNat m1 [g14] w2 w7∧w7.rowIs g14 50 7 (lrow m1.cells)):=⟨(HS7.out.1.below b7).gb,HS7.out.2.of_block (b7.block _ HS7.out.2.lt)⟩;clear d0 d1 d2 d3 d4 d5 d6 b7;obtain ⟨d0,d1,d2,d3,d4,d5,d6⟩:=MG.row_at HS8.out.2))
     clear d0 d1 d2 d3 d4 d5 d6 f0 f1 f2 f3 f4 f5 f6;go_upto_region 46 with (first
      | (go_at_call 26;refine (HW9.out _ HS8.out.1 _ rfl).mono ?_;rintro e w9 ⟨rfl,A9⟩;have HS9:Hid (GB B q c.fm.toNat c.mem.toNat c.lim.toNat m1 [g14] w2 w9∧w9.rowIs g14 50 7 (lrow m1.cells)):=⟨A9.gb,HS8.out.2.of_block (A9.same _ (by simp))⟩;clear A9)
      | (go_at_call 31;refine (HC9.out _ HS9.out.1).mono ?_;rintro e w10 ⟨rfl,A10⟩;have HS10:Hid (GB B q c.fm.toNat c.mem.toNat c.lim.toNat m1 [g14] w2 w10∧w10.rowIs g14 50 7 (lrow m1.cells)):=⟨A10.gb,HS9.out.2.of_block (A10.same _ (by simp))⟩;clear A10)
      | (go_at_call 27;refine (xl3 HS10.out.1).mono ?_;rintro e w11 ⟨rfl,A11,b11⟩;have HS11:Hid (GB B q c.fm.toNat c.mem.toNat c.lim.toNat m1 [g14] w2 w11∧w11.rowIs g14 50 7 (lrow m1.cells)):=⟨A11.gb,HS10.out.2.of_block (A11.same _ (by simp))⟩;clear A11 b11))
     obtain ⟨W12,hW12⟩:∃ W12,W12=w11.alloc (.cells #[.int .i64 m1.c.pre.length, .int .i64 m1.c.outs.length, .int .i64 m1.wait, .int .i64 m1.begun, .int .i64 ((m1.c.pre.length:Int)+m1.c.outs.length), .bool m1.acc, .int .i64 m1.err] 50):=⟨_,rfl⟩
     have r12:W12.rowIs w11.heap.size 50 7 (lrow m1.cells):=by rw [hW12];exact World.rowIs_alloc w11 #[.int .i64 m1.c.pre.length, .int .i64 m1.c.outs.length, .int .i64 m1.wait, .int .i64 m1.begun, .int .i64 ((m1.c.pre.length:Int)+m1.c.outs.length), .bool m1.acc, .int .i64 m1.err] _ _ (ytu rfl rfl rfl rfl rfl rfl rfl)
     have b12:Below w11.heap.size w11 W12:=by rw [hW12];exact (Below.refl _ _).alloc (Nat.le_refl _) _
     have r13:W12.rowIs g14 50 7 (lrow m1.cells):=HS11.out.2.of_block (b12.block _ HS11.out.2.lt);have HZ:Hid (Below B w2 W12):=(HS11.out.1.below b12).gb.bel;obtain ⟨d0,d1,d2,d3,d4,d5,d6⟩:=MG.row_at r12;obtain ⟨e0,e1,e2,e3,e4,e5,e6⟩:=MG.row_at r13;rw [← hW12];clear hW12 r12 b12 r13;go_wp2_with fail
     go_ret
     exact ⟨by simp,(HPS.out w2 (Below.refl _ _)).2.2 _ HZ.out⟩
    ·have heb:((m1.err:Int) !=0)=true:=by simp;omega
     have HE1:Hid (m1.err≠0):=he1;clear he1;go_wp2_with (first
      | (go_at_call 27;refine (xl3 H4.out.1).mono ?_;rintro e w5 ⟨rfl,A5,b5⟩;have HS5:Hid (w5.there g14 0 7∧GB B q c.fm.toNat c.mem.toNat c.lim.toNat m1 [g14] w2 (w5.setCells g14 0 m1.cells)∧(w5.setCells g14 0 m1.cells).rowIs g14 50 7 (lrow m1.cells)):=(by obtain ⟨z1,z2,z3,z4⟩:=GB.tell A5 (g:=g14) (by simp) H4.out.2;exact ⟨z1,z2,z3⟩);clear A5 b5)
      | (have hgu:=HS5.out.1;refine wpList_store_mid rfl 50 _ _ rfl g14 0 m1.cells.toArray rfl rfl hgu zmr (all_oneCell_toArray m1.cells_one) ?_;have HS6:=HS5.out.2;obtain ⟨d0,d1,d2,d3,d4,d5,d6⟩:=MG.row_at HS6.2;obtain ⟨f0,f1,f2,f3,f4,f5,f6⟩:=HCF.out _ (HPS.out _ HS6.1.bel).2.1;have HS7:Hid (GB B q c.fm.toNat c.mem.toNat c.lim.toNat m1 [g14] w2 (w5.setCells g14 0 m1.cells)∧(w5.setCells g14 0 m1.cells).rowIs g14 50 7 (lrow m1.cells)):=HS6;clear hgu HS6 HS5;generalize w5.setCells g14 0 m1.cells=W6 at *)
      | (go_at_call 28;refine (HKP.out _).mono ?_;rintro e w7 ⟨rfl,b7⟩;have HS8:Hid (GB B q c.fm.toNat c.mem.toNat c.lim.toNat m1 [g14] w2 w7∧w7.rowIs g14 50 7 (lrow m1.cells)):=⟨(HS7.out.1.below b7).gb,HS7.out.2.of_block (b7.block _ HS7.out.2.lt)⟩;clear d0 d1 d2 d3 d4 d5 d6 b7;obtain ⟨d0,d1,d2,d3,d4,d5,d6⟩:=MG.row_at HS8.out.2)
      | (go_at_call 29;refine (yhb HS8.out.1 HE1.out).mono ?_;rintro e w14 ⟨rfl,b14⟩))
     go_ret
     exact ⟨rfl,(HPS.out w2 (Below.refl _ _)).2.2 w14 b14⟩
open Go.RowKit Go.Deep
theorem y4b:Tryz.prog.cellsOf 42=7:=by kernel_rfl
theorem jkx:Tryz.prog.cellsOf 59=2:=by kernel_rfl
theorem cfg_all{H:Type}{enc:TypeId×Value->H}{W:World}{base:Nat}{spare:Nat->Bool}{held:Bool}{n:Nat}{cs:List Value}{x:DataW H×List MemPlace}(h:DataW.trod enc Tryz.prog W base spare held n 42 cs=some x) :
  ∃ c:Cfg,cs=[.int .i64 c.fm, .int .i64 c.out, .int .i64 c.ratio, .int .i64 c.slack, .int .i64 c.mem, .int .i64 c.lim, .int .i64 c.steps]∧inI c.fm∧inI c.out∧inI c.ratio∧inI c.slack∧inI c.mem∧inI c.lim∧inI c.steps:=by
 obtain ⟨xs,k,hk,hxy,hlen,hxl,hf⟩:=DataW.trod_struct Tryz.underlying42 h;rw [y4b] at hlen;have hxl7:xs.length=7:=hxl;match xs,hxl7,cs,hlen with
 | [y0,y1,y2,y3,y4,y5,y6],_,[v0,v1,v2,v3,v4,v5,v6],_=>
  have g0:=hf 0 _ rfl;have g1:=hf 1 _ rfl;have g2:=hf 2 _ rfl;have g3:=hf 3 _ rfl;have g4:=hf 4 _ rfl;have g5:=hf 5 _ rfl;have g6:=hf 6 _ rfl;simp [ybc] at g0 g1 g2 g3 g4 g5 g6;obtain ⟨z0,e0,_,w0⟩:=DataW.trod_int Tryz.underlying3 g0;obtain ⟨z1,e1,_,w1⟩:=DataW.trod_int Tryz.underlying3 g1;obtain ⟨z2,e2,_,w2⟩:=DataW.trod_int Tryz.underlying3 g2;obtain ⟨z3,e3,_,w3⟩:=DataW.trod_int Tryz.underlying3 g3;obtain ⟨z4,e4,_,w4⟩:=DataW.trod_int Tryz.underlying3 g4;obtain ⟨z5,e5,_,w5⟩:=DataW.trod_int Tryz.underlying3 g5;obtain ⟨z6,e6,_,w6⟩:=DataW.trod_int Tryz.underlying3 g6;simp at e0 e1 e2 e3 e4 e5 e6;exact ⟨⟨z0,z1,z2,z3,z4,z5,z6⟩,by rw [e0,e1,e2,e3,e4,e5,e6],zu0 w0,zu0 w1,zu0 w2,zu0 w3,zu0 w4,zu0 w5,zu0 w6⟩
theorem kxl{H:Type}{enc:TypeId×Value->H}{W:World}{base:Nat}{spare:Nat->Bool}{held:Bool}{n:Nat}{cs:List Value}{x:DataW H×List MemPlace}(h:DataW.trod enc Tryz.prog W base spare held n 59 cs=some x) :
  ∃ a b:Int,cs=[.int .i64 a, .int .i64 b]∧inI a∧inI b:=by
 obtain ⟨xs,k,hk,hxy,hlen,hxl,hf⟩:=DataW.trod_struct Tryz.underlying59 h;rw [jkx] at hlen;have hxl2:xs.length=2:=hxl;match xs,hxl2,cs,hlen with
 | [y0,y1],_,[v0,v1],_=>
  have g0:=hf 0 _ rfl;have g1:=hf 1 _ rfl;simp [ybc] at g0 g1;obtain ⟨z0,e0,_,w0⟩:=DataW.trod_int Tryz.underlying3 g0;obtain ⟨z1,e1,_,w1⟩:=DataW.trod_int Tryz.underlying3 g1;simp at e0 e1;exact ⟨z0,z1,by rw [e0,e1],zu0 w0,zu0 w1⟩
theorem passes_of{H:Type}{enc:TypeId×Value->H}{W:World}{base:Nat}{spare:Nat->Bool}{held:Bool}{fuel:Nat}{ad:Option Addr}{n cap:Nat}{x:DataW H×List MemPlace}(h:DataW.trod enc Tryz.prog W base spare held fuel 43 [.slice ad n cap]=some x):PassO W ad n:=by
 rcases open_slice Tryz.underlying43 h with ⟨hcs,rfl⟩ | ⟨a,len,cp,m,f,D,Pl,hcs,hb,hl,hm,hmm,rfl,hx⟩
 ·simp at hcs;obtain ⟨rfl,rfl,rfl⟩:=hcs;exact ⟨Nat.zero_le _,fun k hk=>by omega⟩
 ·simp at hcs;obtain ⟨rfl,rfl,rfl⟩:=hcs;have hlm:n<=m:=by rw [hmm];split <;> omega
  refine ⟨by omega,fun k hk=>?_⟩;obtain ⟨cs',h1,h2⟩:=hx k (by omega);obtain ⟨xa,xb,rfl,ia,ib⟩:=kxl h2;rw [jkx] at h1;obtain ⟨_,_,hcell⟩:=World.cells?_some h1;simp only [add_add] at hcell;obtain ⟨b0,o0,spot⟩:=a;have hspot:spot=none:=by
   obtain ⟨cs0,h10,h20⟩:=hx 0 (by omega);rw [jkx] at h10;obtain ⟨_,_,hcell0⟩:=World.cells?_some h10;obtain ⟨_,_,rfl,_⟩:=kxl h20;have:=hcell0 0 (by omega);simp [add_add] at this;simpa [Addr.add] using World.cell?_spot this
  subst hspot;have e0:=hcell 0 (by omega);have e1:=hcell 1 (by omega);rw [Go.WideShapes.add_plain] at e0 e1;simp only [← Nat.add_assoc] at e1;refine ⟨b0,o0,xa,xb,rfl,World.block_lt_of_cell? W _ e0,?_,?_,ia,ib⟩
  ·simpa using e0
  ·simpa using e1
namespace St
theorem lim_or{M L:Nat}{σ:St}{B A':Act}(h:σ.lim<=σ.hmany):(σ.re M L).need 8 A'=(σ.need 8 (if σ.lim<=σ.hmany then .fail 5 else B)).re M L∨σ.need 8 (if σ.lim<=σ.hmany then .fail 5 else B)= .fail 5:=by
 show (if σ.count<8 then Act.take else A')=(if σ.count<8 then Act.take else _).re M L∨(if σ.count<8 then Act.take else (if σ.lim<=σ.hmany then .fail 5 else B))= .fail 5;by_cases hc:σ.count<8
 ·left;rw [if_pos hc,if_pos hc];rfl
 ·right;rw [if_neg hc,if_pos h]
theorem or_if{M L:Nat}{c c':Prop}[Decidable c][Decidable c']{A B A' B':Act}(hc:c'↔c)(ha:A'=A.re M L∨A= .fail 5)(hb:B'=B.re M L):(if c' then A' else B')=(if c then A else B).re M L∨(if c then A else B)= .fail 5:=by
 by_cases h:c
 ·rw [if_pos h,if_pos (hc.2 h)];exact ha
 ·rw [if_neg h,if_neg (fun x=>h (hc.1 x))];exact Or.inl hb
theorem mem_or{M L:Nat}{σ:St}{B B':Act}(h:σ.mem<=σ.begun):(σ.re M L).need 8 (if σ.fmt≠2 then .fail 14 else B')=(σ.need 8 (if σ.fmt≠2 then .fail 14 else if σ.mem<=σ.begun then .fail 6 else B)).re M L∨σ.need 8 (if σ.fmt≠2 then .fail 14 else if σ.mem<=σ.begun then .fail 6 else B)= .fail 6:=by
 show (if σ.count<8 then Act.take else (if σ.fmt≠2 then .fail 14 else B'))=(if σ.count<8 then Act.take else _).re M L∨(if σ.count<8 then Act.take else (if σ.fmt≠2 then .fail 14 else if σ.mem<=σ.begun then .fail 6 else B))= .fail 6;by_cases hc:σ.count<8
 ·left;rw [if_pos hc,if_pos hc];rfl
 ·rw [if_neg hc,if_neg hc];by_cases hf:σ.fmt≠2
  ·left;rw [if_pos hf,if_pos hf];rfl
  ·right;rw [if_neg hf,if_pos h]
theorem act_re2{σ:St}(W:Wf σ){M L:Nat}(h1':¬ L<=σ.hmany)(h2':¬ M<=σ.begun):(σ.re M L).act=σ.act.re M L∨σ.act= .fail 5∨σ.act= .fail 6:=by
 by_cases h1:σ.st<=5∧σ.lim<=σ.hmany
 ·obtain ⟨h5,hl⟩:=h1;have h6:σ.st=0∨σ.st=1∨σ.st=2∨σ.st=3∨σ.st=4∨σ.st=5:=by omega
  rcases h6 with h | h | h | h | h | h
  ·rw [act_at h,act_at (show (σ.re M L).st=0 from h)];exact Or.imp id Or.inl (lim_or hl)
  ·rw [act_at h,act_at (show (σ.re M L).st=1 from h)];exact Or.imp id Or.inl (lim_or hl)
  ·rw [act_at h,act_at (show (σ.re M L).st=2 from h)];exact Or.imp id Or.inl (or_if Iff.rfl (lim_or hl) rfl)
  ·rw [act_at h,act_at (show (σ.re M L).st=3 from h)];exact Or.imp id Or.inl (or_if Iff.rfl (lim_or hl) rfl)
  ·rw [act_at h,act_at (show (σ.re M L).st=4 from h)];exact Or.imp id Or.inl (or_if Iff.rfl (lim_or hl) rfl)
  ·rw [act_at h,act_at (show (σ.re M L).st=5 from h)];exact Or.imp id Or.inl (or_if Iff.rfl (lim_or hl) rfl)
 ·by_cases h2:σ.st=23∧σ.mem<=σ.begun
  ·obtain ⟨h,hm⟩:=h2;rw [act_at h,act_at (show (σ.re M L).st=23 from h)];exact Or.imp id Or.inr (mem_or hm)
  ·exact Or.inl (act_re0 W (fun h=>⟨fun x=>absurd x h1',fun x=>absurd ⟨h,x⟩ h1⟩) (fun h=>⟨fun x=>absurd x h2',fun x=>absurd ⟨h,x⟩ h2⟩))
end St
theorem Cnt.act_re2{s:ByteArray}{c:Cf}{M L:Nat}(W:St.Wf c.σ)(h:St.Cnt c)(hl:c.pre.length<=s.size)(hM:s.size+1<M)(hL:s.size<L):(c.σ.re M L).act=c.σ.act.re M L∨c.σ.act= .fail 5∨c.σ.act= .fail 6:=by
 have h1:=h.hm;have h2:=h.bg;refine St.act_re2 W (by omega) ?_;rcases h2 with h2 | h2 <;> omega
theorem v44.re2{q:Quo}{D:Nat}{s:ByteArray}{a b:Cf}{M L:Nat}(hM:s.size+1<M)(hL:s.size<L)(h:v44 q D s a b):St.Wf a.σ->St.Cnt a->a.pre.length<=s.size->v44 q D s (a.re M L) (b.re M L)∧St.Cnt b∧b.pre.length<=s.size∧St.Wf b.σ:=by
 induction h with
 | refl c=>exact fun W C hl=>⟨.refl _,C,hl,W⟩
 | step a b c h1 _ ih=>
  intro W C hl;have N:=St.next W;have ha2:=Cnt.act_re2 W C hl hM hL;have C1:=Cnt.step W C h1;have key:j3w q D s (a.re M L) (b.re M L)∧St.Wf b.σ∧b.pre.length<=s.size:=by
   cases h1 with
   | take g1 g2 g3=>
    have ha:(a.σ.re M L).act=a.σ.act.re M L:=by
     rcases ha2 with h | h | h
     ·exact h
     ·rw [g1] at h;cases h
     ·rw [g1] at h;cases h
    rw [g1] at ha N;refine ⟨j3w.take (a.re M L) ha g2 g3,N _ (z5g _ _),?_⟩;show (a.pre++[_]).length<=s.size;rw [List.length_append,List.length_singleton];omega
   | put y σ' g1 g2 g3=>
    have ha:(a.σ.re M L).act=a.σ.act.re M L:=by
     rcases ha2 with h | h | h
     ·exact h
     ·rw [g1] at h;cases h
     ·rw [g1] at h;cases h
    rw [g1] at ha N;exact ⟨j3w.put (a.re M L) y (σ'.re M L) ha g2 g3,N.1,hl⟩
   | tau σ' g1=>
    have ha:(a.σ.re M L).act=a.σ.act.re M L:=by
     rcases ha2 with h | h | h
     ·exact h
     ·rw [g1] at h;cases h
     ·rw [g1] at h;cases h
    rw [g1] at ha N;exact ⟨j3w.tau (a.re M L) (σ'.re M L) ha,N.1,hl⟩
  obtain ⟨k1,k2,k3⟩:=key;obtain ⟨i1,i2⟩:=ih k2 C1 k3;exact ⟨.step _ _ _ k1 i1,i2⟩
structure EndM(fm:Nat)(s:ByteArray)(m:MG):Prop where
 yes:m.acc=true->(Tr.readAll fm s).mean=(xu6 m.c.outs,0)∧m.c.pre.length=s.size∧m.err=0
 no:m.acc=false->m.err≠0∧((Tr.readAll fm s).mean.2≠0∨16<=m.err∨m.err=5∨m.err=6)
theorem Ends.mean{fm mem lim:Nat}{s:ByteArray}{m:MG}(h:Ends fm mem lim s m)(k:y58 m)(hfm:fm<3)(hm:1<=mem)(hs:s.size<=1000000000):EndM fm s m:=by
 obtain ⟨a,ha,hp⟩:=h.fin;obtain ⟨p,ht⟩:=hp m.q.out (Nat.le_refl _);have W0:=St.begin_wf (mem:=mem) (lim:=lim) hfm;obtain ⟨R,C,hl,W⟩:=v44.re2 (M:=1152921504606846976) (L:=1152921504606846976) (by omega) (by omega) p W0 (Cnt.begin _ _ _) (Nat.zero_le _);obtain ⟨G,T⟩:=zi6.steps R (zi6.begin (fm:=fm) (mem:=1152921504606846976) (lim:=1152921504606846976) hfm (by decide)) (zik.nil s);have hact:=Cnt.act_re2 (M:=1152921504606846976) (L:=1152921504606846976) W C hl (by omega) (by omega);have hou:m.c.outs.length<=m.q.out:=k.ck.ou;have T':zik m.c.pre s:=T;suffices hh:(m.acc=true->(Tr.readAll fm s).mean=(xu6 m.c.outs,0)∧m.c.pre.length=s.size∧m.err=0)∧(m.acc=false->m.err≠0∧((Tr.readAll fm s).mean.2≠0∨16<=m.err∨m.err=5∨m.err=6)) from ⟨hh.1,hh.2⟩
 generalize m.err=er at ht ⊢;cases ht with
 | hungry g1 g2=>
  have hre:(m.c.σ.re 1152921504606846976 1152921504606846976).act= .take:=by
   rcases hact with h | h | h
   ·rw [h,g1];rfl
   ·rw [g1] at h;cases h
   ·rw [g1] at h;cases h
  have hz:s.size=m.c.pre.length:=by omega
  have main:(Tr.readAll fm s).mean=if m.c.σ.st<23 then (⟨#[]⟩,15) else (xu6 m.c.outs,0):=by
   by_cases h0:s.size=0
   ·have hpn:m.c.pre=[]:=List.length_eq_zero_iff.1 (by omega);have h23:m.c.σ.st<23:=(G.fs.act hpn).2.2;rw [kmg h0,if_pos h23]
   ·have O:=G.gi.hungry hre h0 T hz;unfold Tr.readAll;rw [Tr.mean_obs O,if_neg (by decide)];show (if decide (m.c.σ.st<23)=true then _ else (xu6 m.c.outs,0))=_;by_cases h1:m.c.σ.st<23
    ·rw [if_pos (by simpa using h1),if_pos h1]
    ·rw [if_neg (by simpa using h1),if_neg h1]
  by_cases h23:m.c.σ.st<23
  ·have hacc:m.acc=false:=by rw [ha];simp [h23]
   refine ⟨fun h=>(by rw [hacc] at h;cases h),fun _=>?_⟩;rw [main,if_pos h23,if_pos ⟨rfl,h23⟩];exact ⟨by decide,Or.inl (by decide)⟩
  ·have hacc:m.acc=true:=by rw [ha];simp [h23]
   refine ⟨fun _=>?_,fun h=>(by rw [hacc] at h;cases h)⟩;rw [main,if_neg h23];exact ⟨rfl,hz.symm,by rw [if_neg (fun h=>h23 h.2)]⟩
 | steps g1 g2 g3=>
  have hacc:m.acc=false:=ha;exact ⟨fun h=>(by rw [hacc] at h;cases h),fun _=>⟨by decide,Or.inr (Or.inl (by decide))⟩⟩
 | full b σ' g1 g2=>exfalso;omega
 | quota b σ' g1 g2 g3=>
  have hacc:m.acc=false:=ha;refine ⟨fun h=>(by rw [hacc] at h;cases h),fun _=>⟨g3,Or.inr (Or.inl ?_)⟩⟩;unfold vcn at g3 ⊢;split
  ·omega
  ·rename_i h1
   rw [if_neg h1] at g3;split
   ·omega
   ·rename_i h2
    rw [if_neg h2] at g3;split
    ·omega
    ·rename_i h3
     rw [if_neg h3] at g3;exact absurd rfl g3
 | fail _ g1=>
  have hacc:m.acc=false:=ha;refine ⟨fun h=>(by rw [hacc] at h;cases h),fun _=>?_⟩;have hN:=St.next W;rw [g1] at hN;have h4:4<=er∧er<=14:=hN;refine ⟨by omega,?_⟩;rcases hact with h | h | h
  ·left
   have hre:(m.c.σ.re 1152921504606846976 1152921504606846976).act= .fail er:=by rw [h,g1];rfl
   have h0:s.size≠0:=fun h0=>by
    have hpn:m.c.pre=[]:=List.length_eq_zero_iff.1 (by omega);have h9:(m.c.σ.re 1152921504606846976 1152921504606846976).act= .take:=(G.fs.act hpn).1;rw [hre] at h9;cases h9
   have O:=G.gi.fail hre h0 T;unfold Tr.readAll;rw [Tr.mean_obs O.1,if_pos (by omega)];show er≠0;omega
  ·rw [g1] at h;injection h with h;right;right;left;exact h
  ·rw [g1] at h;injection h with h;right;right;right;exact h
theorem zhg(s t:ByteArray)(w:World)(hs:s.size<=1000000000)(ht:t.size<=1000000000) :
  Calls Tryz.prog 23 #[.string s, .string t] w fun e w'=>e= .returned (.bool (decide (s.size<=t.size∧t.extract 0 s.size=s)))∧w'=w:=by
 by_cases hle:s.size<=t.size
 ·have hd1:decide (s.size<=t.size)=true:=by simpa using hle
  have hd2:decide ((s.size:Int)<=t.size)=true:=by simp;omega
  have hli:(s.size:Int)<=t.size:=by omega
  by_cases he:t.extract 0 s.size=s
  ·have HR:Hid (decide (s.size<=t.size∧t.extract 0 s.size=s)=true):=by show _=_;simp [hle,he]
   go_enter Tryz.func23,Tryz.ntmps23
   go_wp2_with fail
   go_ret
   rw [HR.out];exact ⟨by simp [he],rfl⟩
  ·have HR:Hid (decide (s.size<=t.size∧t.extract 0 s.size=s)=false):=by show _=_;simp [he]
   have HE:Hid (¬ t.extract 0 s.size=s):=he;clear he;go_enter Tryz.func23,Tryz.ntmps23
   go_wp2_with fail
   go_ret
   rw [HR.out];exact ⟨by simp;intro h;exact HE.out (ByteArray.ext (Array.ext' (by rw [ByteArray.toList_eq,ByteArray.toList_eq] at h;exact h))),rfl⟩
 ·have hd1:decide (s.size<=t.size)=false:=by simpa using hle
  have hd2:decide ((s.size:Int)<=t.size)=false:=by simp;omega
  have HR:Hid (decide (s.size<=t.size∧t.extract 0 s.size=s)=false):=by show _=_;simp [hle]
  clear hle;go_enter Tryz.func23,Tryz.ntmps23
  go_wp2_with fail
  go_ret
  rw [HR.out];exact ⟨rfl,rfl⟩
theorem xyr(l:List Nat)(k:Nat):(xu6 l).extract 0 k=xu6 (l.take k):=by
 apply ByteArray.ext;rw [ByteArray.data_extract];apply Array.ext';simp [xu6,strOfNums,List.map_take]
structure TwoW(m m':MG):Prop where
 pre:m'.c.pre.length=m.c.pre.length
 outs:m'.c.outs.length=m.c.outs.length
 bg:m'.begun=m.begun
 acc:m'.acc=m.acc
 err:m'.err=m.err
 begins:decide (m.got.size<=m'.got.size∧m'.got.extract 0 m.got.size=m.got)=true∨decide (m'.got.size<=m.got.size∧m.got.extract 0 m'.got.size=m'.got)=true
 sizes:m.got.size<=1000000000∧m'.got.size<=1000000000
 all:m.acc=true->m.got=xu6 m.c.outs∧m'.got=xu6 m.c.outs
theorem ThrE.two{c:Cfg}{s:ByteArray}{m m':MG}(h:ThrE c s m)(h':ThrE c s m')(hc:c.right=true)(hs:s.size<=1000000000):TwoW m m':=by
 obtain ⟨e1,e2,e3⟩:=h.fin.same h'.fin (h.q.trans h'.q.symm);have r:=yur.1 hc;have M:=h.fin.mean h.kept (by omega) (by omega) hs;have g1:=MG.got_size h.kept;have g2:=MG.got_size h'.kept;have k1:=h.kept.dr;have k2:=h'.kept.dr;have o1:=h.kept.ck.ou;have hq:m.q.out=c.out.toNat:=by rw [h.q];rfl
 rw [← e1] at k2;refine ⟨by rw [e1],by rw [e1],by unfold MG.begun;rw [e1],e3.symm,e2.symm,?_,⟨by omega,by omega⟩,fun ha=>?_⟩
 ·rcases Nat.le_total m.drained m'.drained with hl | hl
  ·left
   have e4:m'.got.extract 0 m.got.size=m.got:=by
    rw [g1];unfold MG.got;rw [xyr,List.take_take,← e1,Nat.min_eq_left hl]
   simp [e4];omega
  ·right
   have e4:m.got.extract 0 m'.got.size=m'.got:=by
    rw [g2];unfold MG.got;rw [xyr,List.take_take,← e1,Nat.min_eq_left hl]
   simp [e4];omega
 ·obtain ⟨_,_,z⟩:=M.yes ha;have d1:=(h.ok z).1;have d2:=(h'.ok (by rw [← e2];exact z)).1;unfold MG.got;rw [d1,d2,← e1,List.take_length];exact ⟨rfl,rfl⟩
theorem pieces_any(c:Cfg)(s:ByteArray)(ad:Option Addr)(np cap:Nat)(ad2:Option Addr)(np2 cap2:Nat)(w:World)(hs:s.size<=1000000000)(hp:PassO w ad np)(hp2:PassO w ad2 np2)(hO:OrdP w) :
  Calls Tryz.prog 9 #[c.val, .string s, .slice ad np cap, .slice ad2 np2 cap2] w fun e w'=>e= .returned (.bool true)∧Below w.heap.size w w':=by
 have HP:Hid (PassO w ad np∧PassO w ad2 np2∧OrdP w):=⟨hp,hp2,hO⟩
 have HS:Hid (s.size<=1000000000):=hs;obtain ⟨W0,hW0⟩:∃ W0,W0=w.alloc (.cells #[.int .i64 c.fm, .int .i64 c.out, .int .i64 c.ratio, .int .i64 c.slack, .int .i64 c.mem, .int .i64 c.lim, .int .i64 c.steps] 42):=⟨_,rfl⟩
 have b0:Below w.heap.size w W0:=by rw [hW0];exact (Below.refl _ _).alloc (Nat.le_refl _) _
 have r0:W0.rowIs w.heap.size 42 7 (lrow [.int .i64 c.fm, .int .i64 c.out, .int .i64 c.ratio, .int .i64 c.slack, .int .i64 c.mem, .int .i64 c.lim, .int .i64 c.steps]):=by rw [hW0];exact World.rowIs_alloc w #[.int .i64 c.fm, .int .i64 c.out, .int .i64 c.ratio, .int .i64 c.slack, .int .i64 c.mem, .int .i64 c.lim, .int .i64 c.steps] _ _ (ytu rfl rfl rfl rfl rfl rfl rfl)
 have H0:Hid (Below w.heap.size w W0∧W0.rowIs w.heap.size 42 7 (lrow [.int .i64 c.fm, .int .i64 c.out, .int .i64 c.ratio, .int .i64 c.slack, .int .i64 c.mem, .int .i64 c.lim, .int .i64 c.steps])):=⟨b0,r0⟩
 have HCF:Hid (∀ W:World,Below W0.heap.size W0 W->W.cell? ⟨w.heap.size,0,none⟩=some (.int .i64 c.fm)∧W.cell? ⟨w.heap.size,1,none⟩=some (.int .i64 c.out)∧W.cell? ⟨w.heap.size,2,none⟩=some (.int .i64 c.ratio)∧W.cell? ⟨w.heap.size,3,none⟩=some (.int .i64 c.slack)∧W.cell? ⟨w.heap.size,4,none⟩=some (.int .i64 c.mem)∧W.cell? ⟨w.heap.size,5,none⟩=some (.int .i64 c.lim)∧W.cell? ⟨w.heap.size,6,none⟩=some (.int .i64 c.steps)):=fun W b=>by
  have r:=H0.out.2.of_block (b.block _ H0.out.2.lt);exact ⟨r.cell (i:=0) (by omega),r.cell (i:=1) (by omega),r.cell (i:=2) (by omega),r.cell (i:=3) (by omega),r.cell (i:=4) (by omega),r.cell (i:=5) (by omega),r.cell (i:=6) (by omega)⟩
 have HPS:Hid (∀ W,Below W0.heap.size W0 W->PassO W ad np∧PassO W ad2 np2∧OrdP W∧Below w.heap.size w W):=fun W b=>by
  have b':Below w.heap.size w W:=H0.out.1.trans (b.mono H0.out.1.size);exact ⟨HP.out.1.below b' (Nat.le_refl _),HP.out.2.1.below b' (Nat.le_refl _),HP.out.2.2.below b',b'⟩
 have HL:Hid (∀ W,Calls Tryz.prog 20 #[.agg #[.int .i64 c.fm, .int .i64 c.out, .int .i64 c.ratio, .int .i64 c.slack, .int .i64 c.mem, .int .i64 c.lim, .int .i64 c.steps]] W fun e w'=>e= .returned (.bool c.right)∧Below W.heap.size W w'):=fun W=>ya0 c W
 have HOP:Hid (Calls Tryz.prog 19 #[] W0 fun e w'=>e= .returned (.bool true)∧Below W0.heap.size W0 w'):=j93 W0 (hO.below b0);clear hp hp2 hO b0 r0;unfold Cfg.val;go_enter Tryz.func9,Tryz.ntmps9
 go_upto_region 2 with (go_at_call 19;rw [← hW0];refine HOP.out.mono ?_;rintro e w1 ⟨rfl,b1⟩)
 obtain ⟨d0,d1,d2,d3,d4,d5,d6⟩:=HCF.out w1 b1;have B1:Hid (Below W0.heap.size W0 w1):=b1;clear b1 hW0 HOP;go_upto_region 5 with (go_at_call 20;refine (HL.out w1).mono ?_;rintro e w2 ⟨rfl,b2⟩)
 have B2:Hid (Below W0.heap.size W0 w2):=B1.out.trans (b2.mono B1.out.size);clear d0 d1 d2 d3 d4 d5 d6 b2 B1 HL;obtain ⟨d0,d1,d2,d3,d4,d5,d6⟩:=HCF.out w2 B2.out;cases hr:c.right with
 | false=>
  have HN:Hid (Calls Tryz.prog 21 #[.agg #[.int .i64 c.fm, .int .i64 c.out, .int .i64 c.ratio, .int .i64 c.slack, .int .i64 c.mem, .int .i64 c.lim, .int .i64 c.steps]] w2 fun e w'=>e= .returned (.tuple #[.pointer none, .int .i64 1])∧Below w2.heap.size w2 w'):=zs8 c w2 hr;clear hr;go_wp2_with (go_at_call 21;refine HN.out.mono ?_;rintro e w3 ⟨rfl,b3⟩)
  go_ret
  exact ⟨by simp,H0.out.1.trans ((B2.out.trans (b3.mono B2.out.size)).mono H0.out.1.size)⟩
 | true=>
  have HR:Hid (c.right=true):=hr;have HT1:Hid (Calls Tryz.prog 22 #[.agg #[.int .i64 c.fm, .int .i64 c.out, .int .i64 c.ratio, .int .i64 c.slack, .int .i64 c.mem, .int .i64 c.lim, .int .i64 c.steps], .string s, .slice ad np cap] w2 fun e w'=>(∃ m:MG,e= .returned (.tuple #[.string m.got, .agg #[.int .i64 m.c.pre.length, .int .i64 m.c.outs.length, .int .i64 m.wait, .int .i64 m.begun, .int .i64 ((m.c.pre.length:Int)+m.c.outs.length), .bool m.acc, .int .i64 m.err], .bool true])∧ThrE c s m)∧Below w2.heap.size w2 w'):=vu6 c s ad np cap w2 hr HS.out (HPS.out w2 B2.out).1 (HPS.out w2 B2.out).2.2.1;clear hr;go_upto_region 9 with (go_at_call 22;refine HT1.out.mono ?_;rintro e w3 ⟨⟨m,rfl,T1⟩,b3⟩)
  clear d0 d1 d2 d3 d4 d5 d6 HT1;obtain ⟨W4,hW4⟩:∃ W4,W4=w3.alloc (.cells #[.int .i64 m.c.pre.length, .int .i64 m.c.outs.length, .int .i64 m.wait, .int .i64 m.begun, .int .i64 ((m.c.pre.length:Int)+m.c.outs.length), .bool m.acc, .int .i64 m.err] 50):=⟨_,rfl⟩
  have b4:Below w3.heap.size w3 W4:=by rw [hW4];exact (Below.refl _ _).alloc (Nat.le_refl _) _
  have r4:W4.rowIs w3.heap.size 50 7 (lrow m.cells):=by rw [hW4];exact World.rowIs_alloc w3 #[.int .i64 m.c.pre.length, .int .i64 m.c.outs.length, .int .i64 m.wait, .int .i64 m.begun, .int .i64 ((m.c.pre.length:Int)+m.c.outs.length), .bool m.acc, .int .i64 m.err] _ _ (ytu rfl rfl rfl rfl rfl rfl rfl)
  have HT:Hid (ThrE c s m):=T1;have B4:Hid (Below W0.heap.size W0 W4∧W4.rowIs w3.heap.size 50 7 (lrow m.cells)):=by
   have b':=B2.out.trans (b3.mono B2.out.size);exact ⟨b'.trans (b4.mono b'.size),r4⟩
  obtain ⟨d0,d1,d2,d3,d4,d5,d6⟩:=HCF.out W4 B4.out.1;have HT2:Hid (Calls Tryz.prog 22 #[.agg #[.int .i64 c.fm, .int .i64 c.out, .int .i64 c.ratio, .int .i64 c.slack, .int .i64 c.mem, .int .i64 c.lim, .int .i64 c.steps], .string s, .slice ad2 np2 cap2] W4 fun e w'=>(∃ m':MG,e= .returned (.tuple #[.string m'.got, .agg #[.int .i64 m.c.pre.length, .int .i64 m.c.outs.length, .int .i64 m'.wait, .int .i64 m.begun, .int .i64 ((m.c.pre.length:Int)+m.c.outs.length), .bool m.acc, .int .i64 m.err], .bool true])∧TwoW m m')∧Below W4.heap.size W4 w'):=by
   refine (vu6 c s ad2 np2 cap2 W4 HR.out HS.out (HPS.out W4 B4.out.1).2.1 (HPS.out W4 B4.out.1).2.2.1).mono ?_;rintro e w' ⟨⟨m',rfl,T2⟩,b'⟩;have X:=HT.out.two T2 HR.out HS.out;refine ⟨⟨m',?_,X⟩,b'⟩;unfold MG.stateV;rw [X.pre,X.outs,X.bg,X.acc,X.err]
  rw [← hW4];clear hW4 b4 r4 b3 T1;obtain ⟨g14,hg14⟩:∃ g14,g14=w3.heap.size:=⟨_,rfl⟩
  rw [← hg14] at B4 ⊢;clear hg14;go_upto_region 10 with (go_at_call 22;refine HT2.out.mono ?_;rintro e w5 ⟨⟨m',rfl,X⟩,b5⟩)
  clear d0 d1 d2 d3 d4 d5 d6 HT2;obtain ⟨wt,hwt⟩:∃ wt,wt=m'.wait:=⟨_,rfl⟩
  rw [← hwt];obtain ⟨W6,hW6⟩:∃ W6,W6=w5.alloc (.cells #[.int .i64 m.c.pre.length, .int .i64 m.c.outs.length, .int .i64 wt, .int .i64 m.begun, .int .i64 ((m.c.pre.length:Int)+m.c.outs.length), .bool m.acc, .int .i64 m.err] 50):=⟨_,rfl⟩
  have b6:Below w5.heap.size w5 W6:=by rw [hW6];exact (Below.refl _ _).alloc (Nat.le_refl _) _
  have r6:W6.rowIs w5.heap.size 50 7 (lrow [.int .i64 m.c.pre.length, .int .i64 m.c.outs.length, .int .i64 wt, .int .i64 m.begun, .int .i64 ((m.c.pre.length:Int)+m.c.outs.length), .bool m.acc, .int .i64 m.err]):=by rw [hW6];exact World.rowIs_alloc w5 #[.int .i64 m.c.pre.length, .int .i64 m.c.outs.length, .int .i64 wt, .int .i64 m.begun, .int .i64 ((m.c.pre.length:Int)+m.c.outs.length), .bool m.acc, .int .i64 m.err] _ _ (ytu rfl rfl rfl rfl rfl rfl rfl)
  have B6:Hid (Below W0.heap.size W0 W6∧W6.rowIs g14 50 7 (lrow m.cells)):=by
   have b':=B4.out.1.trans (b5.mono B4.out.1.size);exact ⟨b'.trans (b6.mono b'.size),(B4.out.2.of_block (b5.block _ B4.out.2.lt)).of_block (b6.block _ (Nat.lt_of_lt_of_le B4.out.2.lt b5.size))⟩
  obtain ⟨d0,d1,d2,d3,d4,d5,d6⟩:=HCF.out W6 B6.out.1;obtain ⟨t0,t1,t2,t3,t4,t5,t6⟩:=MG.row_at B6.out.2;have u0:W6.cell? ⟨w5.heap.size,0,none⟩=some (.int .i64 m.c.pre.length):=r6.cell (i:=0) (by omega);have u1:W6.cell? ⟨w5.heap.size,1,none⟩=some (.int .i64 m.c.outs.length):=r6.cell (i:=1) (by omega);have u3:W6.cell? ⟨w5.heap.size,3,none⟩=some (.int .i64 m.begun):=r6.cell (i:=3) (by omega);have u4:W6.cell? ⟨w5.heap.size,4,none⟩=some (.int .i64 ((m.c.pre.length:Int)+m.c.outs.length)):=r6.cell (i:=4) (by omega);have u5:W6.cell? ⟨w5.heap.size,5,none⟩=some (.bool m.acc):=r6.cell (i:=5) (by omega);have u6:W6.cell? ⟨w5.heap.size,6,none⟩=some (.int .i64 m.err):=r6.cell (i:=6) (by omega);have HX:Hid (TwoW m m'):=X;have HB1:Hid (Calls Tryz.prog 23 #[.string m.got, .string m'.got] W6 fun e w'=>e= .returned (.bool (decide (m.got.size<=m'.got.size∧m'.got.extract 0 m.got.size=m.got)))∧w'=W6):=zhg m.got m'.got W6 X.sizes.1 X.sizes.2;have HB2:Hid (Calls Tryz.prog 23 #[.string m'.got, .string m.got] W6 fun e w'=>e= .returned (.bool (decide (m'.got.size<=m.got.size∧m.got.extract 0 m'.got.size=m'.got)))∧w'=W6):=zhg m'.got m.got W6 X.sizes.2 X.sizes.1;have hbg:=X.begins;rw [← hW6];clear hW6 b6 r6 b5 X;obtain ⟨g17,hg17⟩:∃ g17,g17=w5.heap.size:=⟨_,rfl⟩
  rw [← hg17] at u0 u1 u3 u4 u5 u6 ⊢;clear hg17;obtain ⟨y1,hy1⟩:∃ y1,y1=decide (m.got.size<=m'.got.size∧m'.got.extract 0 m.got.size=m.got):=⟨_,rfl⟩
  obtain ⟨y2,hy2⟩:∃ y2,y2=decide (m'.got.size<=m.got.size∧m.got.extract 0 m'.got.size=m'.got):=⟨_,rfl⟩
  rw [← hy1] at HB1 hbg;rw [← hy2] at HB2 hbg;have HY1:Hid (y1=decide (m.got.size<=m'.got.size∧m'.got.extract 0 m.got.size=m.got)):=hy1;have HLT:Hid (g14<W6.heap.size):=B6.out.2.lt;clear hy1 hy2;have HEM:Hid (EndM c.fm.toNat s m):=HT.out.fin.mean HT.out.kept (by have:=yur.1 HR.out;omega) (by have:=yur.1 HR.out;omega) HS.out;have HMN:Hid (Calls Tryz.prog 24 #[.int .i64 c.fm, .string s] W6 fun x w'=>vht W6 (Tr.readAll c.fm.toNat s).mean x w'):=by
   have e1:=(vh2 HR.out).1;have:=zpf c.fm.toNat s W6 (by have:=yur.1 HR.out;omega) HS.out (HPS.out W6 B6.out.1).2.2.1;rw [← e1] at this;exact this
  obtain ⟨mt,me,hme⟩:∃ mt me,(Tr.readAll c.fm.toNat s).mean=(mt,me):=⟨_,_,rfl⟩
  have HME:Hid ((Tr.readAll c.fm.toNat s).mean=(mt,me)):=hme;rw [hme] at HMN;clear hme;have HSZ:Hid (m.c.pre.length<=1000000∧m.c.outs.length<=1000000):=by
   have h1:=HT.out.kept.ck.st;have h2:m.q.steps=c.steps.toNat:=by rw [HT.out.q];rfl
   have h3:=yur.1 HR.out;exact ⟨by omega,by omega⟩
  have h3:(y1=true)∨(y1=false∧y2=true):=by
   cases y1 with
   | true=>exact Or.inl rfl
   | false=>right;exact ⟨rfl,by rcases hbg with h | h;cases h;exact h⟩
  clear hbg;cases hac:m.acc with
  | true=>
   obtain ⟨z1,z2,z3⟩:=HEM.out.yes hac;obtain ⟨v1,v2⟩:=HX.out.all hac;rw [HME.out] at z1;injection z1 with z1 z4
   have hy:y1=true:=by
    rw [HY1.out,v1,v2];simp
   clear h3 HY1;rw [v1,v2,← z1] at HB1 HB2;rw [v1,v2,← z1];have hsz:(m.c.outs.length:Int)=mt.size:=by
    have h5:=MG.got_size HT.out.kept;have h6:=(HT.out.ok z3).1;rw [v1,← z1] at h5;omega
   have hln:(m.c.pre.length:Int)=s.size:=by omega
   subst z4;subst hy;rw [hac] at t5 u5;rw [hsz] at t1 u1;rw [hln] at t0 u0;rw [hsz,hln] at t4 u4;clear hac z1 z2 z3 v1 v2 hsz hln HX HEM HME;go_wp2_with (first
    | (go_at_call 23;refine HB1.out.mono ?_;rintro e w7 ⟨rfl,rfl⟩)
    | (go_at_call 24;refine HMN.out.mono ?_;rintro e w8 ⟨rfl,b8⟩;have x0:=(b8.cell (p:=⟨g14,0,none⟩) HLT.out).trans t0;have x1:=(b8.cell (p:=⟨g14,1,none⟩) HLT.out).trans t1;have x5:=(b8.cell (p:=⟨g14,5,none⟩) HLT.out).trans t5;have x6:=(b8.cell (p:=⟨g14,6,none⟩) HLT.out).trans t6;have HB8:Hid (Below w.heap.size w w8):=(HPS.out w8 (B6.out.1.trans (b8.mono B6.out.1.size))).2.2.2;clear b8))
   go_ret
   exact ⟨by simp,HB8.out⟩
  | false=>
   obtain ⟨z1,z2⟩:=HEM.out.no hac;rw [HME.out] at z2;have hz2:me≠0∨16<=m.err∨m.err=5∨m.err=6:=z2;rw [hac] at t5 u5;clear HX HEM HME HY1 hac z2;generalize m.err=er at *;generalize m.got=ga at HB1 HB2 ⊢;generalize m'.got=gb at HB1 HB2 ⊢;have q0:((er:Int) !=0)=true:=by simp;omega
   have hcase:(((me:Int) !=0)=true)∨(((me:Int) !=0)=false∧decide (16<=er)=true∧decide ((16:Int)<=er)=true)∨(((me:Int) !=0)=false∧decide (16<=er)=false∧decide ((16:Int)<=er)=false∧((er:Int)==5)=true)∨(((me:Int) !=0)=false∧decide (16<=er)=false∧decide ((16:Int)<=er)=false∧((er:Int)==5)=false∧((er:Int)==6)=true):=by
    simp;omega
   clear z1 hz2;rcases h3 with rfl | ⟨rfl,rfl⟩ <;> rcases hcase with q1 | ⟨q1,q2,q3⟩ | ⟨q1,q2,q3,q4⟩ | ⟨q1,q2,q3,q4,q5⟩
   all_goals
    go_wp2_with (first
     | (have hgu:=HB1.out;go_at_call 23;refine hgu.mono ?_;rintro e w7 ⟨rfl,rfl⟩;clear hgu HB1)
     | (go_at_call 23;refine HB2.out.mono ?_;rintro e w7 ⟨rfl,rfl⟩)
     | (go_at_call 24;refine HMN.out.mono ?_;rintro e w8 ⟨rfl,b8⟩;have x5:=(b8.cell (p:=⟨g14,5,none⟩) HLT.out).trans t5;have x6:=(b8.cell (p:=⟨g14,6,none⟩) HLT.out).trans t6;have HB8:Hid (Below w.heap.size w w8):=(HPS.out w8 (B6.out.1.trans (b8.mono B6.out.1.size))).2.2.2;clear b8))
    go_ret
    exact ⟨by simp,HB8.out⟩
end Go.Proofs.YtbcjmakpempkiaaGreatDoor
