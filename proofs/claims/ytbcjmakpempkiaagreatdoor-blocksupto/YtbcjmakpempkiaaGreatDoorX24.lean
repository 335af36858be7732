import Derived.Laws.OwnMore
import Derived.Test.YtbcjmakpempkiaaGreatDoorX23
set_option maxRecDepth 100000
set_option maxHeartbeats 8000000
set_option linter.all false
namespace Go.Proofs.YtbcjmakpempkiaaGreatDoor
open Go.RowKit
def mine(k:Nat):Prop:=k≠0∧k≠9
def Ext(B:Nat)(ρ ρ':Nat->Nat):Prop:=∀ k,k<B->ρ' k=ρ k
theorem Ext.refl(B:Nat)(ρ:Nat->Nat):Ext B ρ ρ:=fun _ _=>rfl
theorem Ext.trans{B B':Nat}{a b c:Nat->Nat}(h:Ext B a b)(k:Ext B' b c)(hB:B<=B'):Ext B a c:=fun i hi=>(k i (by omega)).trans (h i hi)
theorem Fr.five_mine{ρ:Nat->Nat}{w w':World}(h:Fr (fun k=>1<=k∧k<=5) ρ w w'):Fr mine ρ w w':=h.mono (fun k hk=>⟨by omega,by omega⟩)
theorem Fr.ext{ρ ρ':Nat->Nat}{a b c:World}(h:Fr mine ρ a b)(k:Fr mine ρ' b c)(e:Ext a.heap.size ρ ρ'):Fr mine ρ a c:=⟨⟨Nat.le_trans h.kp.size k.kp.size,fun i hi hr=>by
  rw [k.kp.block i (Nat.lt_of_lt_of_le hi h.kp.size) (by rw [e i hi];exact hr)];exact h.kp.block i hi hr⟩,k.os.trans h.os,k.tape.trans h.tape,k.output.trans h.output⟩
structure ym0(ρ:Nat->Nat)(w:World)(p:Nat)(y:MS)(w':World):Prop where
 ex:∃ ρ',Ext w.heap.size ρ ρ'∧MM ρ' w' p y
 fr:Fr mine ρ w w'
def xxu(ρ:Nat->Nat)(w:World)(p:Nat)(r:MS×Nat)(e:Ending)(w':World):Prop:=e= .returned (.int .i64 r.2)∧ym0 ρ w p r.1 w'
theorem y0y.x{ρ:Nat->Nat}{w:World}{p:Nat}{r:MS×Nat}{e:Ending}{w':World}(h:y0y ρ w p r e w'):xxu ρ w p r e w':=⟨h.1,⟨ρ,Ext.refl _ _,h.2.1⟩,h.2.2.five_mine⟩
theorem ym0.refl{ρ:Nat->Nat}{w:World}{p:Nat}{y:MS}(h:MM ρ w p y):ym0 ρ w p y w:=⟨⟨ρ,Ext.refl _ _,h⟩,Fr.refl _ _ _⟩
theorem ym0.next{ρ ρ':Nat->Nat}{w w1 w2:World}{p:Nat}{z:MS}(e:Ext w.heap.size ρ ρ')(f:Fr mine ρ w w1)(h:ym0 ρ' w1 p z w2):ym0 ρ w p z w2:=by
 obtain ⟨ρ'',e2,m⟩:=h.ex;exact ⟨⟨ρ'',e.trans e2 f.kp.size,m⟩,f.ext h.fr e⟩
theorem TabS.rho{ρ ρ':Nat->Nat}{w:World}{T:TypeId}{k:Nat}{mean:Nat->List Value}{t:Nat}{l:List Int}(h:TabS ρ w T k mean t l)(e:∀ k,ρ k≠0->ρ' k=ρ k):TabS ρ' w T k mean t l:=by
 obtain ⟨m,n,mg,I,h1,h2,h3⟩:=h.tab;exact ⟨⟨m,n,mg,I,h1,h2,by rw [e m (by rw [h3];decide)];exact h3⟩,by rw [e t (by rw [h.role];decide)];exact h.role,h.rng,h.len⟩
theorem yoe.rho{ρ ρ':Nat->Nat}{w:World}{g:Nat}{la lb:List Int}(h:yoe ρ w g la lb)(e:∀ k,ρ k≠0->ρ' k=ρ k):yoe ρ' w g la lb:=by
 obtain ⟨t,u,h1,h2,h3,h4⟩:=h;exact ⟨t,u,h1,by rw [e g (by rw [h2];decide)];exact h2,h3.rho e,h4.rho e⟩
theorem MT.rho{ρ ρ':Nat->Nat}{w:World}{x:MS}{L:Lo}(T:MT ρ w x L)(e:∀ k,ρ k≠0->ρ' k=ρ k)(l:∀ k,ρ' k≠0->k<w.heap.size):MT ρ' w x L where
 sup:=by
  obtain ⟨ad,P,cap,h1,h2,h3,h4,h5,h6,h7,h8⟩:=T.sup.at_;exact ⟨ad,P,cap,h1,h2,h3,h4,h5,h6,h7,fun b o hb=>by rw [e b (by rw [h8 b o hb];decide)];exact h8 b o hb⟩
 hl:=⟨T.hl.1,fun g hg=>by rw [e g (by rw [T.hl.2 g hg];decide)];exact T.hl.2 g hg⟩
 rw:=⟨T.rw.1,fun g hg=>by rw [e g (by rw [T.rw.2 g hg];decide)];exact T.rw.2 g hg⟩
 hp:=T.hp.imp id fun ⟨t,a,b⟩=>⟨t,a,b.rho e⟩
 sets:=T.sets.imp id fun ⟨t,a,b⟩=>⟨t,a,b.rho e⟩
 fx:=T.fx.imp id fun ⟨t,a,b⟩=>⟨t,a,b.rho e⟩
 lt:=l
theorem MB.rho{ρ ρ':Nat->Nat}{w:World}{p:Nat}{x:MS}{L:Lo}(B:MB ρ w p x L)(e:∀ k,ρ k≠0->ρ' k=ρ k):MB ρ' w p x L:=by
 obtain ⟨r1,r2,r3,r4⟩:=B.rl;exact ⟨B.row,B.ra,B.rc,by rw [e p (by rw [B.rp];decide)];exact B.rp,by rw [e _ (by rw [r1];decide)];exact r1,by rw [e _ (by rw [r2];decide)];exact r2,by rw [e _ (by rw [r3];decide)];exact r3,by rw [e _ (by rw [r4];decide)];exact r4⟩
def give(ρ:Nat->Nat)(g r:Nat):Nat->Nat:=fun k=>if k=g then r else ρ k
theorem v07(ρ:Nat->Nat)(g r:Nat):give ρ g r g=r:=if_pos rfl
theorem z5c{ρ:Nat->Nat}{g r:Nat}(h:ρ g=0∨ρ g=r)(k:Nat)(hk:ρ k≠0):give ρ g r k=ρ k:=by
 unfold give;by_cases e:k=g
 ·subst e;rw [if_pos rfl];rcases h with h | h
  ·exact absurd h hk
  ·exact h.symm
 ·rw [if_neg e]
theorem jpj{ρ:Nat->Nat}{w w1:World}{p:Nat}{x:MS}{L:Lo}{g cap:Nat}{a:Int}{o:Obj}(B:MB ρ w p x L)(T:MT ρ w x L)
  (hown:w1.ownsRow 0 3 1 (.slice (some ⟨g,0,none⟩) (x.row.length+1) cap) (x.row.length+1) (k2f x.row++[.int .i64 a])) (hg:(w.alloc o).grownBy w1 L.rv.ownBlock) (hat:L.rv.ownBlock=some g∨g=w.heap.size+1) (hlt:g<w1.heap.size) :
  MM (give ρ g 7) (w1.setCell ⟨p,35,none⟩ (.slice (some ⟨g,0,none⟩) (x.row.length+1) cap)) p { x with row:=x.row++[a] }∧Ext w.heap.size ρ (give ρ g 7)∧Fr mine ρ w (w1.setCell ⟨p,35,none⟩ (.slice (some ⟨g,0,none⟩) (x.row.length+1) cap)):=by
 have hgr:ρ g=0∨ρ g=7:=by
  rcases hat with h | h
  ·exact Or.inr (T.rw.2 g h)
  ·left
   apply Classical.byContradiction;intro hn;have:=T.lt g hn;omega
 have kp:Kp (fun r=>r=7) ρ w w1:=⟨by have:=hg.size;simp at this;omega,fun k hk hr=>by
  rw [hg.block k (by simp;omega) (fun e=>hr (T.rw.2 k e.symm))];exact Go.heap_alloc_old _ _ hk⟩
 have keep:=z5c (ρ:=ρ) (g:=g) (r:=7) hgr;obtain ⟨o1,f1,k1⟩:=B.ra;obtain ⟨o2,f2,k2⟩:=B.rc;obtain ⟨r1,r2,r3,r4⟩:=B.rl;have B1:MB ρ w1 p x L:=⟨zlz B.row kp (by rw [B.rp];decide),⟨o1,f1,k1.kp kp (by rw [r1];decide) (by rw [r2];decide)⟩,⟨o2,f2,k2.kp kp (by rw [r3];decide) (by rw [r4];decide)⟩,B.rp,B.rl⟩
 have hpg:p≠g:=by
  rcases hgr with h | h
  ·exact x1n B.rp h (by decide)
  ·exact x1n B.rp h (by decide)
 have ext:Ext w.heap.size ρ (give ρ g 7):=fun k hk=>by
  unfold give;by_cases e:k=g
  ·subst e;rw [if_pos rfl];rcases hat with h | h
   ·exact (T.rw.2 k h).symm
   ·omega
  ·rw [if_neg e]
 refine ⟨⟨{ L with rv:= .slice (some ⟨g,0,none⟩) (x.row.length+1) cap },(B1.rho keep).set 35 _ rfl ⟨rfl,rfl,rfl,rfl⟩ ⟨rfl,rfl⟩,?_⟩,ext,?_⟩
 ·have keep2:MT (give ρ g 7) w1 { x with row:=x.row++[a] } { L with rv:= .slice (some ⟨g,0,none⟩) (x.row.length+1) cap }:=by
   have T':MT ρ w1 { x with row:=[] } { L with rv:= .slice none 0 0 }:=⟨T.sup.fr kp (by decide),⟨kcz T.hl.1 kp (fun b hb e=>by rw [T.hl.2 b hb] at e;cases e),T.hl.2⟩,⟨OI.nil _ _,fun b hb=>by cases hb⟩,T.hp.imp id fun ⟨t,a,b⟩=>⟨t,a,b.fr kp (by decide)⟩,T.sets.imp id fun ⟨t,a,b⟩=>⟨t,a,b.fr kp (by decide)⟩,T.fx.imp id fun ⟨t,a,b⟩=>⟨t,a,b.fr kp (by decide)⟩,fun k hk=>Nat.lt_of_lt_of_le (T.lt k hk) kp.size⟩
   have T2:=T'.rho keep (fun k hk=>by
    unfold give at hk;by_cases e:k=g
    ·subst e;exact hlt
    ·rw [if_neg e] at hk;exact T'.lt k hk)
   refine ⟨T2.sup,T2.hl,⟨?_,fun b hb=>?_⟩,T2.hp,T2.sets,T2.fx,T2.lt⟩
   ·show w1.ownsRow 0 3 1 (.slice (some ⟨g,0,none⟩) (x.row.length+1) cap) (x.row++[a]).length (k2f (x.row++[a]));have e1:(x.row++[a]).length=x.row.length+1:=by simp
    have e2:k2f (x.row++[a])=k2f x.row++[.int .i64 a]:=by unfold k2f;simp
    rw [e1,e2];exact hown
   ·have:b=g:=by have h:some g=some b:=hb;injection h with h;exact h.symm
    rw [this];exact v07 _ _ _
  exact keep2.fr (R:=fun r=>r=1) (Kp.of_set w1 _ _ (by show give ρ g 7 p=1;unfold give;rw [if_neg hpg];exact B.rp)) (fun r e=>by omega)
 ·have f1:Fr mine ρ w w1:=⟨kp.mono (fun r e=>⟨by omega,by omega⟩),by rw [hg.os];rfl,by rw [hg.tape];rfl,by rw [hg.output];rfl⟩
  exact f1.trans (Fr.set _ p 35 _ (by rw [B.rp];exact ⟨by decide,by decide⟩))
theorem MM.own{ρ:Nat->Nat}{w:World}{p:Nat}{x:MS}(h:MM ρ w p x):w.cell? ⟨p,26,none⟩=some (.int .i64 x.nl)∧w.cell? ⟨p,27,none⟩=some (.int .i64 x.nd)∧w.cell? ⟨p,28,none⟩=some (.int .i64 x.told)∧w.cell? ⟨p,31,none⟩=some (.int .i64 x.hlen)∧w.cell? ⟨p,32,none⟩=some (.bool x.hbef)∧w.cell? ⟨p,33,none⟩=some (.int .i64 x.hleast)∧w.cell? ⟨p,34,none⟩=some (.int .i64 x.hbits)∧(∃ ad cap,w.cell? ⟨p,35,none⟩=some (.slice ad x.row.length cap)∧xin w ad x.row)∧w.frozen? ⟨p,35,none⟩=false:=by
 obtain ⟨L,B,T⟩:=h;obtain ⟨ad,cap,e,hc⟩:=T.rw.1.cells;exact ⟨B.row.cell (i:=26) (by omega),B.row.cell (i:=27) (by omega),B.row.cell (i:=28) (by omega),B.row.cell (i:=31) (by omega),B.row.cell (i:=32) (by omega),B.row.cell (i:=33) (by omega),B.row.cell (i:=34) (by omega),⟨ad,cap,by rw [← e];exact B.row.cell (i:=35) (by omega),hc⟩,B.row.frozen 35⟩
theorem ksc{ρ:Nat->Nat}{w:World}{p:Nat}{x:MS}(h:MM ρ w p x)(h1:x.nl<=1000000)(h2:x.nd<=1000000)(h3:x.row.length<=1000000) :
  Calls Tryz.prog 143 #[.pointer (some ⟨p,26,none⟩)] w fun v w'=>v= .returned (.bool (decide (x.row.length=x.nl+x.nd)))∧∃ n,w'=w.drewN n:=by
 obtain ⟨c26,c27,_,_,_,_,_,⟨ad,cap,c35,_⟩,_⟩:=h.own;clear h;go_enter Tryz.func143,Tryz.ntmps143
 go_wp2_with fail
 go_quiet (fail)
 go_wp2_with fail
 go_ret
 refine ⟨?_,_,rfl⟩;by_cases e:x.row.length=x.nl+x.nd
 ·simp [e]
 ·simp [e];omega
theorem xr0(l:List Int)(a:Int)(k:Nat):l++List.replicate (k+1) a=(l++List.replicate k a)++[a]:=by
 rw [List.replicate_succ',List.append_assoc]
def ExtE(ρ:Nat->Nat)(w:World)(p:Nat)(x:MS)(times:Nat)(e:Ending)(w':World):Prop:=
 if (x.hbef=true∧x.row.length=0)∨x.nl+x.nd<x.row.length+times then e= .returned (.bool false)∧ym0 ρ w p x w'
 else e= .returned (.bool true)∧ym0 ρ w p { x with row:=x.row++List.replicate times x.rowLen } w'
theorem juf{ρ:Nat->Nat}{w:World}{p:Nat}{x:MS}(times:Nat)(h:MM ρ w p x)(h1:x.nl<=1000)(h2:x.nd<=1000)(h3:x.row.length<=2000)(ht:times<=1000)(hh:x.hlen<=1000) :
  Calls Tryz.prog 142 #[.pointer (some ⟨p,26,none⟩), .int .i64 times] w fun v w'=>ExtE ρ w p x times v w':=by
 have HM:Hid (MM ρ w p x):=h;obtain ⟨c26,c27,_,c31,c32,_,_,⟨ad,cap,c35,HCO⟩,z35⟩:=h.own;have HC:Hid (xin w ad x.row):=HCO;obtain ⟨i3,hi3,hy0,hy1,hy2⟩:=info_parts ve2;clear h HCO;go_enter Tryz.func142,Tryz.ntmps142
 cases hb:x.hbef with
 | false=>
  rw [hb] at c32;have HBF:Hid (x.hbef=false):=hb;clear hb;by_cases hs:x.nl+x.nd<x.row.length+times
  ·have hsi:(x.nl:Int)+x.nd<x.row.length+times:=by omega
   have HF:Hid ((x.hbef=true∧x.row.length=0)∨x.nl+x.nd<x.row.length+times):=Or.inr hs;clear hs;go_wp2_with fail
   go_quiet (fail)
   go_wp2_with fail
   go_ret
   unfold ExtE;rw [if_pos HF.out];exact ⟨rfl,⟨ρ,Ext.refl _ _,HM.out.fr ⟨Nat.le_refl _,fun _ _ _=>rfl⟩⟩,⟨⟨Nat.le_refl _,fun _ _ _=>rfl⟩,rfl,rfl,rfl⟩⟩
  ·have hsi:¬ (x.nl:Int)+x.nd<x.row.length+times:=by omega
   have HF:Hid (¬ ((x.hbef=true∧x.row.length=0)∨x.nl+x.nd<x.row.length+times)):=by
    intro hq;rcases hq with hq | hq
    ·exact by have:=hq.1;rw [HBF.out] at this;cases this
    ·exact hs hq
   clear hs;go_wp2_with fail
   go_quiet (fail)
   go_wp2_with fail
   have H0:Hid (∀ w',w'.heap=w.heap->w'.os=w.os->w'.tape=w.tape->w'.output=w.output->ym0 ρ w p { x with row:=x.row++List.replicate 0 ((x.hlen:Int)) } w'):=by
    have e:({ x with row:=x.row++List.replicate 0 ((x.hlen:Int)) }:MS)=x:=by simp
    rw [e];exact fun w' h1 h2 h3 h4=>⟨⟨ρ,Ext.refl _ _,HM.out.fr ⟨by rw [h1];exact Nat.le_refl _,fun _ _ _=>by rw [h1]⟩⟩,⟨⟨by rw [h1];exact Nat.le_refl _,fun _ _ _=>by rw [h1]⟩,h2,h3,h4⟩⟩
   clear c26 c27 c31 c32 c35 HC z35;generalize decide (x.nl+x.nd<x.row.length+times)=dd;go_loopw [52] (fun i wr=>∃ k:Nat,k<=times∧i= .int .i64 k∧Hid (ym0 ρ w p { x with row:=x.row++List.replicate k ((x.hlen:Int)) } wr)) (fun i _=>times - (intOf i).toNat)
   case atStart=>exact ⟨0,Nat.zero_le _,rfl,H0.out _ rfl rfl rfl rfl⟩
   case round=>
    clear H0;obtain ⟨k,hk,rfl,HH⟩:=hrel;by_cases hlt:k<times
    ·obtain ⟨ρ',ex,L,B,T⟩:=HH.out.ex;have hown:=T.rw.1;have hrl:(x.row++List.replicate k ((x.hlen:Int))).length=x.row.length+k:=by simp
     obtain ⟨ad2,cap2,hv2,_⟩:=T.rw.1.cells;have d35:wr.cell? ⟨p,35,none⟩=some L.rv:=B.row.cell (i:=35) (by omega);have y35:=B.row.frozen 35;have hpl:=B.row.lt;have HB:Hid (MB ρ' wr p { x with row:=x.row++List.replicate k ((x.hlen:Int)) } L∧MT ρ' wr { x with row:=x.row++List.replicate k ((x.hlen:Int)) } L∧Ext w.heap.size ρ ρ'∧Fr mine ρ w wr):=⟨B,T,ex,HH.out.fr⟩
     have hown':wr.ownsRow 0 3 1 L.rv (x.row.length+k) (k2f (x.row++List.replicate k ((x.hlen:Int)))):=by
      have:=hown;unfold OI at this;rw [show ({ x with row:=x.row++List.replicate k ((x.hlen:Int)) }:MS).row.length=x.row.length+k from hrl] at this;exact this
     have hpo:L.rv.ownBlock≠some p:=fun e=>by
      have a1:=T.rw.2 p e;have a2:=B.rp;omega
     obtain ⟨lv,hlv⟩:∃ lv,lv=L.rv:=⟨_,rfl⟩
     rw [← hlv] at d35 hown' hpo;have HLV:Hid (lv=L.rv):=hlv;clear hown hlv hv2 B T ex;go_wp2_with (at_builtin;refine wpList_append_lies _ rfl _ _ 69 rfl 0 3 i3 (.int .i64 0) 1 8 Tryz.underlying69 hi3 hy0 hy1 hy2 rfl (by decide) _ (x.row.length+k) (k2f (x.row++List.replicate k ((x.hlen:Int)))) rfl (hown'.alloc _) ⟨wr.heap.size,0,none⟩ 1 1 [.int .i64 ((x.hlen:Int))] rfl rfl (cell_one_new _ _ _) (by simp [Value.oneCell']) (by omega) (by unfold maxLen;omega) (by omega) (Nat.zero_le _) (wr.heap.size+1) (by simp) ?_;intro g2 p2 w5 hown2 hgrow2 hat2 hlt2;have d35':=x7a (a:=⟨p,35,none⟩) hgrow2 hpl hpo d35;have y35':=jk1 (a:=⟨p,35,none⟩) hgrow2 hpl hpo y35)
     have HG:Hid (ym0 ρ w p { x with row:=x.row++List.replicate (k+1) ((x.hlen:Int)) } (w5.setCell ⟨p,35,none⟩ (.slice (some ⟨g2,0,none⟩) (x.row.length+k+1) p2))):=by
      have hl2:({ x with row:=x.row++List.replicate k ((x.hlen:Int)) }:MS).row.length=x.row.length+k:=hrl;have G:=jpj (g:=g2) (cap:=p2) (a:=(x.hlen:Int)) HB.out.1 HB.out.2.1 (by rw [hl2];exact hown2) (by rw [← HLV.out];exact hgrow2) (by rw [← HLV.out];exact hat2) hlt2;rw [hl2] at G;have e:({ ({ x with row:=x.row++List.replicate k ((x.hlen:Int)) }:MS) with row:=({ x with row:=x.row++List.replicate k ((x.hlen:Int)) }:MS).row++[(x.hlen:Int)] }:MS)={ x with row:=x.row++List.replicate (k+1) ((x.hlen:Int)) }:=by rw [xr0]
      rw [e] at G;exact ⟨⟨_,HB.out.2.2.1.trans G.2.1 HB.out.2.2.2.kp.size,G.1⟩,HB.out.2.2.2.ext G.2.2 HB.out.2.2.1⟩
     clear hown2 hgrow2 hat2 hlt2 d35' y35';go_roundw
     case rel=>exact ⟨k+1,by omega,by go_num,HG⟩
     case measure=>simp [intOf];omega
    ·obtain rfl:k=times:=by omega
     go_wp2_with fail
     go_ret
     unfold ExtE;rw [if_neg HF.out];have e:x.rowLen=(x.hlen:Int):=by unfold MS.rowLen;rw [HBF.out];rfl
     rw [e];exact ⟨rfl,HH.out⟩
 | true=>
  rw [hb] at c32;have HBF:Hid (x.hbef=true):=hb;clear hb;by_cases hz:x.row.length=0
  ·have hzd:((x.row.length:Int)==0)=true:=by simp [hz]
   have HF:Hid ((x.hbef=true∧x.row.length=0)∨x.nl+x.nd<x.row.length+times):=Or.inl ⟨HBF.out,hz⟩;clear hz;go_wp2_with fail
   go_ret
   unfold ExtE;rw [if_pos HF.out];exact ⟨rfl,ym0.refl HM.out⟩
  ·have hzd:((x.row.length:Int)==0)=false:=beq_eq_false_iff_ne.2 (by omega);obtain ⟨q,hq⟩:∃ q,q=x.row.length - 1:=⟨_,rfl⟩
   have hlq:q<x.row.length:=by omega
   obtain ⟨b,o,rfl,hbl,hcell⟩:=HC.out q hlq;have hqi:IntKind.i64.wrap ((x.row.length:Int) - 1)=(q:Int):=by rw [IntWalk.i64_left,IntWalk.wrap64_in _ ⟨by omega,by omega⟩];omega
   have hqi2:(x.row.length:Int) - 1=(q:Int):=by omega
   have hql:(q:Int)<x.row.length:=by omega
   have HQ:Hid (q=x.row.length - 1):=hq;have HVV:Hid (x.row.getD (x.row.length - 1) 0=x.row.getD q 0):=by show _=_;rw [← hq]
   clear hq;obtain ⟨vv,hvv⟩:∃ vv,vv=x.row.getD q 0:=⟨_,rfl⟩
   rw [← hvv] at hcell HVV;clear hvv;go_wp2_with fail
   go_quiet (fail)
   go_wp2_with fail
   by_cases hs:x.nl+x.nd<x.row.length+times
   ·have hsi:(x.nl:Int)+x.nd<x.row.length+times:=by omega
    have HF:Hid ((x.hbef=true∧x.row.length=0)∨x.nl+x.nd<x.row.length+times):=Or.inr hs;clear hs;go_wp2_with fail
    go_quiet (fail)
    go_wp2_with fail
    go_ret
    unfold ExtE;rw [if_pos HF.out];exact ⟨rfl,⟨ρ,Ext.refl _ _,HM.out.fr ⟨Nat.le_refl _,fun _ _ _=>rfl⟩⟩,⟨⟨Nat.le_refl _,fun _ _ _=>rfl⟩,rfl,rfl,rfl⟩⟩
   ·have hsi:¬ (x.nl:Int)+x.nd<x.row.length+times:=by omega
    have HF:Hid (¬ ((x.hbef=true∧x.row.length=0)∨x.nl+x.nd<x.row.length+times)):=by
     intro hq;rcases hq with hq | hq
     ·exact hz hq.2
     ·exact hs hq
    clear hs;go_wp2_with fail
    go_quiet (fail)
    go_wp2_with fail
    have H0:Hid (∀ w',w'.heap=w.heap->w'.os=w.os->w'.tape=w.tape->w'.output=w.output->ym0 ρ w p { x with row:=x.row++List.replicate 0 (vv) } w'):=by
     have e:({ x with row:=x.row++List.replicate 0 (vv) }:MS)=x:=by simp
     rw [e];exact fun w' h1 h2 h3 h4=>⟨⟨ρ,Ext.refl _ _,HM.out.fr ⟨by rw [h1];exact Nat.le_refl _,fun _ _ _=>by rw [h1]⟩⟩,⟨⟨by rw [h1];exact Nat.le_refl _,fun _ _ _=>by rw [h1]⟩,h2,h3,h4⟩⟩
    clear c26 c27 c31 c32 c35 HC z35;generalize decide (x.nl+x.nd<x.row.length+times)=dd;go_loopw [52] (fun i wr=>∃ k:Nat,k<=times∧i= .int .i64 k∧Hid (ym0 ρ w p { x with row:=x.row++List.replicate k (vv) } wr)) (fun i _=>times - (intOf i).toNat)
    case atStart=>exact ⟨0,Nat.zero_le _,rfl,H0.out _ rfl rfl rfl rfl⟩
    case round=>
     clear H0;obtain ⟨k,hk,rfl,HH⟩:=hrel;by_cases hlt:k<times
     ·obtain ⟨ρ',ex,L,B,T⟩:=HH.out.ex;have hown:=T.rw.1;have hrl:(x.row++List.replicate k (vv)).length=x.row.length+k:=by simp
      obtain ⟨ad2,cap2,hv2,_⟩:=T.rw.1.cells;have d35:wr.cell? ⟨p,35,none⟩=some L.rv:=B.row.cell (i:=35) (by omega);have y35:=B.row.frozen 35;have hpl:=B.row.lt;have HB:Hid (MB ρ' wr p { x with row:=x.row++List.replicate k (vv) } L∧MT ρ' wr { x with row:=x.row++List.replicate k (vv) } L∧Ext w.heap.size ρ ρ'∧Fr mine ρ w wr):=⟨B,T,ex,HH.out.fr⟩
      have hown':wr.ownsRow 0 3 1 L.rv (x.row.length+k) (k2f (x.row++List.replicate k (vv))):=by
       have:=hown;unfold OI at this;rw [show ({ x with row:=x.row++List.replicate k (vv) }:MS).row.length=x.row.length+k from hrl] at this;exact this
      have hpo:L.rv.ownBlock≠some p:=fun e=>by
       have a1:=T.rw.2 p e;have a2:=B.rp;omega
      obtain ⟨lv,hlv⟩:∃ lv,lv=L.rv:=⟨_,rfl⟩
      rw [← hlv] at d35 hown' hpo;have HLV:Hid (lv=L.rv):=hlv;clear hown hlv hv2 B T ex;go_wp2_with (at_builtin;refine wpList_append_lies _ rfl _ _ 69 rfl 0 3 i3 (.int .i64 0) 1 8 Tryz.underlying69 hi3 hy0 hy1 hy2 rfl (by decide) _ (x.row.length+k) (k2f (x.row++List.replicate k (vv))) rfl (hown'.alloc _) ⟨wr.heap.size,0,none⟩ 1 1 [.int .i64 (vv)] rfl rfl (cell_one_new _ _ _) (by simp [Value.oneCell']) (by omega) (by unfold maxLen;omega) (by omega) (Nat.zero_le _) (wr.heap.size+1) (by simp) ?_;intro g2 p2 w5 hown2 hgrow2 hat2 hlt2;have d35':=x7a (a:=⟨p,35,none⟩) hgrow2 hpl hpo d35;have y35':=jk1 (a:=⟨p,35,none⟩) hgrow2 hpl hpo y35)
      have HG:Hid (ym0 ρ w p { x with row:=x.row++List.replicate (k+1) (vv) } (w5.setCell ⟨p,35,none⟩ (.slice (some ⟨g2,0,none⟩) (x.row.length+k+1) p2))):=by
       have hl2:({ x with row:=x.row++List.replicate k (vv) }:MS).row.length=x.row.length+k:=hrl;have G:=jpj (g:=g2) (cap:=p2) (a:=vv) HB.out.1 HB.out.2.1 (by rw [hl2];exact hown2) (by rw [← HLV.out];exact hgrow2) (by rw [← HLV.out];exact hat2) hlt2;rw [hl2] at G;have e:({ ({ x with row:=x.row++List.replicate k (vv) }:MS) with row:=({ x with row:=x.row++List.replicate k (vv) }:MS).row++[vv] }:MS)={ x with row:=x.row++List.replicate (k+1) (vv) }:=by rw [xr0]
       rw [e] at G;exact ⟨⟨_,HB.out.2.2.1.trans G.2.1 HB.out.2.2.2.kp.size,G.1⟩,HB.out.2.2.2.ext G.2.2 HB.out.2.2.1⟩
      clear hown2 hgrow2 hat2 hlt2 d35' y35';go_roundw
      case rel=>exact ⟨k+1,by omega,by go_num,HG⟩
      case measure=>simp [intOf];omega
     ·obtain rfl:k=times:=by omega
      go_wp2_with fail
      go_ret
      unfold ExtE;rw [if_neg HF.out];have e:x.rowLen=vv:=by unfold MS.rowLen;rw [HBF.out];exact HVV.out
      rw [e];exact ⟨rfl,HH.out⟩
theorem z4b{ρ:Nat->Nat}{w:World}{p t:Nat}{x:MS}{l:List Int}(h:MM ρ w p x)(ok:Ok x)(hx:x.count<=40)(ht:TabS ρ w 268 4 (fun i=>(litC i).toList) t l) :
  Calls Tryz.prog 147 #[.pointer (some ⟨p,0,none⟩), .pointer (some ⟨t,0,none⟩)] w fun v w'=>SymE ρ w p (litC) #[.int .i64 0, .int .u8 0, .int .i64 0, .int .i64 0] (x.sym l) v w':=by
 obtain ⟨R,hR⟩:∃ R,R=x.sym l:=⟨_,rfl⟩
 have hlg:=j6p l;have b0:Below w.heap.size w ((w.alloc (.cells #[.int .i64 0, .int .u8 0, .int .i64 0, .int .i64 0] 218)).alloc (.cells #[.int .i64 0, .int .u8 0, .int .i64 0, .int .i64 0] 218)):=((Below.refl _ _).alloc (Nat.le_refl _) _).alloc (by simp) _;have H0:Hid (∃ r,Sw ρ w p 218 268 4 (lrow [.int .i64 0, .int .u8 0, .int .i64 0, .int .i64 0]) (fun i=>(litC i).toList) t l R 0 1 r x ((w.alloc (.cells #[.int .i64 0, .int .u8 0, .int .i64 0, .int .i64 0] 218)).alloc (.cells #[.int .i64 0, .int .u8 0, .int .i64 0, .int .i64 0] 218))):=by
  refine ⟨lgTo l 12,h.below b0,ok,hx,hR.symm,Nat.le_refl _,by omega,by decide,?_,?_,ht.fr (R:=fun _=>False) (Kp.of_below b0) (fun e=>e),h.new _ (Nat.le_refl _),h.new _ (by omega),Fr.below b0⟩
  ·exact (World.rowIs_alloc w #[.int .i64 0, .int .u8 0, .int .i64 0, .int .i64 0] 218 (lrow [.int .i64 0, .int .u8 0, .int .i64 0, .int .i64 0]) (fun i hi=>by
    have:i=0∨i=1∨i=2∨i=3:=by have:i<4:=hi;omega
    rcases this with rfl | rfl | rfl | rfl <;> rfl)).alloc _
  ·have:=World.rowIs_alloc (w.alloc (.cells #[.int .i64 0, .int .u8 0, .int .i64 0, .int .i64 0] 218)) #[.int .i64 0, .int .u8 0, .int .i64 0, .int .i64 0] 218 (lrow [.int .i64 0, .int .u8 0, .int .i64 0, .int .i64 0]) (fun i hi=>by
    have:i=0∨i=1∨i=2∨i=3:=by have:i<4:=hi;omega
    rcases this with rfl | rfl | rfl | rfl <;> rfl)
   simpa using this
 rw [← hR];clear h ok hx ht hR b0;go_enter Tryz.func147,Tryz.ntmps147
 go_wp2_with fail
 go_loopw [7,8] (fun c n wr=>∃ (code len:Nat),c= .int .i64 code∧n= .int .i64 len∧Hid (∃ r y,Sw ρ w p 218 268 4 (lrow [.int .i64 0, .int .u8 0, .int .i64 0, .int .i64 0]) (fun i=>(litC i).toList) t l R code len r y wr)) (fun _ n _=>13 - (intOf n).toNat)
 case atStart=>exact ⟨0,1,rfl,rfl,by obtain ⟨r,h⟩:=H0.out;exact ⟨r,x,h⟩⟩
 case round=>
  clear H0;obtain ⟨code,len,rfl,rfl,HH⟩:=hrel;obtain ⟨r,y,Y⟩:=HH.out;have hn1:=Y.n1;have hnr:=Y.nr;have hcd:=Y.code;have hcnt:=Y.cnt;have HK:Hid (Sk ρ w p 218 268 4 (lrow [.int .i64 0, .int .u8 0, .int .i64 0, .int .i64 0]) (fun i=>(litC i).toList) t l y wr):=Y.sk;have HEQ:Hid (MS.symL l r len code y=R):=Y.eq;have HLG:Hid (Calls Tryz.prog 174 #[.pointer (some ⟨t,0,none⟩)] wr fun x w'=>x= .returned (.int .i64 (lgTo l 12))∧wr=w'):=by
   obtain ⟨m,N,mg,I,_,_,_⟩:=Y.tab.tab;exact vs7 I
  clear Y HH;obtain ⟨lg,hlgE⟩:∃ lg,lg=lgTo l 12:=⟨_,rfl⟩
  rw [← hlgE] at HLG hnr hlg;have HLGE:Hid (lg=lgTo l 12):=hlgE;clear hlgE;go_wp2_with fail
  refine HLG.out.mono ?_;rintro e w' ⟨rfl,rfl⟩;by_cases hlt:len<=lg
  ·obtain ⟨r,rfl⟩:∃ q,r=q+1:=⟨r - 1,by omega⟩
   have hlti:(len:Int)<=lg:=by omega
   have hcode:code<2048:=by
    have:2^(len - 1)<=2^11:=Nat.pow_le_pow_right (by decide) (by omega);have e:2^11=2048:=by decide
    omega
   have HST:Hid (R=if (MS.need len y).2≠0 then ((MS.need len y).1,(MS.need len y).2,0) else if 0<=find (rset l) len ((2*code+(MS.need len y).1.held / 2^(len - 1)%2:Nat):Int) then ((MS.need len y).1.rd len,0,(find (rset l) len ((2*code+(MS.need len y).1.held / 2^(len - 1)%2:Nat):Int)).toNat) else MS.symL l r (len+1) (2*code+(MS.need len y).1.held / 2^(len - 1)%2) (MS.need len y).1):=HEQ.out.symm;clear HEQ;go_wp2_with fail
   refine (zvo len HK.out.mm HK.out.ok (by omega) (by omega)).mono ?_;rintro v w1 ⟨rfl,g1,g2⟩;by_cases h0:(MS.need len y).2=0
   ·have k1:=MS.need_cnt HK.out.ok h0;have k3:=MS.need_ok (k:=len) HK.out.ok;rw [h0];rw [if_neg (by rw [h0];simp)] at HST;obtain ⟨z,hz⟩:∃ z,z=(MS.need len y).1:=⟨_,rfl⟩
    rw [← hz] at g1 HST k1 k3;have HZ:Hid (Sk ρ w p 218 268 4 (lrow [.int .i64 0, .int .u8 0, .int .i64 0, .int .i64 0]) (fun i=>(litC i).toList) t l z w1):=HK.out.next g1 k3 g2;clear g1 g2 hz h0 k3;obtain ⟨d,hd⟩:∃ d,d=len - 1:=⟨_,rfl⟩
    have hdi:(len:Int) - 1=(d:Int):=by omega
    have hdl:d<z.count:=by omega
    rw [← hd] at HST;have HD:Hid (d=len - 1):=hd;clear hd;have hb2:z.held / 2^d%2<2:=Nat.mod_lt _ (by decide);have HAT:Hid (Calls Tryz.prog 171 #[.pointer (some ⟨p,14,none⟩), .int .i64 d] w1 fun v w'=>v= .returned (.int .i64 (z.held / 2^d%2:Nat))∧MM ρ w' p z∧Fr (fun k=>1<=k∧k<=5) ρ w1 w'):=mAt d HZ.out.mm HZ.out.ok hdl (by omega);obtain ⟨b,hb⟩:∃ b,b=z.held / 2^d%2:=⟨_,rfl⟩
    rw [← hb] at HST hb2 HAT;clear hb;obtain ⟨c2,hc2⟩:∃ c2,c2=2*code+b:=⟨_,rfl⟩
    have hor:bits .or .i64 ((code:Int)*2) (b:Int)=(c2:Int):=by rw [hc2];exact vh0 code b (by omega) hb2
    have hpw:c2<2^(len+1 - 1):=by rw [hc2];exact v2g hn1 hcd hb2
    have hc2b:c2<=1000000:=by omega
    rw [← hc2] at HST;clear hc2;go_wp2_with fail
    refine HAT.out.mono ?_;rintro v w2 ⟨rfl,g1,g2⟩;have H2:Hid (Sk ρ w p 218 268 4 (lrow [.int .i64 0, .int .u8 0, .int .i64 0, .int .i64 0]) (fun i=>(litC i).toList) t l z w2):=HZ.out.next g1 HZ.out.ok g2;have TF:=zxb H2.out.tab c2 len hc2b (by omega) (by omega);have HPW:Hid (c2<2^(len+1 - 1)):=hpw;clear g1 g2 HAT HZ hpw;by_cases hf:0<=find (rset l) len (c2:Int)
    ·rw [if_pos hf] at HST;obtain ⟨i,hi⟩:∃ i,i=(find (rset l) len (c2:Int)).toNat:=⟨_,rfl⟩
     have HF:=TF.1 hf;rw [← hi] at HST HF;obtain ⟨v1,v2,v3,v4,hv⟩:=LiteralT.four i;have HV:Hid (litC i=#[.int .i64 v1, .int .u8 v2, .int .i64 v3, .int .i64 v4]):=hv;rw [hv] at HF;have HFF:Hid (Calls Tryz.prog 175 #[.pointer (some ⟨t,0,none⟩), .int .i64 c2, .int .i64 len] w2 fun x w'=>x= .returned (.tuple #[.agg #[.int .i64 v1, .int .u8 v2, .int .i64 v3, .int .i64 v4], .bool true])∧Below w2.heap.size w2 w'):=HF;clear HF TF hf hi hv;go_wp2_with fail
     refine HFF.out.mono ?_;rintro e w3 ⟨rfl,b3⟩;have H3:Hid (Sk ρ w p 218 268 4 (lrow [.int .i64 0, .int .u8 0, .int .i64 0, .int .i64 0]) (fun i=>(litC i).toList) t l z w3):=H2.out.below b3;have b4:Below w3.heap.size w3 (w3.alloc (.cells #[.int .i64 v1, .int .u8 v2, .int .i64 v3, .int .i64 v4] 218)):=(Below.refl _ _).alloc (Nat.le_refl _) _;have H4:Hid (Sk ρ w p 218 268 4 (lrow [.int .i64 0, .int .u8 0, .int .i64 0, .int .i64 0]) (fun i=>(litC i).toList) t l z (w3.alloc (.cells #[.int .i64 v1, .int .u8 v2, .int .i64 v3, .int .i64 v4] 218))):=H3.out.below b4;have q0:(w3.alloc (.cells #[.int .i64 v1, .int .u8 v2, .int .i64 v3, .int .i64 v4] 218)).cell? ⟨w3.heap.size,0,none⟩=some (.int .i64 v1):=by simp
     have q1:(w3.alloc (.cells #[.int .i64 v1, .int .u8 v2, .int .i64 v3, .int .i64 v4] 218)).cell? ⟨w3.heap.size,1,none⟩=some (.int .u8 v2):=by simp
     have q2:(w3.alloc (.cells #[.int .i64 v1, .int .u8 v2, .int .i64 v3, .int .i64 v4] 218)).cell? ⟨w3.heap.size,2,none⟩=some (.int .i64 v3):=by simp
     have q3:(w3.alloc (.cells #[.int .i64 v1, .int .u8 v2, .int .i64 v3, .int .i64 v4] 218)).cell? ⟨w3.heap.size,3,none⟩=some (.int .i64 v4):=by simp
     have hq:w3.heap.size<(w3.alloc (.cells #[.int .i64 v1, .int .u8 v2, .int .i64 v3, .int .i64 v4] 218)).heap.size:=by simp
     have rq:ρ w3.heap.size=0:=H3.out.mm.new _ (Nat.le_refl _);have hgq:w3.heap.size≠w.heap.size:=by have:=H3.out.b4.lt;omega
     clear b3 b4 H2;go_wp2_with fail
     generalize w3.alloc (.cells #[.int .i64 v1, .int .u8 v2, .int .i64 v3, .int .i64 v4] 218)=W3 at *;refine (zw3 len H4.out.mm H4.out.ok k1.1 (by omega)).mono ?_;rintro e w5 ⟨rfl,g1,g2⟩;have s0:=g2.cell q0 hq (by rw [rq];exact no0);have s1:=g2.cell q1 hq (by rw [rq];exact no0);have s2:=g2.cell q2 hq (by rw [rq];exact no0);have s3:=g2.cell q3 hq (by rw [rq];exact no0);have H5:Hid (Sk ρ w p 218 268 4 (lrow [.int .i64 0, .int .u8 0, .int .i64 0, .int .i64 0]) (fun i=>(litC i).toList) t l (z.rd len) w5):=H4.out.next g1 (H4.out.ok.rd k1.1) g2;have u0:w5.cell? ⟨w.heap.size,0,none⟩=some (.int .i64 0):=H5.out.b4.cell (i:=0) (by omega);have u1:w5.cell? ⟨w.heap.size,1,none⟩=some (.int .u8 0):=H5.out.b4.cell (i:=1) (by omega);have u2:w5.cell? ⟨w.heap.size,2,none⟩=some (.int .i64 0):=H5.out.b4.cell (i:=2) (by omega);have u3:w5.cell? ⟨w.heap.size,3,none⟩=some (.int .i64 0):=H5.out.b4.cell (i:=3) (by omega);have x0:=H5.out.b4.frozen 0;have x1:=H5.out.b4.frozen 1;have x2:=H5.out.b4.frozen 2;have x3:=H5.out.b4.frozen 3;have HFIN:Hid ((((((w5.setCell ⟨w.heap.size,0,none⟩ (.int .i64 v1)).setCell ⟨w.heap.size,1,none⟩ (.int .u8 v2)).setCell ⟨w.heap.size,2,none⟩ (.int .i64 v3)).setCell ⟨w.heap.size,3,none⟩ (.int .i64 v4)).heap[w.heap.size]?=some (.cells #[.int .i64 v1, .int .u8 v2, .int .i64 v3, .int .i64 v4] 218))∧MM ρ ((((w5.setCell ⟨w.heap.size,0,none⟩ (.int .i64 v1)).setCell ⟨w.heap.size,1,none⟩ (.int .u8 v2)).setCell ⟨w.heap.size,2,none⟩ (.int .i64 v3)).setCell ⟨w.heap.size,3,none⟩ (.int .i64 v4)) p (z.rd len)∧Fr (fun k=>1<=k∧k<=5) ρ w ((((w5.setCell ⟨w.heap.size,0,none⟩ (.int .i64 v1)).setCell ⟨w.heap.size,1,none⟩ (.int .u8 v2)).setCell ⟨w.heap.size,2,none⟩ (.int .i64 v3)).setCell ⟨w.heap.size,3,none⟩ (.int .i64 v4))):=by
      refine ⟨zgh (((((H5.out.b4).set 0 (.int .i64 v1)).set 1 (.int .u8 v2)).set 2 (.int .i64 v3)).set 3 (.int .i64 v4)),((((H5.out.mm).setNew w.heap.size 0 (.int .i64 v1) H5.out.r4).setNew w.heap.size 1 (.int .u8 v2) H5.out.r4).setNew w.heap.size 2 (.int .i64 v3) H5.out.r4).setNew w.heap.size 3 (.int .i64 v4) H5.out.r4,((((H5.out.fr).setNew w.heap.size 0 (.int .i64 v1) (Nat.le_refl _)).setNew w.heap.size 1 (.int .u8 v2) (Nat.le_refl _)).setNew w.heap.size 2 (.int .i64 v3) (Nat.le_refl _)).setNew w.heap.size 3 (.int .i64 v4) (Nat.le_refl _)⟩
     clear g1 g2;go_wp2_with fail
     refine bodyPost_ret (v7f Tryz.results147 _ _ _ _ _ _ _ rfl HFIN.out.1 Tryz.underlying218 rfl (yes _ rfl)) rfl ?_;unfold SymE;rw [HST.out];exact ⟨by rw [← HV.out];rfl,HFIN.out.2⟩
    ·rw [if_neg hf] at HST;have HFF:Hid (Calls Tryz.prog 175 #[.pointer (some ⟨t,0,none⟩), .int .i64 c2, .int .i64 len] w2 fun x w'=>x= .returned (.tuple #[.agg #[.int .i64 0, .int .u8 0, .int .i64 0, .int .i64 0], .bool false])∧Below w2.heap.size w2 w'):=TF.2 hf;clear TF hf;go_wp2_with fail
     refine HFF.out.mono ?_;rintro e w3 ⟨rfl,b3⟩;have H3:Hid (Sk ρ w p 218 268 4 (lrow [.int .i64 0, .int .u8 0, .int .i64 0, .int .i64 0]) (fun i=>(litC i).toList) t l z w3):=H2.out.below b3;have b4:Below w3.heap.size w3 (w3.alloc (.cells #[.int .i64 0, .int .u8 0, .int .i64 0, .int .i64 0] 218)):=(Below.refl _ _).alloc (Nat.le_refl _) _;have H4:Hid (Sk ρ w p 218 268 4 (lrow [.int .i64 0, .int .u8 0, .int .i64 0, .int .i64 0]) (fun i=>(litC i).toList) t l z (w3.alloc (.cells #[.int .i64 0, .int .u8 0, .int .i64 0, .int .i64 0] 218))):=H3.out.below b4;clear b3 b4 H2;have HN:Hid (∃ r y,Sw ρ w p 218 268 4 (lrow [.int .i64 0, .int .u8 0, .int .i64 0, .int .i64 0]) (fun i=>(litC i).toList) t l R c2 (len+1) r y (w3.alloc (.cells #[.int .i64 0, .int .u8 0, .int .i64 0, .int .i64 0] 218))):=⟨r,z,H4.out.mm,H4.out.ok,by omega,HST.out.symm,by omega,by have:=HLGE.out;omega,HPW.out,H4.out.b4,H4.out.b6,H4.out.tab,H4.out.r4,H4.out.r6,H4.out.fr⟩
     go_wp2_with fail
     go_roundw
     case rel=>exact ⟨c2,len+1,rfl,by go_num,HN⟩
     case measure=>simp [intOf];omega
   ·rw [if_pos h0] at HST;obtain ⟨e,he⟩:∃ e,e=(MS.need len y).2:=⟨_,rfl⟩
    have HZ:Hid (Sk ρ w p 218 268 4 (lrow [.int .i64 0, .int .u8 0, .int .i64 0, .int .i64 0]) (fun i=>(litC i).toList) t l (MS.need len y).1 w1):=HK.out.next g1 (MS.need_ok HK.out.ok) g2;rw [← he] at h0 HST ⊢;have h0':((e:Int)==0)=false:=by simp;exact h0
    clear g1 g2 he;have u0:w1.cell? ⟨w.heap.size,0,none⟩=some (.int .i64 0):=HZ.out.b4.cell (i:=0) (by omega);have u1:w1.cell? ⟨w.heap.size,1,none⟩=some (.int .u8 0):=HZ.out.b4.cell (i:=1) (by omega);have u2:w1.cell? ⟨w.heap.size,2,none⟩=some (.int .i64 0):=HZ.out.b4.cell (i:=2) (by omega);have u3:w1.cell? ⟨w.heap.size,3,none⟩=some (.int .i64 0):=HZ.out.b4.cell (i:=3) (by omega);have x0:=HZ.out.b4.frozen 0;have x1:=HZ.out.b4.frozen 1;have x2:=HZ.out.b4.frozen 2;have x3:=HZ.out.b4.frozen 3;have s0:w1.cell? ⟨w.heap.size+1,0,none⟩=some (.int .i64 0):=HZ.out.b6.cell (i:=0) (by omega);have s1:w1.cell? ⟨w.heap.size+1,1,none⟩=some (.int .u8 0):=HZ.out.b6.cell (i:=1) (by omega);have s2:w1.cell? ⟨w.heap.size+1,2,none⟩=some (.int .i64 0):=HZ.out.b6.cell (i:=2) (by omega);have s3:w1.cell? ⟨w.heap.size+1,3,none⟩=some (.int .i64 0):=HZ.out.b6.cell (i:=3) (by omega);have HFIN:Hid ((((((w1.setCell ⟨w.heap.size,0,none⟩ (.int .i64 0)).setCell ⟨w.heap.size,1,none⟩ (.int .u8 0)).setCell ⟨w.heap.size,2,none⟩ (.int .i64 0)).setCell ⟨w.heap.size,3,none⟩ (.int .i64 0)).heap[w.heap.size]?=some (.cells #[.int .i64 0, .int .u8 0, .int .i64 0, .int .i64 0] 218))∧MM ρ ((((w1.setCell ⟨w.heap.size,0,none⟩ (.int .i64 0)).setCell ⟨w.heap.size,1,none⟩ (.int .u8 0)).setCell ⟨w.heap.size,2,none⟩ (.int .i64 0)).setCell ⟨w.heap.size,3,none⟩ (.int .i64 0)) p (MS.need len y).1∧Fr (fun k=>1<=k∧k<=5) ρ w ((((w1.setCell ⟨w.heap.size,0,none⟩ (.int .i64 0)).setCell ⟨w.heap.size,1,none⟩ (.int .u8 0)).setCell ⟨w.heap.size,2,none⟩ (.int .i64 0)).setCell ⟨w.heap.size,3,none⟩ (.int .i64 0))):=by
     refine ⟨zgh (((((HZ.out.b4).set 0 (.int .i64 0)).set 1 (.int .u8 0)).set 2 (.int .i64 0)).set 3 (.int .i64 0)),((((HZ.out.mm).setNew w.heap.size 0 (.int .i64 0) HZ.out.r4).setNew w.heap.size 1 (.int .u8 0) HZ.out.r4).setNew w.heap.size 2 (.int .i64 0) HZ.out.r4).setNew w.heap.size 3 (.int .i64 0) HZ.out.r4,((((HZ.out.fr).setNew w.heap.size 0 (.int .i64 0) (Nat.le_refl _)).setNew w.heap.size 1 (.int .u8 0) (Nat.le_refl _)).setNew w.heap.size 2 (.int .i64 0) (Nat.le_refl _)).setNew w.heap.size 3 (.int .i64 0) (Nat.le_refl _)⟩
    go_wp2_with fail
    refine bodyPost_ret (v7f Tryz.results147 _ _ _ _ _ _ _ rfl HFIN.out.1 Tryz.underlying218 rfl (yes _ rfl)) rfl ?_;unfold SymE;rw [HST.out];exact ⟨by rw [if_neg h0];rfl,HFIN.out.2⟩
  ·obtain rfl:r=0:=by omega
   have hlti:¬ (len:Int)<=lg:=by omega
   have HST:Hid (R=((y.refuse 11).1,3,0)):=HEQ.out.symm;clear HEQ;have s0:wr.cell? ⟨w.heap.size+1,0,none⟩=some (.int .i64 0):=HK.out.b6.cell (i:=0) (by omega);have s1:wr.cell? ⟨w.heap.size+1,1,none⟩=some (.int .u8 0):=HK.out.b6.cell (i:=1) (by omega);have s2:wr.cell? ⟨w.heap.size+1,2,none⟩=some (.int .i64 0):=HK.out.b6.cell (i:=2) (by omega);have s3:wr.cell? ⟨w.heap.size+1,3,none⟩=some (.int .i64 0):=HK.out.b6.cell (i:=3) (by omega);go_wp2_with fail
   go_region_held3 (fun wv=>wv.cell? ⟨w.heap.size+1,0,none⟩=some (.int .i64 0)∧wv.cell? ⟨w.heap.size+1,1,none⟩=some (.int .u8 0)∧wv.cell? ⟨w.heap.size+1,2,none⟩=some (.int .i64 0)∧wv.cell? ⟨w.heap.size+1,3,none⟩=some (.int .i64 0)) (first | exact ⟨s0,s1,s2,s3⟩ | exact ⟨a0,a1,a2,a3⟩ | exact ⟨(LiteralT.four_set_cell (q:=⟨w.heap.size+1,0,none⟩) (by simp)).trans a0,(LiteralT.four_set_cell (q:=⟨w.heap.size+1,1,none⟩) (by simp)).trans a1,(LiteralT.four_set_cell (q:=⟨w.heap.size+1,2,none⟩) (by simp)).trans a2,(LiteralT.four_set_cell (q:=⟨w.heap.size+1,3,none⟩) (by simp)).trans a3⟩)
    (first | (go_at_call 79;refine (kv8 11 (HK.out.mm.drewN 1)).mono ?_;rintro e w2 ⟨rfl,g1,g2⟩;have H2:Hid (Sk ρ w p 218 268 4 (lrow [.int .i64 0, .int .u8 0, .int .i64 0, .int .i64 0]) (fun i=>(litC i).toList) t l (y.refuse 11).1 w2):=(HK.out.drewN 1).next g1 (HK.out.ok.refuse 11) g2;have a0:w2.cell? ⟨w.heap.size+1,0,none⟩=some (.int .i64 0):=H2.out.b6.cell (i:=0) (by omega);have u0:w2.cell? ⟨w.heap.size,0,none⟩=some (.int .i64 0):=H2.out.b4.cell (i:=0) (by omega);have x0:=H2.out.b4.frozen 0;have a1:w2.cell? ⟨w.heap.size+1,1,none⟩=some (.int .u8 0):=H2.out.b6.cell (i:=1) (by omega);have u1:w2.cell? ⟨w.heap.size,1,none⟩=some (.int .u8 0):=H2.out.b4.cell (i:=1) (by omega);have x1:=H2.out.b4.frozen 1;have a2:w2.cell? ⟨w.heap.size+1,2,none⟩=some (.int .i64 0):=H2.out.b6.cell (i:=2) (by omega);have u2:w2.cell? ⟨w.heap.size,2,none⟩=some (.int .i64 0):=H2.out.b4.cell (i:=2) (by omega);have x2:=H2.out.b4.frozen 2;have a3:w2.cell? ⟨w.heap.size+1,3,none⟩=some (.int .i64 0):=H2.out.b6.cell (i:=3) (by omega);have u3:w2.cell? ⟨w.heap.size,3,none⟩=some (.int .i64 0):=H2.out.b4.cell (i:=3) (by omega);have x3:=H2.out.b4.frozen 3;clear g1 g2))
   all_goals
    have HFIN:Hid ((((((w2.setCell ⟨w.heap.size,0,none⟩ (.int .i64 0)).setCell ⟨w.heap.size,1,none⟩ (.int .u8 0)).setCell ⟨w.heap.size,2,none⟩ (.int .i64 0)).setCell ⟨w.heap.size,3,none⟩ (.int .i64 0)).heap[w.heap.size]?=some (.cells #[.int .i64 0, .int .u8 0, .int .i64 0, .int .i64 0] 218))∧MM ρ ((((w2.setCell ⟨w.heap.size,0,none⟩ (.int .i64 0)).setCell ⟨w.heap.size,1,none⟩ (.int .u8 0)).setCell ⟨w.heap.size,2,none⟩ (.int .i64 0)).setCell ⟨w.heap.size,3,none⟩ (.int .i64 0)) p (y.refuse 11).1∧Fr (fun k=>1<=k∧k<=5) ρ w ((((w2.setCell ⟨w.heap.size,0,none⟩ (.int .i64 0)).setCell ⟨w.heap.size,1,none⟩ (.int .u8 0)).setCell ⟨w.heap.size,2,none⟩ (.int .i64 0)).setCell ⟨w.heap.size,3,none⟩ (.int .i64 0))):=by
     refine ⟨zgh (((((H2.out.b4).set 0 (.int .i64 0)).set 1 (.int .u8 0)).set 2 (.int .i64 0)).set 3 (.int .i64 0)),((((H2.out.mm).setNew w.heap.size 0 (.int .i64 0) H2.out.r4).setNew w.heap.size 1 (.int .u8 0) H2.out.r4).setNew w.heap.size 2 (.int .i64 0) H2.out.r4).setNew w.heap.size 3 (.int .i64 0) H2.out.r4,((((H2.out.fr).setNew w.heap.size 0 (.int .i64 0) (Nat.le_refl _)).setNew w.heap.size 1 (.int .u8 0) (Nat.le_refl _)).setNew w.heap.size 2 (.int .i64 0) (Nat.le_refl _)).setNew w.heap.size 3 (.int .i64 0) (Nat.le_refl _)⟩
    go_wp2_with fail
    refine bodyPost_ret (v7f Tryz.results147 _ _ _ _ _ _ _ rfl HFIN.out.1 Tryz.underlying218 rfl (yes _ rfl)) rfl ?_;unfold SymE;rw [HST.out];exact ⟨rfl,HFIN.out.2⟩
end Go.Proofs.YtbcjmakpempkiaaGreatDoor
