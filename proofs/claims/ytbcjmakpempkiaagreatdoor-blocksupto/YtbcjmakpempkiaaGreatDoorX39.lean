import Derived.Test.YtbcjmakpempkiaaGreatDoorX38
set_option maxRecDepth 100000
set_option maxHeartbeats 8000000
set_option linter.all false
namespace Go.Proofs.YtbcjmakpempkiaaGreatDoor
open Go.RowKit
def K9(ρ ρ':Nat->Nat)(w w':World):Prop:=∀ k,k<w.heap.size->ρ k=9->w'.heap[k]?=w.heap[k]?∧ρ' k=9
theorem K9.of_below{ρ:Nat->Nat}{w w':World}(h:Below w.heap.size w w'):K9 ρ ρ w w':=fun k hk hr=>⟨h.block k hk,hr⟩
theorem K9.own{ρ ρ':Nat->Nat}{w w':World}{B:Nat}{e:TypeId}{sz:Nat}{v:Value}{n:Nat}{xs:List Value}(h:K9 ρ ρ' w w')(o:w.ownsRow B e sz v n xs)(hr:∀ g,v.ownBlock=some g->ρ g=9):w'.ownsRow B e sz v n xs:=by
 refine ⟨o.1,?_⟩;rcases o.2 with hn | ⟨g,cap,cur,rfl,hb,hgg,rest⟩
 ·exact .inl hn
 ·refine .inr ⟨g,cap,cur,rfl,hb,?_,rest⟩;rw [(h g (Array.getElem?_eq_some_iff.1 hgg).1 (hr g rfl)).1];exact hgg
theorem K9.role{ρ ρ':Nat->Nat}{w w':World}{B:Nat}{e:TypeId}{sz:Nat}{v:Value}{n:Nat}{xs:List Value}(h:K9 ρ ρ' w w')(o:w.ownsRow B e sz v n xs)(hr:∀ g,v.ownBlock=some g->ρ g=9):∀ g,v.ownBlock=some g->ρ' g=9:=fun g hg=>(h g (xmo o hg) (hr g hg)).2
noncomputable def all9(ρ:Nat->Nat)(w:World):List (Nat×Obj):=(List.range w.heap.size).filterMap fun k=>if ρ k=9 then (w.heap[k]?).map fun o=>(k,o) else none
theorem kgr{ρ:Nat->Nat}{w:World}{x:Nat×Obj}(h:x∈all9 ρ w):w.heap[x.1]?=some x.2∧ρ x.1=9:=by
 unfold all9 at h;obtain ⟨k,_,hk⟩:=List.mem_filterMap.1 h;by_cases h9:ρ k=9
 ·rw [if_pos h9] at hk;obtain ⟨o,ho,rfl⟩:=Option.map_eq_some_iff.1 hk;exact ⟨ho,h9⟩
 ·rw [if_neg h9] at hk;cases hk
theorem k3t{ρ:Nat->Nat}{w:World}{k:Nat}(hk:k<w.heap.size)(h9:ρ k=9):(k,w.heap[k])∈all9 ρ w:=by
 unfold all9;refine List.mem_filterMap.2 ⟨k,List.mem_range.2 hk,?_⟩;rw [if_pos h9,Array.getElem?_eq_getElem hk];rfl
theorem Inv.still{B gW d:Nat}{ρ:Nat->Nat}{s:kuu}{w:World}(h:Inv B gW d ρ s w)(st:List (Nat×Obj))(h1:∀ x∈st,w.heap[x.1]?=some x.2∧ρ x.1=9):Inv B gW d ρ { s with still:=st } w:=⟨h.gB,h.hB,h.row,h.len,h.wts,h.wrs,h.bks,h.lenw,h.wt,h.wr,h.bk,h.rW,h.rl,h.rwv,h.rr,h.rb,h.rwt,h.rwr,h.rbk,h.mkB,h.lnB,h.lnN,h.wlB,fun x hx=>(h1 x hx).1,fun x hx=>(h1 x hx).2⟩
theorem Inv.all9{B gW d:Nat}{ρ:Nat->Nat}{s:kuu}{w:World}(h:Inv B gW d ρ s w):Inv B gW d ρ { s with still:=Go.Proofs.YtbcjmakpempkiaaGreatDoor.all9 ρ w } w:=h.still _ fun _ hx=>kgr hx
theorem Inv.k9{B gW d:Nat}{ρ ρ':Nat->Nat}{s':kuu}{w w':World}(h:Inv B gW d ρ' s' w')(hs:s'.still=Go.Proofs.YtbcjmakpempkiaaGreatDoor.all9 ρ w):K9 ρ ρ' w w':=fun k hk h9=>by
 have hm:=k3t hk h9;rw [← hs] at hm;have h1:=h.stl _ hm;exact ⟨by rw [h1,Array.getElem?_eq_getElem hk],h.rst _ hm⟩
structure Fw(k:Nat)(s:kuu):Prop where
 ln:s.lens.length<=k
 wt:s.waits.length<=2*k
 mm:s.mks+s.waits.length<=3*k
 bk:s.books.length+s.waits.length<=3*k
theorem Fw.next{k:Nat}{s s':kuu}(h:Fw k s)(hn:Nxt s s'):Fw (k+1) s':=⟨by have:=h.ln;have:=hn.ln;omega,by have:=h.wt;have:=hn.wt;omega,by have:=h.mm;have:=hn.mks;have:=hn.wt;omega,by have:=h.bk;have:=hn.bk;have:=hn.wt;omega⟩
theorem Fw.mono{k m:Nat}{s:kuu}(h:Fw k s)(hm:k<=m):Fw m s:=⟨by have:=h.ln;omega,by have:=h.wt;omega,by have:=h.mm;omega,by have:=h.bk;omega⟩
theorem Fw.settled{k:Nat}{s:kuu}{vb:Value}{bs:List (Int×List Value)}(h:Fw k s)(hb:bs.length=s.books.length+s.waits.length):Fw k { s with mks:=s.mks+s.waits.length,vb:=vb,books:=bs,vw:= .slice none 0 0,waits:=[],vr:= .slice none 0 0,weres:=[] }:=⟨h.ln,by simp,by simpa using h.mm,by have:=h.bk;simp;omega⟩
def CsI(B:Nat)(ρ:Nat->Nat)(s:kuu)(w:World)(C:List (List Int)):Prop:=w.ownsRow B 42 7 s.vcs C.length (C.flatMap k2f)∧∀ g,s.vcs.ownBlock=some g->ρ g=9
def SsI(B:Nat)(ρ:Nat->Nat)(s:kuu)(w:World)(S:List ByteArray):Prop:=w.ownsRow B 9 1 s.vss S.length (S.map Value.string)∧∀ g,s.vss.ownBlock=some g->ρ g=9
theorem CsI.k9{B:Nat}{ρ ρ':Nat->Nat}{s s':kuu}{w w':World}{C:List (List Int)}(h:CsI B ρ s w C)(k:K9 ρ ρ' w w')(e:s'.vcs=s.vcs):CsI B ρ' s' w' C:=by
 unfold CsI;rw [e];exact ⟨k.own h.1 h.2,k.role h.1 h.2⟩
theorem SsI.k9{B:Nat}{ρ ρ':Nat->Nat}{s s':kuu}{w w':World}{S:List ByteArray}(h:SsI B ρ s w S)(k:K9 ρ ρ' w w')(e:s'.vss=s.vss):SsI B ρ' s' w' S:=by
 unfold SsI;rw [e];exact ⟨k.own h.1 h.2,k.role h.1 h.2⟩
structure YOk(Y:(Nat->Nat)->kuu->World->Prop):Prop where
 k9:∀ {ρ ρ':Nat->Nat} {s s':kuu} {w w':World},Y ρ s w->K9 ρ ρ' w w'->w.heap.size<=w'.heap.size->s'.vrn=s.vrn->s'.vtx=s.vtx->s'.vcs=s.vcs->s'.vss=s.vss->Y ρ' s' w'
 app:∀ {ρ ρ':Nat->Nat} {s s':kuu} {w w':World},Y ρ s w->(∀ k,k<w.heap.size->ρ k=9->s.vcs.ownBlock≠some k->s.vss.ownBlock≠some k->w'.heap[k]?=w.heap[k]?∧ρ' k=9)->(∀ g,s'.vcs.ownBlock=some g∨s'.vss.ownBlock=some g->s.vcs.ownBlock=some g∨s.vss.ownBlock=some g∨w.heap.size<=g)->w.heap.size<=w'.heap.size->s'.vrn=s.vrn->s'.vtx=s.vtx->Y ρ' s' w'
 ini:∀ (ρ:Nat->Nat) (s:kuu) (w:World),s.vrn= .slice none 0 0->s.vtx= .slice none 0 0->Y ρ s w
structure LI(B gW:Nat)(Y:(Nat->Nat)->kuu->World->Prop)(C:List (List Int))(S:List ByteArray)(k:Nat)(ρ:Nat->Nat)(s:kuu)(w:World):Prop where
 inv:Inv B gW 0 ρ s w
 fw:Fw k s
 cs:CsI B ρ s w C
 ss:SsI B ρ s w S
 y:Y ρ s w
theorem LI.below{B gW:Nat}{Y:(Nat->Nat)->kuu->World->Prop}(hY:YOk Y){C:List (List Int)}{S:List ByteArray}{k:Nat}{ρ:Nat->Nat}{s:kuu}{w w':World}(h:LI B gW Y C S k ρ s w)(b:Below w.heap.size w w'):LI B gW Y C S k ρ s w':=⟨h.inv.below b,h.fw,h.cs.k9 (K9.of_below b) rfl,h.ss.k9 (K9.of_below b) rfl,hY.k9 h.y (K9.of_below b) b.size rfl rfl rfl rfl⟩
theorem LI.mono{B gW:Nat}{Y:(Nat->Nat)->kuu->World->Prop}{C:List (List Int)}{S:List ByteArray}{k m:Nat}{ρ:Nat->Nat}{s:kuu}{w:World}(h:LI B gW Y C S k ρ s w)(hm:k<=m):LI B gW Y C S m ρ s w:={ h with fw:=h.fw.mono hm }
theorem LI.stepped{B gW:Nat}{Y:(Nat->Nat)->kuu->World->Prop}(hY:YOk Y){C:List (List Int)}{S:List ByteArray}{k:Nat}{ρ ρ':Nat->Nat}{s s':kuu}{w w':World}(h:LI B gW Y C S k ρ s w)(hi:Inv B gW 0 ρ' s' w')(hn:Nxt { s with still:=all9 ρ w } s')(hs:w.heap.size<=w'.heap.size):LI B gW Y C S (k+1) ρ' s' w':=by
 have K:K9 ρ ρ' w w':=hi.k9 hn.st.1;exact ⟨hi,(Fw.next (s:={ s with still:=all9 ρ w }) ⟨h.fw.ln,h.fw.wt,h.fw.mm,h.fw.bk⟩ hn),h.cs.k9 K hn.cs,h.ss.k9 K hn.ss,hY.k9 h.y K hs hn.st.2.2 hn.st.2.1 hn.cs hn.ss⟩
theorem LI.settled{B gW:Nat}{Y:(Nat->Nat)->kuu->World->Prop}(hY:YOk Y){C:List (List Int)}{S:List ByteArray}{k:Nat}{ρ ρ':Nat->Nat}{s:kuu}{w w':World}{vb:Value}{bs:List (Int×List Value)}(h:LI B gW Y C S k ρ s w)
  (hi:Inv B gW 0 ρ' { ({ s with still:=all9 ρ w }:kuu) with mks:=s.mks+s.waits.length,vb:=vb,books:=bs,vw:= .slice none 0 0,waits:=[],vr:= .slice none 0 0,weres:=[] } w') (hb:bs.length=s.books.length+s.waits.length) (hs:w.heap.size<=w'.heap.size) :
  LI B gW Y C S k ρ' { ({ s with still:=all9 ρ w }:kuu) with mks:=s.mks+s.waits.length,vb:=vb,books:=bs,vw:= .slice none 0 0,waits:=[],vr:= .slice none 0 0,weres:=[] } w':=by
 have K:K9 ρ ρ' w w':=hi.k9 rfl;exact ⟨hi,Fw.settled (s:={ s with still:=all9 ρ w }) ⟨h.fw.ln,h.fw.wt,h.fw.mm,h.fw.bk⟩ hb,h.cs.k9 K rfl,h.ss.k9 K rfl,hY.k9 h.y K hs rfl rfl rfl rfl⟩
theorem zdw{B gW:Nat}{Y:(Nat->Nat)->kuu->World->Prop}(hY:YOk Y){C:List (List Int)}{S:List ByteArray}{k:Nat}{ρ:Nat->Nat}{s:kuu}{w:World}(h:LI B gW Y C S k ρ s w)(kd a b c:Int)(t:ByteArray)(ap:Option Addr)(np cp:Nat)(hk:kd<3)(hkk:k<=2000000) :
  Calls Tryz.prog 34 #[.pointer (some ⟨gW,0,none⟩), .agg (opV kd a b c t (.slice ap np cp))] w fun e w'=>e= .returned (.bool true)∧Below B w w'∧∃ (ρ':Nat->Nat) (s':kuu),LI B gW Y C S (k+1) ρ' s' w'∧K9 ρ ρ' w w':=by
 have q1:=h.fw.ln;refine (ypn B gW ρ { s with still:=all9 ρ w } kd a b c t ap np cp w h.inv.all9 hk (by show s.lens.length<=_;omega)).mono ?_;rintro e w' ⟨rfl,hb,ρ',s',hI,hn⟩;exact ⟨rfl,hb,ρ',s',h.stepped hY hI hn hb.size,hI.k9 hn.st.1⟩
theorem ygw{B gW:Nat}{Y:(Nat->Nat)->kuu->World->Prop}(hY:YOk Y){C:List (List Int)}{S:List ByteArray}{k:Nat}{ρ:Nat->Nat}{s:kuu}{w:World}(h:LI B gW Y C S k ρ s w)(hkk:k<=2000000) :
  Calls Tryz.prog 35 #[.pointer (some ⟨gW,0,none⟩)] w fun e w'=>e= .returned (.bool true)∧Below B w w'∧∃ (ρ':Nat->Nat) (s':kuu),LI B gW Y C S k ρ' s' w':=by
 have q1:=h.fw.ln;have q2:=h.fw.wt;have q3:=h.fw.mm;have q4:=h.fw.bk;refine (kyt B gW ρ { s with still:=all9 ρ w } w h.inv.all9 (by show s.waits.length<=_;omega) (by show s.books.length<=_;omega) (by show s.mks<=_;omega)).mono ?_;rintro e w' ⟨rfl,hb,ρ',vb,bs,hI,hbs⟩;exact ⟨rfl,hb,ρ',_,h.settled hY hI hbs hb.size⟩
theorem ypk{w:World}{B:Nat}{e e':TypeId}{sz sz':Nat}{v v':Value}{n n':Nat}{xs xs':List Value}(h:w.ownsRow B e sz v n xs)(h':w.ownsRow B e' sz' v' n' xs')(hne:e≠e'){g:Nat}(hg:v.ownBlock=some g):v'.ownBlock≠some g:=fun hg'=>by
 rcases h.2 with ⟨hv,_⟩ | ⟨g1,c1,cur1,hv,_,h1,_⟩
 ·rw [hv] at hg;simp [Value.ownBlock] at hg
 ·rcases h'.2 with ⟨hv',_⟩ | ⟨g2,c2,cur2,hv',_,h2,_⟩
  ·rw [hv'] at hg';simp [Value.ownBlock] at hg'
  ·rw [hv] at hg;rw [hv'] at hg';simp [Value.ownBlock] at hg hg';subst hg;subst hg';rw [h1] at h2;simp at h2;exact hne h2.2
theorem Inv.nine{B gW:Nat}{ρ ρ':Nat->Nat}{s s':kuu}{w w':World}(h:Inv B gW 0 ρ s w)(hk:Kp (fun r=>r=9∨r=5) ρ w w')(hρ:∀ k,k<w.heap.size->ρ' k=ρ k)(hrow:w'.rowIs gW 75 9 (fld s'))
  (e:s'.vl=s.vl∧s'.lens=s.lens∧s'.mks=s.mks∧s'.vw=s.vw∧s'.waits=s.waits∧s'.vr=s.vr∧s'.weres=s.weres∧s'.vb=s.vb∧s'.books=s.books) (hst:s'.still=[]):Inv B gW 0 ρ' s' w':=by
 obtain ⟨vcs,vss,vl,lens,mks,vw,waits,vr,weres,vb,books,still,vrn,vtx⟩:=s;obtain ⟨vcs',vss',vl',lens',mks',vw',waits',vr',weres',vb',books',still',vrn',vtx'⟩:=s';obtain ⟨rfl,rfl,rfl,rfl,rfl,rfl,rfl,rfl,rfl⟩:=e;obtain rfl:still'=[]:=hst;have h':=h.turn (ρ':=ρ') (fun k hk _=>hρ k hk);have kk:Kp (fun r=>r=9∨r=5) ρ' w w':=hk.congr (fun k hk=>by rw [hρ k hk];exact fun x=>x);exact {
  gB:=h.gB
  hB:=Nat.le_trans h.hB kk.size
  row:=hrow
  len:=kcz h'.len kk (fun g hg hr=>by have:=h'.rl g hg;omega)
  wts:=kcz h'.wts kk (fun g hg hr=>by have:=h'.rwv g hg;omega)
  wrs:=kcz h'.wrs kk (fun g hg hr=>by have:=h'.rr g hg;omega)
  bks:=kcz h'.bks kk (fun g hg hr=>by have:=h'.rb g hg;omega)
  lenw:=h.lenw
  wt:=fun i hi hd=>⟨kcz (h'.wt i hi hd).1 kk (fun g hg hr=>by have:=h'.rwt i hi hd g hg;omega),(h'.wt i hi hd).2⟩
  wr:=fun i hi hi'=>kcz (h'.wr i hi hi') kk (fun g hg hr=>by have:=h'.rwr _ (List.getElem_mem hi) g hg;omega)
  bk:=fun b hb=>⟨(h'.bk b hb).1,fun x hx=>by
   obtain ⟨n,hn⟩:=(h'.bk b hb).2 x hx;exact ⟨n,kcz hn kk (fun g hg hr=>by have:=h'.rbk b hb x hx g hg;omega)⟩⟩
  rW:=h'.rW
  rl:=h'.rl
  rwv:=h'.rwv
  rr:=h'.rr
  rb:=h'.rb
  rwt:=h'.rwt
  rwr:=h'.rwr
  rbk:=h'.rbk
  mkB:=h.mkB
  lnB:=h.lnB
  lnN:=h.lnN
  wlB:=h.wlB
  stl:=fun x hx=>by cases hx
  rst:=fun x hx=>by cases hx }
theorem vs2(s:kuu)(v:Value)(i:Nat)(hi:i<9):(if i=0 then v else fld s i)=fld { s with vcs:=v,still:=[] } i:=by
 have:i=0∨i=1∨i=2∨i=3∨i=4∨i=5∨i=6∨i=7∨i=8:=by omega
 rcases this with rfl | rfl | rfl | rfl | rfl | rfl | rfl | rfl | rfl <;> simp [fld]
theorem xf6(s:kuu)(v:Value)(i:Nat)(hi:i<9):(if i=1 then v else fld s i)=fld { s with vss:=v,still:=[] } i:=by
 have:i=0∨i=1∨i=2∨i=3∨i=4∨i=5∨i=6∨i=7∨i=8:=by omega
 rcases this with rfl | rfl | rfl | rfl | rfl | rfl | rfl | rfl | rfl <;> simp [fld]
theorem LI.appCs{B gW:Nat}{Y:(Nat->Nat)->kuu->World->Prop}(hY:YOk Y){C C':List (List Int)}{S:List ByteArray}{k:Nat}{ρ:Nat->Nat}{s:kuu}{w w1:World}{g cap:Nat}(h:LI B gW Y C S k ρ s w)
  (hgrow:w.grownBy w1 s.vcs.ownBlock) (hown:w1.ownsRow B 42 7 (.slice (some ⟨g,0,none⟩) (C.length+C'.length) cap) (C.length+C'.length) (C.flatMap k2f++C'.flatMap k2f)) (hat:s.vcs.ownBlock=some g∨g=w.heap.size) :
  (∃ ρ' s',LI B gW Y (C++C') S k ρ' s' (w1.setCell ⟨gW,0,none⟩ (.slice (some ⟨g,0,none⟩) (C.length+C'.length) cap))∧K9 (fun k=>if s.vcs.ownBlock=some k then 0 else ρ k) ρ' w (w1.setCell ⟨gW,0,none⟩ (.slice (some ⟨g,0,none⟩) (C.length+C'.length) cap)))∧Below B w (w1.setCell ⟨gW,0,none⟩ (.slice (some ⟨g,0,none⟩) (C.length+C'.length) cap)):=by
 obtain ⟨v,hv⟩:∃ v,v=Value.slice (some ⟨g,0,none⟩) (C.length+C'.length) cap:=⟨_,rfl⟩
 have hvg:v.ownBlock=some g:=by rw [hv];rfl
 rw [← hv] at hown ⊢;have hgW:gW<w.heap.size:=h.inv.row.lt;have hrW:=h.inv.rW;have hgne:g≠gW:=fun e=>by
  rcases hat with e' | e'
  ·have:=h.cs.2 g e';rw [e,hrW] at this;omega
  ·omega
 have hne:s.vcs.ownBlock≠some gW:=fun e=>by have:=h.cs.2 gW e;omega
 have hsz:w.heap.size<=(w1.setCell ⟨gW,0,none⟩ v).heap.size:=by have:=hgrow.size;simpa using this
 have hblk:∀ k,k<w.heap.size->k≠gW->s.vcs.ownBlock≠some k->(w1.setCell ⟨gW,0,none⟩ v).heap[k]?=w.heap[k]?:=fun k hk h1 h2=>by
  rw [Below.heap_setCell _ _ _ _ h1];exact hgrow.block k hk (Ne.symm h2)
 have hρ:∀ k,k<w.heap.size->setρ ρ g 9 k=ρ k:=fun k hk=>by
  by_cases e:k=g
  ·subst e;rcases hat with e | e
   ·rw [setρ_at,h.cs.2 _ e]
   ·omega
  ·exact setρ_ne e
 have I:Inv B gW 0 (setρ ρ g 9) { s with vcs:=v,still:=[] } (w1.setCell ⟨gW,0,none⟩ v):=by
  refine h.inv.nine ⟨hsz,fun k hk hr=>hblk k hk (fun e=>hr (Or.inr (by rw [e];exact hrW))) (fun e=>hr (Or.inl (h.cs.2 k e)))⟩ hρ ?_ ⟨rfl,rfl,rfl,rfl,rfl,rfl,rfl,rfl,rfl⟩ rfl;exact ((h.inv.row.of_block (hgrow.block gW hgW (Ne.symm hne))).set 0 v).congr (fun i hi=>vs2 s v i hi)
 refine ⟨⟨setρ ρ g 9,{ s with vcs:=v,still:=[] },⟨I,⟨h.fw.ln,h.fw.wt,h.fw.mm,h.fw.bk⟩,⟨?_,fun x hx=>?_⟩,⟨?_,fun x hx=>?_⟩,?_⟩,?_⟩,?_⟩
 ·show World.ownsRow _ B _ 7 v (C++C').length ((C++C').flatMap k2f);rw [List.length_append,List.flatMap_append];exact kcz (R:=fun k=>k=gW) (ρ:=fun k=>k) hown ⟨by simp [World.setCell],fun k _ hk=>Below.heap_setCell _ _ _ _ hk⟩ (fun x hx=>by rw [hvg] at hx;injection hx with hx;omega)
 ·have hx':v.ownBlock=some x:=hx;rw [hvg] at hx';injection hx' with hx'
  rw [← hx'];exact setρ_at _ _ _
 ·have hap:∀ x,s.vss.ownBlock=some x->s.vcs.ownBlock≠some x:=fun x hx=>ypk h.ss.1 h.cs.1 (by decide) hx
  refine kcz (R:=fun k=>k=gW∨s.vcs.ownBlock=some k) (ρ:=fun k=>k) h.ss.1 ⟨hsz,fun k hk hr=>hblk k hk (fun e=>hr (Or.inl e)) (fun e=>hr (Or.inr e))⟩ (fun x hx hr=>?_);rcases hr with e | e
  ·have:=h.ss.2 x hx;rw [e,hrW] at this;omega
  ·exact hap x hx e
 ·rw [hρ x (xmo h.ss.1 hx)];exact h.ss.2 x hx
 ·refine hY.app h.y (fun k hk h9 h1 h2=>⟨hblk k hk (fun e=>by rw [e,hrW] at h9;omega) h1,by rw [hρ k hk];exact h9⟩) (fun x hx=>?_) hsz rfl rfl;rcases hx with hx | hx
  ·have hx':v.ownBlock=some x:=hx;rw [hvg] at hx';injection hx' with hx'
   subst hx';rcases hat with e | e
   ·exact Or.inl e
   ·right;right;omega
  ·exact Or.inr (Or.inl hx)
 ·intro k hk h9;by_cases e:s.vcs.ownBlock=some k
  ·have h9':(if s.vcs.ownBlock=some k then 0 else ρ k)=9:=h9;rw [if_pos e] at h9';omega
  ·have h9':(if s.vcs.ownBlock=some k then 0 else ρ k)=9:=h9;rw [if_neg e] at h9';exact ⟨hblk k hk (fun e=>by rw [e,hrW] at h9';omega) e,by rw [hρ k hk];exact h9'⟩
 ·exact ((Below.refl B w).grown hgrow h.inv.hB (fun x hx=>(h.cs.1.lt x hx).1)).setCell h.inv.gB _
theorem LI.appSs{B gW:Nat}{Y:(Nat->Nat)->kuu->World->Prop}(hY:YOk Y){C:List (List Int)}{S S':List ByteArray}{k:Nat}{ρ:Nat->Nat}{s:kuu}{w w1:World}{g cap:Nat}(h:LI B gW Y C S k ρ s w)
  (hgrow:w.grownBy w1 s.vss.ownBlock) (hown:w1.ownsRow B 9 1 (.slice (some ⟨g,0,none⟩) (S.length+S'.length) cap) (S.length+S'.length) (S.map Value.string++S'.map Value.string)) (hat:s.vss.ownBlock=some g∨g=w.heap.size) :
  (∃ ρ' s',LI B gW Y C (S++S') k ρ' s' (w1.setCell ⟨gW,1,none⟩ (.slice (some ⟨g,0,none⟩) (S.length+S'.length) cap)))∧Below B w (w1.setCell ⟨gW,1,none⟩ (.slice (some ⟨g,0,none⟩) (S.length+S'.length) cap)):=by
 obtain ⟨v,hv⟩:∃ v,v=Value.slice (some ⟨g,0,none⟩) (S.length+S'.length) cap:=⟨_,rfl⟩
 have hvg:v.ownBlock=some g:=by rw [hv];rfl
 rw [← hv] at hown ⊢;have hgW:gW<w.heap.size:=h.inv.row.lt;have hrW:=h.inv.rW;have hgne:g≠gW:=fun e=>by
  rcases hat with e' | e'
  ·have:=h.ss.2 g e';rw [e,hrW] at this;omega
  ·omega
 have hne:s.vss.ownBlock≠some gW:=fun e=>by have:=h.ss.2 gW e;omega
 have hsz:w.heap.size<=(w1.setCell ⟨gW,1,none⟩ v).heap.size:=by have:=hgrow.size;simpa using this
 have hblk:∀ k,k<w.heap.size->k≠gW->s.vss.ownBlock≠some k->(w1.setCell ⟨gW,1,none⟩ v).heap[k]?=w.heap[k]?:=fun k hk h1 h2=>by
  rw [Below.heap_setCell _ _ _ _ h1];exact hgrow.block k hk (Ne.symm h2)
 have hρ:∀ k,k<w.heap.size->setρ ρ g 9 k=ρ k:=fun k hk=>by
  by_cases e:k=g
  ·subst e;rcases hat with e | e
   ·rw [setρ_at,h.ss.2 _ e]
   ·omega
  ·exact setρ_ne e
 have I:Inv B gW 0 (setρ ρ g 9) { s with vss:=v,still:=[] } (w1.setCell ⟨gW,1,none⟩ v):=by
  refine h.inv.nine ⟨hsz,fun k hk hr=>hblk k hk (fun e=>hr (Or.inr (by rw [e];exact hrW))) (fun e=>hr (Or.inl (h.ss.2 k e)))⟩ hρ ?_ ⟨rfl,rfl,rfl,rfl,rfl,rfl,rfl,rfl,rfl⟩ rfl;exact ((h.inv.row.of_block (hgrow.block gW hgW (Ne.symm hne))).set 1 v).congr (fun i hi=>xf6 s v i hi)
 refine ⟨⟨setρ ρ g 9,{ s with vss:=v,still:=[] },⟨I,⟨h.fw.ln,h.fw.wt,h.fw.mm,h.fw.bk⟩,⟨?_,fun x hx=>?_⟩,⟨?_,fun x hx=>?_⟩,?_⟩⟩,?_⟩
 ·have hap:∀ x,s.vcs.ownBlock=some x->s.vss.ownBlock≠some x:=fun x hx=>ypk h.cs.1 h.ss.1 (by decide) hx
  refine kcz (R:=fun k=>k=gW∨s.vss.ownBlock=some k) (ρ:=fun k=>k) h.cs.1 ⟨hsz,fun k hk hr=>hblk k hk (fun e=>hr (Or.inl e)) (fun e=>hr (Or.inr e))⟩ (fun x hx hr=>?_);rcases hr with e | e
  ·have:=h.cs.2 x hx;rw [e,hrW] at this;omega
  ·exact hap x hx e
 ·rw [hρ x (xmo h.cs.1 hx)];exact h.cs.2 x hx
 ·show World.ownsRow _ B _ 1 v (S++S').length ((S++S').map Value.string);rw [List.length_append,List.map_append];exact kcz (R:=fun k=>k=gW) (ρ:=fun k=>k) hown ⟨by simp [World.setCell],fun k _ hk=>Below.heap_setCell _ _ _ _ hk⟩ (fun x hx=>by rw [hvg] at hx;injection hx with hx;omega)
 ·have hx':v.ownBlock=some x:=hx;rw [hvg] at hx';injection hx' with hx'
  rw [← hx'];exact setρ_at _ _ _
 ·refine hY.app h.y (fun k hk h9 h1 h2=>⟨hblk k hk (fun e=>by rw [e,hrW] at h9;omega) h2,by rw [hρ k hk];exact h9⟩) (fun x hx=>?_) hsz rfl rfl;rcases hx with hx | hx
  ·exact Or.inl hx
  ·have hx':v.ownBlock=some x:=hx;rw [hvg] at hx';injection hx' with hx'
   subst hx';rcases hat with e | e
   ·exact Or.inr (Or.inl e)
   ·right;right;omega
 ·exact ((Below.refl B w).grown hgrow h.inv.hB (fun x hx=>(h.ss.1.lt x hx).1)).setCell h.inv.gB _
theorem LI.same{B gW:Nat}{Y:(Nat->Nat)->kuu->World->Prop}(hY:YOk Y){C:List (List Int)}{S:List ByteArray}{k:Nat}{ρ:Nat->Nat}{s:kuu}{w:World}(h:LI B gW Y C S k ρ s w)(i:Nat):LI B gW Y C S k ρ s (w.setCell ⟨gW,i,none⟩ (fld s i))∧Below B w (w.setCell ⟨gW,i,none⟩ (fld s i)):=by
 obtain ⟨I,b⟩:=h.inv.same (i:=i);have K:K9 ρ ρ w (w.setCell ⟨gW,i,none⟩ (fld s i)):=fun k hk h9=>⟨Below.heap_setCell _ _ _ _ (fun e=>by have e':k=gW:=e;have:=h.inv.rW;rw [e'] at h9;omega),h9⟩
 exact ⟨⟨I,h.fw,h.cs.k9 K rfl,h.ss.k9 K rfl,hY.k9 h.y K b.size rfl rfl rfl rfl⟩,b⟩
structure Cfgs(w:World)(N:Nat)(ad:Option Addr)(n cap:Nat)(C:List (List Int)):Prop where
 len:C.length=n
 each:∀ c∈C,c.length=7∧∀ z∈c,inI z
 at_:∀ x,ad=some x->∀ j u,(C.flatMap k2f)[j]?=some u->x.block<w.heap.size∧w.cell? (x.add j)=some u
 caps:n<=cap∧cap<=maxLen
 nil:ad=none->n=0∧cap=0
 small:n<=N
structure j2n(C:List (List Int))(S:List ByteArray):Prop where
 cl:C.length<=2000000
 ce:∀ c∈C,c.length=7∧∀ z∈c,inI z
 sl:S.length<=2000000
 se:∀ s∈S,s.size<=1048576
 ne:0<C.length∧0<S.length
def KH(H:Nat)(ρ ρ':Nat->Nat)(w w':World):Prop:=∀ k,k<H->k<w.heap.size->ρ k=9->w'.heap[k]?=w.heap[k]?∧ρ' k=9
structure zgf(lo up:Int)(w:World)(Y:Nat->(Nat->Nat)->kuu->World->Prop):Prop where
 ok:∀ H,YOk (Y H)
 lo3:3<=lo
 step:∀ {H:Nat} {C:List (List Int)} {S:List ByteArray} {k:Nat} {ρ:Nat->Nat} {s:kuu} {wr:World} (kd a b c:Int) (t:ByteArray) (ap:Option Addr) (np cp:Nat),j2n C S->lo<=kd->kd<=up->k<=2000000->LI w.heap.size w.heap.size (Y H) C S k ρ s wr->Below w.heap.size w wr->OpI w 1048576 kd a b c t ap np cp->
  Calls Tryz.prog 34 #[.pointer (some ⟨w.heap.size,0,none⟩), .agg (opV kd a b c t (.slice ap np cp))] wr fun e w'=>e= .returned (.bool true)∧Below w.heap.size wr w'∧∃ (ρ':Nat->Nat) (s':kuu),LI w.heap.size w.heap.size (Y H) C S (k+1) ρ' s' w'∧KH H ρ ρ' wr w'
 looks:∀ {H:Nat} {C:List (List Int)} {S:List ByteArray} {k:Nat} {ρ:Nat->Nat} {s:kuu} {wr:World},k<=2000000->LI w.heap.size w.heap.size (Y H) C S k ρ s wr->
  Calls Tryz.prog 36 #[.pointer (some ⟨w.heap.size,0,none⟩)] wr fun e w'=>e= .returned (.bool true)∧Below wr.heap.size wr w'
theorem zgf.step_any{lo up:Int}{w:World}{Y:Nat->(Nat->Nat)->kuu->World->Prop}(h:zgf lo up w Y){H:Nat}{C:List (List Int)}{S:List ByteArray}{k:Nat}{ρ:Nat->Nat}{s:kuu}{wr:World}(kd a b c:Int)(t:ByteArray)(ap:Option Addr)(np cp:Nat)(hL:j2n C S)(hkd:kd<3∨(lo<=kd∧kd<=up))(hk:k<=2000000)(hI:LI w.heap.size w.heap.size (Y H) C S k ρ s wr)(hb:Below w.heap.size w wr)(hO:OpI w 1048576 kd a b c t ap np cp) :
  Calls Tryz.prog 34 #[.pointer (some ⟨w.heap.size,0,none⟩), .agg (opV kd a b c t (.slice ap np cp))] wr fun e w'=>e= .returned (.bool true)∧Below w.heap.size wr w'∧∃ (ρ':Nat->Nat) (s':kuu),LI w.heap.size w.heap.size (Y H) C S (k+1) ρ' s' w'∧KH H ρ ρ' wr w':=by
 rcases hkd with h3 | ⟨h1,h2⟩
 ·refine (zdw (h.ok H) hI kd a b c t ap np cp h3 hk).mono ?_;rintro e w' ⟨rfl,hb',ρ',s',hI',K⟩;exact ⟨rfl,hb',ρ',s',hI',fun i _ hi h9=>K i hi h9⟩
 ·exact h.step kd a b c t ap np cp hL h1 h2 hk hI hb hO
def ownL:List Int:=[0,9,9,9,1,9,99]
def hiB:ByteArray:=⟨#[1,2,0,253,255,104,105]⟩
theorem jgj:[ownL].flatMap k2f=ownC.toList:=rfl
theorem z9o:j2n [ownL] [hiB]:=by
 refine ⟨by decide,fun c hc=>?_,by decide,fun s hs=>?_,⟨by decide,by decide⟩⟩
 ·rw [List.mem_singleton.1 hc];exact ⟨rfl,fun z hz=>by simp [ownL] at hz;unfold inI;omega⟩
 ·rw [List.mem_singleton.1 hs];decide
theorem ji6(w:World){kd a b c:Int}{t:ByteArray}{k:Nat}(hk:k<18)(e0:vuj[k*6]?=some (.int .i64 kd))(e1:vuj[k*6+1]?=some (.int .i64 a))(e2:vuj[k*6+2]?=some (.int .i64 b))(e3:vuj[k*6+3]?=some (.int .i64 c))(e4:vuj[k*6+4]?=some (.string t)):OpI w 1048576 kd a b c t none 0 0:=by
 have T:Txts w 1048576 none 0 0 []:=⟨rfl,fun k hk=>by simp at hk,⟨Nat.le_refl _,by unfold maxLen;omega⟩,fun _=>⟨rfl,rfl⟩,fun _ e=>(by cases e),Nat.zero_le _,Nat.zero_le _⟩
 have:k=0∨k=1∨k=2∨k=3∨k=4∨k=5∨k=6∨k=7∨k=8∨k=9∨k=10∨k=11∨k=12∨k=13∨k=14∨k=15∨k=16∨k=17:=by omega
 rcases this with rfl | rfl | rfl | rfl | rfl | rfl | rfl | rfl | rfl | rfl | rfl | rfl | rfl | rfl | rfl | rfl | rfl | rfl <;>
  (simp [vuj,y89,z0j] at e0 e1 e2 e3 e4
   subst e0;subst e1;subst e2;subst e3;subst e4;exact ⟨by unfold inI;omega,by unfold inI;omega,by unfold inI;omega,by unfold inI;omega,by decide,[],T⟩)
theorem vsv{w W:World}{Y:(Nat->Nat)->kuu->World->Prop}(hY:YOk Y){g1 p1 g2 p2:Nat}(hr:W.rowIs w.heap.size 75 9 (fld (yw2 (.slice (some ⟨g1,0,none⟩) 1 p1) (.slice (some ⟨g2,0,none⟩) 1 p2) [])))(hb:Below w.heap.size w W)
  (h1:W.ownsRow w.heap.size 42 7 (.slice (some ⟨g1,0,none⟩) 1 p1) 1 ownC.toList) (h2:W.ownsRow w.heap.size 9 1 (.slice (some ⟨g2,0,none⟩) 1 p2) 1 [.string hiB]) (n1:g1≠w.heap.size) (n2:g2≠w.heap.size) :
  (∃ ρ s,LI w.heap.size w.heap.size Y [ownL] [hiB] 0 ρ s (W.alloc (.cells vuj 79))∧ρ W.heap.size=9)∧Below w.heap.size w (W.alloc (.cells vuj 79)):=by
 have hlt:=hr.lt;have b1:Below w.heap.size w (W.alloc (.cells vuj 79)):=hb.alloc hb.size _;obtain ⟨ρ,hρ⟩:∃ ρ:Nat->Nat,ρ=fun k=>if k=w.heap.size then 5 else if k<=W.heap.size then 9 else 0:=⟨_,rfl⟩
 have r5:ρ w.heap.size=5:=by rw [hρ];exact if_pos rfl
 have r9:∀ k,k≠w.heap.size->k<=W.heap.size->ρ k=9:=fun k h1 h2=>by
  rw [hρ];show (if k=w.heap.size then 5 else if k<=W.heap.size then 9 else 0)=9;rw [if_neg h1,if_pos h2]
 have al:Below W.heap.size W (W.alloc (.cells vuj 79)):=(Below.refl _ _).alloc (Nat.le_refl _) _;have o1:(W.alloc (.cells vuj 79)).ownsRow w.heap.size 42 7 (.slice (some ⟨g1,0,none⟩) 1 p1) 1 ownC.toList:=kcz (R:=fun _=>False) (ρ:=ρ) h1 (Kp.of_below al) (fun _ _ x=>x);have o2:(W.alloc (.cells vuj 79)).ownsRow w.heap.size 9 1 (.slice (some ⟨g2,0,none⟩) 1 p2) 1 [.string hiB]:=kcz (R:=fun _=>False) (ρ:=ρ) h2 (Kp.of_below al) (fun _ _ x=>x);have l1:g1<W.heap.size:=xmo h1 rfl;have l2:g2<W.heap.size:=xmo h2 rfl;refine ⟨⟨ρ,yw2 (.slice (some ⟨g1,0,none⟩) 1 p1) (.slice (some ⟨g2,0,none⟩) 1 p2) [],⟨?_,⟨by simp [yw2],by simp [yw2],by simp [yw2],by simp [yw2]⟩,⟨?_,fun g hg=>?_⟩,⟨?_,fun g hg=>?_⟩,hY.ini _ _ _ rfl rfl⟩,r9 _ (by omega) (Nat.le_refl _)⟩,b1⟩
 ·exact Inv.ini r5 (fun x hx=>by cases hx) b1 (hr.of_block (Below.heap_alloc W _ _ hlt)) (fun x hx=>by cases hx)
 ·rw [jgj];exact o1
 ·have hg':some g1=some g:=hg;injection hg' with hg'
  subst hg';exact r9 _ n1 (by omega)
 ·exact o2
 ·have hg':some g2=some g:=hg;injection hg' with hg'
  subst hg';exact r9 _ n2 (by omega)
theorem ku4{l:List (List Int)}:∀ u∈l.flatMap k2f,u.oneCell'=true:=fun u hu=>by
 obtain ⟨c,_,hc⟩:=List.mem_flatMap.1 hu;unfold k2f at hc;obtain ⟨z,_,rfl⟩:=List.mem_map.1 hc;rfl
theorem xgt{l:List (List Int)}(h:∀ c∈l,c.length=7):(l.flatMap k2f).length=l.length*7:=by
 induction l with
 | nil=>rfl
 | cons x xs ih=>
  rw [List.flatMap_cons,List.length_append,ih (fun c hc=>h c (List.mem_cons_of_mem _ hc)),j3k,h x (List.mem_cons_self ..),List.length_cons];omega
theorem x8g{w:World}{N:Nat}{x:Addr}{n cap:Nat}{P:List ByteArray}(h:Txts w N (some x) n cap P):∀ j u,(P.map Value.string)[j]?=some u->x.block<w.heap.size∧w.cell? (x.add j)=some u:=fun j u hu=>by
 have hj:j<P.length:=by
  have:=(List.getElem?_eq_some_iff.1 hu).1;simpa using this
 obtain ⟨b,o,e,hb,hc⟩:=h.at_ j hj;injection e with e
 subst e;refine ⟨hb,?_⟩;rw [Go.WideShapes.add_plain,hc];rw [List.getElem?_map,List.getElem?_eq_getElem hj] at hu;simpa using hu
end Go.Proofs.YtbcjmakpempkiaaGreatDoor
