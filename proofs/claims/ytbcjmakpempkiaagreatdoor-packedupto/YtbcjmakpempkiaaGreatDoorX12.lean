import Derived.Deep.Slices
import Derived.Lib.Builder
import Derived.Lib.UnsafeStr
import Derived.Maps.AppendAt
import Derived.Shelf.RegionOpenPlain
import Derived.Test.YtbcjmakpempkiaaGreatDoorX11
set_option maxRecDepth 100000
set_option maxHeartbeats 8000000
set_option linter.all false
namespace Go.Proofs.YtbcjmakpempkiaaGreatDoor
theorem Sn.lim{q:Quo}{D:Nat}{s:ByteArray}{y:MS}{c:Cf}(Y:Sn q D s y c):y.head=y.he↔c.σ.lim<=c.σ.hmany:=by
 have h:=Y.sm.head;rw [h.1,Y.sm.he];omega
theorem zsu{c c':Cf}{A:St->Act}(F:Fed c c')(hA:∀ h C,({ c.σ with held:=h,count:=C }:St).act=A { c.σ with held:=h,count:=C }):c'.σ.act=A c'.σ:=by
 have:=hA c'.σ.held c'.σ.count;rw [← F.σ] at this;exact this
theorem xwx{q:Quo}{D:Nat}{s:ByteArray}{x:MS}{c:Cf}(N:Sn q D s x c)(want next:Nat)
  (hA:∀ h C,({ c.σ with held:=h,count:=C }:St).act=({ c.σ with held:=h,count:=C }:St).need 8 (({ c.σ with held:=h,count:=C }:St).headByte want next)) (g:MS->MS×Nat)
  (hg:∀ y c',Sn q D s y c'->Fed c c'->c'.σ.act= .tau { c'.σ.crown with st:=next }->¬ c'.σ.lim<=c'.σ.hmany->Out q D s c' (g y.headRead)):Out q D s c (MS.andThen (MS.passByte want x) g):=by
 unfold MS.passByte;rw [y9c];refine xgk N (fun h C _ _ _ hk=>by rw [hA h C];exact if_pos hk) _ fun y c' Y F hk _=>?_
 have hact:=zsu (A:=fun σ=>σ.need 8 (σ.headByte want next)) F hA;unfold St.need St.headByte at hact;rw [if_neg (by omega)] at hact;have en:y.num 8=c'.σ.num 8:=by unfold MS.num St.num;rw [Y.sm.held]
 by_cases h5:c'.σ.lim<=c'.σ.hmany
 ·rw [if_pos h5] at hact;rw [if_pos (Y.lim.2 h5)];exact ja5 Y hact (by decide) rfl rfl rfl
 ·rw [if_neg h5] at hact;rw [if_neg (fun h=>h5 (Y.lim.1 h)),en];by_cases h6:c'.σ.num 8=want
  ·rw [if_pos h6] at hact ⊢;exact hg y c' Y F hact h5
  ·rw [if_neg h6] at hact ⊢;rw [zj4];exact ja5 Y hact (by decide) rfl rfl rfl
theorem x1o{q:Quo}{D:Nat}{s:ByteArray}{x:MS}{c:Cf}(N:Sn q D s x c)(hst:c.σ.st=5):Out q D s c x.h6:=by
 unfold MS.h6 MS.passCheck;have hm:=N.sm.wf.marks.1;rw [N.sm.marks,N.sm.hsum];by_cases h0:c.σ.marks / 4%2=0
 ·rw [if_pos h0,xd7];have hact:c.σ.act= .tau { c.σ with st:=6 }:=by
   rw [St.act_at hst];exact if_neg (by omega)
  refine jyp N.sm.wf hact (by omega) ?_
  exact ⟨{ N.sm with
   wf:=veo N.sm.wf hact
   sum:=fun _=>N.sm.sum (by rw [N.st];omega)
   nl:=fun h=>absurd h (show ¬ (10<=6∧6<=14) by decide)
   nd:=fun h=>absurd h (show ¬ (11<=6∧6<=14) by decide)
   told:=fun h=>absurd h (show ¬ (12<=6∧6<=14) by decide)
   hs:=fun h=>absurd h (show ¬ (13<=6∧6<=14) by decide)
   hk:=fun h=>absurd h (show ¬ (6=14) by decide)
   la:=fun h=>absurd h (show ¬ (15<=6∧6<=20) by decide) },rfl,N.mb,N.pre⟩
 ·rw [if_neg h0];refine xwx N c.σ.hsum 6 (fun h C=>by rw [St.act_at (show ({ c.σ with held:=h,count:=C }:St).st=5 from hst)];exact if_pos (show c.σ.marks / 4=1 by omega)) _ fun y c' Y F hact h5=>?_
  have hst':c'.σ.st=5:=F.st.trans hst;refine jyp Y.sm.wf hact (by omega) ?_
  exact ⟨{ Y.sm with
   wf:=veo Y.sm.wf hact
   sum:=fun _=>Y.sm.sum (by rw [Y.st];omega)
   held:=by show y.held / 2^8=c'.σ.held / 2^8;rw [Y.sm.held]
   count:=by show y.count - 8=c'.σ.count - 8;rw [Y.sm.count]
   head:=⟨by show y.head+1=c'.σ.hmany+1;rw [Y.sm.head.1],by show c'.σ.hmany+1<=c'.σ.lim;omega⟩
   hsum:=by show (y.hsum+y.num 8)%256=(c'.σ.hsum+c'.σ.num 8)%256;rw [Y.sm.hsum];unfold MS.num St.num;rw [Y.sm.held]
   nl:=fun h=>absurd h (show ¬ (10<=6∧6<=14) by decide)
   nd:=fun h=>absurd h (show ¬ (11<=6∧6<=14) by decide)
   told:=fun h=>absurd h (show ¬ (12<=6∧6<=14) by decide)
   hs:=fun h=>absurd h (show ¬ (13<=6∧6<=14) by decide)
   hk:=fun h=>absurd h (show ¬ (6=14) by decide)
   la:=fun h=>absurd h (show ¬ (15<=6∧6<=20) by decide) },rfl,Y.mb,Y.pre⟩
theorem jdu(f:Nat)(x:MS)(g:MS->MS×Nat):MS.andThen (MS.textL (f+1) x) g=MS.symThen x.takeHead (fun y b=>if b=0 then g y else MS.andThen (MS.textL f y) g):=by
 rw [MS.textL];unfold MS.symThen;by_cases h1:x.takeHead.2.1=0
 ·rw [if_pos h1];by_cases h2:x.takeHead.2.2=0
  ·rw [if_pos (Or.inr h2),h1];exact (if_pos h2).symm
  ·rw [if_neg (fun h=>h.elim (fun h=>h h1) h2)];exact (if_neg h2).symm
 ·rw [if_neg h1,if_pos (Or.inl h1)];unfold MS.andThen;rw [if_neg h1]
theorem Sn.more{q:Quo}{D:Nat}{s:ByteArray}{x:MS}{c:Cf}(N:Sn q D s x c):x.more=(s.size - c.pre.length)+c.σ.count / 8:=by
 unfold MS.more;rw [N.sm.rest,zli,N.sm.count]
theorem text_go{q:Quo}{D:Nat}{s:ByteArray}(n next:Nat)(hn:n=3∨n=4)(g:MS->MS×Nat)(f:Nat):∀ {x:MS} {c:Cf},Sn q D s x c->c.σ.st=n->x.more<f->
  (∀ h C,({ c.σ with held:=h,count:=C }:St).act=({ c.σ with held:=h,count:=C }:St).need 8 (({ c.σ with held:=h,count:=C }:St).text next))->
  (∀ y c',Sn q D s y c'->c'.σ.st=n->c'.σ.act= .tau { c'.σ.crown with st:=next }->¬ c'.σ.lim<=c'.σ.hmany->Out q D s c' (g y.headRead))->
  (∀ (σ:St),σ.st=n->σ.marks=c.σ.marks->∀ h C,({ σ with held:=h,count:=C }:St).act=({ σ with held:=h,count:=C }:St).need 8 (({ σ with held:=h,count:=C }:St).text next))->Out q D s c (MS.andThen (MS.textL f x) g):=by
 induction f with
 | zero=>intro x c N hst hf;omega
 | succ f ih=>
  intro x c N hst hf hA hg hall;rw [jdu];refine xgk N (fun h C _ _ _ hk=>by rw [hA h C];exact if_pos hk) _ fun y c' Y F hk _=>?_
  have hact:=zsu (A:=fun σ=>σ.need 8 (σ.text next)) F hA;have hst':c'.σ.st=n:=F.st.trans hst;unfold St.need St.text at hact;rw [if_neg (by omega)] at hact;have en:y.num 8=c'.σ.num 8:=by unfold MS.num St.num;rw [Y.sm.held]
  by_cases h5:c'.σ.lim<=c'.σ.hmany
  ·rw [if_pos h5] at hact;rw [if_pos (Y.lim.2 h5)];exact ja5 Y hact (by decide) rfl rfl rfl
  ·rw [if_neg h5] at hact;rw [if_neg (fun h=>h5 (Y.lim.1 h)),en];by_cases h6:c'.σ.num 8=0
   ·rw [if_pos h6] at hact ⊢;exact hg y c' Y hst' hact h5
   ·rw [if_neg h6] at hact ⊢;have hm:c'.σ.marks=c.σ.marks:=by rw [F.σ]
    refine xuc Y.sm.wf hact (by omega) (ih ?_ hst' ?_ (hall _ hst' hm) hg (fun σ h1 h2=>hall σ h1 (h2.trans hm)))
    ·exact ⟨{ Y.sm with
      wf:=veo Y.sm.wf hact
      sum:=fun _=>Y.sm.sum (by rw [Y.st];omega)
      held:=by show y.held / 2^8=c'.σ.held / 2^8;rw [Y.sm.held]
      count:=by show y.count - 8=c'.σ.count - 8;rw [Y.sm.count]
      head:=⟨by show y.head+1=c'.σ.hmany+1;rw [Y.sm.head.1],by show c'.σ.hmany+1<=c'.σ.lim;omega⟩
      hsum:=by show (y.hsum+y.num 8)%256=(c'.σ.hsum+c'.σ.num 8)%256;rw [Y.sm.hsum];unfold MS.num St.num;rw [Y.sm.held]
      nl:=fun h=>absurd h (show ¬ (10<=c'.σ.st∧c'.σ.st<=14) by omega)
      nd:=fun h=>absurd h (show ¬ (11<=c'.σ.st∧c'.σ.st<=14) by omega)
      told:=fun h=>absurd h (show ¬ (12<=c'.σ.st∧c'.σ.st<=14) by omega)
      hs:=fun h=>absurd h (show ¬ (13<=c'.σ.st∧c'.σ.st<=14) by omega)
      hk:=fun h=>absurd h (show ¬ (c'.σ.st=14) by omega)
      la:=fun h=>absurd h (show ¬ (15<=c'.σ.st∧c'.σ.st<=20) by omega) },Y.st,Y.mb,Y.pre⟩
    ·have e1:=N.more;have e2:(y.headRead).more=(s.size - c'.pre.length)+(c'.σ.count - 8) / 8:=by
      unfold MS.more;show y.rest.length+(y.count - 8) / 8=_;rw [Y.sm.rest,zli,Y.sm.count]
     have e3:=F.tot;have e4:=Y.sm.le;rw [e1] at hf;rw [e2];omega
theorem xhm{q:Quo}{D:Nat}{s:ByteArray}{x:MS}{c:Cf}(N:Sn q D s x c)(n next mark:Nat)(hn:n=3∧mark=1∧next=4∨n=4∧mark=2∧next=5)(hst:c.σ.st=n)(g:MS->MS×Nat)
  (h0:c.σ.act= .tau { c.σ with st:=next }->Out q D s c (g x))
  (hg:∀ y c',Sn q D s y c'->c'.σ.st=n->c'.σ.act= .tau { c'.σ.crown with st:=next }->¬ c'.σ.lim<=c'.σ.hmany->Out q D s c' (g y.headRead)):Out q D s c (MS.andThen (MS.passText mark x) g):=by
 unfold MS.passText;rw [N.sm.marks];by_cases h1:c.σ.marks / mark%2=0
 ·rw [if_pos h1,xd7];refine h0 ?_;rw [St.act_at hst];rcases hn with ⟨rfl,rfl,rfl⟩ | ⟨rfl,rfl,rfl⟩
  ·exact if_neg (by omega)
  ·exact if_neg (by omega)
 ·rw [if_neg h1];have hall:∀ (σ:St),σ.st=n->σ.marks=c.σ.marks->∀ h C,({ σ with held:=h,count:=C }:St).act=({ σ with held:=h,count:=C }:St).need 8 (({ σ with held:=h,count:=C }:St).text next):=fun σ hs hm h C=>by
   rw [St.act_at (show ({ σ with held:=h,count:=C }:St).st=n from hs)];rcases hn with ⟨rfl,rfl,rfl⟩ | ⟨rfl,rfl,rfl⟩
   ·exact if_pos (show σ.marks%2=1 by rw [hm];omega)
   ·exact if_pos (show σ.marks / 2%2=1 by rw [hm];omega)
  exact text_go n next (by omega) g _ N hst (Nat.lt_succ_self _) (hall _ hst rfl) hg hall
theorem z70{q:Quo}{D:Nat}{s:ByteArray}{x:MS}{c:Cf}(N:Sn q D s x c)(hst:c.σ.st=4):Out q D s c x.h5:=by
 unfold MS.h5;refine xhm N 4 5 2 (by omega) hst _ (fun hact=>?_) (fun y c' Y hst' hact h5=>?_)
 ·refine xuc N.sm.wf hact (by omega) (x1o ?_ rfl);exact ⟨{ N.sm with
   wf:=veo N.sm.wf hact
   sum:=fun _=>N.sm.sum (by rw [N.st];omega)
   nl:=fun h=>absurd h (show ¬ (10<=5∧5<=14) by decide)
   nd:=fun h=>absurd h (show ¬ (11<=5∧5<=14) by decide)
   told:=fun h=>absurd h (show ¬ (12<=5∧5<=14) by decide)
   hs:=fun h=>absurd h (show ¬ (13<=5∧5<=14) by decide)
   hk:=fun h=>absurd h (show ¬ (5=14) by decide)
   la:=fun h=>absurd h (show ¬ (15<=5∧5<=20) by decide) },rfl,N.mb,N.pre⟩
 ·refine xuc Y.sm.wf hact (by omega) (x1o ?_ rfl);exact ⟨{ Y.sm with
   wf:=veo Y.sm.wf hact
   sum:=fun _=>Y.sm.sum (by rw [Y.st];omega)
   held:=by show y.held / 2^8=c'.σ.held / 2^8;rw [Y.sm.held]
   count:=by show y.count - 8=c'.σ.count - 8;rw [Y.sm.count]
   head:=⟨by show y.head+1=c'.σ.hmany+1;rw [Y.sm.head.1],by show c'.σ.hmany+1<=c'.σ.lim;omega⟩
   hsum:=by show (y.hsum+y.num 8)%256=(c'.σ.hsum+c'.σ.num 8)%256;rw [Y.sm.hsum];unfold MS.num St.num;rw [Y.sm.held]
   nl:=fun h=>absurd h (show ¬ (10<=5∧5<=14) by decide)
   nd:=fun h=>absurd h (show ¬ (11<=5∧5<=14) by decide)
   told:=fun h=>absurd h (show ¬ (12<=5∧5<=14) by decide)
   hs:=fun h=>absurd h (show ¬ (13<=5∧5<=14) by decide)
   hk:=fun h=>absurd h (show ¬ (5=14) by decide)
   la:=fun h=>absurd h (show ¬ (15<=5∧5<=20) by decide) },rfl,Y.mb,Y.pre⟩
theorem z57{q:Quo}{D:Nat}{s:ByteArray}{x:MS}{c:Cf}(N:Sn q D s x c)(hst:c.σ.st=3):Out q D s c x.h4:=by
 unfold MS.h4;refine xhm N 3 4 1 (by omega) hst _ (fun hact=>?_) (fun y c' Y hst' hact h5=>?_)
 ·refine xuc N.sm.wf hact (by omega) (z70 ?_ rfl);exact ⟨{ N.sm with
   wf:=veo N.sm.wf hact
   sum:=fun _=>N.sm.sum (by rw [N.st];omega)
   nl:=fun h=>absurd h (show ¬ (10<=4∧4<=14) by decide)
   nd:=fun h=>absurd h (show ¬ (11<=4∧4<=14) by decide)
   told:=fun h=>absurd h (show ¬ (12<=4∧4<=14) by decide)
   hs:=fun h=>absurd h (show ¬ (13<=4∧4<=14) by decide)
   hk:=fun h=>absurd h (show ¬ (4=14) by decide)
   la:=fun h=>absurd h (show ¬ (15<=4∧4<=20) by decide) },rfl,N.mb,N.pre⟩
 ·refine xuc Y.sm.wf hact (by omega) (z70 ?_ rfl);exact ⟨{ Y.sm with
   wf:=veo Y.sm.wf hact
   sum:=fun _=>Y.sm.sum (by rw [Y.st];omega)
   held:=by show y.held / 2^8=c'.σ.held / 2^8;rw [Y.sm.held]
   count:=by show y.count - 8=c'.σ.count - 8;rw [Y.sm.count]
   head:=⟨by show y.head+1=c'.σ.hmany+1;rw [Y.sm.head.1],by show c'.σ.hmany+1<=c'.σ.lim;omega⟩
   hsum:=by show (y.hsum+y.num 8)%256=(c'.σ.hsum+c'.σ.num 8)%256;rw [Y.sm.hsum];unfold MS.num St.num;rw [Y.sm.held]
   nl:=fun h=>absurd h (show ¬ (10<=4∧4<=14) by decide)
   nd:=fun h=>absurd h (show ¬ (11<=4∧4<=14) by decide)
   told:=fun h=>absurd h (show ¬ (12<=4∧4<=14) by decide)
   hs:=fun h=>absurd h (show ¬ (13<=4∧4<=14) by decide)
   hk:=fun h=>absurd h (show ¬ (4=14) by decide)
   la:=fun h=>absurd h (show ¬ (15<=4∧4<=20) by decide) },rfl,Y.mb,Y.pre⟩
theorem vk5{q:Quo}{D:Nat}{s:ByteArray}{x:MS}{c:Cf}(N:Sn q D s x c)(hst:c.σ.st=2):Out q D s c x.h3:=by
 unfold MS.h3 MS.passMarks;by_cases h2:x.fm=2
 ·have hf2:c.σ.fmt=2:=by rw [← N.sm.fm];exact h2
  rw [if_pos h2,y9c];refine xgk N (yij hst fun h C hk=>by simp only [St.actAt];rw [if_pos hf2];exact if_pos hk) _ fun y c' Y F hk _=>?_
  have hst':c'.σ.st=2:=F.st.trans hst;have hact:c'.σ.act=if c'.σ.lim<=c'.σ.hmany then .fail 5 else if 7<c'.σ.num 8 then .fail 4 else .tau { c'.σ.crown with marks:=c'.σ.num 8,st:=3 }:=by
   rw [St.act_at hst'];simp only [St.actAt,St.need];rw [if_pos (F.fmt.trans hf2),if_neg (by omega)]
  have en:y.num 8=c'.σ.num 8:=by unfold MS.num St.num;rw [Y.sm.held]
  by_cases h5:c'.σ.lim<=c'.σ.hmany
  ·rw [if_pos h5] at hact;rw [if_pos (Y.lim.2 h5)];exact ja5 Y hact (by decide) rfl rfl rfl
  ·rw [if_neg h5] at hact;rw [if_neg (fun h=>h5 (Y.lim.1 h)),en];by_cases h6:7<c'.σ.num 8
   ·rw [if_pos h6] at hact ⊢;exact ja5 Y hact (by decide) rfl rfl rfl
   ·rw [if_neg h6] at hact ⊢;rw [xd7];refine xuc Y.sm.wf hact (by omega) (z57 ?_ rfl);exact ⟨{ Y.sm with
     wf:=veo Y.sm.wf hact
     sum:=fun _=>Y.sm.sum (by rw [Y.st];omega)
     held:=by show y.held / 2^8=c'.σ.held / 2^8;rw [Y.sm.held]
     count:=by show y.count - 8=c'.σ.count - 8;rw [Y.sm.count]
     head:=⟨by show y.head+1=c'.σ.hmany+1;rw [Y.sm.head.1],by show c'.σ.hmany+1<=c'.σ.lim;omega⟩
     hsum:=by show (y.hsum+y.num 8)%256=(c'.σ.hsum+c'.σ.num 8)%256;rw [Y.sm.hsum];unfold MS.num St.num;rw [Y.sm.held]
     marks:=rfl
     nl:=fun h=>absurd h (show ¬ (10<=3∧3<=14) by decide)
     nd:=fun h=>absurd h (show ¬ (11<=3∧3<=14) by decide)
     told:=fun h=>absurd h (show ¬ (12<=3∧3<=14) by decide)
     hs:=fun h=>absurd h (show ¬ (13<=3∧3<=14) by decide)
     hk:=fun h=>absurd h (show ¬ (3=14) by decide)
     la:=fun h=>absurd h (show ¬ (15<=3∧3<=20) by decide) },rfl,Y.mb,Y.pre⟩
 ·rw [if_neg h2,xd7];have hact:c.σ.act= .tau { c.σ with st:=3 }:=by
   rw [St.act_at hst];exact if_neg (by rw [← N.sm.fm];exact h2)
  refine xuc N.sm.wf hact (by omega) (z57 ?_ rfl);exact ⟨{ N.sm with
   wf:=veo N.sm.wf hact
   sum:=fun _=>N.sm.sum (by rw [N.st];omega)
   nl:=fun h=>absurd h (show ¬ (10<=3∧3<=14) by decide)
   nd:=fun h=>absurd h (show ¬ (11<=3∧3<=14) by decide)
   told:=fun h=>absurd h (show ¬ (12<=3∧3<=14) by decide)
   hs:=fun h=>absurd h (show ¬ (13<=3∧3<=14) by decide)
   hk:=fun h=>absurd h (show ¬ (3=14) by decide)
   la:=fun h=>absurd h (show ¬ (15<=3∧3<=20) by decide) },rfl,N.mb,N.pre⟩
theorem vkw{q:Quo}{D:Nat}{s:ByteArray}{x:MS}{c:Cf}(N:Sn q D s x c)(hst:c.σ.st=1):Out q D s c x.h2:=by
 have hz:=St.fmt_pos N.sm.wf (by omega);unfold MS.h2 MS.passFixed;rw [N.sm.fm,if_neg hz];refine xwx N (MS.second c.σ.fmt) 2 (fun h C=>by rw [St.act_at (show ({ c.σ with held:=h,count:=C }:St).st=1 from hst)];rfl) _ fun y c' Y F hact h5=>?_
 have hst':c'.σ.st=1:=F.st.trans hst;refine xuc Y.sm.wf hact (by omega) (vk5 ?_ rfl);exact ⟨{ Y.sm with
  wf:=veo Y.sm.wf hact
  sum:=fun _=>Y.sm.sum (by rw [Y.st];omega)
  held:=by show y.held / 2^8=c'.σ.held / 2^8;rw [Y.sm.held]
  count:=by show y.count - 8=c'.σ.count - 8;rw [Y.sm.count]
  head:=⟨by show y.head+1=c'.σ.hmany+1;rw [Y.sm.head.1],by show c'.σ.hmany+1<=c'.σ.lim;omega⟩
  hsum:=by show (y.hsum+y.num 8)%256=(c'.σ.hsum+c'.σ.num 8)%256;rw [Y.sm.hsum];unfold MS.num St.num;rw [Y.sm.held]
  nl:=fun h=>absurd h (show ¬ (10<=2∧2<=14) by decide)
  nd:=fun h=>absurd h (show ¬ (11<=2∧2<=14) by decide)
  told:=fun h=>absurd h (show ¬ (12<=2∧2<=14) by decide)
  hs:=fun h=>absurd h (show ¬ (13<=2∧2<=14) by decide)
  hk:=fun h=>absurd h (show ¬ (2=14) by decide)
  la:=fun h=>absurd h (show ¬ (15<=2∧2<=20) by decide) },rfl,Y.mb,Y.pre⟩
theorem jgq{q:Quo}{D:Nat}{s:ByteArray}{x:MS}{c:Cf}(N:Sn q D s x c)(hst:c.σ.st=0):Out q D s c x.h1:=by
 have hz:=St.fmt_pos N.sm.wf (by omega);unfold MS.h1 MS.passFixed;rw [N.sm.fm,if_neg hz];refine xwx N (MS.first c.σ.fmt) 1 (fun h C=>by rw [St.act_at (show ({ c.σ with held:=h,count:=C }:St).st=0 from hst)];rfl) _ fun y c' Y F hact h5=>?_
 have hst':c'.σ.st=0:=F.st.trans hst;refine xuc Y.sm.wf hact (by omega) (vkw ?_ rfl);exact ⟨{ Y.sm with
  wf:=veo Y.sm.wf hact
  sum:=fun _=>Y.sm.sum (by rw [Y.st];omega)
  held:=by show y.held / 2^8=c'.σ.held / 2^8;rw [Y.sm.held]
  count:=by show y.count - 8=c'.σ.count - 8;rw [Y.sm.count]
  head:=⟨by show y.head+1=c'.σ.hmany+1;rw [Y.sm.head.1],by show c'.σ.hmany+1<=c'.σ.lim;omega⟩
  hsum:=by show (y.hsum+y.num 8)%256=(c'.σ.hsum+c'.σ.num 8)%256;rw [Y.sm.hsum];unfold MS.num St.num;rw [Y.sm.held]
  nl:=fun h=>absurd h (show ¬ (10<=1∧1<=14) by decide)
  nd:=fun h=>absurd h (show ¬ (11<=1∧1<=14) by decide)
  told:=fun h=>absurd h (show ¬ (12<=1∧1<=14) by decide)
  hs:=fun h=>absurd h (show ¬ (13<=1∧1<=14) by decide)
  hk:=fun h=>absurd h (show ¬ (1=14) by decide)
  la:=fun h=>absurd h (show ¬ (15<=1∧1<=20) by decide) },rfl,Y.mb,Y.pre⟩
inductive yvw(q:Quo)(D:Nat)(s:ByteArray)(x:MS)(c:Cf):Prop
 | run:Sn q D s x c->yvw q D s x c
 | fresh:Sm q D s x c->x.st=0->x.mb=0->c=Cf.begin c.σ.fmt c.σ.mem c.σ.lim->yvw q D s x c
 | between:Sm q D s x c->x.st=0->x.mb=c.starts.length->c.σ.st=23->c.σ.fmt=2->c.σ.count=8->0<c.pre.length->yvw q D s x c
theorem yvw.sm{q:Quo}{D:Nat}{s:ByteArray}{x:MS}{c:Cf}(h:yvw q D s x c):Sm q D s x c:=by
 cases h with
 | run h=>exact h.sm
 | fresh h=>exact h
 | between h=>exact h
def stN(x:MS):Nat:=if x.st=0 then 0 else 1
def muS(s:ByteArray)(x:MS)(c:Cf):Nat:=2*muC s c+stN x
inductive OutS(q:Quo)(D:Nat)(s:ByteArray)(x:MS)(c:Cf)(r:MS×Nat):Prop
 | go (c':Cf):v44 q D s c c'->r.2=0->yvw q D s r.1 c'->muS s r.1 c'<muS s x c->OutS q D s x c r
 | hungry (c':Cf):v44 q D s c c'->r.2=1->yvw q D s r.1 c'->c'.σ.act= .take->s.size<=c'.pre.length->OutS q D s x c r
 | full (c':Cf) (b:Nat) (σ':St):v44 q D s c c'->r.2=2->yvw q D s r.1 c'->c'.σ.act= .put b σ'->D+64<=c'.outs.length->OutS q D s x c r
 | dead (c':Cf) (e:Nat):v44 q D s c c'->r.2=3->Dead q r.1 c' e->Stop q D s c' e->OutS q D s x c r
theorem Out.turn{q:Quo}{D:Nat}{s:ByteArray}{x:MS}{c c1:Cf}{r:MS×Nat}(O:Out q D s c1 r)(W:St.Wf c.σ)(st:v44 q D s c c1)(h:muC s c1<muC s c∨(c1=c∧x.st≠0)):OutS q D s x c r:=by
 have W1:=(st.mu W).1;have hle:muC s c1<=muC s c:=(st.mu W).2;have hs:∀ y:MS,stN y<=1:=fun y=>by unfold stN;split <;> omega
 cases O with
 | go c' h1 h2 h3 h4=>
  refine .go c' (st.trans h1) h2 (.run h3) ?_;have:=hs r.1;unfold muS;rcases h with h | ⟨rfl,hx⟩
  ·omega
  ·have:stN x=1:=if_neg hx;omega
 | between c' h1 h2 h3 h4 h5 h6 h7 h8 h9=>
  have hl:=(h1.mu W1).2;refine .go c' (st.trans h1) h2 (.between h3 h4 h5 h6 h7 h8 h9) ?_;have e:stN r.1=0:=if_pos h4;unfold muS;rcases h with h | ⟨rfl,hx⟩
  ·omega
  ·have:stN x=1:=if_neg hx;omega
 | hungry c' h1 h2 h3 h4 h5=>exact .hungry c' (st.trans h1) h2 (.run h3) h4 h5
 | full c' b σ' h1 h2 h3 h4 h5=>exact .full c' b σ' (st.trans h1) h2 (.run h3) h4 h5
 | dead c' e h1 h2 h3 h4=>exact .dead c' e (st.trans h1) h2 h3 h4
structure Lim(q:Quo)(mem lim:Nat):Prop where
 sp:q.steps<=9223372036854775807
 quo:q.ratio*q.steps+q.slack<=9223372036854775807
 ou:q.out<=9223372036854775807
 he:lim<=9223372036854775807
 me:mem<=9223372036854775807
theorem xc8{s:ByteArray}{i:Nat}:∀ b∈jlo s i,b<256:=fun b hb=>by
 unfold jlo strN at hb;obtain ⟨u,_,rfl⟩:=List.mem_map.1 (List.mem_of_mem_drop hb);exact u.toNat_lt
theorem yvw.mbs{q:Quo}{D:Nat}{s:ByteArray}{x:MS}{c:Cf}(h:yvw q D s x c):x.mb<=x.me:=by
 rw [h.sm.me];have:=h.sm.mb;cases h with
 | run h=>rw [h.mb];omega
 | fresh _ _ e _=>omega
 | between _ _ e _ _ _ _=>omega
theorem yvw.ok{q:Quo}{D:Nat}{s:ByteArray}{x:MS}{c:Cf}(h:yvw q D s x c)(L:Lim q c.σ.mem c.σ.lim):Ok x:=by
 have S:=h.sm;exact ⟨by rw [S.held,S.count];exact S.wf.held,by rw [S.tk,S.pu,S.sp];exact S.stp,by rw [S.sp];exact L.sp,by rw [S.ra,S.sp,S.sl];exact L.quo,by rw [S.ou];exact L.ou,S.sumle,by rw [S.rest];exact xc8,by rw [S.head.1,S.he];exact ⟨S.head.2,L.he⟩,⟨h.mbs,by rw [S.me];exact L.me⟩,by rw [S.hsum];exact S.wf.hsum,by rw [S.size];omega,by rw [S.marks];have:=S.wf.marks.1;omega,by rw [S.fm];exact S.wf.fmt⟩
theorem kio{l:List Int}{h c:Nat}(F:y8i l h c):c<=20:=by
 have hl:lng l 12<=11:=y4h l 11;cases e:jcs l h c with
 | hit k m=>
  have:=F.1 k m e;have h2:=yyp l _ _ _ _ _ _ _ e;omega
 | more=>
  have:=x53 l _ _ _ _ _ e;omega
 | none=>
  have:=F.2 e;omega
theorem zbm(k:Nat):hbits k<=6∧hleast k<=11:=by
 unfold hbits hleast;(repeat' split) <;> omega
theorem Sn.pre_{q:Quo}{D:Nat}{s:ByteArray}{x:MS}{c:Cf}(N:Sn q D s x c)(L:Lim q c.σ.mem c.σ.lim):Pre x:=by
 have ok:=(yvw.run N).ok L;have S:=N.sm;have W:=S.wf;have few:=W.few;have hat:=W.at_;have hst:=N.st;have hqc:∀ b∈x.qc,b<256:=fun b hb=>by rw [S.qc] at hb;exact W.om b (List.mem_of_mem_drop hb)
 have hsets:∀ {n},c.σ.st=n->15<=n∧n<=20->St.Sets c.σ->x.la≠[]∧x.lb.length<=16∧x.la.length<=269:=fun hn hr hs=>by
  have e:=S.la (by rw [hn];exact hr);rw [e.1,e.2];refine ⟨fun h0=>?_,hs.nb,hs.na.2⟩;have h1:=hs.na.1;rw [h0] at h1;exact absurd h1 (by decide)
 rcases St.cases24 W.st with h | h | h | h | h | h | h | h | h | h | h | h | h | h | h | h | h | h | h | h | h | h | h | h
 ·have f:c.σ.count%8=0∧c.σ.count<=8:=St.few_of (n:=0) (by omega) (h ▸ few);rw [h] at hst;exact ⟨ok,by rw [S.count];omega,by omega,by rw [hst];exact ⟨ok,by rw [S.count];omega⟩⟩
 ·have f:c.σ.count%8=0∧c.σ.count<=8:=St.few_of (n:=1) (by omega) (h ▸ few);rw [h] at hst;exact ⟨ok,by rw [S.count];omega,by omega,by rw [hst];exact ⟨ok,by rw [S.count];omega⟩⟩
 ·have f:c.σ.count%8=0∧c.σ.count<=8:=St.few_of (n:=2) (by omega) (h ▸ few);rw [h] at hst;exact ⟨ok,by rw [S.count];omega,by omega,by rw [hst];exact ⟨ok,by rw [S.count];omega⟩⟩
 ·have f:c.σ.count%8=0∧c.σ.count<=8:=St.few_of (n:=3) (by omega) (h ▸ few);rw [h] at hst;exact ⟨ok,by rw [S.count];omega,by omega,by rw [hst];exact ⟨ok,by rw [S.count];omega⟩⟩
 ·have f:c.σ.count%8=0∧c.σ.count<=8:=St.few_of (n:=4) (by omega) (h ▸ few);rw [h] at hst;exact ⟨ok,by rw [S.count];omega,by omega,by rw [hst];exact ⟨ok,by rw [S.count];omega⟩⟩
 ·have f:c.σ.count%8=0∧c.σ.count<=8:=St.few_of (n:=5) (by omega) (h ▸ few);rw [h] at hst;exact ⟨ok,by rw [S.count];omega,by omega,by rw [hst];exact ⟨ok,by rw [S.count];omega⟩⟩
 ·rw [h] at few hst;exact ⟨ok,by rw [S.count];have f:c.σ.count<11:=few;omega,by omega,by rw [hst];trivial⟩
 ·rw [h] at few hst;exact ⟨ok,by rw [S.count];exact few.2,by omega,by rw [hst];trivial⟩
 ·rw [h] at few hst hat;exact ⟨ok,by rw [S.count];have f:=few.2.1;omega,by omega,by rw [hst];show x.left<=65535;rw [S.left];exact hat⟩
 ·have hl:=W.own (Or.inl (by omega));rw [h] at few hst;exact ⟨ok,by rw [S.count];have f:c.σ.count<12:=few;omega,by omega,by rw [hst];show x.hl=[];rw [S.hl];exact hl.1⟩
 ·have hl:=W.own (Or.inl (by omega));rw [h] at few hst;exact ⟨ok,by rw [S.count];have f:c.σ.count<12:=few;omega,by omega,by rw [hst];show x.hl=[];rw [S.hl];exact hl.1⟩
 ·have hl:=W.own (Or.inl (by omega));rw [h] at few hst;exact ⟨ok,by rw [S.count];have f:c.σ.count<12:=few;omega,by omega,by rw [hst];show x.hl=[];rw [S.hl];exact hl.1⟩
 ·have ht:=S.told (by rw [h];decide);rw [h] at few hst hat;exact ⟨ok,by rw [S.count];have f:=few.1;omega,by omega,by rw [hst];show x.told<=15∧x.hl.length<=x.told∧_;rw [ht,S.hl];exact ⟨hat.2.2.1.2,hat.2.2.2.1,hat.2.2.2.2.1⟩⟩
 ·have e1:=S.nl (by rw [h];decide);have e2:=S.nd (by rw [h];decide);have e3:=S.hs (by rw [h];decide);rw [h] at few hst hat;obtain ⟨a1,a2,a3,a4,a5⟩:=hat;exact ⟨ok,by rw [S.count];have f:=kio few;omega,by omega,by rw [hst];exact ⟨⟨by rw [e1];exact a1,by rw [e2];exact a2,by rw [S.row];exact a4,by rw [e1,e2,S.row];exact a5⟩,by rw [e3];intro h0;have a6:=a3.2.2;rw [h0] at a6;exact absurd a6 (by decide),by rw [e3];have a6:=a3.2.2;omega⟩⟩
 ·have e1:=S.nl (by rw [h];decide);have e2:=S.nd (by rw [h];decide);have e3:=S.hk h;rw [h] at few hst hat;obtain ⟨⟨a1,a2,a3,a4,a5⟩,a6⟩:=hat;obtain ⟨b1,b2⟩:=zbm c.σ.hk;exact ⟨ok,by rw [S.count];have f:c.σ.count<8+hbits c.σ.hk:=few;omega,by omega,by rw [hst];exact ⟨⟨by rw [e1];exact a1,by rw [e2];exact a2,by rw [S.row];exact a4,by rw [e1,e2,S.row];exact a5⟩,by rw [e3.2.2.2];exact b1,by rw [e3.2.2.1];exact b2,by rw [e3.1];split <;> omega⟩⟩
 ·rw [h] at few hst hat;obtain ⟨b1,b2,b3⟩:=hsets h (by decide) hat.1;exact ⟨ok,by rw [S.count];have f:c.σ.count<8:=few;omega,by omega,by rw [hst];exact ⟨b1,b2,hqc,b3,by rw [S.lit];exact hat.2⟩⟩
 ·rw [h] at few hst hat;obtain ⟨b1,b2,b3⟩:=hsets h (by decide) hat;exact ⟨ok,by rw [S.count];have f:=kio few;omega,by omega,by rw [hst];exact ⟨b1,b2,hqc,b3⟩⟩
 ·rw [h] at few hst hat;obtain ⟨b1,b2,b3⟩:=hsets h (by decide) hat.1;obtain ⟨_,a1,a2,a3⟩:=hat;have hp:0<2^c.σ.bits:=Nat.pow_pos (by decide);exact ⟨ok,by rw [S.count];have f:c.σ.count<8+c.σ.bits:=few;omega,by omega,by rw [hst];exact ⟨b1,b2,hqc,by rw [S.span.1,S.span.2];exact ⟨by omega,by omega,by omega⟩⟩⟩
 ·rw [h] at few hst hat;obtain ⟨b1,b2,b3⟩:=hsets h (by decide) hat.1;exact ⟨ok,by rw [S.count];have f:=kio few;omega,by omega,by rw [hst];exact ⟨b1,b2,hqc,by rw [S.left];have f:=hat.2.2;omega⟩⟩
 ·rw [h] at few hst hat;obtain ⟨b1,b2,b3⟩:=hsets h (by decide) hat.1.1;obtain ⟨⟨_,l1,l2⟩,a1,a2,a3⟩:=hat;have hp:0<2^c.σ.bits:=Nat.pow_pos (by decide);exact ⟨ok,by rw [S.count];have f:c.σ.count<8+c.σ.bits:=few;omega,by omega,by rw [hst];exact ⟨b1,b2,hqc,by rw [S.span.1,S.span.2];exact ⟨by omega,by omega,by omega⟩,by rw [S.left];omega⟩⟩
 ·rw [h] at few hst hat;obtain ⟨⟨_,l1⟩,a1,a2,a3⟩:=hat;exact ⟨ok,by rw [S.count];have f:c.σ.count<8:=few;omega,by omega,by rw [hst];exact ⟨by rw [S.left];omega,by rw [S.dist];exact a1,by rw [S.dist,S.qc,List.length_drop];omega,hqc⟩⟩
 ·rw [h] at few hst;exact ⟨ok,by rw [S.count];exact few.2.1,by omega,by rw [hst];trivial⟩
 ·rw [h] at few hst;exact ⟨ok,by rw [S.count];have f:=few.2.1;omega,by omega,by rw [hst];trivial⟩
 ·rw [h] at few hst;have f:c.σ.count%8=0∧c.σ.count<=8:=few;exact ⟨ok,by rw [S.count];omega,by omega,by rw [hst];trivial⟩
theorem Sn.turn{q:Quo}{D:Nat}{s:ByteArray}{x:MS}{c:Cf}(N:Sn q D s x c):Out q D s c x.advance:=by
 have hst:=N.st;rcases St.cases24 N.sm.wf.st with h | h | h | h | h | h | h | h | h | h | h | h | h | h | h | h | h | h | h | h | h | h | h | h
 ·rw [show x.advance=x.h1 by unfold MS.advance;simp only [hst,h]];exact jgq N h
 ·rw [show x.advance=x.h2 by unfold MS.advance;simp only [hst,h]];exact vkw N h
 ·rw [show x.advance=x.h3 by unfold MS.advance;simp only [hst,h]];exact vk5 N h
 ·rw [show x.advance=x.h4 by unfold MS.advance;simp only [hst,h]];exact z57 N h
 ·rw [show x.advance=x.h5 by unfold MS.advance;simp only [hst,h]];exact z70 N h
 ·rw [show x.advance=x.h6 by unfold MS.advance;simp only [hst,h]];exact x1o N h
 ·rw [show x.advance=x.b7 by unfold MS.advance;simp only [hst,h]];exact j1k N h
 ·rw [show x.advance=x.b8 by unfold MS.advance;simp only [hst,h]];exact xr3 N h
 ·rw [show x.advance=x.b9 by unfold MS.advance;simp only [hst,h]];exact x0v N h
 ·rw [show x.advance=x.o10 by unfold MS.advance;simp only [hst,h]];exact ken N h
 ·rw [show x.advance=x.o11 by unfold MS.advance;simp only [hst,h]];exact jjs N h
 ·rw [show x.advance=x.o12 by unfold MS.advance;simp only [hst,h]];exact y7i N h
 ·rw [show x.advance=x.o13 by unfold MS.advance;simp only [hst,h]];exact z6i N h
 ·rw [show x.advance=x.r14 by unfold MS.advance;simp only [hst,h]];exact ke9 N h
 ·rw [show x.advance=x.r15 by unfold MS.advance;simp only [hst,h]];exact vqi N h
 ·rw [show x.advance=x.c16 by unfold MS.advance;simp only [hst,h]];exact xcf N h
 ·rw [show x.advance=x.c17 by unfold MS.advance;simp only [hst,h]];exact va8 N h
 ·rw [show x.advance=x.c18 by unfold MS.advance;simp only [hst,h]];exact jak N h
 ·rw [show x.advance=x.c19 by unfold MS.advance;simp only [hst,h]];exact yhc N h
 ·rw [show x.advance=x.c20 by unfold MS.advance;simp only [hst,h]];exact vsv N h
 ·rw [show x.advance=x.c21 by unfold MS.advance;simp only [hst,h]];exact ks1 N h
 ·rw [show x.advance=x.e22 by unfold MS.advance;simp only [hst,h]];exact xwk N h
 ·rw [show x.advance=x.e23 by unfold MS.advance;simp only [hst,h]];exact vh6 N h
 ·rw [show x.advance=x.e24 by unfold MS.advance;simp only [hst,h]];exact v1u N h
theorem MS.need_eight{x:MS}(h:x.count=0):MS.need 8 x=match x.rest with | []=>(x,1) | b :: l=>if x.sp<=x.tk+x.pu then x.refuse 16 else (x.fed b l,0):=by
 cases e:x.rest with
 | nil=>exact MS.need_nil' (by omega) e
 | cons b l=>
  rw [MS.need_cons' (by omega) e];by_cases hs:x.sp<=x.tk+x.pu
  ·rw [if_pos hs];exact (if_pos hs).symm
  ·rw [if_neg hs,MS.need_done' (by show 8<=x.count+8;omega)];exact (if_neg hs).symm
theorem k6r{x:MS}(h0:x.fm=0)(hm:x.marks=0):MS.h1 x=({ x with st:=7 },0):=by
 unfold MS.h1 MS.passFixed;rw [if_pos h0,xd7];unfold MS.h2 MS.passFixed;rw [if_pos (show ({ x with st:=2 }:MS).fm=0 from h0),xd7];unfold MS.h3 MS.passMarks;rw [if_neg (show ¬ x.fm=2 by omega),xd7];unfold MS.h4 MS.passText;rw [if_pos (show x.marks / 1%2=0 by rw [hm]),xd7];unfold MS.h5 MS.passText;rw [if_pos (show x.marks / 2%2=0 by rw [hm]),xd7];unfold MS.h6 MS.passCheck;rw [if_pos (show x.marks / 4%2=0 by rw [hm]),xd7]
def j7o(y:MS):MS:={ y with mb:=y.mb+1,marks:=0,head:=0,hsum:=0,sx:=1,sy:=0,size:=0,qc:=[],st:=1 }
theorem vjq{x y:MS}(h:MS.need 8 x=(y,0))(hm:¬ y.mb=y.me):MS.h0 x=MS.h1 (j7o y):=by
 unfold MS.h0 MS.beginMember;rw [xa2,h,xd7,if_neg hm];rfl
theorem jq4{q:Quo}{D:Nat}{s:ByteArray}{x:MS}{c:Cf}(S:Sm q D s x c)(hst:x.st=0)(hmb:x.mb=0)(hc:c=Cf.begin c.σ.fmt c.σ.mem c.σ.lim):OutS q D s x c (MS.h0 x):=by
 have hpre:c.pre=[]:=by rw [hc];rfl
 have houts:c.outs=[]:=by rw [hc];rfl
 have hstarts:c.starts=[0]:=by rw [hc];rfl
 have hcnt:c.σ.count=0:=by rw [hc];rfl
 have hom:c.σ.om=[]:=by rw [hc];rfl
 have hmk:c.σ.marks=0:=by rw [hc];rfl
 have hhm:c.σ.hmany=0:=by rw [hc];rfl
 have hhs:c.σ.hsum=0:=by rw [hc];rfl
 have hs0:c.σ.st=if c.σ.fmt=0 then 6 else 0:=by have:c.σ=St.begin c.σ.fmt c.σ.mem c.σ.lim:=congrArg Cf.σ hc;rw [this];rfl
 have ha:c.σ.act= .take:=by have:=((km3.begin (mem:=c.σ.mem) (lim:=c.σ.lim) S.wf.fmt).act rfl).1;rw [← hc] at this;exact this
 have hx0:x.count=0:=by rw [S.count];exact hcnt
 have hnd:=MS.need_eight hx0;have hpl:c.pre.length=0:=by rw [hpre];rfl
 by_cases hl:c.pre.length<s.size
 ·have e:x.rest=k0w s c.pre.length :: jlo s (c.pre.length+1):=by rw [S.rest];exact ypz hl
  rw [e] at hnd;by_cases hs:x.sp<=x.tk+x.pu
  ·have hnd2:MS.need 8 x=x.refuse 16:=by rw [hnd];exact if_pos hs
   have e0:MS.h0 x=x.refuse 16:=by
    unfold MS.h0 MS.beginMember;rw [hnd2];rfl
   rw [e0];refine .dead c 16 (.refl c) rfl (S.dead (by decide) (by rw [if_pos hpl];exact hmb)) (fun cl=>Halt.steps ha hl ?_);rw [← S.tk,← S.pu,← S.sp];exact hs
  ·have hs':¬ q.steps<=c.pre.length+c.outs.length:=by rw [← S.tk,← S.pu,← S.sp];exact hs
   have hnd2:MS.need 8 x=(x.fed (k0w s c.pre.length) (jlo s (c.pre.length+1)),0):=by rw [hnd];exact if_neg hs
   have S1:=S.fed ha hl hs';have st1:j3w q D s c { c with σ:=c.σ.add (k0w s c.pre.length),pre:=c.pre++[k0w s c.pre.length] }:=j3w.take c ha hl hs';have hme:¬ (x.fed (k0w s c.pre.length) (jlo s (c.pre.length+1))).mb=(x.fed (k0w s c.pre.length) (jlo s (c.pre.length+1))).me:=by
    show ¬ x.mb=x.me;rw [hmb,S.me];have:=S.mb.2;rw [hstarts] at this;have:1<=c.σ.mem:=this;omega
   rw [vjq hnd2 hme];have hmu:=(st1.mu S.wf).2;generalize hY:x.fed (k0w s c.pre.length) (jlo s (c.pre.length+1))=y at *;have hymb:y.mb=0:=by rw [← hY];exact hmb
   obtain ⟨c1,hc1⟩:∃ c1:Cf,c1={ c with σ:=c.σ.add (k0w s c.pre.length),pre:=c.pre++[k0w s c.pre.length] }:=⟨_,rfl⟩
   have hp1:0<c1.pre.length:=by rw [hc1];simp
   have k1:c1.σ.st=c.σ.st:=by rw [hc1];rfl
   have k2:c1.σ.om=[]:=by rw [hc1];exact hom
   have k3:c1.σ.marks=0:=by rw [hc1];exact hmk
   have k4:c1.σ.hmany=0:=by rw [hc1];exact hhm
   have k5:c1.σ.hsum=0:=by rw [hc1];exact hhs
   have k6:c1.starts=[0]:=by rw [hc1];exact hstarts
   have k7:c1.σ.fmt=c.σ.fmt:=by rw [hc1];rfl
   rw [← hc1] at S1 st1 hmu;clear hY hc1;have base:c1.σ.st<10->∀ n,Sm q D s { j7o y with st:=n } c1:=fun h10 n=>{ S1 with
    qc:=by show []=c1.σ.om.drop _;rw [k2];rfl
    marks:=k3.symm
    head:=⟨k4.symm,by rw [k4];exact Nat.zero_le _⟩
    hsum:=k5.symm
    sum:=fun _=>by rw [k2];rfl
    sumle:=⟨by show 1<=65520;omega,by show 0<=65520;omega⟩
    size:=by rw [k2];rfl
    nl:=fun h=>absurd h (by omega)
    nd:=fun h=>absurd h (by omega)
    told:=fun h=>absurd h (by omega)
    hs:=fun h=>absurd h (by omega)
    hk:=fun h=>absurd h (by omega)
    la:=fun h=>absurd h (by omega) }
   have hmb1:(j7o y).mb=c1.starts.length:=by rw [k6];show y.mb+1=1;omega
   by_cases hf:c.σ.fmt=0
   ·have h6:c1.σ.st=6:=by rw [k1,hs0,if_pos hf]
    rw [k6r (x:=j7o y) (by show y.fm=0;rw [S1.fm,k7];exact hf) rfl];have N1:Sn q D s { j7o y with st:=7 } c1:=⟨base (by omega) 7,by rw [h6],hmb1,hp1⟩
    refine .go c1 (v44.one st1) rfl (.run N1) ?_;unfold muS;have h2:stN x=0:=if_pos hst;have h1:stN ({ j7o y with st:=7 }:MS)=1:=rfl;rw [h1,h2];omega
   ·have h6:c1.σ.st=0:=by rw [k1,hs0,if_neg hf]
    have N1:Sn q D s (j7o y) c1:=⟨base (by omega) 1,by rw [h6];rfl,hmb1,hp1⟩
    exact (jgq N1 h6).turn S.wf (v44.one st1) (Or.inl hmu)
 ·have e:x.rest=[]:=by rw [S.rest];exact vq8 (by omega)
  rw [e] at hnd;have e0:MS.h0 x=(x,1):=by
   unfold MS.h0 MS.beginMember;rw [hnd];rfl
  rw [e0];exact .hungry c (.refl c) rfl (.fresh S hst hmb hc) ha (by omega)
theorem znv{q:Quo}{D:Nat}{s:ByteArray}{x:MS}{c:Cf}(S:Sm q D s x c)(hst:x.st=0)(hmb:x.mb=c.starts.length)(h23:c.σ.st=23)(hf:c.σ.fmt=2)(hcnt:c.σ.count=8)(hp:0<c.pre.length):OutS q D s x c (MS.h0 x):=by
 have hnd:MS.need 8 x=(x,0):=MS.need_done' (by rw [S.count];omega);have hact:c.σ.act=if c.σ.mem<=c.σ.begun then .fail 6 else .tau { c.σ with st:=0,om:=[],hsum:=0,hmany:=0,marks:=0,begun:=c.σ.begun+1 }:=by
  rw [St.act_at h23];show St.need c.σ 8 _=_;unfold St.need;rw [if_neg (by omega),if_neg (by simp [hf])]
 have hbg:=S.mb;have hme:x.mb=x.me↔c.σ.mem<=c.σ.begun:=by rw [S.me,hmb];omega
 by_cases h1:c.σ.mem<=c.σ.begun
 ·rw [if_pos h1] at hact;have e0:MS.h0 x=x.refuse 6:=by
   unfold MS.h0 MS.beginMember;rw [xa2,hnd,xd7,if_pos (hme.2 h1)];rfl
  rw [e0];exact .dead c 6 (.refl c) rfl (S.dead (by decide) (by rw [if_neg (by omega)];exact hmb)) (fun cl=>Halt.fail 6 hact)
 ·rw [if_neg h1] at hact;rw [vjq hnd (fun h=>h1 (hme.1 h))];have st1:=j3w.tau (q:=q) (D:=D) (s:=s) c _ hact;rw [if_pos h23] at st1;obtain ⟨W1,hmu⟩:=st1.mu S.wf;have N1:Sn q D s (j7o x) { c with σ:={ c.σ with st:=0,om:=[],hsum:=0,hmany:=0,marks:=0,begun:=c.σ.begun+1 },starts:=c.starts++[c.pre.length - 1] }:=⟨{ S with
    wf:=W1
    qc:=by show ([]:List Nat)=List.drop _ [];simp
    marks:=rfl
    head:=⟨rfl,Nat.zero_le _⟩
    hsum:=rfl
    sum:=fun _=>rfl
    sumle:=⟨by show 1<=65520;omega,by show 0<=65520;omega⟩
    size:=by show 0=([]:List Nat).length%65536;simp
    nl:=fun h=>absurd h (show ¬ (10<=0∧0<=14) by decide)
    nd:=fun h=>absurd h (show ¬ (11<=0∧0<=14) by decide)
    told:=fun h=>absurd h (show ¬ (12<=0∧0<=14) by decide)
    hs:=fun h=>absurd h (show ¬ (13<=0∧0<=14) by decide)
    hk:=fun h=>absurd h (show ¬ (0=14) by decide)
    la:=fun h=>absurd h (show ¬ (15<=0∧0<=20) by decide)
    mb:=⟨by show c.σ.begun+1=(c.starts++[_]).length;rw [List.length_append,List.length_singleton];omega,by show (c.starts++[_]).length<=c.σ.mem;rw [List.length_append,List.length_singleton];omega⟩ },rfl,by show x.mb+1=(c.starts++[_]).length;rw [List.length_append,List.length_singleton,hmb],hp⟩
  exact (jgq N1 rfl).turn S.wf (v44.one st1) (Or.inl hmu)
theorem yvw.turn{q:Quo}{D:Nat}{s:ByteArray}{x:MS}{c:Cf}(h:yvw q D s x c):OutS q D s x c x.advance:=by
 have e0:x.st=0->x.advance=MS.h0 x:=fun h=>by unfold MS.advance;simp only [h]
 cases h with
 | run N=>exact N.turn.turn N.sm.wf (.refl c) (Or.inr ⟨rfl,by rw [N.st];omega⟩)
 | fresh S h1 h2 h3=>rw [e0 h1];exact jq4 S h1 h2 h3
 | between S h1 h2 h3 h4 h5 h6=>rw [e0 h1];exact znv S h1 h2 h3 h4 h5 h6
theorem yvw.pre_{q:Quo}{D:Nat}{s:ByteArray}{x:MS}{c:Cf}(h:yvw q D s x c)(L:Lim q c.σ.mem c.σ.lim):Pre x:=by
 have ok:=h.ok L;cases h with
 | run N=>exact N.pre_ L
 | fresh S h1 h2 h3=>
  have hc:x.count=0:=by rw [S.count,h3];rfl
  exact ⟨ok,by omega,by omega,by rw [h1];exact ⟨ok,Or.inl hc⟩⟩
 | between S h1 h2 h3 h4 h5 h6=>
  have hc:x.count=8:=by rw [S.count];exact h5
  exact ⟨ok,by omega,by omega,by rw [h1];exact ⟨ok,Or.inr hc⟩⟩
theorem v44.lims{q:Quo}{D:Nat}{s:ByteArray}{a b:Cf}(h:v44 q D s a b):St.Wf a.σ->b.σ.mem=a.σ.mem∧b.σ.lim=a.σ.lim∧b.σ.fmt=a.σ.fmt:=by
 induction h with
 | refl=>exact fun _=>⟨rfl,rfl,rfl⟩
 | step a b c h1 _ ih=>
  intro W;have N:=St.next W;obtain ⟨W1,_⟩:=h1.mu W;obtain ⟨e1,e2,e3⟩:=ih W1;have e:b.σ.mem=a.σ.mem∧b.σ.lim=a.σ.lim∧b.σ.fmt=a.σ.fmt:=by
   cases h1 with
   | take g1 g2 g3=>exact ⟨rfl,rfl,rfl⟩
   | put y σ' g1 g2 g3=>rw [g1] at N;exact ⟨N.2.2.2.2.1,N.2.2.2.2.2,N.2.2.2.1⟩
   | tau σ' g1=>rw [g1] at N;exact ⟨N.2.2.2.1,N.2.2.2.2.1,N.2.2.1⟩
  exact ⟨e1.trans e.1,e2.trans e.2.1,e3.trans e.2.2⟩
inductive EndS(q:Quo)(D:Nat)(s:ByteArray)(c:Cf)(r:MS×Nat):Prop
 | hungry (c':Cf):v44 q D s c c'->r.2=1->yvw q D s r.1 c'->c'.σ.act= .take->s.size<=c'.pre.length->EndS q D s c r
 | full (c':Cf) (b:Nat) (σ':St):v44 q D s c c'->r.2=2->yvw q D s r.1 c'->c'.σ.act= .put b σ'->D+64<=c'.outs.length->EndS q D s c r
 | dead (c':Cf) (e:Nat):v44 q D s c c'->r.2=3->Dead q r.1 c' e->Stop q D s c' e->EndS q D s c r
theorem EndS.after{q:Quo}{D:Nat}{s:ByteArray}{c c1:Cf}{r:MS×Nat}(h:EndS q D s c1 r)(st:v44 q D s c c1):EndS q D s c r:=by
 cases h with
 | hungry c' h1 h2 h3 h4 h5=>exact .hungry c' (st.trans h1) h2 h3 h4 h5
 | full c' b σ' h1 h2 h3 h4 h5=>exact .full c' b σ' (st.trans h1) h2 h3 h4 h5
 | dead c' e h1 h2 h3 h4=>exact .dead c' e (st.trans h1) h2 h3 h4
theorem j49{q:Quo}{D:Nat}{s:ByteArray}(m:Nat):∀ {x:MS} {c:Cf},muS s x c<=m->yvw q D s x c->Lim q c.σ.mem c.σ.lim->∃ n r,vgc n x r∧EndS q D s c r:=by
 induction m with
 | zero=>
  intro x c hm H L;have P:=H.pre_ L;have T:=H.turn;cases T with
  | go c' h1 h2 h3 h4=>omega
  | hungry c' h1 h2 h3 h4 h5=>exact ⟨0,_, .stop x P (by omega), .hungry c' h1 h2 h3 h4 h5⟩
  | full c' b σ' h1 h2 h3 h4 h5=>exact ⟨0,_, .stop x P (by omega), .full c' b σ' h1 h2 h3 h4 h5⟩
  | dead c' e h1 h2 h3 h4=>exact ⟨0,_, .stop x P (by omega), .dead c' e h1 h2 h3 h4⟩
 | succ m ih=>
  intro x c hm H L;have P:=H.pre_ L;have T:=H.turn;cases T with
  | go c' h1 h2 h3 h4=>
   have e:=h1.lims H.sm.wf;obtain ⟨n,r,R,E⟩:=ih (by omega) h3 (by rw [e.1,e.2.1];exact L);exact ⟨n+1,r, .go n x r P h2 R,E.after h1⟩
  | hungry c' h1 h2 h3 h4 h5=>exact ⟨0,_, .stop x P (by omega), .hungry c' h1 h2 h3 h4 h5⟩
  | full c' b σ' h1 h2 h3 h4 h5=>exact ⟨0,_, .stop x P (by omega), .full c' b σ' h1 h2 h3 h4 h5⟩
  | dead c' e h1 h2 h3 h4=>exact ⟨0,_, .stop x P (by omega), .dead c' e h1 h2 h3 h4⟩
theorem yvw.runs{q:Quo}{D:Nat}{s:ByteArray}{x:MS}{c:Cf}(h:yvw q D s x c)(L:Lim q c.σ.mem c.σ.lim):∃ n r,vgc n x r∧EndS q D s c r:=j49 _ (Nat.le_refl _) h L
open Go.RowKit
def MS.fresh(fm ou ra sl me he sp:Nat):MS:={ fm:=fm,ou:=ou,ra:=ra,sl:=sl,me:=me,he:=he,sp:=sp,st:=0,er:=0,tk:=0,pu:=0,mb:=0,held:=0,count:=0,marks:=0,head:=0,hsum:=0,sx:=0,sy:=0,size:=0,last:=false,left:=0,nl:=0,nd:=0,told:=0,hlen:=0,hbef:=false,hleast:=0,hbits:=0,lit:=0,least:=0,bits:=0,dist:=0,rest:=[],qa:=[],qc:=[],hl:=[],row:=[],hs:=[],la:=[],lb:=[] }
theorem yys(cs:Array Value)(h:cs.size=7):(Tryz.prog.info? 42).map (·.size)=some cs.size:=by rw [h];kernel_rfl
theorem kec(n:Int)(w:World):Calls Tryz.prog 49 #[.int .i64 n] w fun e w'=>e= .returned (Cfg.val ⟨n,9223372036854775807,0,9223372036854775807,9223372036854775807,9223372036854775807,9223372036854775807⟩)∧Below w.heap.size w w':=by
 unfold Cfg.val;go_enter Tryz.func49,Tryz.ntmps49
 go_wp2_with fail
 refine bodyPost_ret (v:= .agg #[.int .i64 n, .int .i64 9223372036854775807, .int .i64 0, .int .i64 9223372036854775807, .int .i64 9223372036854775807, .int .i64 9223372036854775807, .int .i64 9223372036854775807]) ?_ rfl ?_
 ·exact results_cell_row Tryz.results49 _ _ _ 42 _ _ _ rfl (heap_alloc_new _ _) Tryz.underlying42 rfl (yys _ rfl)
 ·exact ⟨rfl,(Below.refl _ _).alloc (Nat.le_refl _) _⟩
structure CfgB(w W:World)(G fm ou ra sl me he sp:Nat):Prop where
 cs:W.cell? ⟨G,0,none⟩=some (.int .i64 fm)∧W.cell? ⟨G,1,none⟩=some (.int .i64 ou)∧W.cell? ⟨G,2,none⟩=some (.int .i64 ra)∧W.cell? ⟨G,3,none⟩=some (.int .i64 sl)∧W.cell? ⟨G,4,none⟩=some (.int .i64 me)∧W.cell? ⟨G,5,none⟩=some (.int .i64 he)∧W.cell? ⟨G,6,none⟩=some (.int .i64 sp)
 bel:Below w.heap.size w W
 lt:G<W.heap.size
theorem CfgB.step{w W W':World}{G fm ou ra sl me he sp:Nat}(h:CfgB w W G fm ou ra sl me he sp)(f:Below W.heap.size W W'):CfgB w W' G fm ou ra sl me he sp:=by
 obtain ⟨⟨c0,c1,c2,c3,c4,c5,c6⟩,b,l⟩:=h;have k:∀ i,W'.cell? ⟨G,i,none⟩=W.cell? ⟨G,i,none⟩:=fun i=>f.cell l
 exact ⟨⟨by rw [k];exact c0,by rw [k];exact c1,by rw [k];exact c2,by rw [k];exact c3,by rw [k];exact c4,by rw [k];exact c5,by rw [k];exact c6⟩,b.trans (f.mono b.size),Nat.lt_of_lt_of_le l f.size⟩
theorem CfgB.made(w:World)(fm ou ra sl me he sp:Nat):CfgB w (w.alloc (.cells #[.int .i64 fm, .int .i64 ou, .int .i64 ra, .int .i64 sl, .int .i64 me, .int .i64 he, .int .i64 sp] 42)) w.heap.size fm ou ra sl me he sp:=by
 have h:=heap_alloc_new w (.cells #[.int .i64 fm, .int .i64 ou, .int .i64 ra, .int .i64 sl, .int .i64 me, .int .i64 he, .int .i64 sp] 42);refine ⟨⟨?_,?_,?_,?_,?_,?_,?_⟩,(Below.refl _ _).alloc (Nat.le_refl _) _,by simp⟩ <;> (rw [cell_of_row _ _ _ _ _ _ h];rfl)
theorem RgI.below'{w w':World}{r c N o:Nat}{f:Nat->Nat}{q:List Nat}(h:RgI w r c N o f q)(b:Below w.heap.size w w'):RgI w' r c N o f q:=h.kp (R:=fun _=>False) (ρ:=fun _=>0) (Kp.of_below b) (fun e=>e) (fun e=>e)
theorem xi1{w:World}{g i:Nat}(h:g<w.heap.size)(o:Obj):(w.alloc o).cell? ⟨g,i,none⟩=w.cell? ⟨g,i,none⟩:=by
 unfold World.cell?;rw [Go.heap_alloc_old _ _ h]
theorem jmy{w w2:World}{fm ou ra sl me he sp a b c d:Nat}(hs:w.heap.size<=a∧w.heap.size<=b)(h2:a<c∧a<d∧b<c∧b<d)(h3:a<w2.heap.size∧b<w2.heap.size∧c<w2.heap.size∧d<w2.heap.size)(I1:RgI w2 a b 64 0 (fun _=>0) [])(I2:RgI w2 c d 256 0 (fun _=>0) [])(hb:Below w.heap.size w w2) :
  ∃ ρ,MQ ρ (w2.alloc (.cells (k7n (MS.fresh fm ou ra sl me he sp) ⟨a,b,c,d, .slice none 0 0,0, .slice none 0 0, .pointer none, .slice none 0 0, .pointer none, .pointer none⟩).toArray 132)) w2.heap.size (MS.fresh fm ou ra sl me he sp)∧(∀ k,ρ k≠0->w.heap.size<=k):=by
 have n1:=I1.ne;have n2:=I2.ne;obtain ⟨ρ,hρ⟩:∃ ρ:Nat->Nat,ρ=fun k=>if k=w2.heap.size then 1 else if k=a then 2 else if k=b then 3 else if k=c then 4 else if k=d then 5 else 0:=⟨_,rfl⟩
 have e0:ρ w2.heap.size=1:=by rw [hρ];simp
 have e1:ρ a=2:=by rw [hρ];simp;omega
 have e2:ρ b=3:=by
  rw [hρ];show (if b=w2.heap.size then 1 else if b=a then 2 else if b=b then 3 else _)=3;rw [if_neg (by omega),if_neg (Ne.symm n1),if_pos rfl]
 have e3:ρ c=4:=by
  rw [hρ];show (if c=w2.heap.size then 1 else if c=a then 2 else if c=b then 3 else if c=c then 4 else _)=4;rw [if_neg (by omega),if_neg (by omega),if_neg (by omega),if_pos rfl]
 have e4:ρ d=5:=by
  rw [hρ];show (if d=w2.heap.size then 1 else if d=a then 2 else if d=b then 3 else if d=c then 4 else if d=d then 5 else 0)=5;rw [if_neg (by omega),if_neg (by omega),if_neg (by omega),if_neg (Ne.symm n2),if_pos rfl]
 have hz:∀ k,ρ k≠0->k=w2.heap.size∨k=a∨k=b∨k=c∨k=d:=fun k hk=>by
  apply Classical.byContradiction;intro hn;apply hk;rw [hρ];show (if k=w2.heap.size then 1 else if k=a then 2 else if k=b then 3 else if k=c then 4 else if k=d then 5 else 0)=0;rw [if_neg (by omega),if_neg (by omega),if_neg (by omega),if_neg (by omega),if_neg (by omega)]
 have ba:∀ o,Below w2.heap.size w2 (w2.alloc o):=fun o=>(Below.refl _ _).alloc (Nat.le_refl _) o
 have hsz:=hb.size;refine ⟨ρ,⟨⟨a,b,c,d, .slice none 0 0,0, .slice none 0 0, .pointer none, .slice none 0 0, .pointer none, .pointer none⟩,⟨?_,⟨0,_,I1.below' (ba _)⟩,⟨0,_,I2.below' (ba _)⟩,e0,e1,e2,e3,e4⟩,⟨SupI.nil_ _ _,⟨OI.nil _ _,fun g hg=>by cases hg⟩,⟨OI.nil _ _,fun g hg=>by cases hg⟩,Or.inl rfl,Or.inl rfl,Or.inl rfl,fun k hk=>?_⟩,rfl,rfl⟩,fun k hk=>?_⟩
 ·refine World.rowIs_alloc w2 _ 132 _ fun i hi=>?_
  have hi':i<(k7n (MS.fresh fm ou ra sl me he sp) ⟨a,b,c,d, .slice none 0 0,0, .slice none 0 0, .pointer none, .slice none 0 0, .pointer none, .pointer none⟩).length:=by simpa using hi
  unfold lrow;rw [List.getElem?_toArray,List.getD_eq_getElem?_getD,List.getElem?_eq_getElem hi'];rfl
 ·have:=hz k hk;simp;omega
 ·have:=hz k hk;omega
theorem j54(fm ou ra sl me he sp:Nat)(w:World):Calls Tryz.prog 46 #[Cfg.val ⟨fm,ou,ra,sl,me,he,sp⟩] w fun e w'=>∃ p ρ,e= .returned (.pointer (some ⟨p,0,none⟩))∧MQ ρ w' p (MS.fresh fm ou ra sl me he sp)∧(∀ k,ρ k≠0->w.heap.size<=k)∧Below w.heap.size w w':=by
 unfold Cfg.val;go_enter Tryz.func46,Tryz.ntmps46
 go_wp2_with fail
 have HT:Hid (CfgB w (w.alloc (.cells #[.int .i64 fm, .int .i64 ou, .int .i64 ra, .int .i64 sl, .int .i64 me, .int .i64 he, .int .i64 sp] 42)) w.heap.size fm ou ra sl me he sp):=CfgB.made w fm ou ra sl me he sp;generalize (w.alloc (.cells #[.int .i64 fm, .int .i64 ou, .int .i64 ra, .int .i64 sl, .int .i64 me, .int .i64 he, .int .i64 sp] 42))=W at *;obtain ⟨G,hG⟩:∃ G,G=w.heap.size:=⟨_,rfl⟩
 rw [← hG] at HT ⊢;have HG:Hid (G=w.heap.size):=hG;clear hG;obtain ⟨c0,c1,c2,c3,c4,c5,c6⟩:=HT.out.cs;go_region_held3 (fun wv=>wv.cell? ⟨G,0,none⟩=some (.int .i64 fm)∧wv.cell? ⟨G,1,none⟩=some (.int .i64 ou)∧wv.cell? ⟨G,2,none⟩=some (.int .i64 ra)∧wv.cell? ⟨G,3,none⟩=some (.int .i64 sl)∧wv.cell? ⟨G,4,none⟩=some (.int .i64 me)∧wv.cell? ⟨G,5,none⟩=some (.int .i64 he)∧wv.cell? ⟨G,6,none⟩=some (.int .i64 sp)) (first | exact ⟨c0,c1,c2,c3,c4,c5,c6⟩ | exact ⟨d0,d1,d2,d3,d4,d5,d6⟩ | exact ⟨f0,f1,f2,f3,f4,f5,f6⟩ | exact ⟨(xi1 hGl _).trans f0,(xi1 hGl _).trans f1,(xi1 hGl _).trans f2,(xi1 hGl _).trans f3,(xi1 hGl _).trans f4,(xi1 hGl _).trans f5,(xi1 hGl _).trans f6⟩)
  (first
   | (go_at_call 74;refine (joa 64 _ (by decide) (by decide)).mono ?_;rintro e w1 ⟨r1,q1,rfl,I1,a1,b1,k1⟩;have H1:Hid (CfgB w w1 G fm ou ra sl me he sp∧RgI w1 r1 q1 64 0 (fun _=>0) []∧W.heap.size<=r1∧W.heap.size<=q1∧W.heap.size<=w1.heap.size):=⟨HT.out.step ⟨k1.os,k1.tape,k1.output,k1.size,k1.block⟩,I1,a1,b1,k1.size⟩;obtain ⟨d0,d1,d2,d3,d4,d5,d6⟩:=H1.out.1.cs;clear I1 a1 b1 k1)
   | (go_at_call 74;refine (joa 256 _ (by decide) (by decide)).mono ?_;rintro e w2 ⟨r2,q2,rfl,I2,a2,b2,k2⟩;have H2:Hid (CfgB w w2 G fm ou ra sl me he sp∧RgI w2 r2 q2 256 0 (fun _=>0) []∧w1.heap.size<=r2∧w1.heap.size<=q2∧Below w1.heap.size w1 w2):=⟨H1.out.1.step k2,I2,a2,b2,k2⟩;obtain ⟨f0,f1,f2,f3,f4,f5,f6⟩:=H2.out.1.cs;have hGl:=H2.out.1.lt;clear I2 a2 b2 k2))
 all_goals
  go_wp2_with fail
  go_ret
  have g1:=H1.out;have g2:=H2.out;have hl1:=g1.2.1.row.lt;have hl2:=g1.2.1.cells.lt;have hl3:=g2.2.1.row.lt;have hl4:=g2.2.1.cells.lt;have hsz:=g2.2.2.2.2.size;have hWl:=HT.out.lt;have hGw:=HG.out;obtain ⟨ρ,M,hk⟩:=jmy (w:=w) (w2:=w2) (fm:=fm) (ou:=ou) (ra:=ra) (sl:=sl) (me:=me) (he:=he) (sp:=sp) (a:=r1) (b:=q1) (c:=r2) (d:=q2) ⟨by omega,by omega⟩ ⟨by omega,by omega,by omega,by omega⟩ ⟨by omega,by omega,by omega,by omega⟩ (g1.2.1.below' g2.2.2.2.2) g2.2.1 g2.1.bel;exact ⟨_,ρ,rfl,M,hk,g2.1.bel.alloc (by have:=g2.1.bel.size;omega) _⟩
structure BlI(B b:Nat)(p v:Value)(l:List Nat)(w:World):Prop where
 le:B<=b
 at_:w.rowIs b 106 2 (lrow [p,v])
 own:w.ownsRow B 5 1 v l.length (keg l)
 ne:v.ownBlock≠some b
 self:p= .pointer none∨p= .pointer (some ⟨b,0,none⟩)
theorem BlI.lt{B b:Nat}{p v:Value}{l:List Nat}{w:World}(h:BlI B b p v l w):b<w.heap.size:=h.at_.lt
theorem BlI.cell0{B b:Nat}{p v:Value}{l:List Nat}{w:World}(h:BlI B b p v l w):w.cell? ⟨b,0,none⟩=some p:=h.at_.cell (i:=0) (by omega)
theorem BlI.cell1{B b:Nat}{p v:Value}{l:List Nat}{w:World}(h:BlI B b p v l w):w.cell? ⟨b,1,none⟩=some v:=h.at_.cell (i:=1) (by omega)
theorem BlI.frozen{B b:Nat}{p v:Value}{l:List Nat}{w:World}(h:BlI B b p v l w)(i:Nat):w.frozen? ⟨b,i,none⟩=false:=h.at_.frozen i
theorem vp1:(Tryz.prog.info? 106).map (·.size)=some 2:=by kernel_rfl
theorem jex:liesAt Tryz.prog Tryz.prog.depth 106 (2 / Tryz.prog.cellsOf 106) 0 106 1=true:=by kernel_rfl
theorem yuq:Tryz.prog.cellsOf 5=1:=by kernel_rfl
theorem BlI.shape{B b:Nat}{p v:Value}{l:List Nat}{w:World}(h:BlI B b p v l w):w.shape? b=some (106,2):=by
 obtain ⟨cs,h1,h2,_⟩:=h.at_;simp [World.shape?,h1,h2]
theorem BlI.used{B b:Nat}{p v:Value}{l:List Nat}{w:World}(h:BlI B b p v l w):BlI B b (.pointer (some ⟨b,0,none⟩)) v l (w.setCell ⟨b,0,none⟩ (.pointer (some ⟨b,0,none⟩))):=by
 refine ⟨h.le,?_,?_,h.ne,Or.inr rfl⟩
 ·exact ypd h.at_ 0 _ rfl
 ·exact kcz h.own (R:=fun k=>k=b) (ρ:=fun k=>k) (Kp.of_set w ⟨b,0,none⟩ _ rfl) (fun g hg e=>h.ne (by rw [hg];exact congrArg some e))
theorem y1a{B b:Nat}{p v:Value}{l:List Nat}{w:World}(h:BlI B b p v l w):Calls Tryz.prog 77 #[.pointer (some ⟨b,0,none⟩)] w fun e w'=>e= .returned (.tuple #[])∧BlI B b (.pointer (some ⟨b,0,none⟩)) v l w'∧(w'=w∨w'=w.setCell ⟨b,0,none⟩ (.pointer (some ⟨b,0,none⟩))):=by
 obtain ⟨j,hj,hjs⟩:=Option.map_eq_some_iff.1 vp1;have c0:=h.cell0;have z0:=h.frozen 0;have hsh:=h.shape;have HB:Hid (BlI B b p v l w):=h;have hs:=h.self;clear h;rcases hs with rfl | rfl
 ·go_enter Tryz.func77,Tryz.ntmps77
  go_wp2_with fail
  rw [Lib.run_to_unsafe w ⟨b,0,none⟩ Tryz.underlying104 Tryz.underlying191 hj (by rw [hjs];decide) hsh (Nat.zero_lt_succ 1)];simp only [Result.andThen];rw [Oper.upon_value];go_wp2_with fail
  rw [run_callFunc_extern Tryz.func107 (by kernel_rfl) (by kernel_rfl) (by kernel_rfl) (e:=Extern.AbiNoEscape.same) (by kernel_rfl)];rw [Lib.run_noEscape];simp only [Result.andThen];rw [Oper.upon_value];go_wp2_with fail
  rw [Lib.run_from_unsafe w ⟨b,0,none⟩ Tryz.underlying191 Tryz.underlying104 hj hsh jex];simp only [Result.andThen];rw [Oper.upon_value];go_wp2_with fail
  go_end0
  exact ⟨rfl,HB.out.used,Or.inr rfl⟩
 ·go_enter Tryz.func77,Tryz.ntmps77
  go_wp2_with fail
  rw [Lib.run_neq_ptr_same w _ Tryz.underlying104 hj];go_wp2_with fail
  go_end0
  exact ⟨rfl,HB.out,Or.inl rfl⟩
structure BFr(b:Nat)(o:Option Nat)(w w':World):Prop where
 size:w.heap.size<=w'.heap.size
 block:∀ k,k<w.heap.size->k≠b->o≠some k->w'.heap[k]?=w.heap[k]?
 os:w'.os=w.os
 tape:w'.tape=w.tape
 output:w'.output=w.output
def WrE(B b:Nat)(v:Value)(l news:List Nat)(w:World)(e:Ending)(w':World):Prop:=
 ∃ v',e= .returned (.tuple #[.int .i64 news.length, .nilIface])∧BlI B b (.pointer (some ⟨b,0,none⟩)) v' (l++news) w'∧(v'.ownBlock=v.ownBlock∨v'.ownBlock=some w.heap.size)∧BFr b v.ownBlock w w'
theorem vt5{w:World}{g m:Nat}{news:List Nat}(h:w.rowIs g 5 m (fun j=> .int .u8 (news.getD j 0:Nat)))(hm:news.length=m):∀ j u,(keg news)[j]?=some u->w.cell? (Addr.add ⟨g,0,none⟩ j)=some u:=fun j u hu=>by
 have hj:j<m:=by have:=(List.getElem?_eq_some_iff.1 hu).1;simp [keg] at this;omega
 have e1:Addr.add ⟨g,0,none⟩ j=⟨g,j,none⟩:=by unfold Addr.add;by_cases hj0:j=0 <;> simp [hj0]
 rw [e1,h.cell hj];unfold keg at hu;rw [List.getElem?_map,List.getElem?_eq_getElem (by omega)] at hu;rw [← hu];simp [List.getD_eq_getElem?_getD,List.getElem?_eq_getElem (show j<news.length by omega)]
theorem x4f{B b:Nat}{p v:Value}{l news:List Nat}{w:World}{g m:Nat}(h:BlI B b p v l w)(hB:B<=w.heap.size)(hr:w.rowIs g 5 m (fun j=> .int .u8 (news.getD j 0:Nat)))(hm:news.length=m)(hgb:g≠b)(hlen:l.length+m<=10000000000000) :
  Calls Tryz.prog 51 #[.pointer (some ⟨b,0,none⟩), .slice (some ⟨g,0,none⟩) m m] w fun e w'=>WrE B b v l news w e w':=by
 have HB:Hid (BlI B b p v l w∧w.rowIs g 5 m (fun j=> .int .u8 (news.getD j 0:Nat))):=⟨h,hr⟩
 clear h hr;obtain ⟨i5,hi5,hx0,hx1,hx2⟩:=info_parts kh5;go_enter Tryz.func51,Tryz.ntmps51
 go_wp2_with fail
 refine (y1a HB.out.1).mono ?_;rintro e w1 ⟨rfl,I1,hw1⟩;have HF1:Hid (BFr b none w w1∧w1.rowIs g 5 m (fun j=> .int .u8 (news.getD j 0:Nat))∧w1.heap.size=w.heap.size):=by
  rcases hw1 with rfl | rfl
  ·exact ⟨⟨Nat.le_refl _,fun _ _ _ _=>rfl,rfl,rfl,rfl⟩,HB.out.2,rfl⟩
  ·exact ⟨⟨by simp,fun k _ hk _=>Below.heap_setCell _ _ _ _ hk,rfl,rfl,rfl⟩,HB.out.2.setOther (a:=⟨b,0,none⟩) hgb _,by simp⟩
 clear hw1;obtain ⟨v',w2,hrun,hown,hgrow,_,hat⟩:=run_append_own_at (P:=Tryz.prog) w1 B 34 34 5 i5 (.int .u8 0) 1 1 Tryz.underlying34 hi5 hx0 hx1 hx2 rfl (by decide) v l.length (keg l) I1.own ⟨g,0,none⟩ m m (keg news) (by simp [keg,hm]) (vt5 HF1.out.2.1 hm) (fun u hu=>by unfold keg at hu;obtain ⟨x,_,rfl⟩:=List.mem_map.1 hu;rfl) (by unfold maxLen;omega) (by omega) (by rw [HF1.out.2.2];exact hB);have c1:=I1.cell1;have hb1:=I1.lt;have hbk:w2.heap[b]?=w1.heap[b]?:=hgrow.block b hb1 (fun e=>I1.ne e.symm);have hI2:w2.rowIs b 106 2 (lrow [.pointer (some ⟨b,0,none⟩),v]):=I1.at_.of_block hbk;have hv'b:v'.ownBlock≠some b:=by
  rcases hat with e | e
  ·rw [e];exact I1.ne
  ·rw [e];intro e2;injection e2 with e2;omega
 have HN:Hid (BlI B b (.pointer (some ⟨b,0,none⟩)) v' (l++news) (w2.setCell ⟨b,1,none⟩ v')∧(v'.ownBlock=v.ownBlock∨v'.ownBlock=some w.heap.size)∧BFr b v.ownBlock w (w2.setCell ⟨b,1,none⟩ v')):=by
  refine ⟨⟨I1.le,ypd hI2 1 v' rfl,?_,hv'b,Or.inr rfl⟩,?_,?_⟩
  ·have e1:(l++news).length=l.length+m:=by rw [List.length_append,hm]
   rw [e1,show keg (l++news)=keg l++keg news by simp [keg]];exact kcz hown (R:=fun k=>k=b) (ρ:=fun k=>k) (Kp.of_set w2 ⟨b,1,none⟩ _ rfl) (fun g hg e=>hv'b (by rw [hg];exact congrArg some e))
  ·rw [← HF1.out.2.2];exact hat
  ·refine ⟨by rw [← HF1.out.2.2];simpa using hgrow.size,fun k hk hkb hkv=>?_,hgrow.os.trans HF1.out.1.os,hgrow.tape.trans HF1.out.1.tape,hgrow.output.trans HF1.out.1.output⟩;rw [Below.heap_setCell _ _ _ _ hkb,hgrow.block k (by rw [HF1.out.2.2];exact hk) (Ne.symm hkv)];exact HF1.out.1.block k hk hkb (by simp)
 have d1:w2.cell? ⟨b,1,none⟩=some v:=hI2.cell (i:=1) (by omega);have z1:w2.frozen? ⟨b,1,none⟩=false:=hI2.frozen 1;obtain ⟨ao,n',cap',rfl⟩:∃ ao n' cap,v'= .slice ao n' cap:=by
  rcases hown.2 with ⟨hv,_⟩ | ⟨g,cap,cur,hv,_⟩
  ·exact ⟨_,_,_,hv⟩
  ·exact ⟨_,_,_,hv⟩
 clear hI2 hbk I1 hat hgrow hown hv'b;go_wp2_with (at_builtin;refine Lib.wpList_append_run w1 rfl _ _ 34 34 rfl _ _ rfl rfl _ w2 hrun ?_)
 go_ret2
 exact ⟨_,by rw [hm];rfl,HN.out⟩
theorem zz2(l:List Nat):xu6 l=⟨(l.map UInt8.ofNat).toArray⟩:=by
 unfold xu6 strOfNums;simp [Function.comp_def]
theorem xcv{l:List Nat}(h:∀ x∈l,x<256):keg l=Lib.byteCells (l.map UInt8.ofNat):=by
 unfold keg Lib.byteCells;rw [List.map_map];apply List.map_congr_left;intro x hx;have:=h x hx;simp;omega
theorem vfo{B b:Nat}{p v:Value}{l:List Nat}{w:World}(h:BlI B b p v l w)(hB:B<=w.heap.size)(hl:∀ x∈l,x<256) :
  Calls Tryz.prog 54 #[.pointer (some ⟨b,0,none⟩)] w fun e w'=>e= .returned (.string (xu6 l))∧Below B w w':=by
 have mixed:Tryz.prog.follows Departure.mixedOrders=true:=by kernel_rfl
 have HB:Hid (BlI B b p v l w):=h;have c1:w.drew.cell? ⟨b,1,none⟩=some v:=h.cell1;have hown:=h.own;clear h;rcases hown.2 with ⟨rfl,h0⟩ | ⟨g,cap,cur,rfl,hbg,hg,hnc,hcm,hcs,htake⟩
 ·have hl0:l=[]:=List.eq_nil_of_length_eq_zero h0;subst hl0;have hSD:(Builtin.unsafeSliceData_ #[34] 165 #[.slice none 0 0]).run Tryz.prog w.drew= .ok (.pointer none) w.drew:=rfl;have hUS:=fun W=>Lib.run_unsafeString_none (P:=Tryz.prog) W 165 3 9 none
  clear hown;go_enter Tryz.func54,Tryz.ntmps54
  go_wp2_with fail
  go_region_o
  all_goals
   go_wp2_with fail
   go_ret
   exact ⟨rfl,Below.drew (Below.refl B w)⟩
 ·by_cases h0:l=[]
  ·subst h0;simp only [List.length_nil] at c1 HB hnc;by_cases hc0:cap=0
   ·subst hc0;have hg':w.drew.heap[g]?=some (.cells cur 5 (0,0)):=hg;have hSD:=Lib.run_unsafeSliceData_zero (P:=Tryz.prog) w.drew #[34] 165 5 Tryz.underlying165 ⟨g,0,none⟩ 0 (5,cur.size) (by simp [World.shape?,hg']);have hUS:=fun W=>Lib.run_unsafeString_none (P:=Tryz.prog) W 165 3 9 (some ⟨w.heap.size,0,none⟩)
    have hbl:=HB.out.lt;have c1w:w.cell? ⟨b,1,none⟩=some (.slice (some ⟨g,0,none⟩) 0 0):=HB.out.cell1;have c1':∀ o,(w.drew.alloc o).cell? ⟨b,1,none⟩=some (.slice (some ⟨g,0,none⟩) 0 0):=fun o=>by rw [xi1 (show b<w.drew.heap.size from hbl)];exact c1
    clear hown hg hg' htake hcs;go_enter Tryz.func54,Tryz.ntmps54
    go_wp2_with fail
    go_region_o
    all_goals
     go_wp2_with fail
     go_ret
     exact ⟨rfl,(Below.drew (Below.refl B w)).alloc hB _⟩
   ·have hSD:=Lib.run_unsafeSliceData_row (P:=Tryz.prog) w.drew #[34] 165 ⟨g,0,none⟩ 0 cap hc0;have hUS:=fun W=>Lib.run_unsafeString_none (P:=Tryz.prog) W 165 3 9 (some ⟨g,0,none⟩)
    clear hown hg htake hcs;go_enter Tryz.func54,Tryz.ntmps54
    go_wp2_with fail
    go_region_o
    all_goals
     go_wp2_with fail
     go_ret
     exact ⟨rfl,Below.drew (Below.refl B w)⟩
  ·have hll:l.length≠0:=by simpa using h0
   obtain ⟨lu,hlu⟩:∃ lu,lu=l.map UInt8.ofNat:=⟨_,rfl⟩
   have hlul:lu.length=l.length:=by rw [hlu];simp
   have hlu0:lu≠[]:=by intro e;rw [e] at hlul;simp at hlul;omega
   have hcells:∀ j x,lu[j]?=some x->w.drew.cell? (Addr.add ⟨g,0,none⟩ j)=some (.int .u8 x.toNat):=fun j x hx=>by
    refine hown.cells (g:=g) rfl j (.int .u8 x.toNat) ?_;rw [xcv hl,← hlu];simp [Lib.byteCells,hx]
   have hg':w.drew.heap[g]?=some (.cells cur 5 (0,0)):=hg;have hSD:=Lib.run_unsafeSliceData_row (P:=Tryz.prog) w.drew #[34] 165 ⟨g,0,none⟩ l.length cap (by omega);have hUS:=Lib.run_unsafeString_row (P:=Tryz.prog) w.drew 165 3 9 5 Tryz.underlying165 yuq g cur.size (by simp [World.shape?,hg']) lu hlu0 (by omega) (by unfold maxLen at hcm;omega) hcells;rw [hlul] at hUS;have HL:Hid (xu6 l=⟨lu.toArray⟩):=by show _=_;rw [zz2,hlu]
   generalize l.length=n at *;clear hown hg hg' htake hcs hcells hlu;go_enter Tryz.func54,Tryz.ntmps54
   go_wp2_with fail
   go_region_o
   all_goals
    go_wp2_with fail
    go_ret
    exact ⟨by rw [HL.out];rfl,Lib.below_freeze (Below.drew (Below.refl B w)) (p:=⟨g,0,none⟩) hbg _⟩
def MS.verdict(x:MS):Nat:=if x.er=0∧x.st≠24 then 15 else x.er
theorem z9n{ρ:Nat->Nat}{w:World}{p:Nat}{x:MS}(h:MM ρ w p x):Calls Tryz.prog 53 #[.pointer (some ⟨p,0,none⟩)] w fun e w'=>e= .returned (.int .i64 x.verdict)∧w'=w:=by
 have c7:=h.cell7.1;obtain ⟨L,B,_⟩:=h;have c8:w.cell? ⟨p,8,none⟩=some (.int .i64 x.er):=B.row.cell (i:=8) (by omega);clear B;unfold MS.verdict;by_cases h0:x.er=0
 ·by_cases h1:x.st=24
  ·rw [if_neg (fun h=>h.2 h1),h0];rw [h0] at c8;rw [h1] at c7;go_enter Tryz.func53,Tryz.ntmps53
   go_wp2_with fail
   go_ret
   exact ⟨rfl,rfl⟩
  ·rw [if_pos ⟨h0,h1⟩];rw [h0] at c8;have h1i:¬ (x.st:Int)=24:=by omega
   go_enter Tryz.func53,Tryz.ntmps53
   go_wp2_with fail
   go_ret
   exact ⟨rfl,rfl⟩
 ·rw [if_neg (fun h=>h0 h.1)];have h0i:¬ (x.er:Int)=0:=by omega
  go_enter Tryz.func53,Tryz.ntmps53
  go_wp2_with fail
  go_ret
  exact ⟨rfl,rfl⟩
theorem MQ.taken{ρ:Nat->Nat}{w:World}{p:Nat}{x:MS}(h:MQ ρ w p x)(most:Nat)(hm:most<=1000000):∃ r,w.cell? ⟨p,16,none⟩=some (.pointer (some ⟨r,0,none⟩))∧Calls Tryz.prog 52 #[.pointer (some ⟨r,0,none⟩), .int .i64 most] w fun e w'=>
  ∃ g,e= .returned (.slice (some ⟨g,0,none⟩) (min most x.qa.length) (min most x.qa.length))∧w.heap.size<=g∧w'.rowIs g 5 (min most x.qa.length) (fun j=> .int .u8 (x.qa.getD j 0:Nat))∧MQ ρ w' p { x with qa:=x.qa.drop (min most x.qa.length) }∧Fr mine ρ w w':=by
 obtain ⟨L,B,T,h1,h2⟩:=h;obtain ⟨o,f,k⟩:=B.ra;obtain ⟨r1,r2,_,_⟩:=B.rl;refine ⟨L.a,B.row.cell (i:=16) (by omega),(vv3 most k (T.lt _ (by rw [r2];decide)) hm).mono ?_⟩;rintro e w' ⟨g,rfl,hg,hrow,hI,hT⟩;have F:=Fr.five hT r1 r2 (by decide) (by decide);exact ⟨g,rfl,hg,hrow,⟨L,B.ringA hI hT,(T.fr5 F).same rfl rfl rfl rfl ⟨rfl,rfl⟩,h1,h2⟩,F.five_mine⟩
namespace St
def re(σ:St)(M L:Nat):St:={ σ with mem:=M,lim:=L }
structure Eff(σ σ':St):Prop where
 cnt:σ'.count<=σ.count
 hm:8*σ'.hmany+σ'.count<=8*σ.hmany+σ.count
 bg:σ.st≠23->σ'.begun=σ.begun∧σ'.st≠0∧(σ.st=0->σ'.count+8<=σ.count)
 bg2:σ.st=23->σ'.begun=σ.begun+1∧σ.fmt=2∧σ'.st=0∧σ'.count=σ.count
 fm:σ'.fmt=σ.fmt
end St
def Act.re(A:Act)(M L:Nat):Act:=
 match A with
 | .take=> .take
 | .put b σ=> .put b (σ.re M L)
 | .tau σ=> .tau (σ.re M L)
 | .fail e=> .fail e
namespace St
theorem eff_tau{σ σ':St}(W:Wf σ)(ha:σ.act= .tau σ'):Eff σ σ':=by
 rcases cases24 W.st with h | h | h | h | h | h | h | h | h | h | h | h | h | h | h | h | h | h | h | h | h | h | h | h
 all_goals
  rw [act_at h] at ha;simp only [actAt,need,headByte,text,kind,endBlock,rowNumber,endRow,symbol,literal] at ha;(repeat' split at ha)
  all_goals first
   | (cases ha;done)
   | (injection ha with ha;subst ha;exact ⟨by simp [crown,rd] <;> omega,by simp [crown,rd] <;> omega,fun h23=>by first | (exfalso;exact h23 h) | exact ⟨rfl,by simp [crown,rd,h] <;> (try split) <;> omega,fun h0=>by simp [crown,rd] <;> omega⟩,fun h23=>by first | (exfalso;omega) | exact ⟨rfl,by omega,rfl,rfl⟩,rfl⟩)
theorem eff_put{σ σ':St}{b:Nat}(W:Wf σ)(ha:σ.act= .put b σ'):Eff σ σ':=by
 rcases cases24 W.st with h | h | h | h | h | h | h | h | h | h | h | h | h | h | h | h | h | h | h | h | h | h | h | h
 all_goals
  rw [act_at h] at ha;simp only [actAt,need,headByte,text,kind,endBlock,rowNumber,endRow,symbol,literal] at ha;(repeat' split at ha)
  all_goals first
   | (cases ha;done)
   | (injection ha with _ ha;subst ha;exact ⟨by simp [crown,rd] <;> omega,by simp [crown,rd] <;> omega,fun h23=>⟨rfl,by simp [crown,rd,h],fun h0=>by omega⟩,fun h23=>by omega,rfl⟩)
theorem re_if{M L:Nat}{c c':Prop}[Decidable c][Decidable c']{A B A' B':Act}(hc:c'↔c)(ha:A'=A.re M L)(hb:B'=B.re M L):(if c' then A' else B')=(if c then A else B).re M L:=by
 by_cases h:c
 ·rw [if_pos h,if_pos (hc.2 h)];exact ha
 ·rw [if_neg h,if_neg (fun x=>h (hc.1 x))];exact hb
theorem re_need{M L:Nat}{σ:St}{k:Nat}{A A':Act}(h:A'=A.re M L):(σ.re M L).need k A'=(σ.need k A).re M L:=re_if Iff.rfl rfl h
theorem re_headByte{M L:Nat}{σ:St}{a b:Nat}(h:L<=σ.hmany↔σ.lim<=σ.hmany):(σ.re M L).headByte a b=(σ.headByte a b).re M L:=re_if h rfl (re_if Iff.rfl rfl rfl)
theorem re_text{M L:Nat}{σ:St}{a:Nat}(h:L<=σ.hmany↔σ.lim<=σ.hmany):(σ.re M L).text a=(σ.text a).re M L:=re_if h rfl rfl
theorem re_endBlock{M L:Nat}{σ:St}:(σ.re M L).endBlock=σ.endBlock.re M L:=re_if Iff.rfl (re_if Iff.rfl rfl rfl) rfl
theorem re_kind{M L:Nat}{σ:St}:(σ.re M L).kind=σ.kind.re M L:=re_if Iff.rfl (re_if Iff.rfl rfl rfl) (re_if Iff.rfl rfl (re_if Iff.rfl rfl rfl))
theorem re_endRow{M L:Nat}{σ:St}:(σ.re M L).endRow=σ.endRow.re M L:=re_if Iff.rfl rfl rfl
theorem re_rowNumber{M L:Nat}{σ:St}:(σ.re M L).rowNumber=σ.rowNumber.re M L:=re_if Iff.rfl rfl (re_if Iff.rfl rfl (re_if Iff.rfl (re_endRow (σ:={ σ.rd (hbits σ.hk) with row:=σ.row++List.replicate (hleast σ.hk+σ.num (hbits σ.hk)) (hval σ.hk σ.row),st:=13 }) (M:=M) (L:=L)) rfl))
theorem re_literal{M L:Nat}{σ:St}{k:Nat}:(σ.re M L).literal k=(σ.literal k).re M L:=by
 unfold literal;by_cases h1:k<256
 ·rw [if_pos h1,if_pos h1];rfl
 ·rw [if_neg h1,if_neg h1];by_cases h2:k=256
  ·rw [if_pos h2,if_pos h2];exact re_endBlock
  ·rw [if_neg h2,if_neg h2];rfl
theorem re_symbol{M L:Nat}{σ:St}{l:List Int}{f f':St->Nat->Act}(h:∀ τ k,f' (St.re τ M L) k=(f τ k).re M L):(σ.re M L).symbol l f'=(σ.symbol l f).re M L:=by
 show (match jcs l σ.held σ.count with | .hit k m=>f' ((σ.rd m).re M L) k | .more=>Act.take | .none=> .fail 11)=(match jcs l σ.held σ.count with | .hit k m=>f (σ.rd m) k | .more=>Act.take | .none=> .fail 11).re M L;cases jcs l σ.held σ.count with
 | hit k m=>exact h _ _
 | more=>rfl
 | none=>rfl
theorem act_re{σ:St}(W:Wf σ){M L:Nat}(h1:¬ σ.lim<=σ.hmany)(h1':¬ L<=σ.hmany)(h2:¬ σ.mem<=σ.begun)(h2':¬ M<=σ.begun):(σ.re M L).act=σ.act.re M L:=by
 have hL:L<=σ.hmany↔σ.lim<=σ.hmany:=⟨fun h=>absurd h h1',fun h=>absurd h h1⟩
 have hM:M<=σ.begun↔σ.mem<=σ.begun:=⟨fun h=>absurd h h2',fun h=>absurd h h2⟩
 rcases cases24 W.st with h | h | h | h | h | h | h | h | h | h | h | h | h | h | h | h | h | h | h | h | h | h | h | h
 ·rw [act_at h,act_at (show (σ.re M L).st=0 from h)];exact re_need (re_headByte hL)
 ·rw [act_at h,act_at (show (σ.re M L).st=1 from h)];exact re_need (re_headByte hL)
 ·rw [act_at h,act_at (show (σ.re M L).st=2 from h)];exact re_if Iff.rfl (re_need (re_if hL rfl (re_if Iff.rfl rfl rfl))) rfl
 ·rw [act_at h,act_at (show (σ.re M L).st=3 from h)];exact re_if Iff.rfl (re_need (re_text hL)) rfl
 ·rw [act_at h,act_at (show (σ.re M L).st=4 from h)];exact re_if Iff.rfl (re_need (re_text hL)) rfl
 ·rw [act_at h,act_at (show (σ.re M L).st=5 from h)];exact re_if Iff.rfl (re_need (re_headByte hL)) rfl
 ·rw [act_at h,act_at (show (σ.re M L).st=6 from h)];exact re_need re_kind
 ·rw [act_at h,act_at (show (σ.re M L).st=7 from h)];exact re_need (re_if Iff.rfl rfl rfl)
 ·rw [act_at h,act_at (show (σ.re M L).st=8 from h)];exact re_if Iff.rfl re_endBlock (re_need rfl)
 ·rw [act_at h,act_at (show (σ.re M L).st=9 from h)];exact re_need (re_if Iff.rfl rfl rfl)
 ·rw [act_at h,act_at (show (σ.re M L).st=10 from h)];exact re_need rfl
 ·rw [act_at h,act_at (show (σ.re M L).st=11 from h)];exact re_need (re_if Iff.rfl rfl rfl)
 ·rw [act_at h,act_at (show (σ.re M L).st=12 from h)];exact re_if Iff.rfl (re_need rfl) (re_if Iff.rfl rfl rfl)
 ·rw [act_at h,act_at (show (σ.re M L).st=13 from h)];show (σ.re M L).symbol σ.hs (fun τ k=> .tau { τ with hk:=k,st:=14 })=(σ.symbol σ.hs (fun τ k=> .tau { τ with hk:=k,st:=14 })).re M L;refine re_symbol ?_;intro τ k;rfl
 ·rw [act_at h,act_at (show (σ.re M L).st=14 from h)];exact re_need re_rowNumber
 ·rw [act_at h,act_at (show (σ.re M L).st=15 from h)];exact rfl
 ·rw [act_at h,act_at (show (σ.re M L).st=16 from h)];refine re_symbol ?_;intro τ k;exact re_literal
 ·rw [act_at h,act_at (show (σ.re M L).st=17 from h)];exact re_need rfl
 ·rw [act_at h,act_at (show (σ.re M L).st=18 from h)];show (σ.re M L).symbol σ.lb (fun τ k=> .tau { τ with least:=Tr.spanLeast 1 k,bits:=Tr.spanBits k,st:=19 })=(σ.symbol σ.lb (fun τ k=> .tau { τ with least:=Tr.spanLeast 1 k,bits:=Tr.spanBits k,st:=19 })).re M L;refine re_symbol ?_;intro τ k;rfl
 ·rw [act_at h,act_at (show (σ.re M L).st=19 from h)];exact re_need (re_if Iff.rfl rfl rfl)
 ·rw [act_at h,act_at (show (σ.re M L).st=20 from h)];exact re_if Iff.rfl rfl rfl
 ·rw [act_at h,act_at (show (σ.re M L).st=21 from h)];exact re_if Iff.rfl rfl (re_need (re_if Iff.rfl rfl rfl))
 ·rw [act_at h,act_at (show (σ.re M L).st=22 from h)];exact re_if Iff.rfl (re_need (re_if Iff.rfl rfl rfl)) rfl
 ·rw [act_at h,act_at (show (σ.re M L).st=23 from h)];exact re_need (re_if Iff.rfl rfl (re_if hM rfl rfl))
structure Cnt(c:Cf):Prop where
 hm:8*c.σ.hmany+c.σ.count<=8*c.pre.length
 bg:8*c.σ.begun+c.σ.count<=8*c.pre.length+8∨(c.σ.fmt≠2∧c.σ.begun=1)
 bg2:c.σ.st≠0->c.σ.fmt=2->8*c.σ.begun+c.σ.count<=8*c.pre.length
end St
theorem Cnt.begin(fm mem lim:Nat):St.Cnt (Cf.begin fm mem lim):=by
 refine ⟨by show 8*0+0<=8*0;omega,Or.inl (by show 8*1+0<=8*0+8;omega),fun h h2=>?_⟩;exfalso
 have h2':fm=2:=h2;apply h;show (if fm=0 then 6 else 0)=0;rw [if_neg (by omega)]
theorem Cnt.step{q:Quo}{D:Nat}{s:ByteArray}{c c':Cf}(W:St.Wf c.σ)(h:St.Cnt c)(st:j3w q D s c c'):St.Cnt c':=by
 obtain ⟨a1,a2,a3⟩:=h;have key:∀ σ',St.Eff c.σ σ'->(8*σ'.hmany+σ'.count<=8*c.pre.length)∧(8*σ'.begun+σ'.count<=8*c.pre.length+8∨(σ'.fmt≠2∧σ'.begun=1))∧(σ'.st≠0->σ'.fmt=2->8*σ'.begun+σ'.count<=8*c.pre.length):=fun σ' E=>by
  obtain ⟨e1,e2,e3,e4,e5⟩:=E;refine ⟨by omega,?_,fun g1 g2=>?_⟩
  ·by_cases h23:c.σ.st=23
   ·obtain ⟨f1,f2,f3,f4⟩:=e4 h23;have:=a3 (by omega) f2;left;omega
   ·obtain ⟨f1,f2,f3⟩:=e3 h23;rcases a2 with a2 | ⟨a2,a2'⟩
    ·left;omega
    ·right;exact ⟨by rw [e5];exact a2,by omega⟩
  ·by_cases h23:c.σ.st=23
   ·exact absurd (e4 h23).2.2.1 g1
   ·obtain ⟨f1,f2,f3⟩:=e3 h23;by_cases h0:c.σ.st=0
    ·have:=f3 h0;rcases a2 with a2 | ⟨a2,_⟩
     ·omega
     ·exact absurd (e5.symm.trans g2) a2
    ·have:=a3 h0 (by rw [← e5];exact g2);omega
 cases st with
 | take h1 h2 h3=>
  refine ⟨?_,?_,fun g1 g2=>?_⟩
  ·show 8*c.σ.hmany+(c.σ.count+8)<=8*(c.pre++[_]).length;rw [List.length_append,List.length_singleton];omega
  ·show 8*c.σ.begun+(c.σ.count+8)<=8*(c.pre++[_]).length+8∨(c.σ.fmt≠2∧c.σ.begun=1);rw [List.length_append,List.length_singleton];rcases a2 with a2 | a2
   ·left;omega
   ·right;exact a2
  ·show 8*c.σ.begun+(c.σ.count+8)<=8*(c.pre++[_]).length;rw [List.length_append,List.length_singleton];have:=a3 g1 g2;omega
 | put b σ' h1 h2 h3=>obtain ⟨k1,k2,k3⟩:=key σ' (St.eff_put W h1);exact ⟨k1,k2,k3⟩
 | tau σ' h1=>obtain ⟨k1,k2,k3⟩:=key σ' (St.eff_tau W h1);exact ⟨k1,k2,k3⟩
def Cf.re(c:Cf)(M L:Nat):Cf:={ c with σ:=c.σ.re M L }
structure Far(s:ByteArray)(c:Cf)(M L:Nat):Prop where
 m:s.size+1<c.σ.mem∧s.size+1<M
 l:s.size<c.σ.lim∧s.size<L
theorem Cnt.act_re{s:ByteArray}{c:Cf}{M L:Nat}(W:St.Wf c.σ)(h:St.Cnt c)(hl:c.pre.length<=s.size)(F:Far s c M L):(c.σ.re M L).act=c.σ.act.re M L:=by
 have h1:=h.hm;have h2:=h.bg;obtain ⟨f1,f2⟩:=F;refine St.act_re W (by omega) (by omega) ?_ ?_
 ·rcases h2 with h2 | h2 <;> omega
 ·rcases h2 with h2 | h2 <;> omega
theorem v44.re{q:Quo}{D:Nat}{s:ByteArray}{a b:Cf}{M L:Nat}(h:v44 q D s a b):St.Wf a.σ->St.Cnt a->a.pre.length<=s.size->Far s a M L->v44 q D s (a.re M L) (b.re M L)∧St.Cnt b∧b.pre.length<=s.size∧Far s b M L∧St.Wf b.σ:=by
 induction h with
 | refl c=>exact fun W C hl F=>⟨.refl _,C,hl,F,W⟩
 | step a b c h1 _ ih=>
  intro W C hl F;have N:=St.next W;have ha:=Cnt.act_re W C hl F;have C1:=Cnt.step W C h1;have key:j3w q D s (a.re M L) (b.re M L)∧St.Wf b.σ∧b.pre.length<=s.size∧b.σ.mem=a.σ.mem∧b.σ.lim=a.σ.lim:=by
   cases h1 with
   | take g1 g2 g3=>
    rw [g1] at ha N;refine ⟨j3w.take (a.re M L) ha g2 g3,N _ (z5g _ _),?_,rfl,rfl⟩;show (a.pre++[_]).length<=s.size;rw [List.length_append,List.length_singleton];omega
   | put y σ' g1 g2 g3=>
    rw [g1] at ha N;exact ⟨j3w.put (a.re M L) y (σ'.re M L) ha g2 g3,N.1,hl,N.2.2.2.2.1,N.2.2.2.2.2⟩
   | tau σ' g1=>
    rw [g1] at ha N;exact ⟨j3w.tau (a.re M L) (σ'.re M L) ha,N.1,hl,N.2.2.2.1,N.2.2.2.2.1⟩
  obtain ⟨k1,k2,k3,k4,k5⟩:=key;obtain ⟨i1,i2⟩:=ih k2 C1 k3 ⟨by rw [k4];exact F.m,by rw [k5];exact F.l⟩;exact ⟨.step _ _ _ k1 i1,i2⟩
theorem Sm.drain{q:Quo}{D:Nat}{s:ByteArray}{x:MS}{c:Cf}(h:Sm q D s x c)(k:Nat)(hk:D+k<=c.outs.length):Sm q (D+k) s { x with qa:=x.qa.drop k } c:=
 { h with
  qa:=by show x.qa.drop k=c.outs.drop (D+k);rw [h.qa,List.drop_drop]
  dle:=⟨hk,by have:=h.dle.2;omega⟩ }
theorem yvw.drain{q:Quo}{D:Nat}{s:ByteArray}{x:MS}{c:Cf}(h:yvw q D s x c)(k:Nat)(hk:D+k<=c.outs.length):yvw q (D+k) s { x with qa:=x.qa.drop k } c:=by
 cases h with
 | run h=>exact .run ⟨h.sm.drain k hk,h.st,h.mb,h.pre⟩
 | fresh h a b e=>exact .fresh (h.drain k hk) a b e
 | between h a b e f g i=>exact .between (h.drain k hk) a b e f g i
theorem Sm.feed{q:Quo}{D:Nat}{s:ByteArray}{x:MS}{c:Cf}(h:Sm q D s x c)(s':ByteArray)(hs:c.pre.length<=s'.size):Sm q D s' { x with rest:=jlo s' c.pre.length } c:=
 { h with
  rest:=rfl
  le:=hs }
theorem yvw.feed{q:Quo}{D:Nat}{s:ByteArray}{x:MS}{c:Cf}(h:yvw q D s x c)(s':ByteArray)(hs:c.pre.length<=s'.size):yvw q D s' { x with rest:=jlo s' c.pre.length } c:=by
 cases h with
 | run h=>exact .run ⟨h.sm.feed s' hs,h.st,h.mb,h.pre⟩
 | fresh h a b e=>exact .fresh (h.feed s' hs) a b e
 | between h a b e f g i=>exact .between (h.feed s' hs) a b e f g i
theorem yvw.first{q:Quo}{fm mem lim:Nat}(hfm:fm<3)(hm:1<=mem)(s:ByteArray):yvw q 0 s { MS.fresh fm q.out q.ratio q.slack mem lim q.steps with rest:=jlo s 0 } (Cf.begin fm mem lim):=by
 refine .fresh ?_ rfl rfl rfl;have hst:(Cf.begin fm mem lim).σ.st=if fm=0 then 6 else 0:=rfl;have h14:¬ 10<=(Cf.begin fm mem lim).σ.st:=by rw [hst];split <;> omega
 exact {
   wf:=St.begin_wf hfm
   fm:=rfl
   me:=rfl
   he:=rfl
   ou:=rfl
   ra:=rfl
   sl:=rfl
   sp:=rfl
   er:=rfl
   tk:=rfl
   pu:=rfl
   rest:=rfl
   le:=Nat.zero_le _
   held:=rfl
   count:=rfl
   qa:=rfl
   dle:=⟨Nat.zero_le _,Nat.zero_le _⟩
   qc:=by show ([]:List Nat)=List.drop _ [];rw [List.drop_nil]
   marks:=rfl
   head:=⟨rfl,Nat.zero_le _⟩
   hsum:=rfl
   sum:=fun h=>absurd rfl h
   sumle:=⟨Nat.zero_le _,Nat.zero_le _⟩
   stp:=Nat.zero_le _
   size:=rfl
   last:=rfl
   left:=rfl
   nl:=fun h=>absurd h.1 h14
   nd:=fun h=>absurd (Nat.le_trans (by decide) h.1) h14
   told:=fun h=>absurd (Nat.le_trans (by decide) h.1) h14
   hl:=rfl
   row:=rfl
   hs:=fun h=>absurd (Nat.le_trans (by decide) h.1) h14
   hk:=fun h=>absurd (by rw [h];decide) h14
   la:=fun h=>absurd (Nat.le_trans (by decide) h.1) h14
   lit:=rfl
   span:=⟨rfl,rfl⟩
   dist:=rfl
   mb:=⟨rfl,hm⟩ }
theorem j3w.outMu{q:Quo}{D:Nat}{s:ByteArray}{a b:Cf}(W:St.Wf a.σ)(h:j3w q D s a b):b.outs.length+muC s b<=a.outs.length+muC s a:=by
 have m:=(h.mu W).2;cases h with
 | take h1 h2 h3=>show a.outs.length+_<=_;omega
 | put y σ' h1 h2 h3=>
  show (a.outs++[y]).length+_<=_;rw [List.length_append,List.length_singleton];omega
 | tau σ' h1=>show a.outs.length+_<=_;omega
theorem v44.outMu{q:Quo}{D:Nat}{s:ByteArray}{a b:Cf}(h:v44 q D s a b):St.Wf a.σ->b.outs.length+muC s b<=a.outs.length+muC s a:=by
 induction h with
 | refl=>exact fun _=>Nat.le_refl _
 | step a b c h1 _ ih=>
  intro W;have:=h1.outMu W;have:=ih (h1.mu W).1;omega
theorem v44.bytes{q:Quo}{D:Nat}{s:ByteArray}{a b:Cf}(h:v44 q D s a b):St.Wf a.σ->(∀ y∈a.outs,y<256)->∀ y∈b.outs,y<256:=by
 induction h with
 | refl=>exact fun _ h=>h
 | step a b c h1 _ ih=>
  intro W hb;refine ih (h1.mu W).1 ?_;cases h1 with
  | take=>exact hb
  | put z σ' g1 g2 g3=>
   have N:=St.next W;rw [g1] at N;intro y hy;rcases List.mem_append.1 hy with hy | hy
   ·exact hb y hy
   ·rw [List.mem_singleton.1 hy];exact N.2.1
  | tau=>exact hb
inductive x0d(s:ByteArray):Nat->MS->List Nat->ByteArray×Nat->Prop
 | go (k n:Nat) (x:MS) (l:List Nat) (r:MS×Nat) (res:ByteArray×Nat):x.tk<=s.size->vgc n { x with rest:=jlo s x.tk } r->r.2=2->r.1.qa.length<=64->(∀ y∈l++r.1.qa,y<256)->l.length+64<=10000000000000->x0d s k { r.1 with rest:=[],qa:=[] } (l++r.1.qa) res->x0d s (k+1) x l res
 | stop (n:Nat) (x:MS) (l:List Nat) (r:MS×Nat):x.tk<=s.size->vgc n { x with rest:=jlo s x.tk } r->r.2≠2->r.1.qa.length<=64->(∀ y∈l++r.1.qa,y<256)->l.length+64<=10000000000000->x0d s 0 x l (if MS.verdict r.1≠0 then (⟨#[]⟩,MS.verdict r.1) else (xu6 (l++r.1.qa),0))
def kor:Quo:=⟨9223372036854775807,0,9223372036854775807,9223372036854775807⟩
theorem x3k:Lim kor 9223372036854775807 9223372036854775807:=⟨Nat.le_refl _,by show 0*9223372036854775807+9223372036854775807<=9223372036854775807;omega,Nat.le_refl _,Nat.le_refl _,Nat.le_refl _⟩
theorem Halt.cases{q:Quo}{D:Nat}{s:ByteArray}{c:Cf}{e:Nat}(h:Halt q D s false c e none):(e=0)∨(q.steps<=c.pre.length+c.outs.length)∨(∃ b σ',c.σ.act= .put b σ'∧vcn q c.pre.length c.outs.length=e∧e≠0)∨c.σ.act= .fail e:=by
 generalize hn:(none:Option Bool)=a at h;cases h with
 | hungry h1 h2=>left;rw [if_neg (fun h=>by cases h.1)]
 | steps h1 h2 h3=>right;left;exact h3
 | full b σ' h1 h2=>left;rfl
 | quota b σ' h1 h2 h3=>right;right;left;exact ⟨b,σ',h1,rfl,h3⟩
 | fail _ h1=>right;right;right;exact h1
theorem zjb(s:ByteArray)(fm mem lim:Nat)(h:fm<3):muC s (Cf.begin fm mem lim)<=1000*s.size+100:=by
 have:=St.loc_lt (St.begin_wf (mem:=mem) (lim:=lim) h);unfold muC St.phi;show 1000*(s.size - 0)+(100*0+_)<=_;have e:(Cf.begin fm mem lim).σ=St.begin fm mem lim:=rfl;rw [e];omega
structure Came(fm:Nat)(s:ByteArray)(c:Cf):Prop where
 path:v44 kor c.outs.length s (Cf.begin fm 9223372036854775807 9223372036854775807) c
theorem Came.begin(fm:Nat)(s:ByteArray):Came fm s (Cf.begin fm 9223372036854775807 9223372036854775807):=⟨.refl _⟩
theorem Came.facts{fm:Nat}{s:ByteArray}{c:Cf}(h:Came fm s c)(hfm:fm<3)(hs:s.size<=1000000000) :
  zi6 fm 9223372036854775807 9223372036854775807 c∧zik c.pre s∧c.outs.length<=1000*s.size+100∧(∀ y∈c.outs,y<256)∧GI fm 1152921504606846976 1152921504606846976 (c.re 1152921504606846976 1152921504606846976)∧(c.σ.re 1152921504606846976 1152921504606846976).act=c.σ.act.re 1152921504606846976 1152921504606846976:=by
 obtain ⟨G,T⟩:=zi6.steps h.path (zi6.begin hfm (by decide)) (zik.nil s);have W0:=St.begin_wf (mem:=9223372036854775807) (lim:=9223372036854775807) hfm;have h1:=h.path.outMu W0;have h2:=zjb s fm 9223372036854775807 9223372036854775807 hfm;have h3:(Cf.begin fm 9223372036854775807 9223372036854775807).outs.length=0:=rfl;have R:=v44.re (M:=1152921504606846976) (L:=1152921504606846976) h.path W0 (Cnt.begin _ _ _) (Nat.zero_le _) ⟨⟨by show s.size+1<9223372036854775807;omega,by omega⟩,⟨by show s.size<9223372036854775807;omega,by omega⟩⟩;obtain ⟨R1,R2,R3,R4,R5⟩:=R;have G':=(zi6.steps R1 (zi6.begin (fm:=fm) (mem:=1152921504606846976) (lim:=1152921504606846976) hfm (by decide)) (zik.nil s)).1;exact ⟨G,T,by omega,h.path.bytes W0 (fun y hy=>by cases hy),G'.gi,Cnt.act_re R5 R2 R3 R4⟩
theorem Came.go{fm:Nat}{s:ByteArray}{c c':Cf}(h:Came fm s c)(hfm:fm<3)(st:v44 kor c.outs.length s c c'):Came fm s c':=by
 have T:=(zi6.steps (h.path.trans st) (zi6.begin hfm (by decide)) (zik.nil s)).2;obtain ⟨k,hk⟩:=st.grows.outs;exact ⟨(h.path.trans st).mono (by rw [hk,List.length_append];omega) T⟩
theorem vah{fm:Nat}{s:ByteArray}(h0:s.size=0):(Tr.readAll fm s).mean=(⟨#[]⟩,15):=by
 have hT:Tr.obs (Tr.readAll fm s)=⟨[],[],0,[],0,true⟩:=by
  unfold Tr.readAll Tr.read Tr.readRaw Tr.readShort Tr.readLong;simp only [if_pos h0];split
  ·rfl
  ·split <;> rfl
 rw [Tr.mean_obs hT,if_neg (by decide),if_pos rfl]
theorem xy1{fm:Nat}{s:ByteArray}{D:Nat}{x:MS}{c:Cf}(h:Came fm s c)(hfm:fm<3)(hs:s.size<=1000000000)(S:yvw kor D s x c)(ha:c.σ.act= .take)(hl:s.size<=c.pre.length) :
  (Tr.readAll fm s).mean=if MS.verdict x≠0 then (⟨#[]⟩,MS.verdict x) else (xu6 c.outs,0):=by
 obtain ⟨G,T,_,_,GI',hact⟩:=h.facts hfm hs;have hle:=S.sm.le;have her:=S.sm.er;have main:s.size≠0->(Tr.readAll fm s).mean=if c.σ.st<23 then (⟨#[]⟩,15) else (xu6 c.outs,0):=fun h0=>by
  have O:=GI'.hungry (show (c.σ.re _ _).act=_ by rw [hact,ha];rfl) h0 T (show s.size=c.pre.length by omega);unfold Tr.readAll;rw [Tr.mean_obs O,if_neg (by decide)];show (if decide (c.σ.st<23)=true then _ else (xu6 c.outs,0))=_;by_cases h1:c.σ.st<23
  ·rw [if_pos (by simpa using h1),if_pos h1]
  ·rw [if_neg (by simpa using h1),if_neg h1]
 cases S with
 | run N=>
  rw [main (by have:=N.pre;omega)];have hst:=N.st;have hw:=N.sm.wf.st;unfold MS.verdict;by_cases h1:c.σ.st<23
  ·rw [if_pos h1,if_pos (show x.er=0∧x.st≠24 from ⟨her,by omega⟩),if_pos (by decide)]
  ·rw [if_neg h1,if_neg (show ¬ (x.er=0∧x.st≠24) from fun h=>h.2 (by omega)),her,if_neg (by decide)]
 | fresh _ e1 _ e2=>
  have h0:c.pre.length=0:=by rw [e2];rfl
  rw [vah (by omega)];unfold MS.verdict;rw [if_pos (show x.er=0∧x.st≠24 from ⟨her,by omega⟩),if_pos (by decide)]
 | between _ _ _ h23 _ h8 _=>
  exfalso
  rw [St.act_at h23] at ha;simp only [St.actAt,St.need] at ha;rw [if_neg (by omega)] at ha;(repeat' split at ha) <;> cases ha
theorem k0m{fm:Nat}{s:ByteArray}{D:Nat}{x:MS}{c:Cf}{e:Nat}(h:Came fm s c)(hfm:fm<3)(hs:s.size<=1000000000)(S:Dead kor x c e)(hst:Stop kor D s c e)(l:List Nat) :
  (Tr.readAll fm s).mean=if MS.verdict x≠0 then (⟨#[]⟩,MS.verdict x) else (xu6 l,0):=by
 obtain ⟨G,T,ho,_,GI',hact⟩:=h.facts hfm hs;have hT:=T.len;have hv:MS.verdict x=e:=by unfold MS.verdict;rw [if_neg (fun h=>S.ne (S.er.symm.trans h.1)),S.er]
 have hf:c.σ.act= .fail e:=by
  rcases (hst false).cases with h1 | h1 | ⟨b,σ',h1,h2,h3⟩ | h1
  ·exact absurd h1 S.ne
  ·have h2:9223372036854775807<=c.pre.length+c.outs.length:=h1;omega
  ·exfalso
   apply h3;rw [← h2];unfold vcn;show (if 9223372036854775807<=c.pre.length+c.outs.length then 16 else if 9223372036854775807<=c.outs.length then 17 else if 0*c.pre.length+9223372036854775807<=c.outs.length then 18 else 0)=0;rw [if_neg (by omega),if_neg (by omega),if_neg (by omega)]
  ·exact h1
 have h0:s.size≠0:=fun h0=>by
  have hp:c.pre=[]:=List.length_eq_zero_iff.1 (by omega);have:=(G.fs.act hp).1;rw [hf] at this;cases this
 have O:=GI'.fail (e:=e) (show (c.σ.re _ _).act=_ by rw [hact,hf];rfl) h0 T;unfold Tr.readAll;rw [Tr.mean_obs O.1,hv];rw [if_pos S.ne,if_pos S.ne]
theorem y2i{fm:Nat}{s:ByteArray}(hfm:fm<3)(hs:s.size<=1000000000)(m:Nat):∀ {x:MS} {c:Cf},muC s c<=m->yvw kor c.outs.length s { x with rest:=jlo s x.tk } c->Came fm s c->∃ k,x0d s k x c.outs (Tr.readAll fm s).mean:=by
 induction m using Nat.strongRecOn with
 | _ m ih=>
  intro x c hm S C;obtain ⟨G,T,ho,hb,_,_⟩:=C.facts hfm hs;have htk:x.tk=c.pre.length:=S.sm.tk;have hle:c.pre.length<=s.size:=S.sm.le;obtain ⟨n,r,R,E⟩:=S.runs (by rw [G.gi.memE,G.gi.limE];exact x3k);cases E with
  | full c' b σ' h1 h2 h3 h4 h5=>
   have C':=C.go hfm h1;obtain ⟨k,hk⟩:=h1.grows.outs;have hq:r.1.qa=k:=by rw [h3.sm.qa,hk,List.drop_left]
   have hd:=h3.sm.dle;have hl:k.length<=64:=by rw [hk,List.length_append] at hd;omega
   have hmu:=h1.outMu S.sm.wf;obtain ⟨_,_,_,hb',_,_⟩:=C'.facts hfm hs;have S':yvw kor c'.outs.length s { ({ r.1 with rest:=[],qa:=[] }:MS) with rest:=jlo s ({ r.1 with rest:=[],qa:=[] }:MS).tk } c':=by
    have h6:=h3.drain k.length (by rw [hk,List.length_append];exact Nat.le_refl _);have e1:c.outs.length+k.length=c'.outs.length:=by rw [hk,List.length_append]
    rw [e1,hq,List.drop_length] at h6;have h7:=h6.feed s h3.sm.le;rw [← h3.sm.tk] at h7;exact h7
   obtain ⟨j,hj⟩:=ih (muC s c') (by omega) (Nat.le_refl _) S' C';rw [hk,← hq] at hj;refine ⟨j+1, .go j n x c.outs r _ (by omega) R h2 (by rw [hq];exact hl) ?_ (by omega) hj⟩;rw [hq,← hk];exact hb'
  | hungry c' h1 h2 h3 h4 h5=>
   have C':=C.go hfm h1;obtain ⟨k,hk⟩:=h1.grows.outs;have hq:r.1.qa=k:=by rw [h3.sm.qa,hk,List.drop_left]
   have hd:=h3.sm.dle;have hl:k.length<=64:=by rw [hk,List.length_append] at hd;omega
   obtain ⟨_,_,_,hb',_,_⟩:=C'.facts hfm hs;refine ⟨0,?_⟩;rw [xy1 C' hfm hs h3 h4 h5,hk,← hq];exact .stop n x c.outs r (by omega) R (by omega) (by rw [hq];exact hl) (by rw [hq,← hk];exact hb') (by omega)
  | dead c' e h1 h2 h3 h4=>
   have C':=C.go hfm h1;refine ⟨0,?_⟩;rw [k0m C' hfm hs h3 h4 (c.outs++r.1.qa)];exact .stop n x c.outs r (by omega) R (by omega) (by rw [h3.qa];decide) (by rw [h3.qa,List.append_nil];exact hb) (by omega)
theorem y1x{fm:Nat}{s:ByteArray}(hfm:fm<3)(hs:s.size<=1000000000):∃ k,x0d s k (MS.fresh fm 9223372036854775807 0 9223372036854775807 9223372036854775807 9223372036854775807 9223372036854775807) [] (Tr.readAll fm s).mean:=
 y2i hfm hs _ (Nat.le_refl _) (c:=Cf.begin fm 9223372036854775807 9223372036854775807) (yvw.first (q:=kor) (mem:=9223372036854775807) (lim:=9223372036854775807) hfm (by decide) s) (Came.begin fm s)
theorem MB.fr0{ρ:Nat->Nat}{w w':World}{p:Nat}{x:MS}{L:Lo}(h:MB ρ w p x L)(f:Kp (fun r=>r=0) ρ w w'):MB ρ w' p x L where
 row:=zlz h.row f (by rw [h.rp];decide)
 ra:=by obtain ⟨o,g,k⟩:=h.ra;obtain ⟨r1,r2,r3,r4⟩:=h.rl;exact ⟨o,g,k.kp f (by rw [r1];decide) (by rw [r2];decide)⟩
 rc:=by obtain ⟨o,g,k⟩:=h.rc;obtain ⟨r1,r2,r3,r4⟩:=h.rl;exact ⟨o,g,k.kp f (by rw [r3];decide) (by rw [r4];decide)⟩
 rp:=h.rp
 rl:=h.rl
theorem MQ.fr0{ρ:Nat->Nat}{w w':World}{p:Nat}{x:MS}(h:MQ ρ w p x)(f:Kp (fun r=>r=0) ρ w w'):MQ ρ w' p x:=by
 obtain ⟨L,h1,h2,h3⟩:=h;exact ⟨L,h1.fr0 f,h2.fr f (fun r e=>by omega),h3⟩
theorem MQ.lt{ρ:Nat->Nat}{w:World}{p:Nat}{x:MS}(h:MQ ρ w p x):(∀ k,ρ k≠0->k<w.heap.size)∧ρ p=1∧p<w.heap.size:=by
 obtain ⟨L,h1,h2,_⟩:=h;exact ⟨h2.lt,h1.rp,h1.row.lt⟩
theorem MQ.tk{ρ:Nat->Nat}{w:World}{p:Nat}{x:MS}(h:MQ ρ w p x):w.cell? ⟨p,9,none⟩=some (.int .i64 x.tk):=by
 obtain ⟨L,h1,_,_⟩:=h;exact h1.row.cell (i:=9) (by omega)
theorem BlI.kp{R:Nat->Prop}{ρ:Nat->Nat}{B b:Nat}{p v:Value}{l:List Nat}{w w':World}(h:BlI B b p v l w)(k:Kp R ρ w w')(h1:¬ R (ρ b))(h2:∀ g,v.ownBlock=some g->¬ R (ρ g)):BlI B b p v l w':=⟨h.le,zlz h.at_ k h1,kcz h.own k h2,h.ne,h.self⟩
theorem x2f{s:ByteArray}{i:Nat}(h:i<=s.size):strN (s.extract i s.size)=jlo s i:=by
 unfold strN jlo strN;rw [ByteArray.data_extract,Array.toList_extract,List.extract_eq_take_drop,List.map_take,List.map_drop];apply List.take_of_length_le;rw [List.length_drop,List.length_map];exact Nat.le_refl _
structure xpd(w0:World)(p b:Nat)(s:ByteArray)(res:ByteArray×Nat)(ρ:Nat->Nat)(x:MS)(pb vb:Value)(l:List Nat)(w:World):Prop where
 mq:MQ ρ w p x
 bl:BlI w0.heap.size b pb vb l w
 rb:ρ b=0
 rv:∀ g,vb.ownBlock=some g->ρ g=0
 nw:∀ k,ρ k≠0->w0.heap.size<=k
 bel:Below w0.heap.size w0 w
theorem xpd.below{w0:World}{p b:Nat}{s:ByteArray}{res:ByteArray×Nat}{ρ:Nat->Nat}{x:MS}{pb vb:Value}{l:List Nat}{w w':World}(h:xpd w0 p b s res ρ x pb vb l w)(f:Below w.heap.size w w'):xpd w0 p b s res ρ x pb vb l w':=⟨h.mq.below f,h.bl.kp (R:=fun _=>False) (ρ:=ρ) (Kp.of_below f) (fun e=>e) (fun _ _ e=>e),h.rb,h.rv,h.nw,h.bel.trans (f.mono h.bel.size)⟩
theorem x6r{w0 w w':World}{ρ:Nat->Nat}{R:Nat->Prop}(h:Below w0.heap.size w0 w)(f:Fr R ρ w w')(hR:¬ R 0)(hn:∀ k,ρ k≠0->w0.heap.size<=k):Below w0.heap.size w0 w':=by
 refine h.trans ⟨f.os,f.tape,f.output,f.kp.size,fun k hk=>?_⟩;refine f.kp.block k (Nat.lt_of_lt_of_le hk h.size) ?_;have e:ρ k=0:=Classical.byContradiction fun hc=>by have:=hn k hc;omega
 rw [e];exact hR
theorem xpd.ran{w0:World}{p b:Nat}{s:ByteArray}{res:ByteArray×Nat}{ρ:Nat->Nat}{x y:MS}{pb vb:Value}{l:List Nat}{w w':World}(h:xpd w0 p b s res ρ x pb vb l w)(A:jvh ρ w p y w'):∃ ρ',xpd w0 p b s res ρ' y pb vb l w':=by
 obtain ⟨ρ',e,m⟩:=A.ex;have hm0:¬ mine 0:=by unfold mine;omega
 have hrow:∀ g,vb.ownBlock=some g->g<w.heap.size:=fun g hg=>xmo h.bl.own hg
 refine ⟨ρ',m,h.bl.kp A.fr.kp (by rw [h.rb];exact hm0) (fun g hg=>by rw [h.rv g hg];exact hm0),by rw [e b h.bl.lt];exact h.rb,fun g hg=>by rw [e g (hrow g hg)];exact h.rv g hg,fun k hk=>?_,x6r h.bel A.fr hm0 h.nw⟩;by_cases hl:k<w.heap.size
 ·rw [e k hl] at hk;exact h.nw k hk
 ·have:=h.bel.size;omega
theorem xpd.took{w0:World}{p b:Nat}{s:ByteArray}{res:ByteArray×Nat}{ρ:Nat->Nat}{x y:MS}{pb vb:Value}{l:List Nat}{w w':World}(h:xpd w0 p b s res ρ x pb vb l w)(m:MQ ρ w' p y)(f:Fr mine ρ w w'):xpd w0 p b s res ρ y pb vb l w':=by
 have hm0:¬ mine 0:=by unfold mine;omega
 exact ⟨m,h.bl.kp f.kp (by rw [h.rb];exact hm0) (fun g hg=>by rw [h.rv g hg];exact hm0),h.rb,h.rv,h.nw,x6r h.bel f hm0 h.nw⟩
theorem xpd.wrote{w0:World}{p b:Nat}{s:ByteArray}{res:ByteArray×Nat}{ρ:Nat->Nat}{x:MS}{pb vb vb':Value}{l l':List Nat}{w w':World}(h:xpd w0 p b s res ρ x pb vb l w)(k:BlI w0.heap.size b (.pointer (some ⟨b,0,none⟩)) vb' l' w')(hv:vb'.ownBlock=vb.ownBlock∨vb'.ownBlock=some w.heap.size)(f:BFr b vb.ownBlock w w'):xpd w0 p b s res ρ x (.pointer (some ⟨b,0,none⟩)) vb' l' w':=by
 have F:Kp (fun r=>r=0) ρ w w':=⟨f.size,fun k hk hr=>f.block k hk (fun e=>hr (by rw [e];exact h.rb)) (fun e=>hr (h.rv k e))⟩
 refine ⟨h.mq.fr0 F,k,h.rb,fun g hg=>?_,h.nw,h.bel.trans ⟨f.os,f.tape,f.output,f.size,fun k hk=>f.block k (Nat.lt_of_lt_of_le hk h.bel.size) (fun e=>?_) (fun e=>?_)⟩⟩
 ·rcases hv with e | e
  ·exact h.rv g (by rw [← e];exact hg)
  ·rw [e] at hg;injection hg with hg
   exact Classical.byContradiction fun hc=>by have:=h.mq.lt.1 g hc;omega
 ·have:=h.bl.le;omega
 ·have:=(h.bl.own.lt k e).1;omega
def jh4(w0:World)(p b:Nat)(s:ByteArray)(res:ByteArray×Nat)(w:World)(n:Nat):Prop:=∃ ρ x pb vb l,xpd w0 p b s res ρ x pb vb l w∧x0d s n x l res
open Classical in
noncomputable def jv8(w0:World)(p b:Nat)(s:ByteArray)(res:ByteArray×Nat)(w:World):Nat:=if h:∃ n,jh4 w0 p b s res w n then Classical.choose (least h) else 0
theorem v90{w0:World}{p b:Nat}{s:ByteArray}{res:ByteArray×Nat}{w:World}{n:Nat}(h:jh4 w0 p b s res w n):jh4 w0 p b s res w (jv8 w0 p b s res w)∧jv8 w0 p b s res w<=n:=by
 have h':∃ n,jh4 w0 p b s res w n:=⟨n,h⟩
 unfold jv8;rw [dif_pos h'];have:=Classical.choose_spec (least h');exact ⟨this.1,this.2 n h⟩
theorem x0d.turn{s:ByteArray}{n:Nat}{x:MS}{l:List Nat}{res:ByteArray×Nat}(h:x0d s n x l res):∃ j r,x.tk<=s.size∧vgc j { x with rest:=jlo s x.tk } r∧r.1.qa.length<=64∧(∀ y∈l++r.1.qa,y<256)∧l.length+64<=10000000000000∧
  ((r.2=2∧∃ k,n=k+1∧x0d s k { r.1 with rest:=[],qa:=[] } (l++r.1.qa) res)∨(r.2≠2∧res=if MS.verdict r.1≠0 then (⟨#[]⟩,MS.verdict r.1) else (xu6 (l++r.1.qa),0))):=by
 cases h with
 | go k j _ _ r _ h1 h2 h3 h4 h5 h6 h7=>exact ⟨j,r,h1,h2,h4,h5,h6,Or.inl ⟨h3,k,rfl,h7⟩⟩
 | stop j _ _ r h1 h2 h3 h4 h5 h6=>exact ⟨j,r,h1,h2,h4,h5,h6,Or.inr ⟨h3,rfl⟩⟩
theorem zpf(fm:Nat)(s:ByteArray)(w:World)(hfm:fm<=2)(hs:s.size<=1000000000)(hO:OrdP w) :
  Calls Tryz.prog 24 #[.int .i64 fm, .string s] w fun x w'=>vht w (Tr.readAll fm s).mean x w':=by
 have hw:wi fm 0 2=true:=xaq.2 ⟨by omega,by omega⟩;obtain ⟨k0,hK⟩:=y1x (fm:=fm) (by omega) hs;generalize (Tr.readAll fm s).mean=res at *;have HK:Hid (x0d s k0 (MS.fresh fm 9223372036854775807 0 9223372036854775807 9223372036854775807 9223372036854775807 9223372036854775807) [] res):=hK;have HO:Hid (OrdP w):=hO;clear hK hO;go_enter Tryz.func24,Tryz.ntmps24
 go_wp2_with fail
 refine (ykv fm w).mono ?_;rintro e w1 ⟨rfl,rfl⟩;rw [hw];clear hw;go_wp2_with fail
 refine (kec fm w).mono ?_;rintro e w1 ⟨rfl,b1⟩;have H1:Hid (Below w.heap.size w w1):=b1;clear b1;go_wp2_with fail
 refine (j54 fm 9223372036854775807 0 9223372036854775807 9223372036854775807 9223372036854775807 9223372036854775807 w1).mono ?_;rintro e w2 ⟨p,ρ,rfl,M,hk,b2⟩;have H2:Hid (MQ ρ w2 p (MS.fresh fm 9223372036854775807 0 9223372036854775807 9223372036854775807 9223372036854775807 9223372036854775807)∧(∀ k,ρ k≠0->w1.heap.size<=k)∧Below w1.heap.size w1 w2):=⟨M,hk,b2⟩
 clear M hk b2;have HI0:Hid (jh4 w p w2.heap.size s res (w2.alloc (.cells #[.pointer none, .slice none 0 0] 106)) k0):=by
  obtain ⟨M,hk,b2⟩:=H2.out;have hsz1:=H1.out.size;have hsz2:=b2.size;have al:Below w2.heap.size w2 (w2.alloc (.cells #[.pointer none, .slice none 0 0] 106)):=(Below.refl _ _).alloc (Nat.le_refl _) _;refine ⟨ρ,_, .pointer none, .slice none 0 0,[],⟨M.below al,⟨by omega,?_,World.ownsRow_nil _ _ _ _,by simp [Value.ownBlock],Or.inl rfl⟩,?_,fun g hg=>by simp [Value.ownBlock] at hg,fun k hk'=>by have:=hk k hk';omega,(H1.out.trans (b2.mono hsz1)).trans (al.mono (by omega))⟩,HK.out⟩
  ·exact World.rowIs_alloc w2 _ _ _ (fun i hi=>by
    simp at hi;have:i=0∨i=1:=by omega
    rcases this with rfl | rfl <;> rfl)
  ·exact Classical.byContradiction fun hc=>by have:=M.lt.1 _ hc;omega
 have hlb:w.heap.size<=w2.heap.size:=Nat.le_trans H1.out.size H2.out.2.2.size;clear H1 H2 HK;go_wp2_with fail
 go_loopw [] (fun wr=>Hid (∃ k,jh4 w p w2.heap.size s res wr k)) (fun wr=>jv8 w p w2.heap.size s res wr)
 case atStart=>exact ⟨k0,HI0.out⟩
 case round=>
  clear HI0;obtain ⟨k,hk⟩:=hrel.out;obtain ⟨⟨ρ1,x,pb,vb,l,I,MN⟩,_⟩:=v90 hk;obtain ⟨j,r,ht,R,hq,hby,hll,hc⟩:=MN.turn;have HI:Hid (xpd w p w2.heap.size s res ρ1 x pb vb l wr):=I;have HR:Hid (vgc j { x with rest:=jlo s x.tk } r∧(∀ y∈l++r.1.qa,y<256)∧((r.2=2∧∃ k,jv8 w p w2.heap.size s res wr=k+1∧x0d s k { r.1 with rest:=[],qa:=[] } (l++r.1.qa) res)∨(r.2≠2∧res=if MS.verdict r.1≠0 then (⟨#[]⟩,MS.verdict r.1) else (xu6 (l++r.1.qa),0)))):=⟨R,hby,hc⟩
  have ctk:=I.mq.tk;clear hk I MN R hby hc hrel;have al:Below wr.heap.size wr (wr.alloc (.cells #[.string (s.extract x.tk s.size)] 9)):=(Below.refl _ _).alloc (Nat.le_refl _) _;have HI1:Hid (xpd w p w2.heap.size s res ρ1 x pb vb l (wr.alloc (.cells #[.string (s.extract x.tk s.size)] 9))):=HI.out.below al;have HP1:Hid (Pcs ρ1 (wr.alloc (.cells #[.string (s.extract x.tk s.size)] 9)) (.slice (some ⟨wr.heap.size,0,none⟩) 1 1) [s.extract x.tk s.size]):=by
   have hO':=HO.out.lt;have hszz:=HI.out.bel.size;refine ⟨some ⟨wr.heap.size,0,none⟩,1,rfl,fun k hk=>?_,Nat.le_refl _,by unfold maxLen;omega,fun t ht'=>?_,fun b o e=>?_⟩
   ·have hk0:k=0:=by simp at hk;omega
    subst hk0;refine ⟨wr.heap.size,0,rfl,by simp,?_⟩;rw [cell_of_row _ _ (0+0) _ _ _ (heap_alloc_new wr _)];rfl
   ·rw [List.mem_singleton.1 ht',ByteArray.size_extract];unfold maxLen;omega
   ·injection e with e
    injection e with e1 e2
    subst e1;refine ⟨⟨Classical.byContradiction fun hc=>by have:=HI.out.mq.lt.1 _ hc;omega,by omega⟩,by simp⟩
  have HR1:Hid (vgc j { x with rest:=[s.extract x.tk s.size].flatMap strN } r):=by
   have e:[s.extract x.tk s.size].flatMap strN=jlo s x.tk:=by rw [List.flatMap_cons,List.flatMap_nil,List.append_nil,x2f ht]
   rw [e];exact HR.out.1
  clear al;go_wp2_with fail
  have hOP:=HO.out.below (HI1.out.bel);have hG0:ρ1 0=0:=Classical.byContradiction fun hc=>by have:=HI1.out.nw _ hc;have:=HO.out.lt;omega
  refine (mRun HI1.out.mq HP1.out HR1.out hOP hG0).mono ?_;rintro e w3 ⟨rfl,A3⟩;obtain ⟨ρ2,I3⟩:=HI1.out.ran A3;have HI3:Hid (xpd w p w2.heap.size s res ρ2 { r.1 with rest:=[] } pb vb l w3):=I3;clear I3 A3 hOP hG0 HR1 HP1 HI1 HI ctk;rcases HR.out.2.2 with ⟨h2,k',hk',MN'⟩ | ⟨h2,hres⟩
  ·have HM:Hid (jv8 w p w2.heap.size s res wr=k'+1∧x0d s k' { r.1 with rest:=[],qa:=[] } (l++r.1.qa) res):=⟨hk',MN'⟩
   clear hk' MN';rw [h2];obtain ⟨rr,c16,TK⟩:=(show MQ ρ2 w3 p { r.1 with rest:=[] } from HI3.out.mq).taken 64 (by decide);have HTK:Hid _:=TK;clear TK;go_wp2_with fail
   refine Calls.mono HTK.out ?_;rintro e w4 ⟨g,rfl,hg,hrow,M4,F4⟩;have hmin:min 64 r.1.qa.length=r.1.qa.length:=by omega
   have hdrop:r.1.qa.drop (min 64 r.1.qa.length)=[]:=by rw [hmin,List.drop_length]
   have HI4:Hid (xpd w p w2.heap.size s res ρ2 { r.1 with rest:=[],qa:=[] } pb vb l w4):=by
    have M4':MQ ρ2 w4 p { r.1 with rest:=[],qa:=[] }:=by
     have h:=M4;simp only [hdrop] at h;exact h
    exact HI3.out.took M4' F4
   have HR4:Hid (w4.rowIs g 5 r.1.qa.length (fun j=> .int .u8 (r.1.qa.getD j 0:Nat))∧g≠w2.heap.size):=⟨by rw [← hmin];exact hrow,fun e=>by have:=HI3.out.bl.lt;omega⟩
   clear M4 F4 hrow HTK c16 hg;rw [show min 64 ({ r.1 with rest:=[] }:MS).qa.length=r.1.qa.length from hmin];clear hmin hdrop;go_wp2_with fail
   refine (x4f HI4.out.bl HI4.out.bel.size HR4.out.1 rfl HR4.out.2 (by omega)).mono ?_;rintro e w5 ⟨v5,rfl,B5,hv5,F5⟩;have HI5:Hid (xpd w p w2.heap.size s res ρ2 { r.1 with rest:=[],qa:=[] } (.pointer (some ⟨w2.heap.size,0,none⟩)) v5 (l++r.1.qa) w5):=HI4.out.wrote B5 hv5 F5;clear B5 hv5 F5 HR4 HI4;have HL5:Hid (jh4 w p w2.heap.size s res w5 k'):=⟨_,_,_,_,_,HI5.out,HM.out.2⟩
   go_wp2_with fail
   go_roundw
   case rel=>exact ⟨k',HL5.out⟩
   case measure=>
    have h1:=(v90 HL5.out).2;have h2:=HM.out.1;omega
  ·have HM:Hid (res=if MS.verdict r.1≠0 then (⟨#[]⟩,MS.verdict r.1) else (xu6 (l++r.1.qa),0)):=hres;clear hres;have h2i:¬ ((r.2:Nat):Int)=2:=by omega
   obtain ⟨rr,c16,TK⟩:=(show MQ ρ2 w3 p { r.1 with rest:=[] } from HI3.out.mq).taken 64 (by decide);have HTK:Hid _:=TK;clear TK;go_wp2_with fail
   refine Calls.mono HTK.out ?_;rintro e w4 ⟨g,rfl,hg,hrow,M4,F4⟩;have hmin:min 64 r.1.qa.length=r.1.qa.length:=by omega
   have hdrop:r.1.qa.drop (min 64 r.1.qa.length)=[]:=by rw [hmin,List.drop_length]
   have HI4:Hid (xpd w p w2.heap.size s res ρ2 { r.1 with rest:=[],qa:=[] } pb vb l w4):=by
    have M4':MQ ρ2 w4 p { r.1 with rest:=[],qa:=[] }:=by
     have h:=M4;simp only [hdrop] at h;exact h
    exact HI3.out.took M4' F4
   have HR4:Hid (w4.rowIs g 5 r.1.qa.length (fun j=> .int .u8 (r.1.qa.getD j 0:Nat))∧g≠w2.heap.size):=⟨by rw [← hmin];exact hrow,fun e=>by have:=HI3.out.bl.lt;omega⟩
   clear M4 F4 hrow HTK c16 hg;rw [show min 64 ({ r.1 with rest:=[] }:MS).qa.length=r.1.qa.length from hmin];clear hmin hdrop;go_wp2_with fail
   refine (x4f HI4.out.bl HI4.out.bel.size HR4.out.1 rfl HR4.out.2 (by omega)).mono ?_;rintro e w5 ⟨v5,rfl,B5,hv5,F5⟩;have HI5:Hid (xpd w p w2.heap.size s res ρ2 { r.1 with rest:=[],qa:=[] } (.pointer (some ⟨w2.heap.size,0,none⟩)) v5 (l++r.1.qa) w5):=HI4.out.wrote B5 hv5 F5;clear B5 hv5 F5 HR4 HI4;go_wp2_with fail
   refine (z9n HI5.out.mq.mm).mono ?_;rintro e w6 ⟨rfl,rfl⟩;rw [show MS.verdict ({ r.1 with rest:=[],qa:=[] }:MS)=MS.verdict r.1 from rfl];by_cases hv:MS.verdict r.1=0
   ·have HM2:Hid (res=(xu6 (l++r.1.qa),0)):=by show _=_;rw [show res=_ from HM.out,if_neg (by rw [hv];simp)]
    rw [hv];go_wp2_with fail
    refine (vfo HI5.out.bl HI5.out.bel.size HR.out.2.1).mono ?_;rintro e w7 ⟨rfl,b7⟩;have HB7:Hid (Below w.heap.size w w7):=HI5.out.bel.trans b7;clear b7;go_wp2_with fail
    go_ret2
    rw [HM2.out];exact ⟨rfl,HB7.out⟩
   ·have HM2:Hid (res=(⟨#[]⟩,MS.verdict r.1)):=by show _=_;rw [show res=_ from HM.out,if_pos hv]
    have hvi:¬ ((MS.verdict r.1:Nat):Int)=0:=by omega
    go_wp2_with fail
    go_ret2
    rw [HM2.out];exact ⟨rfl,HI5.out.bel⟩
theorem z3j(fm:Nat)(s want:ByteArray)(w:World)(hfm:fm<=2)(hs:s.size<=1000000000)(hO:OrdP w)(h:(Tr.readAll fm s).mean=(want,0)) :
  Calls Tryz.prog 13 #[.int .i64 fm, .string s, .string want] w fun e w'=>e= .returned (.bool true)∧Below w.heap.size w w':=by
 have HM:Hid (Calls Tryz.prog 24 #[.int .i64 fm, .string s] w fun x w'=>vht w (want,0) x w'):=by
  have:=zpf fm s w hfm hs hO;rw [h] at this;exact this
 clear h hO;go_enter Tryz.func13,Tryz.ntmps13
 go_wp2_with fail
 refine HM.out.mono ?_;rintro e w1 ⟨rfl,b1⟩;have H1:Hid (Below w.heap.size w w1):=b1;clear b1;go_wp2_with fail
 go_ret
 exact ⟨by simp,H1.out⟩
theorem jiw:x56 [51,252,12] [97]:=⟨[.fixed [.byte 97]],by simp,by decide,⟨⟨(by decide:(97:Nat)<256),trivial⟩,trivial⟩,rfl⟩
theorem ykb:(Tr.readAll 0 ⟨#[51,252,12]⟩).mean=(⟨#[97]⟩,0):=by
 have h:ksp ⟨#[51,252,12]⟩ [51,252,12]:=xc3 ⟨#[51,252,12]⟩;rw [zgw h jiw];have e:xu6 [97]=⟨#[97]⟩:=y51 ⟨#[97]⟩;rw [e]
theorem keepPacked{ad:Option Addr}(cap:Nat)(parts:List PtD)(w:World)(hP:PartsO w ad parts)(hW:wts parts<=1048576)(hO:OrdP w) :
  Calls Tryz.prog 5 #[.slice ad parts.length cap] w fun e w'=>e= .returned (.bool true)∧Below w.heap.size w w':=by
 have HA:Hid (Calls Tryz.prog 13 #[.int .i64 (0:Nat), .string ⟨#[51,252,12]⟩, .string ⟨#[97]⟩] w fun e w'=>e= .returned (.bool true)∧Below w.heap.size w w'):=z3j 0 _ _ w (by decide) (by decide) hO ykb;have HM:Hid (∀ W,Below w.heap.size w W->Calls Tryz.prog 14 #[.slice ad parts.length cap] W fun e w'=>∃ s o,e= .returned (.tuple #[.string s, .string o])∧x56 (xpg s) (xpg o)∧s.size<=1000000000∧Below W.heap.size W w'):=fun W hb=>(v3p cap parts W (hP.below hb) hW).mono fun _ _ ⟨s,o,h1,h2,h3,h4⟩=>⟨s,o,h1,h2,by omega,h4⟩
 have HO:Hid (∀ W,Below w.heap.size w W->OrdP W):=fun W hb=>hO.below hb
 clear hP hO;go_enter Tryz.func5,Tryz.ntmps5
 go_upto_region 2 with (go_at_call 13;refine HA.out.mono ?_;rintro e w1 ⟨rfl,b1⟩)
 go_upto_region 5 with (go_at_call 14;refine (HM.out w1 b1).mono ?_;rintro e w2 ⟨s,o,rfl,hp,hs,b2⟩)
 have B2:Below w.heap.size w w2:=b1.trans (b2.mono b1.size);have HB:Hid (Calls Tryz.prog 13 #[.int .i64 (0:Nat), .string s, .string o] w2 fun e w'=>e= .returned (.bool true)∧Below w2.heap.size w2 w'):=z3j 0 s o w2 (by decide) hs (HO.out w2 B2) (by rw [zgw (xc3 s) hp,y51]);go_wp2_with (go_at_call 13;refine HB.out.mono ?_;rintro e w3 ⟨rfl,b3⟩)
 go_ret
 exact ⟨rfl,B2.trans (b3.mono B2.size)⟩
structure Few(k:Nat)(s:kuu):Prop where
 ln:s.lens.length<=k+18
 wt:s.waits.length<=2*k+36
 mm:s.mks+s.waits.length<=3*k+54
 bk:s.books.length+s.waits.length<=3*k+54
 tx:s.vtx= .slice none 0 0∧s.vrn= .slice none 0 0
open Go.RowKit Go.Deep
theorem ybc:Tryz.prog.cellsOf 3=1:=by kernel_rfl
theorem kwi:Tryz.prog.cellsOf 9=1:=by kernel_rfl
theorem x1j{H:Type}(d:DataW H):1<=Rows.uptoBulk d:=by
 cases d with
 | lit l=>cases l <;> simp [Rows.uptoBulk]
 | _=>simp [Rows.uptoBulk]
theorem jvo{H:Type}(l:List (DataW H)):l.length<=Rows.uptoBulkAll l:=by
 induction l with
 | nil=>simp [Rows.uptoBulkAll]
 | cons x r ih=>have:=x1j x;simp only [Rows.uptoBulkAll,List.length_cons];omega
def inI(z:Int):Prop:= -9223372036854775808<=z∧z<=9223372036854775807
theorem zu0{z:Int}(h:(Lit.int .i64 z).wf=true):inI z:=by
 have h':decide (IntKind.i64.min<=z)=true∧decide (z<=IntKind.i64.max)=true:=by
  have h2:(decide (IntKind.i64.min<=z) && decide (z<=IntKind.i64.max))=true:=h;exact Bool.and_eq_true_iff.1 h2
 exact ⟨of_decide_eq_true h'.1,of_decide_eq_true h'.2⟩
theorem vkn:Tryz.prog.cellsOf 89=3:=by kernel_rfl
theorem zxt:Tryz.prog.cellsOf 86=5:=by kernel_rfl
theorem zc6{H:Type}{enc:TypeId×Value->H}{W:World}{base:Nat}{spare:Nat->Bool}{held:Bool}{n:Nat}{cs:List Value}{x:DataW H×List MemPlace}(h:DataW.trod enc Tryz.prog W base spare held n 89 cs=some x) :
  ∃ b m f:Int,cs=[.int .i64 b, .int .i64 m, .int .i64 f]:=by
 obtain ⟨xs,k,hk,hxy,hlen,hxl,hf⟩:=DataW.trod_struct Tryz.underlying89 h;rw [vkn] at hlen;have hxl3:xs.length=3:=hxl;match xs,hxl3,cs,hlen with
 | [y0,y1,y2],_,[v0,v1,v2],_=>
  have g0:=hf 0 _ rfl;have g1:=hf 1 _ rfl;have g2:=hf 2 _ rfl;simp [ybc] at g0 g1 g2;obtain ⟨z0,e0,_,w0⟩:=DataW.trod_int Tryz.underlying3 g0;obtain ⟨z1,e1,_,w1⟩:=DataW.trod_int Tryz.underlying3 g1;obtain ⟨z2,e2,_,w2⟩:=DataW.trod_int Tryz.underlying3 g2;simp at e0 e1 e2;exact ⟨z0,z1,z2,by rw [e0,e1,e2]⟩
theorem ku4{H:Type}{enc:TypeId×Value->H}{W:World}{base:Nat}{spare:Nat->Bool}{held:Bool}{fuel:Nat}{cs:List Value}{x:DataW H×List MemPlace}(h:DataW.trod enc Tryz.prog W base spare held fuel 84 cs=some x) :
  ∃ ad n cap,cs=[.slice ad n cap]∧ItO W ad n∧n<=Rows.uptoBulk x.1:=by
 rcases open_slice Tryz.underlying84 h with ⟨hcs,rfl⟩ | ⟨a,n,cp,m,f,D,Pl,hcs,hb,hl,hm,hmm,rfl,hx⟩
 ·exact ⟨none,0,0,hcs,fun k hk=>by omega,Nat.zero_le _⟩
 ·refine ⟨some a,n,cp,hcs,?_,?_⟩
  ·have hlm:n<=m:=by rw [hmm];split <;> omega
   intro k hk;obtain ⟨cs',h1,h2⟩:=hx k (by omega);obtain ⟨xb,xm,xf,rfl⟩:=zc6 h2;rw [vkn] at h1;obtain ⟨_,_,hcell⟩:=World.cells?_some h1;simp only [add_add] at hcell;obtain ⟨b0,o0,spot⟩:=a;have hspot:spot=none:=by
    obtain ⟨cs0,h10,h20⟩:=hx 0 (by omega);rw [vkn] at h10;obtain ⟨_,_,hcell0⟩:=World.cells?_some h10;obtain ⟨_,_,_,rfl⟩:=zc6 h20;have:=hcell0 0 (by omega);simp [add_add] at this;simpa [Addr.add] using World.cell?_spot this
   subst hspot;have e0:=hcell 0 (by omega);have e1:=hcell 1 (by omega);have e2:=hcell 2 (by omega);rw [Go.WideShapes.add_plain] at e0 e1 e2;simp only [← Nat.add_assoc] at e1 e2;refine ⟨b0,o0,xb,xm,xf,rfl,World.block_lt_of_cell? W _ e0,?_,?_,?_⟩
   ·simpa using e0
   ·simpa using e1
   ·simpa using e2
  ·have:=jvo ((List.range n).map D);simp only [Rows.uptoBulk];simp at this;omega
theorem kmw{H:Type}{enc:TypeId×Value->H}{W:World}{base:Nat}{spare:Nat->Bool}{held:Bool}{fuel:Nat}{cs:List Value}{x:DataW H×List MemPlace}(h:DataW.trod enc Tryz.prog W base spare held fuel 69 cs=some x) :
  ∃ ad n cap,cs=[.slice ad n cap]∧yas W ad n:=by
 rcases open_slice1 Tryz.underlying69 ybc h with ⟨hcs,rfl⟩ | ⟨a,n,cp,m,f,V,D,Pl,hcs,hb,hl,hm,hmm,rfl,hx⟩
 ·exact ⟨none,0,0,hcs,by omega,fun k hk=>by omega⟩
 ·have hlm:n<=m:=by rw [hmm];split <;> omega
  refine ⟨some a,n,cp,hcs,by unfold maxLen at hm;omega,fun k hk=>?_⟩;obtain ⟨b0,o0,spot⟩:=a;have hspot:spot=none:=by
   have:=(hx 0 (by omega)).1;simpa [Addr.add] using World.cell?_spot this
  subst hspot;obtain ⟨z,e,_,wz⟩:=DataW.trod_int Tryz.underlying3 (hx k (by omega)).2;have e':V k= .int .i64 z:=by simpa using e
  have hc:=(hx k (by omega)).1;rw [e',Go.WideShapes.add_plain] at hc;exact ⟨b0,o0,z,rfl,World.block_lt_of_cell? W _ hc,hc,(zu0 wz).1,(zu0 wz).2⟩
theorem vsf:Tryz.prog.cellsOf 84=1:=by kernel_rfl
theorem xfn:Tryz.prog.cellsOf 69=1:=by kernel_rfl
theorem jza:Tryz.prog.cellsOf 4=1:=by kernel_rfl
theorem kcg{H:Type}{enc:TypeId×Value->H}{W:World}{base:Nat}{spare:Nat->Bool}{held:Bool}{n:Nat}{cs:List Value}{x:DataW H×List MemPlace}(h:DataW.trod enc Tryz.prog W base spare held n 86 cs=some x) :
  ∃ d:PtD,cs=d.cells∧ItO W d.ai d.ni∧yas W d.ap d.np∧d.wt<=Rows.uptoBulk x.1:=by
 obtain ⟨xs,k,hk,hxy,hlen,hxl,hf⟩:=DataW.trod_struct Tryz.underlying86 h;rw [zxt] at hlen;have hxl5:xs.length=5:=hxl;match xs,hxl5,cs,hlen with
 | [y0,y1,y2,y3,y4],_,[v0,v1,v2,v3,v4],_=>
  have g0:=hf 0 _ rfl;have g1:=hf 1 _ rfl;have g2:=hf 2 _ rfl;have g3:=hf 3 _ rfl;have g4:=hf 4 _ rfl;simp [ybc,kwi,vsf,xfn,jza] at g0 g1 g2 g3 g4;obtain ⟨z0,e0,_,w0⟩:=DataW.trod_int Tryz.underlying3 g0;obtain ⟨t,e1,x1,ht⟩:=DataW.trod_string Tryz.underlying9 g1;obtain ⟨ai,ni,ci,e2,hI,hin⟩:=ku4 g2;obtain ⟨ap,np,cp,e3,hP⟩:=kmw g3;obtain ⟨bb,e4,_⟩:=DataW.trod_bool Tryz.underlying4 g4;simp at e0 e1 e2 e3 e4;have ht1:t.size+1<=Rows.uptoBulk y1.1:=by
   rw [x1];show _<=t.data.toList.length+1;rw [Array.length_toList];exact Nat.le_refl _
  refine ⟨⟨z0,t,ai,ni,ci,ap,np,cp,bb⟩,by rw [e0,e1,e2,e3,e4];rfl,hI,hP,?_⟩;show t.size+ni+1<=_;rw [hxy];simp only [Rows.uptoBulk,Rows.uptoBulkAll,List.map_cons,List.map_nil];omega
theorem ylb{H:Type}(F:Nat->PtD)(D:Nat->DataW H):∀ L:List Nat,(∀ k∈L,(F k).wt<=Rows.uptoBulk (D k))->wts (L.map F)<=Rows.uptoBulkAll (L.map D):=by
 intro L;induction L with
 | nil=>exact fun _=>Nat.zero_le _
 | cons k L ih=>
  intro h;have h1:=h k (by simp);have h2:=ih (fun j hj=>h j (by simp [hj]));have e:wts ((k :: L).map F)=(F k).wt+wts (L.map F):=rfl;rw [e];simp only [List.map_cons,Rows.uptoBulkAll];omega
theorem parts_of{H:Type}{enc:TypeId×Value->H}{W:World}{base:Nat}{spare:Nat->Bool}{held:Bool}{fuel:Nat}{ad:Option Addr}{n cap:Nat}{x:DataW H×List MemPlace}(h:DataW.trod enc Tryz.prog W base spare held fuel 25 [.slice ad n cap]=some x) :
  ∃ l:List PtD,l.length=n∧PartsO W ad l∧wts l<=Rows.uptoBulk x.1:=by
 rcases open_slice Tryz.underlying25 h with ⟨hcs,rfl⟩ | ⟨a,len,cp,m,f,D,Pl,hcs,hb,hl,hm,hmm,rfl,hx⟩
 ·simp at hcs;obtain ⟨rfl,rfl,rfl⟩:=hcs;exact ⟨[],rfl,fun k hk=>absurd hk (Nat.not_lt_zero _),Nat.zero_le _⟩
 ·simp at hcs;obtain ⟨rfl,rfl,rfl⟩:=hcs;have hlm:n<=m:=by rw [hmm];split <;> omega
  have hall:∀ k,∃ d:PtD,k<n->(∃ bl o:Nat,some a=some ⟨bl,o,none⟩∧bl<W.heap.size∧(∀ j (hj:j<5),W.cell? ⟨bl,o+k*5+j,none⟩=some (d.cells[j]'hj)))∧ItO W d.ai d.ni∧yas W d.ap d.np∧d.wt<=Rows.uptoBulk (D k):=by
   intro k;by_cases hk:k<n
   ·obtain ⟨cs',h1,h2⟩:=hx k (by omega);obtain ⟨d,rfl,hI,hP,hw⟩:=kcg h2;refine ⟨d,fun _=>⟨?_,hI,hP,hw⟩⟩;rw [zxt] at h1;obtain ⟨_,_,hcell⟩:=World.cells?_some h1;simp only [add_add] at hcell;obtain ⟨b0,o0,spot⟩:=a;have hspot:spot=none:=by
     obtain ⟨cs0,h10,h20⟩:=hx 0 (by omega);rw [zxt] at h10;obtain ⟨_,_,hcell0⟩:=World.cells?_some h10;obtain ⟨_,rfl,_⟩:=kcg h20;have:=hcell0 0 (by omega);simp [add_add,PtD.cells] at this;simpa [Addr.add] using World.cell?_spot this
    subst hspot;have e0:=hcell 0 (by omega);have e1:=hcell 1 (by omega);have e2:=hcell 2 (by omega);have e3:=hcell 3 (by omega);have e4:=hcell 4 (by omega);rw [Go.WideShapes.add_plain] at e0 e1 e2 e3 e4;simp only [← Nat.add_assoc] at e0 e1 e2 e3 e4;refine ⟨b0,o0,rfl,World.block_lt_of_cell? W _ e0,fun j hj=>?_⟩;have:j=0∨j=1∨j=2∨j=3∨j=4:=by omega
    rcases this with rfl | rfl | rfl | rfl | rfl
    ·simpa [PtD.cells] using e0
    ·simpa [PtD.cells] using e1
    ·simpa [PtD.cells] using e2
    ·simpa [PtD.cells] using e3
    ·simpa [PtD.cells] using e4
   ·exact ⟨⟨0,⟨#[]⟩,none,0,0,none,0,0,false⟩,fun h=>absurd h hk⟩
  obtain ⟨F,hF⟩:=Classical.axiomOfChoice hall;refine ⟨(List.range n).map F,by simp,fun k hk=>?_,?_⟩
  ·have hk':k<n:=by simpa using hk
   obtain ⟨⟨bl,o,e,h1,h2⟩,h3,h4,_⟩:=hF k hk';have hg:((List.range n).map F)[k]=F k:=by simp
   refine ⟨bl,o,e,h1,?_,?_,?_⟩
   ·intro j hj;have hcg:∀ p q:PtD,p=q->(p.cells[j]'hj)=(q.cells[j]'hj):=fun p q e=>by subst e;rfl
    rw [h2 j hj];exact congrArg some (hcg _ _ hg.symm)
   ·simpa only [hg] using h3
   ·simpa only [hg] using h4
  ·have:=ylb F D (List.range n) (fun k hk=>(hF k (List.mem_range.1 hk)).2.2.2);simp only [Rows.uptoBulk];omega
end Go.Proofs.YtbcjmakpempkiaaGreatDoor
