import Derived.Test.YtbcjmakpempkiaaGreatDoorX34
set_option maxRecDepth 100000
set_option maxHeartbeats 8000000
set_option linter.all false
namespace Go.Proofs.YtbcjmakpempkiaaGreatDoor
theorem Fed.told{c c':Cf}(F:Fed c c'):c'.σ.told=c.σ.told:=by rw [F.σ]
theorem Fed.hl{c c':Cf}(F:Fed c c'):c'.σ.hl=c.σ.hl:=by rw [F.σ]
theorem yr0{q:Quo}{D:Nat}{s:ByteArray}(n:Nat):∀ {x:MS} {c:Cf},Sn q D s x c->c.σ.st=12->x.told - x.hl.length=n->Out q D s c (MS.hlL n x):=by
 induction n with
 | zero=>
  intro x c N hst hl;have ht:=N.sm.told (by rw [hst];decide);rw [ht,N.sm.hl] at hl;have hact:c.σ.act=if jwa gw (hset c.σ.hl)=2048 then .tau { c.σ with hs:=hset c.σ.hl,st:=13 } else .fail 10:=by
   rw [St.act_at hst];simp only [St.actAt];rw [if_neg (by omega)]
  show Out q D s c (MS.helpersMade x);unfold MS.helpersMade;rw [N.sm.hl];by_cases h1:jwa gw (hset c.σ.hl)=2048
  ·rw [if_pos h1] at hact ⊢;refine jyp N.sm.wf hact (by omega) ?_
   exact ⟨{ N.sm with
    wf:=veo N.sm.wf hact
    sum:=fun _=>N.sm.sum (by rw [N.st];omega)
    hl:=rfl
    nl:=fun _=>N.sm.nl (by rw [hst];decide)
    nd:=fun _=>N.sm.nd (by rw [hst];decide)
    told:=fun _=>N.sm.told (by rw [hst];decide)
    hs:=fun _=>rfl
    hk:=fun h=>absurd h (show ¬ (13=14) by decide)
    la:=fun h=>absurd h (show ¬ (15<=13∧13<=20) by decide) },rfl,N.mb,N.pre⟩
  ·rw [if_neg h1] at hact ⊢;exact ja5 N hact (by decide) rfl rfl rfl
 | succ n ih=>
  intro x c N hst hl;have ht:=N.sm.told (by rw [hst];decide);rw [ht,N.sm.hl] at hl;refine j18 N (yij hst fun h C hk=>by simp only [St.actAt];rw [if_pos (by omega)];exact if_pos hk) _ fun y c' Y F hk=>?_
  have hst':c'.σ.st=12:=F.st.trans hst;have en:y.num 3=c'.σ.num 3:=by unfold MS.num St.num;rw [Y.sm.held]
  have hact:c'.σ.act= .tau { c'.σ.rd 3 with hl:=c'.σ.hl++[(c'.σ.num 3:Int)] }:=by
   rw [St.act_at hst'];simp only [St.actAt,St.need];rw [if_pos (by rw [F.hl,F.told];omega),if_neg (by omega)]
  have ht2:=Y.sm.told (by rw [hst'];decide);refine xuc Y.sm.wf hact (by omega) (ih ?_ hst' ?_)
  ·rw [en];exact ⟨{ Y.sm with
    wf:=veo Y.sm.wf hact
    sum:=fun _=>Y.sm.sum (by rw [Y.st];omega)
    held:=by show y.held / 2^3=c'.σ.held / 2^3;rw [Y.sm.held]
    count:=by show y.count - 3=c'.σ.count - 3;rw [Y.sm.count]
    hl:=by show y.hl++[_]=c'.σ.hl++[_];rw [Y.sm.hl]
    nl:=fun _=>Y.sm.nl (by rw [hst'];decide)
    nd:=fun _=>Y.sm.nd (by rw [hst'];decide)
    told:=fun _=>Y.sm.told (by rw [hst'];decide)
    hs:=fun h=>absurd h (show ¬ (13<=c'.σ.st∧c'.σ.st<=14) by omega)
    hk:=fun h=>absurd h (show ¬ (c'.σ.st=14) by omega)
    la:=fun h=>absurd h (show ¬ (15<=c'.σ.st∧c'.σ.st<=20) by omega) },Y.st,Y.mb,Y.pre⟩
  ·show y.told - (y.hl++[_]).length=n;rw [ht2,Y.sm.hl,F.told,F.hl,List.length_append,List.length_singleton];omega
theorem z6i{q:Quo}{D:Nat}{s:ByteArray}{x:MS}{c:Cf}(N:Sn q D s x c)(hst:c.σ.st=12):Out q D s c x.o13:=yr0 _ N hst rfl
theorem y7i{q:Quo}{D:Nat}{s:ByteArray}{x:MS}{c:Cf}(N:Sn q D s x c)(hst:c.σ.st=11):Out q D s c x.o12:=by
 refine j18 N (yij hst fun h C hk=>if_pos hk) _ fun y c' Y F hk=>?_
 have hst':c'.σ.st=11:=F.st.trans hst;have en:y.num 4=c'.σ.num 4:=by unfold MS.num St.num;rw [Y.sm.held]
 have hact:c'.σ.act=if 11<c'.σ.num 4 then .fail 10 else .tau { c'.σ.rd 4 with told:=4+c'.σ.num 4,st:=12 }:=by
  rw [St.act_at hst'];simp only [St.actAt,St.need];rw [if_neg (by omega)]
 rw [en];by_cases h1:11<c'.σ.num 4
 ·rw [if_pos h1] at hact ⊢;exact ja5 Y hact (by decide) rfl rfl rfl
 ·rw [if_neg h1] at hact ⊢;refine xuc Y.sm.wf hact (by omega) (z6i ?_ rfl);exact ⟨{ Y.sm with
   wf:=veo Y.sm.wf hact
   sum:=fun _=>Y.sm.sum (by rw [Y.st];omega)
   held:=by show y.held / 2^4=c'.σ.held / 2^4;rw [Y.sm.held]
   count:=by show y.count - 4=c'.σ.count - 4;rw [Y.sm.count]
   nl:=fun _=>Y.sm.nl (by rw [hst'];decide)
   nd:=fun _=>Y.sm.nd (by rw [hst'];decide)
   told:=fun _=>rfl
   hs:=fun h=>absurd h (show ¬ (13<=12∧12<=14) by decide)
   hk:=fun h=>absurd h (show ¬ (12=14) by decide)
   la:=fun h=>absurd h (show ¬ (15<=12∧12<=20) by decide) },rfl,Y.mb,Y.pre⟩
theorem jjs{q:Quo}{D:Nat}{s:ByteArray}{x:MS}{c:Cf}(N:Sn q D s x c)(hst:c.σ.st=10):Out q D s c x.o11:=by
 refine j18 N (yij hst fun h C hk=>if_pos hk) _ fun y c' Y F hk=>?_
 have hst':c'.σ.st=10:=F.st.trans hst;have en:y.num 4=c'.σ.num 4:=by unfold MS.num St.num;rw [Y.sm.held]
 have hact:c'.σ.act= .tau { c'.σ.rd 4 with nd:=1+c'.σ.num 4,st:=11 }:=by
  rw [St.act_at hst'];simp only [St.actAt,St.need];rw [if_neg (by omega)]
 rw [en];refine xuc Y.sm.wf hact (by omega) (y7i ?_ rfl);exact ⟨{ Y.sm with
  wf:=veo Y.sm.wf hact
  sum:=fun _=>Y.sm.sum (by rw [Y.st];omega)
  held:=by show y.held / 2^4=c'.σ.held / 2^4;rw [Y.sm.held]
  count:=by show y.count - 4=c'.σ.count - 4;rw [Y.sm.count]
  nl:=fun _=>Y.sm.nl (by rw [hst'];decide)
  nd:=fun _=>rfl
  told:=fun h=>absurd h (show ¬ (12<=11∧11<=14) by decide)
  hs:=fun h=>absurd h (show ¬ (13<=11∧11<=14) by decide)
  hk:=fun h=>absurd h (show ¬ (11=14) by decide)
  la:=fun h=>absurd h (show ¬ (15<=11∧11<=20) by decide) },rfl,Y.mb,Y.pre⟩
theorem ken{q:Quo}{D:Nat}{s:ByteArray}{x:MS}{c:Cf}(N:Sn q D s x c)(hst:c.σ.st=9):Out q D s c x.o10:=by
 refine j18 N (yij hst fun h C hk=>if_pos hk) _ fun y c' Y F hk=>?_
 have hst':c'.σ.st=9:=F.st.trans hst;have en:y.num 4=c'.σ.num 4:=by unfold MS.num St.num;rw [Y.sm.held]
 have hact:c'.σ.act=if 12<c'.σ.num 4 then .fail 10 else .tau { c'.σ.rd 4 with nl:=257+c'.σ.num 4,st:=10 }:=by
  rw [St.act_at hst'];simp only [St.actAt,St.need];rw [if_neg (by omega)]
 rw [en];by_cases h1:12<c'.σ.num 4
 ·rw [if_pos h1] at hact ⊢;exact ja5 Y hact (by decide) rfl rfl rfl
 ·rw [if_neg h1] at hact ⊢;refine xuc Y.sm.wf hact (by omega) (jjs ?_ rfl);exact ⟨{ Y.sm with
   wf:=veo Y.sm.wf hact
   sum:=fun _=>Y.sm.sum (by rw [Y.st];omega)
   held:=by show y.held / 2^4=c'.σ.held / 2^4;rw [Y.sm.held]
   count:=by show y.count - 4=c'.σ.count - 4;rw [Y.sm.count]
   nl:=fun _=>rfl
   nd:=fun h=>absurd h (show ¬ (11<=10∧10<=14) by decide)
   told:=fun h=>absurd h (show ¬ (12<=10∧10<=14) by decide)
   hs:=fun h=>absurd h (show ¬ (13<=10∧10<=14) by decide)
   hk:=fun h=>absurd h (show ¬ (10=14) by decide)
   la:=fun h=>absurd h (show ¬ (15<=10∧10<=20) by decide) },rfl,Y.mb,Y.pre⟩
theorem vqi{q:Quo}{D:Nat}{s:ByteArray}{x:MS}{c:Cf}(N:Sn q D s x c)(hst:c.σ.st=14):Out q D s c x.r15:=by
 obtain ⟨k1,k2,k3,k4⟩:=N.sm.hk hst;unfold MS.r15;rw [k3,k4];refine zyc (k:=hbits c.σ.hk) _ N (yij hst fun h C hk=>if_pos hk) _ fun y c' Y F hk=>?_
 have hst':c'.σ.st=14:=F.st.trans hst;have ehk:c'.σ.hk=c.σ.hk:=by rw [F.σ]
 rw [← ehk] at hk ⊢;obtain ⟨j1,j2,j3,j4⟩:=Y.sm.hk hst';have W:=Y.sm.wf;have en:∀ k,y.num k=c'.σ.num k:=fun k=>by unfold MS.num St.num;rw [Y.sm.held]
 have hnl:y.nl=c'.σ.nl:=Y.sm.nl (by rw [hst'];decide);have hnd:y.nd=c'.σ.nd:=Y.sm.nd (by rw [hst'];decide);have hact:c'.σ.act=c'.σ.rowNumber:=by
  rw [St.act_at hst'];simp only [St.actAt,St.need];rw [if_neg (by omega)]
 obtain ⟨T,hT⟩:∃ T,T=hleast c'.σ.hk+c'.σ.num (hbits c'.σ.hk):=⟨_,rfl⟩
 unfold St.rowNumber at hact;rw [en];simp only [← hT] at hact ⊢;have hrl:(y.rd (hbits c'.σ.hk)).rowLen=hval c'.σ.hk c'.σ.row:=by
  unfold MS.rowLen hval;show (if y.hbef=true then y.row.getD (y.row.length - 1) 0 else (y.hlen:Int))=_;rw [j2,Y.sm.row,j1];by_cases q12:c'.σ.hk=12
  ·simp [q12]
  ·by_cases q13:c'.σ.hk=13
   ·simp [q13]
   ·by_cases q14:c'.σ.hk=14
    ·simp [q14]
    ·simp [q12,q13,q14]
 have hb:((y.rd (hbits c'.σ.hk)).hbef=true∧(y.rd (hbits c'.σ.hk)).row.length=0)↔(c'.σ.hk=12∧c'.σ.row.length=0):=by
  show (y.hbef=true∧y.row.length=0)↔_;rw [j2,Y.sm.row];simp
 have hn2:((y.rd (hbits c'.σ.hk)).nl+(y.rd (hbits c'.σ.hk)).nd<(y.rd (hbits c'.σ.hk)).row.length+T)↔(c'.σ.nl+c'.σ.nd<c'.σ.row.length+T):=by
  show (y.nl+y.nd<y.row.length+T)↔_;rw [hnl,hnd,Y.sm.row]
 by_cases h1:c'.σ.hk=12∧c'.σ.row.length=0
 ·rw [if_pos h1] at hact;rw [if_pos (Or.inl (hb.2 h1))];exact ja5 Y hact (by decide) rfl rfl rfl
 ·rw [if_neg h1] at hact;by_cases h2:c'.σ.nl+c'.σ.nd<c'.σ.row.length+T
  ·rw [if_pos h2] at hact;rw [if_pos (Or.inr (hn2.2 h2))];exact ja5 Y hact (by decide) rfl rfl rfl
  ·rw [if_neg h2] at hact;rw [if_neg (fun h=>h.elim (fun h=>h1 (hb.1 h)) (fun h=>h2 (hn2.1 h))),hrl];have hrow:(y.rd (hbits c'.σ.hk)).row=c'.σ.row:=Y.sm.row;rw [hrow];obtain ⟨R,hR⟩:∃ R,R=c'.σ.row++List.replicate T (hval c'.σ.hk c'.σ.row):=⟨_,rfl⟩
   rw [← hR] at hact ⊢;show Out q D s c' (if R.length=y.nl+y.nd then MS.endRow { y.rd (hbits c'.σ.hk) with row:=R,st:=14 } else ({ y.rd (hbits c'.σ.hk) with row:=R,st:=14 },0));by_cases h3:R.length=c'.σ.nl+c'.σ.nd
   ·have hact2:c'.σ.act=({ c'.σ.rd (hbits c'.σ.hk) with row:=R,st:=13 }:St).endRow:=by rw [hact];exact if_pos h3
    rw [if_pos (by rw [hnl,hnd];exact h3)];unfold St.endRow at hact2;rw [show MS.endRow { y.rd (hbits c'.σ.hk) with row:=R,st:=14 }=if jcj (R.take y.nl) (R.drop y.nl) then ({ y.rd (hbits c'.σ.hk) with row:=R,st:=14 }:MS).refuse 10 else ({ y.rd (hbits c'.σ.hk) with la:=R.take y.nl,lb:=R.drop y.nl,nl:=0,nd:=0,told:=0,hl:=[],hs:=[],hlen:=0,hbef:=false,hleast:=0,hbits:=0,row:=[],st:=17 },0) from rfl];have hbs:jcj (R.take y.nl) (R.drop y.nl)↔jcj (R.take c'.σ.nl) (R.drop c'.σ.nl):=by rw [hnl]
    by_cases h4:jcj (R.take c'.σ.nl) (R.drop c'.σ.nl)
    ·have hact3:c'.σ.act= .fail 10:=by rw [hact2];exact if_pos h4
     rw [if_pos (hbs.2 h4)];exact ja5 Y hact3 (by decide) rfl rfl rfl
    ·have hact3:c'.σ.act= .tau { c'.σ.rd (hbits c'.σ.hk) with la:=R.take c'.σ.nl,lb:=R.drop c'.σ.nl,hl:=[],hs:=[],row:=[],st:=16 }:=by rw [hact2];exact if_neg h4
     rw [if_neg (fun h=>h4 (hbs.1 h))];refine jyp W hact3 (by omega) ?_
     exact ⟨{ Y.sm with
      wf:=veo Y.sm.wf hact3
      sum:=fun _=>Y.sm.sum (by rw [Y.st];omega)
      held:=by show y.held / 2^(hbits c'.σ.hk)=c'.σ.held / 2^(hbits c'.σ.hk);rw [Y.sm.held]
      count:=by show y.count - (hbits c'.σ.hk)=c'.σ.count - (hbits c'.σ.hk);rw [Y.sm.count]
      hl:=rfl
      row:=rfl
      nl:=fun h=>absurd h (show ¬ (10<=16∧16<=14) by decide)
      nd:=fun h=>absurd h (show ¬ (11<=16∧16<=14) by decide)
      told:=fun h=>absurd h (show ¬ (12<=16∧16<=14) by decide)
      hs:=fun h=>absurd h (show ¬ (13<=16∧16<=14) by decide)
      hk:=fun h=>absurd h (show ¬ (16=14) by decide)
      la:=fun _=>⟨by show R.take y.nl=R.take c'.σ.nl;rw [hnl],by show R.drop y.nl=R.drop c'.σ.nl;rw [hnl]⟩ },rfl,Y.mb,Y.pre⟩
   ·have hact2:c'.σ.act= .tau { c'.σ.rd (hbits c'.σ.hk) with row:=R,st:=13 }:=by rw [hact];exact if_neg h3
    rw [if_neg (by rw [hnl,hnd];exact h3)];refine jyp W hact2 (by omega) ?_
    exact ⟨{ Y.sm with
     wf:=veo Y.sm.wf hact2
     sum:=fun _=>Y.sm.sum (by rw [Y.st];omega)
     held:=by show y.held / 2^(hbits c'.σ.hk)=c'.σ.held / 2^(hbits c'.σ.hk);rw [Y.sm.held]
     count:=by show y.count - (hbits c'.σ.hk)=c'.σ.count - (hbits c'.σ.hk);rw [Y.sm.count]
     row:=rfl
     nl:=fun _=>Y.sm.nl (by rw [hst'];decide)
     nd:=fun _=>Y.sm.nd (by rw [hst'];decide)
     told:=fun _=>Y.sm.told (by rw [hst'];decide)
     hs:=fun _=>Y.sm.hs (by rw [hst'];decide)
     hk:=fun h=>absurd h (show ¬ (13=14) by decide)
     la:=fun h=>absurd h (show ¬ (15<=13∧13<=20) by decide) },rfl,Y.mb,Y.pre⟩
theorem x0r{σ:St}{l:List Int}{g:St->Nat->Act}{k m:Nat}(h:jcs l σ.held σ.count= .hit k m):σ.symbol l g=g (σ.rd m) k:=by
 unfold St.symbol;rw [h]
theorem ke9{q:Quo}{D:Nat}{s:ByteArray}{x:MS}{c:Cf}(N:Sn q D s x c)(hst:c.σ.st=13):Out q D s c x.r14:=by
 have hhs:=N.sm.hs (by rw [hst];decide);unfold MS.r14;rw [hhs];refine y82 (g:=fun τ k=> .tau { τ with hk:=k,st:=14 }) N (fun h C=>by rw [St.act_at (show ({ c.σ with held:=h,count:=C }:St).st=13 from hst)];rfl) _ fun y c' k m Y F hk=>?_
 have hst':c'.σ.st=13:=F.st.trans hst;have ehs:c'.σ.hs=c.σ.hs:=by rw [F.σ]
 have hact:c'.σ.act= .tau { c'.σ.rd m with hk:=k,st:=14 }:=by
  rw [St.act_at hst'];show c'.σ.symbol c'.σ.hs (fun τ k=> .tau { τ with hk:=k,st:=14 })=_;rw [ehs,x0r hk]
 refine xuc Y.sm.wf hact (by omega) (vqi ?_ rfl);exact ⟨{ Y.sm with
  wf:=veo Y.sm.wf hact
  sum:=fun _=>Y.sm.sum (by rw [Y.st];omega)
  held:=by show y.held / 2^m=c'.σ.held / 2^m;rw [Y.sm.held]
  count:=by show y.count - m=c'.σ.count - m;rw [Y.sm.count]
  nl:=fun _=>Y.sm.nl (by rw [hst'];decide)
  nd:=fun _=>Y.sm.nd (by rw [hst'];decide)
  told:=fun _=>Y.sm.told (by rw [hst'];decide)
  hs:=fun _=>Y.sm.hs (by rw [hst'];decide)
  hk:=fun _=>⟨rfl,rfl,rfl,rfl⟩
  la:=fun h=>absurd h (show ¬ (15<=14∧14<=20) by decide) },rfl,Y.mb,Y.pre⟩
theorem ymi{om:List Nat}{d:Nat}(h1:1<=d)(h2:d<=om.length)(h3:d<=256):(om.drop (om.length - 256)).getD ((om.drop (om.length - 256)).length - d) 0=om.getD (om.length - d) 0:=by
 rw [List.getD_eq_getElem?_getD,List.getD_eq_getElem?_getD,List.getElem?_drop,List.length_drop];congr 2
 omega
theorem vvb{q:Quo}{D:Nat}{s:ByteArray}(n:Nat):∀ {x:MS} {c:Cf},Sn q D s x c->c.σ.st=20->x.left=n->Out q D s c (MS.copyL n x):=by
 induction n with
 | zero=>
  intro x c N hst hl;have hl':c.σ.left=0:=by rw [← N.sm.left];exact hl
  have hact:c.σ.act= .tau { c.σ with st:=16 }:=by
   rw [St.act_at hst];exact if_pos hl'
  refine jyp N.sm.wf hact (by omega) ?_
  exact ⟨{ N.sm with
   wf:=veo N.sm.wf hact
   sum:=fun _=>N.sm.sum (by rw [N.st];omega)
   nl:=fun h=>absurd h (show ¬ (10<=16∧16<=14) by decide)
   nd:=fun h=>absurd h (show ¬ (11<=16∧16<=14) by decide)
   told:=fun h=>absurd h (show ¬ (12<=16∧16<=14) by decide)
   hs:=fun h=>absurd h (show ¬ (13<=16∧16<=14) by decide)
   hk:=fun h=>absurd h (show ¬ (16=14) by decide)
   la:=fun _=>N.sm.la (by rw [hst];decide) },rfl,N.mb,N.pre⟩
 | succ n ih=>
  intro x c N hst hl;have hl':c.σ.left=n+1:=by rw [← N.sm.left];exact hl
  have hat:=N.sm.wf.at_;rw [hst] at hat;obtain ⟨_,d1,d2,d3⟩:=hat;have eb:x.qc.getD (x.qc.length - x.dist) 0=c.σ.om.getD (c.σ.om.length - c.σ.dist) 0:=by
   rw [N.sm.qc,N.sm.dist];exact ymi d1 d2 d3
  obtain ⟨b,hb⟩:∃ b,b=c.σ.om.getD (c.σ.om.length - c.σ.dist) 0:=⟨_,rfl⟩
  have hact:c.σ.act= .put b { c.σ with left:=c.σ.left - 1,om:=c.σ.om++[b] }:=by
   rw [St.act_at hst,hb];exact if_neg (by omega)
  show Out q D s c (MS.andThen (x.put (x.qc.getD (x.qc.length - x.dist) 0)) fun y=>MS.copyL n { y with left:=n });rw [eb,← hb];refine z9q N hact _ fun P=>ih ?_ hst rfl
  exact ⟨{ N.sm with
   wf:=j6i N.sm.wf hact
   sum:=fun _=>P.sum
   pu:=P.pu
   qa:=P.qa
   dle:=P.dle
   qc:=P.qc
   sumle:=P.sumle
   size:=P.size
   stp:=P.stp
   left:=by show n=c.σ.left - 1;omega
   nl:=fun h=>absurd h (show ¬ (10<=c.σ.st∧c.σ.st<=14) by omega)
   nd:=fun h=>absurd h (show ¬ (11<=c.σ.st∧c.σ.st<=14) by omega)
   told:=fun h=>absurd h (show ¬ (12<=c.σ.st∧c.σ.st<=14) by omega)
   hs:=fun h=>absurd h (show ¬ (13<=c.σ.st∧c.σ.st<=14) by omega)
   hk:=fun h=>absurd h (show ¬ (c.σ.st=14) by omega)
   la:=fun _=>N.sm.la (by rw [hst];decide) },N.st,N.mb,N.pre⟩
theorem ks1{q:Quo}{D:Nat}{s:ByteArray}{x:MS}{c:Cf}(N:Sn q D s x c)(hst:c.σ.st=20):Out q D s c x.c21:=vvb _ N hst rfl
theorem xgw{q:Quo}{D:Nat}{s:ByteArray}{x:MS}{c:Cf}(N:Sn q D s x c)(hst:c.σ.st=19):Out q D s c x.c20:=by
 unfold MS.c20;rw [N.sm.span.1,N.sm.span.2];refine zyc (k:=c.σ.bits) _ N (yij hst fun h C hk=>if_pos hk) _ fun y c' Y F hk=>?_
 have hst':c'.σ.st=19:=F.st.trans hst;have eb:c'.σ.bits=c.σ.bits:=by rw [F.σ]
 have el:c'.σ.least=c.σ.least:=by rw [F.σ]
 rw [← eb] at hk ⊢;rw [← el];have en:y.num c'.σ.bits=c'.σ.num c'.σ.bits:=by unfold MS.num St.num;rw [Y.sm.held]
 have hat:=Y.sm.wf.at_;rw [hst'] at hat;obtain ⟨_,d1,d2,d3⟩:=hat;have hlt:=St.num_lt c'.σ c'.σ.bits;obtain ⟨T,hT⟩:∃ T,T=c'.σ.least+c'.σ.num c'.σ.bits:=⟨_,rfl⟩
 have hact:c'.σ.act=if c'.σ.om.length<T then .fail 11 else .tau { c'.σ.rd c'.σ.bits with dist:=T,st:=20 }:=by
  rw [St.act_at hst',hT];simp only [St.actAt,St.need];rw [if_neg (by omega)]
 have hql:(y.rd c'.σ.bits).qc.length<T↔c'.σ.om.length<T:=by
  show y.qc.length<T↔_;rw [Y.sm.qc,List.length_drop];omega
 rw [en,← hT];by_cases h1:c'.σ.om.length<T
 ·rw [if_pos h1] at hact;rw [if_pos (hql.2 h1)];exact ja5 Y hact (by decide) rfl rfl rfl
 ·rw [if_neg h1] at hact;rw [if_neg (fun h=>h1 (hql.1 h))];refine xuc Y.sm.wf hact (by omega) (ks1 ?_ rfl);exact ⟨{ Y.sm with
   wf:=veo Y.sm.wf hact
   sum:=fun _=>Y.sm.sum (by rw [Y.st];omega)
   held:=by show y.held / 2^c'.σ.bits=c'.σ.held / 2^c'.σ.bits;rw [Y.sm.held]
   count:=by show y.count - c'.σ.bits=c'.σ.count - c'.σ.bits;rw [Y.sm.count]
   dist:=rfl
   nl:=fun h=>absurd h (show ¬ (10<=20∧20<=14) by decide)
   nd:=fun h=>absurd h (show ¬ (11<=20∧20<=14) by decide)
   told:=fun h=>absurd h (show ¬ (12<=20∧20<=14) by decide)
   hs:=fun h=>absurd h (show ¬ (13<=20∧20<=14) by decide)
   hk:=fun h=>absurd h (show ¬ (20=14) by decide)
   la:=fun _=>Y.sm.la (by rw [hst'];decide) },rfl,Y.mb,Y.pre⟩
theorem yhc{q:Quo}{D:Nat}{s:ByteArray}{x:MS}{c:Cf}(N:Sn q D s x c)(hst:c.σ.st=18):Out q D s c x.c19:=by
 have hla:=N.sm.la (by rw [hst];decide);unfold MS.c19;rw [hla.2];refine y82 (g:=fun τ k=> .tau { τ with least:=Tr.spanLeast 1 k,bits:=Tr.spanBits k,st:=19 }) N (fun h C=>by rw [St.act_at (show ({ c.σ with held:=h,count:=C }:St).st=18 from hst)];rfl) _ fun y c' k m Y F hk=>?_
 have hst':c'.σ.st=18:=F.st.trans hst;have ehs:c'.σ.lb=c.σ.lb:=by rw [F.σ]
 have hact:c'.σ.act= .tau { c'.σ.rd m with least:=Tr.spanLeast 1 k,bits:=Tr.spanBits k,st:=19 }:=by
  rw [St.act_at hst'];show c'.σ.symbol c'.σ.lb (fun τ k=> .tau { τ with least:=Tr.spanLeast 1 k,bits:=Tr.spanBits k,st:=19 })=_;rw [ehs,x0r hk]
 refine xuc Y.sm.wf hact (by omega) (xgw ?_ rfl);exact ⟨{ Y.sm with
  wf:=veo Y.sm.wf hact
  sum:=fun _=>Y.sm.sum (by rw [Y.st];omega)
  held:=by show y.held / 2^m=c'.σ.held / 2^m;rw [Y.sm.held]
  count:=by show y.count - m=c'.σ.count - m;rw [Y.sm.count]
  span:=⟨rfl,rfl⟩
  nl:=fun h=>absurd h (show ¬ (10<=19∧19<=14) by decide)
  nd:=fun h=>absurd h (show ¬ (11<=19∧19<=14) by decide)
  told:=fun h=>absurd h (show ¬ (12<=19∧19<=14) by decide)
  hs:=fun h=>absurd h (show ¬ (13<=19∧19<=14) by decide)
  hk:=fun h=>absurd h (show ¬ (19=14) by decide)
  la:=fun _=>Y.sm.la (by rw [hst'];decide) },rfl,Y.mb,Y.pre⟩
theorem jak{q:Quo}{D:Nat}{s:ByteArray}{x:MS}{c:Cf}(N:Sn q D s x c)(hst:c.σ.st=17):Out q D s c x.c18:=by
 unfold MS.c18;rw [N.sm.span.1,N.sm.span.2];refine zyc (k:=c.σ.bits) _ N (yij hst fun h C hk=>if_pos hk) _ fun y c' Y F hk=>?_
 have hst':c'.σ.st=17:=F.st.trans hst;have eb:c'.σ.bits=c.σ.bits:=by rw [F.σ]
 have el:c'.σ.least=c.σ.least:=by rw [F.σ]
 rw [← eb] at hk ⊢;rw [← el];have en:y.num c'.σ.bits=c'.σ.num c'.σ.bits:=by unfold MS.num St.num;rw [Y.sm.held]
 have hact:c'.σ.act= .tau { c'.σ.rd c'.σ.bits with left:=c'.σ.least+c'.σ.num c'.σ.bits,st:=18 }:=by
  rw [St.act_at hst'];simp only [St.actAt,St.need];rw [if_neg (by omega)]
 rw [en];refine xuc Y.sm.wf hact (by omega) (yhc ?_ rfl);exact ⟨{ Y.sm with
  wf:=veo Y.sm.wf hact
  sum:=fun _=>Y.sm.sum (by rw [Y.st];omega)
  held:=by show y.held / 2^c'.σ.bits=c'.σ.held / 2^c'.σ.bits;rw [Y.sm.held]
  count:=by show y.count - c'.σ.bits=c'.σ.count - c'.σ.bits;rw [Y.sm.count]
  left:=rfl
  nl:=fun h=>absurd h (show ¬ (10<=18∧18<=14) by decide)
  nd:=fun h=>absurd h (show ¬ (11<=18∧18<=14) by decide)
  told:=fun h=>absurd h (show ¬ (12<=18∧18<=14) by decide)
  hs:=fun h=>absurd h (show ¬ (13<=18∧18<=14) by decide)
  hk:=fun h=>absurd h (show ¬ (18=14) by decide)
  la:=fun _=>Y.sm.la (by rw [hst'];decide) },rfl,Y.mb,Y.pre⟩
theorem va8{q:Quo}{D:Nat}{s:ByteArray}{x:MS}{c:Cf}(N:Sn q D s x c)(hst:c.σ.st=16):Out q D s c x.c17:=by
 have hla:=N.sm.la (by rw [hst];decide);unfold MS.c17;rw [hla.1];refine y82 (g:=fun τ k=>τ.literal k) N (fun h C=>by rw [St.act_at (show ({ c.σ with held:=h,count:=C }:St).st=16 from hst)];rfl) _ fun y c' k m Y F hk=>?_
 have hst':c'.σ.st=16:=F.st.trans hst;have ehs:c'.σ.la=c.σ.la:=by rw [F.σ]
 have hact:c'.σ.act=(c'.σ.rd m).literal k:=by
  rw [St.act_at hst'];show c'.σ.symbol c'.σ.la (fun τ k=>τ.literal k)=_;rw [ehs,x0r hk]
 have hm:=(St.hit_facts hk).2.1;unfold St.literal at hact;by_cases h1:k<256
 ·rw [if_pos h1] at hact ⊢;refine jyp Y.sm.wf hact (by omega) ?_
  exact ⟨{ Y.sm with
   wf:=veo Y.sm.wf hact
   sum:=fun _=>Y.sm.sum (by rw [Y.st];omega)
   held:=by show y.held / 2^m=c'.σ.held / 2^m;rw [Y.sm.held]
   count:=by show y.count - m=c'.σ.count - m;rw [Y.sm.count]
   lit:=rfl
   nl:=fun h=>absurd h (show ¬ (10<=15∧15<=14) by decide)
   nd:=fun h=>absurd h (show ¬ (11<=15∧15<=14) by decide)
   told:=fun h=>absurd h (show ¬ (12<=15∧15<=14) by decide)
   hs:=fun h=>absurd h (show ¬ (13<=15∧15<=14) by decide)
   hk:=fun h=>absurd h (show ¬ (15=14) by decide)
   la:=fun _=>Y.sm.la (by rw [hst'];decide) },rfl,Y.mb,Y.pre⟩
 ·rw [if_neg h1] at hact ⊢;by_cases h2:k=256
  ·rw [if_pos h2] at hact ⊢;refine sim_end Y (c'.σ.rd m) (y.rd m) rfl ?_ hact (by omega) (St.held_rd Y.sm.wf hm);unfold MS.rd St.rd;rw [Y.sm.held,Y.sm.count]
  ·rw [if_neg h2] at hact ⊢;refine xuc Y.sm.wf hact (by omega) (jak ?_ rfl);exact ⟨{ Y.sm with
    wf:=veo Y.sm.wf hact
    sum:=fun _=>Y.sm.sum (by rw [Y.st];omega)
    held:=by show y.held / 2^m=c'.σ.held / 2^m;rw [Y.sm.held]
    count:=by show y.count - m=c'.σ.count - m;rw [Y.sm.count]
    span:=⟨rfl,rfl⟩
    nl:=fun h=>absurd h (show ¬ (10<=17∧17<=14) by decide)
    nd:=fun h=>absurd h (show ¬ (11<=17∧17<=14) by decide)
    told:=fun h=>absurd h (show ¬ (12<=17∧17<=14) by decide)
    hs:=fun h=>absurd h (show ¬ (13<=17∧17<=14) by decide)
    hk:=fun h=>absurd h (show ¬ (17=14) by decide)
    la:=fun _=>Y.sm.la (by rw [hst'];decide) },rfl,Y.mb,Y.pre⟩
theorem xcf{q:Quo}{D:Nat}{s:ByteArray}{x:MS}{c:Cf}(N:Sn q D s x c)(hst:c.σ.st=15):Out q D s c x.c16:=by
 have hact:c.σ.act= .put x.lit { c.σ with om:=c.σ.om++[x.lit],st:=16 }:=by
  rw [St.act_at hst,N.sm.lit];rfl
 refine z9q N hact _ fun P=>va8 ?_ rfl
 exact ⟨{ N.sm with
  wf:=j6i N.sm.wf hact
  sum:=fun _=>P.sum
  pu:=P.pu
  qa:=P.qa
  dle:=P.dle
  qc:=P.qc
  sumle:=P.sumle
  size:=P.size
  stp:=P.stp
  nl:=fun h=>absurd h (show ¬ (10<=16∧16<=14) by decide)
  nd:=fun h=>absurd h (show ¬ (11<=16∧16<=14) by decide)
  told:=fun h=>absurd h (show ¬ (12<=16∧16<=14) by decide)
  hs:=fun h=>absurd h (show ¬ (13<=16∧16<=14) by decide)
  hk:=fun h=>absurd h (show ¬ (16=14) by decide)
  la:=fun _=>N.sm.la (by rw [hst];decide) },rfl,N.mb,N.pre⟩
theorem Sn.lim{q:Quo}{D:Nat}{s:ByteArray}{y:MS}{c:Cf}(Y:Sn q D s y c):y.head=y.he↔c.σ.lim<=c.σ.hmany:=by
 have h:=Y.sm.head;rw [h.1,Y.sm.he];omega
theorem zsu{c c':Cf}{A:St->Act}(F:Fed c c')(hA:∀ h C,({ c.σ with held:=h,count:=C }:St).act=A { c.σ with held:=h,count:=C }):c'.σ.act=A c'.σ:=by
 have:=hA c'.σ.held c'.σ.count;rw [← F.σ] at this;exact this
theorem xwx{q:Quo}{D:Nat}{s:ByteArray}{x:MS}{c:Cf}(N:Sn q D s x c)(want next:Nat)
  (hA:∀ h C,({ c.σ with held:=h,count:=C }:St).act=({ c.σ with held:=h,count:=C }:St).need 8 (({ c.σ with held:=h,count:=C }:St).headByte want next)) (g:MS->MS×Nat)
  (hg:∀ y c',Sn q D s y c'->Fed c c'->c'.σ.act= .tau { c'.σ.crown with st:=next }->¬ c'.σ.lim<=c'.σ.hmany->Out q D s c' (g y.headRead)):Out q D s c (MS.andThen (MS.passByte want x) g):=by
 unfold MS.passByte;rw [y9c];refine xgk N (fun h C _ _ _ hk=>by rw [hA h C];exact if_pos hk) _ fun y c' Y F hk _=>?_
 have hact:=zsu (A:=fun σ=>σ.need 8 (σ.headByte want next)) F hA;unfold St.need St.headByte at hact;rw [if_neg (by omega)] at hact;have en:y.num 8=c'.σ.num 8:=by unfold MS.num St.num;rw [Y.sm.held]
 by_cases h5:c'.σ.lim<=c'.σ.hmany
 ·rw [if_pos h5] at hact;rw [if_pos (Y.lim.2 h5)];exact ja5 Y hact (by decide) rfl rfl rfl
 ·rw [if_neg h5] at hact;rw [if_neg (fun h=>h5 (Y.lim.1 h)),en];by_cases h6:c'.σ.num 8=want
  ·rw [if_pos h6] at hact ⊢;exact hg y c' Y F hact h5
  ·rw [if_neg h6] at hact ⊢;rw [zj4];exact ja5 Y hact (by decide) rfl rfl rfl
theorem x1o{q:Quo}{D:Nat}{s:ByteArray}{x:MS}{c:Cf}(N:Sn q D s x c)(hst:c.σ.st=5):Out q D s c x.h6:=by
 unfold MS.h6 MS.passCheck;have hm:=N.sm.wf.marks.1;rw [N.sm.marks,N.sm.hsum];by_cases h0:c.σ.marks / 4%2=0
 ·rw [if_pos h0,xd7];have hact:c.σ.act= .tau { c.σ with st:=6 }:=by
   rw [St.act_at hst];exact if_neg (by omega)
  refine jyp N.sm.wf hact (by omega) ?_
  exact ⟨{ N.sm with
   wf:=veo N.sm.wf hact
   sum:=fun _=>N.sm.sum (by rw [N.st];omega)
   nl:=fun h=>absurd h (show ¬ (10<=6∧6<=14) by decide)
   nd:=fun h=>absurd h (show ¬ (11<=6∧6<=14) by decide)
   told:=fun h=>absurd h (show ¬ (12<=6∧6<=14) by decide)
   hs:=fun h=>absurd h (show ¬ (13<=6∧6<=14) by decide)
   hk:=fun h=>absurd h (show ¬ (6=14) by decide)
   la:=fun h=>absurd h (show ¬ (15<=6∧6<=20) by decide) },rfl,N.mb,N.pre⟩
 ·rw [if_neg h0];refine xwx N c.σ.hsum 6 (fun h C=>by rw [St.act_at (show ({ c.σ with held:=h,count:=C }:St).st=5 from hst)];exact if_pos (show c.σ.marks / 4=1 by omega)) _ fun y c' Y F hact h5=>?_
  have hst':c'.σ.st=5:=F.st.trans hst;refine jyp Y.sm.wf hact (by omega) ?_
  exact ⟨{ Y.sm with
   wf:=veo Y.sm.wf hact
   sum:=fun _=>Y.sm.sum (by rw [Y.st];omega)
   held:=by show y.held / 2^8=c'.σ.held / 2^8;rw [Y.sm.held]
   count:=by show y.count - 8=c'.σ.count - 8;rw [Y.sm.count]
   head:=⟨by show y.head+1=c'.σ.hmany+1;rw [Y.sm.head.1],by show c'.σ.hmany+1<=c'.σ.lim;omega⟩
   hsum:=by show (y.hsum+y.num 8)%256=(c'.σ.hsum+c'.σ.num 8)%256;rw [Y.sm.hsum];unfold MS.num St.num;rw [Y.sm.held]
   nl:=fun h=>absurd h (show ¬ (10<=6∧6<=14) by decide)
   nd:=fun h=>absurd h (show ¬ (11<=6∧6<=14) by decide)
   told:=fun h=>absurd h (show ¬ (12<=6∧6<=14) by decide)
   hs:=fun h=>absurd h (show ¬ (13<=6∧6<=14) by decide)
   hk:=fun h=>absurd h (show ¬ (6=14) by decide)
   la:=fun h=>absurd h (show ¬ (15<=6∧6<=20) by decide) },rfl,Y.mb,Y.pre⟩
theorem jdu(f:Nat)(x:MS)(g:MS->MS×Nat):MS.andThen (MS.textL (f+1) x) g=MS.symThen x.takeHead (fun y b=>if b=0 then g y else MS.andThen (MS.textL f y) g):=by
 rw [MS.textL];unfold MS.symThen;by_cases h1:x.takeHead.2.1=0
 ·rw [if_pos h1];by_cases h2:x.takeHead.2.2=0
  ·rw [if_pos (Or.inr h2),h1];exact (if_pos h2).symm
  ·rw [if_neg (fun h=>h.elim (fun h=>h h1) h2)];exact (if_neg h2).symm
 ·rw [if_neg h1,if_pos (Or.inl h1)];unfold MS.andThen;rw [if_neg h1]
theorem Sn.more{q:Quo}{D:Nat}{s:ByteArray}{x:MS}{c:Cf}(N:Sn q D s x c):x.more=(s.size - c.pre.length)+c.σ.count / 8:=by
 unfold MS.more;rw [N.sm.rest,zli,N.sm.count]
theorem text_go{q:Quo}{D:Nat}{s:ByteArray}(n next:Nat)(hn:n=3∨n=4)(g:MS->MS×Nat)(f:Nat):∀ {x:MS} {c:Cf},Sn q D s x c->c.σ.st=n->x.more<f->
  (∀ h C,({ c.σ with held:=h,count:=C }:St).act=({ c.σ with held:=h,count:=C }:St).need 8 (({ c.σ with held:=h,count:=C }:St).text next))->
  (∀ y c',Sn q D s y c'->c'.σ.st=n->c'.σ.act= .tau { c'.σ.crown with st:=next }->¬ c'.σ.lim<=c'.σ.hmany->Out q D s c' (g y.headRead))->
  (∀ (σ:St),σ.st=n->σ.marks=c.σ.marks->∀ h C,({ σ with held:=h,count:=C }:St).act=({ σ with held:=h,count:=C }:St).need 8 (({ σ with held:=h,count:=C }:St).text next))->Out q D s c (MS.andThen (MS.textL f x) g):=by
 induction f with
 | zero=>intro x c N hst hf;omega
 | succ f ih=>
  intro x c N hst hf hA hg hall;rw [jdu];refine xgk N (fun h C _ _ _ hk=>by rw [hA h C];exact if_pos hk) _ fun y c' Y F hk _=>?_
  have hact:=zsu (A:=fun σ=>σ.need 8 (σ.text next)) F hA;have hst':c'.σ.st=n:=F.st.trans hst;unfold St.need St.text at hact;rw [if_neg (by omega)] at hact;have en:y.num 8=c'.σ.num 8:=by unfold MS.num St.num;rw [Y.sm.held]
  by_cases h5:c'.σ.lim<=c'.σ.hmany
  ·rw [if_pos h5] at hact;rw [if_pos (Y.lim.2 h5)];exact ja5 Y hact (by decide) rfl rfl rfl
  ·rw [if_neg h5] at hact;rw [if_neg (fun h=>h5 (Y.lim.1 h)),en];by_cases h6:c'.σ.num 8=0
   ·rw [if_pos h6] at hact ⊢;exact hg y c' Y hst' hact h5
   ·rw [if_neg h6] at hact ⊢;have hm:c'.σ.marks=c.σ.marks:=by rw [F.σ]
    refine xuc Y.sm.wf hact (by omega) (ih ?_ hst' ?_ (hall _ hst' hm) hg (fun σ h1 h2=>hall σ h1 (h2.trans hm)))
    ·exact ⟨{ Y.sm with
      wf:=veo Y.sm.wf hact
      sum:=fun _=>Y.sm.sum (by rw [Y.st];omega)
      held:=by show y.held / 2^8=c'.σ.held / 2^8;rw [Y.sm.held]
      count:=by show y.count - 8=c'.σ.count - 8;rw [Y.sm.count]
      head:=⟨by show y.head+1=c'.σ.hmany+1;rw [Y.sm.head.1],by show c'.σ.hmany+1<=c'.σ.lim;omega⟩
      hsum:=by show (y.hsum+y.num 8)%256=(c'.σ.hsum+c'.σ.num 8)%256;rw [Y.sm.hsum];unfold MS.num St.num;rw [Y.sm.held]
      nl:=fun h=>absurd h (show ¬ (10<=c'.σ.st∧c'.σ.st<=14) by omega)
      nd:=fun h=>absurd h (show ¬ (11<=c'.σ.st∧c'.σ.st<=14) by omega)
      told:=fun h=>absurd h (show ¬ (12<=c'.σ.st∧c'.σ.st<=14) by omega)
      hs:=fun h=>absurd h (show ¬ (13<=c'.σ.st∧c'.σ.st<=14) by omega)
      hk:=fun h=>absurd h (show ¬ (c'.σ.st=14) by omega)
      la:=fun h=>absurd h (show ¬ (15<=c'.σ.st∧c'.σ.st<=20) by omega) },Y.st,Y.mb,Y.pre⟩
    ·have e1:=N.more;have e2:(y.headRead).more=(s.size - c'.pre.length)+(c'.σ.count - 8) / 8:=by
      unfold MS.more;show y.rest.length+(y.count - 8) / 8=_;rw [Y.sm.rest,zli,Y.sm.count]
     have e3:=F.tot;have e4:=Y.sm.le;rw [e1] at hf;rw [e2];omega
theorem xhm{q:Quo}{D:Nat}{s:ByteArray}{x:MS}{c:Cf}(N:Sn q D s x c)(n next mark:Nat)(hn:n=3∧mark=1∧next=4∨n=4∧mark=2∧next=5)(hst:c.σ.st=n)(g:MS->MS×Nat)
  (h0:c.σ.act= .tau { c.σ with st:=next }->Out q D s c (g x))
  (hg:∀ y c',Sn q D s y c'->c'.σ.st=n->c'.σ.act= .tau { c'.σ.crown with st:=next }->¬ c'.σ.lim<=c'.σ.hmany->Out q D s c' (g y.headRead)):Out q D s c (MS.andThen (MS.passText mark x) g):=by
 unfold MS.passText;rw [N.sm.marks];by_cases h1:c.σ.marks / mark%2=0
 ·rw [if_pos h1,xd7];refine h0 ?_;rw [St.act_at hst];rcases hn with ⟨rfl,rfl,rfl⟩ | ⟨rfl,rfl,rfl⟩
  ·exact if_neg (by omega)
  ·exact if_neg (by omega)
 ·rw [if_neg h1];have hall:∀ (σ:St),σ.st=n->σ.marks=c.σ.marks->∀ h C,({ σ with held:=h,count:=C }:St).act=({ σ with held:=h,count:=C }:St).need 8 (({ σ with held:=h,count:=C }:St).text next):=fun σ hs hm h C=>by
   rw [St.act_at (show ({ σ with held:=h,count:=C }:St).st=n from hs)];rcases hn with ⟨rfl,rfl,rfl⟩ | ⟨rfl,rfl,rfl⟩
   ·exact if_pos (show σ.marks%2=1 by rw [hm];omega)
   ·exact if_pos (show σ.marks / 2%2=1 by rw [hm];omega)
  exact text_go n next (by omega) g _ N hst (Nat.lt_succ_self _) (hall _ hst rfl) hg hall
theorem yj0{q:Quo}{D:Nat}{s:ByteArray}{x:MS}{c:Cf}(N:Sn q D s x c)(hst:c.σ.st=4):Out q D s c x.h5:=by
 unfold MS.h5;refine xhm N 4 5 2 (by omega) hst _ (fun hact=>?_) (fun y c' Y hst' hact h5=>?_)
 ·refine xuc N.sm.wf hact (by omega) (x1o ?_ rfl);exact ⟨{ N.sm with
   wf:=veo N.sm.wf hact
   sum:=fun _=>N.sm.sum (by rw [N.st];omega)
   nl:=fun h=>absurd h (show ¬ (10<=5∧5<=14) by decide)
   nd:=fun h=>absurd h (show ¬ (11<=5∧5<=14) by decide)
   told:=fun h=>absurd h (show ¬ (12<=5∧5<=14) by decide)
   hs:=fun h=>absurd h (show ¬ (13<=5∧5<=14) by decide)
   hk:=fun h=>absurd h (show ¬ (5=14) by decide)
   la:=fun h=>absurd h (show ¬ (15<=5∧5<=20) by decide) },rfl,N.mb,N.pre⟩
 ·refine xuc Y.sm.wf hact (by omega) (x1o ?_ rfl);exact ⟨{ Y.sm with
   wf:=veo Y.sm.wf hact
   sum:=fun _=>Y.sm.sum (by rw [Y.st];omega)
   held:=by show y.held / 2^8=c'.σ.held / 2^8;rw [Y.sm.held]
   count:=by show y.count - 8=c'.σ.count - 8;rw [Y.sm.count]
   head:=⟨by show y.head+1=c'.σ.hmany+1;rw [Y.sm.head.1],by show c'.σ.hmany+1<=c'.σ.lim;omega⟩
   hsum:=by show (y.hsum+y.num 8)%256=(c'.σ.hsum+c'.σ.num 8)%256;rw [Y.sm.hsum];unfold MS.num St.num;rw [Y.sm.held]
   nl:=fun h=>absurd h (show ¬ (10<=5∧5<=14) by decide)
   nd:=fun h=>absurd h (show ¬ (11<=5∧5<=14) by decide)
   told:=fun h=>absurd h (show ¬ (12<=5∧5<=14) by decide)
   hs:=fun h=>absurd h (show ¬ (13<=5∧5<=14) by decide)
   hk:=fun h=>absurd h (show ¬ (5=14) by decide)
   la:=fun h=>absurd h (show ¬ (15<=5∧5<=20) by decide) },rfl,Y.mb,Y.pre⟩
theorem z57{q:Quo}{D:Nat}{s:ByteArray}{x:MS}{c:Cf}(N:Sn q D s x c)(hst:c.σ.st=3):Out q D s c x.h4:=by
 unfold MS.h4;refine xhm N 3 4 1 (by omega) hst _ (fun hact=>?_) (fun y c' Y hst' hact h5=>?_)
 ·refine xuc N.sm.wf hact (by omega) (yj0 ?_ rfl);exact ⟨{ N.sm with
   wf:=veo N.sm.wf hact
   sum:=fun _=>N.sm.sum (by rw [N.st];omega)
   nl:=fun h=>absurd h (show ¬ (10<=4∧4<=14) by decide)
   nd:=fun h=>absurd h (show ¬ (11<=4∧4<=14) by decide)
   told:=fun h=>absurd h (show ¬ (12<=4∧4<=14) by decide)
   hs:=fun h=>absurd h (show ¬ (13<=4∧4<=14) by decide)
   hk:=fun h=>absurd h (show ¬ (4=14) by decide)
   la:=fun h=>absurd h (show ¬ (15<=4∧4<=20) by decide) },rfl,N.mb,N.pre⟩
 ·refine xuc Y.sm.wf hact (by omega) (yj0 ?_ rfl);exact ⟨{ Y.sm with
   wf:=veo Y.sm.wf hact
   sum:=fun _=>Y.sm.sum (by rw [Y.st];omega)
   held:=by show y.held / 2^8=c'.σ.held / 2^8;rw [Y.sm.held]
   count:=by show y.count - 8=c'.σ.count - 8;rw [Y.sm.count]
   head:=⟨by show y.head+1=c'.σ.hmany+1;rw [Y.sm.head.1],by show c'.σ.hmany+1<=c'.σ.lim;omega⟩
   hsum:=by show (y.hsum+y.num 8)%256=(c'.σ.hsum+c'.σ.num 8)%256;rw [Y.sm.hsum];unfold MS.num St.num;rw [Y.sm.held]
   nl:=fun h=>absurd h (show ¬ (10<=4∧4<=14) by decide)
   nd:=fun h=>absurd h (show ¬ (11<=4∧4<=14) by decide)
   told:=fun h=>absurd h (show ¬ (12<=4∧4<=14) by decide)
   hs:=fun h=>absurd h (show ¬ (13<=4∧4<=14) by decide)
   hk:=fun h=>absurd h (show ¬ (4=14) by decide)
   la:=fun h=>absurd h (show ¬ (15<=4∧4<=20) by decide) },rfl,Y.mb,Y.pre⟩
theorem vk5{q:Quo}{D:Nat}{s:ByteArray}{x:MS}{c:Cf}(N:Sn q D s x c)(hst:c.σ.st=2):Out q D s c x.h3:=by
 unfold MS.h3 MS.passMarks;by_cases h2:x.fm=2
 ·have hf2:c.σ.fmt=2:=by rw [← N.sm.fm];exact h2
  rw [if_pos h2,y9c];refine xgk N (yij hst fun h C hk=>by simp only [St.actAt];rw [if_pos hf2];exact if_pos hk) _ fun y c' Y F hk _=>?_
  have hst':c'.σ.st=2:=F.st.trans hst;have hact:c'.σ.act=if c'.σ.lim<=c'.σ.hmany then .fail 5 else if 7<c'.σ.num 8 then .fail 4 else .tau { c'.σ.crown with marks:=c'.σ.num 8,st:=3 }:=by
   rw [St.act_at hst'];simp only [St.actAt,St.need];rw [if_pos (F.fmt.trans hf2),if_neg (by omega)]
  have en:y.num 8=c'.σ.num 8:=by unfold MS.num St.num;rw [Y.sm.held]
  by_cases h5:c'.σ.lim<=c'.σ.hmany
  ·rw [if_pos h5] at hact;rw [if_pos (Y.lim.2 h5)];exact ja5 Y hact (by decide) rfl rfl rfl
  ·rw [if_neg h5] at hact;rw [if_neg (fun h=>h5 (Y.lim.1 h)),en];by_cases h6:7<c'.σ.num 8
   ·rw [if_pos h6] at hact ⊢;exact ja5 Y hact (by decide) rfl rfl rfl
   ·rw [if_neg h6] at hact ⊢;rw [xd7];refine xuc Y.sm.wf hact (by omega) (z57 ?_ rfl);exact ⟨{ Y.sm with
     wf:=veo Y.sm.wf hact
     sum:=fun _=>Y.sm.sum (by rw [Y.st];omega)
     held:=by show y.held / 2^8=c'.σ.held / 2^8;rw [Y.sm.held]
     count:=by show y.count - 8=c'.σ.count - 8;rw [Y.sm.count]
     head:=⟨by show y.head+1=c'.σ.hmany+1;rw [Y.sm.head.1],by show c'.σ.hmany+1<=c'.σ.lim;omega⟩
     hsum:=by show (y.hsum+y.num 8)%256=(c'.σ.hsum+c'.σ.num 8)%256;rw [Y.sm.hsum];unfold MS.num St.num;rw [Y.sm.held]
     marks:=rfl
     nl:=fun h=>absurd h (show ¬ (10<=3∧3<=14) by decide)
     nd:=fun h=>absurd h (show ¬ (11<=3∧3<=14) by decide)
     told:=fun h=>absurd h (show ¬ (12<=3∧3<=14) by decide)
     hs:=fun h=>absurd h (show ¬ (13<=3∧3<=14) by decide)
     hk:=fun h=>absurd h (show ¬ (3=14) by decide)
     la:=fun h=>absurd h (show ¬ (15<=3∧3<=20) by decide) },rfl,Y.mb,Y.pre⟩
 ·rw [if_neg h2,xd7];have hact:c.σ.act= .tau { c.σ with st:=3 }:=by
   rw [St.act_at hst];exact if_neg (by rw [← N.sm.fm];exact h2)
  refine xuc N.sm.wf hact (by omega) (z57 ?_ rfl);exact ⟨{ N.sm with
   wf:=veo N.sm.wf hact
   sum:=fun _=>N.sm.sum (by rw [N.st];omega)
   nl:=fun h=>absurd h (show ¬ (10<=3∧3<=14) by decide)
   nd:=fun h=>absurd h (show ¬ (11<=3∧3<=14) by decide)
   told:=fun h=>absurd h (show ¬ (12<=3∧3<=14) by decide)
   hs:=fun h=>absurd h (show ¬ (13<=3∧3<=14) by decide)
   hk:=fun h=>absurd h (show ¬ (3=14) by decide)
   la:=fun h=>absurd h (show ¬ (15<=3∧3<=20) by decide) },rfl,N.mb,N.pre⟩
theorem vkw{q:Quo}{D:Nat}{s:ByteArray}{x:MS}{c:Cf}(N:Sn q D s x c)(hst:c.σ.st=1):Out q D s c x.h2:=by
 have hz:=St.fmt_pos N.sm.wf (by omega);unfold MS.h2 MS.passFixed;rw [N.sm.fm,if_neg hz];refine xwx N (MS.second c.σ.fmt) 2 (fun h C=>by rw [St.act_at (show ({ c.σ with held:=h,count:=C }:St).st=1 from hst)];rfl) _ fun y c' Y F hact h5=>?_
 have hst':c'.σ.st=1:=F.st.trans hst;refine xuc Y.sm.wf hact (by omega) (vk5 ?_ rfl);exact ⟨{ Y.sm with
  wf:=veo Y.sm.wf hact
  sum:=fun _=>Y.sm.sum (by rw [Y.st];omega)
  held:=by show y.held / 2^8=c'.σ.held / 2^8;rw [Y.sm.held]
  count:=by show y.count - 8=c'.σ.count - 8;rw [Y.sm.count]
  head:=⟨by show y.head+1=c'.σ.hmany+1;rw [Y.sm.head.1],by show c'.σ.hmany+1<=c'.σ.lim;omega⟩
  hsum:=by show (y.hsum+y.num 8)%256=(c'.σ.hsum+c'.σ.num 8)%256;rw [Y.sm.hsum];unfold MS.num St.num;rw [Y.sm.held]
  nl:=fun h=>absurd h (show ¬ (10<=2∧2<=14) by decide)
  nd:=fun h=>absurd h (show ¬ (11<=2∧2<=14) by decide)
  told:=fun h=>absurd h (show ¬ (12<=2∧2<=14) by decide)
  hs:=fun h=>absurd h (show ¬ (13<=2∧2<=14) by decide)
  hk:=fun h=>absurd h (show ¬ (2=14) by decide)
  la:=fun h=>absurd h (show ¬ (15<=2∧2<=20) by decide) },rfl,Y.mb,Y.pre⟩
theorem jgq{q:Quo}{D:Nat}{s:ByteArray}{x:MS}{c:Cf}(N:Sn q D s x c)(hst:c.σ.st=0):Out q D s c x.h1:=by
 have hz:=St.fmt_pos N.sm.wf (by omega);unfold MS.h1 MS.passFixed;rw [N.sm.fm,if_neg hz];refine xwx N (MS.first c.σ.fmt) 1 (fun h C=>by rw [St.act_at (show ({ c.σ with held:=h,count:=C }:St).st=0 from hst)];rfl) _ fun y c' Y F hact h5=>?_
 have hst':c'.σ.st=0:=F.st.trans hst;refine xuc Y.sm.wf hact (by omega) (vkw ?_ rfl);exact ⟨{ Y.sm with
  wf:=veo Y.sm.wf hact
  sum:=fun _=>Y.sm.sum (by rw [Y.st];omega)
  held:=by show y.held / 2^8=c'.σ.held / 2^8;rw [Y.sm.held]
  count:=by show y.count - 8=c'.σ.count - 8;rw [Y.sm.count]
  head:=⟨by show y.head+1=c'.σ.hmany+1;rw [Y.sm.head.1],by show c'.σ.hmany+1<=c'.σ.lim;omega⟩
  hsum:=by show (y.hsum+y.num 8)%256=(c'.σ.hsum+c'.σ.num 8)%256;rw [Y.sm.hsum];unfold MS.num St.num;rw [Y.sm.held]
  nl:=fun h=>absurd h (show ¬ (10<=1∧1<=14) by decide)
  nd:=fun h=>absurd h (show ¬ (11<=1∧1<=14) by decide)
  told:=fun h=>absurd h (show ¬ (12<=1∧1<=14) by decide)
  hs:=fun h=>absurd h (show ¬ (13<=1∧1<=14) by decide)
  hk:=fun h=>absurd h (show ¬ (1=14) by decide)
  la:=fun h=>absurd h (show ¬ (15<=1∧1<=20) by decide) },rfl,Y.mb,Y.pre⟩
end Go.Proofs.YtbcjmakpempkiaaGreatDoor
