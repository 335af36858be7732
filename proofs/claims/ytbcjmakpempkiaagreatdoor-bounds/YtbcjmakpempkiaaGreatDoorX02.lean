import Derived.BigRegion
import Derived.Deep.MidRow
import Derived.Laws.Bits64
import Derived.Laws.BitsLemmas
import Derived.Laws.ShiftsVarLaws
import Derived.RegionTactic
import Derived.Test.YtbcjmakpempkiaaGreatDoorX01
set_option maxRecDepth 100000
set_option maxHeartbeats 8000000
set_option linter.all false
namespace Go.Proofs.YtbcjmakpempkiaaGreatDoor
theorem yym:∀ (hl:List Int) (i:Nat) (l:List Int),(∀ x∈hl,0<=x∧x<8)->inRange l=true->inRange (xhc hl i l)=true∧(xhc hl i l).length=l.length
 | [],_,l,_,h=>⟨h,rfl⟩
 | x :: xs,i,l,hx,h=>by
  have h1:=hx x (by simp);have h2:inRange (l.set (Tr.order.getD i 0) x)=true:=by
   rw [vto] at h ⊢;intro y hy;rcases List.mem_or_eq_of_mem_set hy with hy | hy
   ·exact h y hy
   ·omega
  have:=yym xs (i+1) (l.set (Tr.order.getD i 0) x) (fun y hy=>hx y (by simp [hy])) h2;exact ⟨this.1,by show (xhc xs (i+1) _).length=_;rw [this.2];simp⟩
theorem jsu{hl:List Int}(h:∀ x∈hl,0<=x∧x<8):inRange (hset hl)=true∧(hset hl).length=15:=yym hl 0 _ h (by decide)
theorem zgl{l m:List Int}(h:inRange l=true)(hs:∀ x∈m,x∈l):inRange m=true:=by
 rw [vto] at h ⊢;exact fun x hx=>h x (hs x hx)
theorem yyi{l:List Int}(h:inRange l=true)(k:Nat):yuc (l.getD k 0)=true:=by
 rw [vto] at h;rw [List.getD_eq_getElem?_getD];cases e:l[k]? with
 | none=>decide
 | some x=>
  have:=h x (List.mem_of_getElem? e);simp [yuc];omega
theorem jy1{k:Nat}{l:List Int}(hk:k<15)(h:inRange l=true):yuc (hval k l)=true:=by
 unfold hval;split
 ·exact yyi h _
 ·split
  ·decide
  ·split
   ·decide
   ·simp [yuc];omega
theorem zj7{j:Nat}(h:j<12):Tr.spanBits j<=4∧3<=Tr.spanLeast 3 j∧Tr.spanLeast 3 j+2^Tr.spanBits j<=67:=by
 have:j=0∨j=1∨j=2∨j=3∨j=4∨j=5∨j=6∨j=7∨j=8∨j=9∨j=10∨j=11:=by omega
 rcases this with rfl | rfl | rfl | rfl | rfl | rfl | rfl | rfl | rfl | rfl | rfl | rfl <;> decide
theorem kfi{j:Nat}(h:j<16):Tr.spanBits j<=6∧1<=Tr.spanLeast 1 j∧Tr.spanLeast 1 j+2^Tr.spanBits j<=257:=by
 have:j=0∨j=1∨j=2∨j=3∨j=4∨j=5∨j=6∨j=7∨j=8∨j=9∨j=10∨j=11∨j=12∨j=13∨j=14∨j=15:=by omega
 rcases this with rfl | rfl | rfl | rfl | rfl | rfl | rfl | rfl | rfl | rfl | rfl | rfl | rfl | rfl | rfl | rfl <;> decide
namespace St
theorem next_9{σ:St}(W:Wf σ)(h:σ.st=9):NextA σ.act σ:=by
 have few:=W.few;rw [h] at few;have hc:σ.count<12:=few;rw [act_at h];simp only [actAt,need];have hphi:phi σ=100*σ.count+4:=by unfold phi;rw [h];rfl
 by_cases h3:σ.count<4
 ·rw [if_pos h3];exact fun b hb=>W.take hb (by rw [h];show σ.count+8<12;omega) (by rw [h];trivial)
 ·rw [if_neg h3];have hh:=held_rd W (k:=4) (by omega);split
  ·exact ⟨by decide,by decide⟩
  ·rename_i hn
   refine ⟨⟨W.fmt,by show 10<24;omega,fun _=>by show 6<=10;omega,hh,by show σ.count - 4<12;omega,by show 257<=257+σ.num 4∧257+σ.num 4<=269;omega,fun _=>W.own (by omega),W.om,W.marks,W.hsum⟩,?_,rfl,rfl,rfl,fun h=>by have:(10:Nat)=23:=h;omega⟩;rw [hphi];show 100*(σ.count - 4)+3<_;omega
theorem next_10{σ:St}(W:Wf σ)(h:σ.st=10):NextA σ.act σ:=by
 have few:=W.few;have at_:=W.at_;rw [h] at few at_;have hc:σ.count<12:=few;have ha:257<=σ.nl∧σ.nl<=269:=at_;rw [act_at h];simp only [actAt,need];have hphi:phi σ=100*σ.count+3:=by unfold phi;rw [h];rfl
 have hn:=num_lt σ 4;by_cases h3:σ.count<4
 ·rw [if_pos h3];exact fun b hb=>W.take hb (by rw [h];show σ.count+8<12;omega) (by rw [h];exact ha)
 ·rw [if_neg h3];have hh:=held_rd W (k:=4) (by omega);refine ⟨⟨W.fmt,by show 11<24;omega,fun _=>by show 6<=11;omega,hh,by show σ.count - 4<12;omega,⟨ha,by show 1<=1+σ.num 4∧1+σ.num 4<=16;omega⟩,fun _=>W.own (by omega),W.om,W.marks,W.hsum⟩,?_,rfl,rfl,rfl,fun h=>by have:(11:Nat)=23:=h;omega⟩;rw [hphi];show 100*(σ.count - 4)+2<_;omega
theorem next_11{σ:St}(W:Wf σ)(h:σ.st=11):NextA σ.act σ:=by
 have few:=W.few;have at_:=W.at_;rw [h] at few at_;have hc:σ.count<12:=few;have ha:(257<=σ.nl∧σ.nl<=269)∧1<=σ.nd∧σ.nd<=16:=at_;have ho:=W.own (by omega);rw [act_at h];simp only [actAt,need];have hphi:phi σ=100*σ.count+2:=by unfold phi;rw [h];rfl
 by_cases h3:σ.count<4
 ·rw [if_pos h3];exact fun b hb=>W.take hb (by rw [h];show σ.count+8<12;omega) (by rw [h];exact ha)
 ·rw [if_neg h3];have hh:=held_rd W (k:=4) (by omega);split
  ·exact ⟨by decide,by decide⟩
  ·rename_i hn
   refine ⟨⟨W.fmt,by show 12<24;omega,fun _=>by show 6<=12;omega,hh,⟨by show σ.count - 4<11;omega,fun _=>by show σ.count - 4<8;omega⟩,⟨ha.1,ha.2,by show 4<=4+σ.num 4∧4+σ.num 4<=15;omega,by show σ.hl.length<=_;rw [ho.1];exact Nat.zero_le _,(fun x hx=>by have hx2:x∈σ.hl:=hx;rw [ho.1] at hx2;cases hx2),ho.2⟩,fun h=>by have:(12:Nat)<12∨14<12:=h;omega,W.om,W.marks,W.hsum⟩,?_,rfl,rfl,rfl,fun h=>by have:(12:Nat)=23:=h;omega⟩;rw [hphi];show 100*(σ.count - 4)+30<_;omega
theorem next_12{σ:St}(W:Wf σ)(h:σ.st=12):NextA σ.act σ:=by
 have few:=W.few;have at_:=W.at_;rw [h] at few at_;have hc:σ.count<11∧(σ.hl.length=σ.told->σ.count<8):=few;obtain ⟨a1,a2,a3,a4,a5,a6⟩:=at_;rw [act_at h];simp only [actAt,need];have hphi:phi σ=100*σ.count+30:=by unfold phi;rw [h];rfl
 have hn:=num_lt σ 3;split
 ·rename_i hl
  by_cases h3:σ.count<3
  ·rw [if_pos h3];exact fun b hb=>W.take hb (by rw [h];exact ⟨by show σ.count+8<11;omega,fun e=>by have:σ.hl.length=σ.told:=e;omega⟩) (by rw [h];exact ⟨a1,a2,a3,a4,a5,a6⟩)
  ·rw [if_neg h3];have hh:=held_rd W (k:=3) (by omega);refine ⟨⟨W.fmt,W.st,W.raw,hh,?_,?_,fun e=>by have:σ.st<12∨14 < σ.st:=e;omega,W.om,W.marks,W.hsum⟩,?_,rfl,rfl,rfl,fun e=>by have:σ.st=23:=e;omega⟩
   ·show Few σ.st _;rw [h];exact ⟨by show σ.count - 3<11;omega,fun _=>by show σ.count - 3<8;omega⟩
   ·show At σ.st _;rw [h];refine ⟨a1,a2,a3,by show (σ.hl++[_]).length<=σ.told;simp;omega,?_,a6⟩;intro x hx;rcases List.mem_append.1 hx with hx | hx
    ·exact a5 x hx
    ·simp at hx;omega
   ·rw [hphi];show 100*(σ.count - 3)+loc σ.st _<_;rw [h];show 100*(σ.count - 3)+30<_;omega
 ·rename_i hl
  split
  ·rename_i hw
   obtain ⟨r1,r2⟩:=jsu a5;refine ⟨⟨W.fmt,by show 13<24;omega,fun _=>by show 6<=13;omega,W.held,y8i.of_lt (by show σ.count<8;exact hc.2 (by omega)),⟨a1,a2,⟨r1,hw,r2⟩,by show inRange σ.row=true;rw [a6];rfl,by show σ.row.length < σ.nl+σ.nd;rw [a6];show 0<_;omega⟩,fun e=>by have:(13:Nat)<12∨14<13:=e;omega,W.om,W.marks,W.hsum⟩,?_,rfl,rfl,rfl,fun h=>by have:(13:Nat)=23:=h;omega⟩;rw [hphi];show 100*σ.count+29<_;omega
  ·exact ⟨by decide,by decide⟩
theorem hit_facts{l:List Int}{h c k m:Nat}(e:jcs l h c= .hit k m):1<=m∧m<=c∧k<l.length:=by
 have:=yyp l _ _ _ _ _ _ _ e;omega
theorem next_13{σ:St}(W:Wf σ)(h:σ.st=13):NextA σ.act σ:=by
 have few:=W.few;have at_:=W.at_;rw [h] at few at_;have hc:y8i σ.hs σ.held σ.count:=few;obtain ⟨a1,a2,a3,a4,a5⟩:=at_;rw [act_at h];simp only [actAt,symbol];have hphi:phi σ=100*σ.count+29:=by unfold phi;rw [h];rfl
 cases e:jcs σ.hs σ.held σ.count with
 | none=>exact ⟨by decide,by decide⟩
 | more=>exact fun b hb=>W.take hb (by rw [h];exact y8i.take b e) (by rw [h];exact ⟨a1,a2,a3,a4,a5⟩)
 | hit k m=>
  obtain ⟨h1,h2,h3⟩:=hit_facts e;have hm:=hc.1 k m e;refine ⟨⟨W.fmt,by show 14<24;omega,fun _=>by show 6<=14;omega,held_rd W h2,by show σ.count - m<8+hbits k;omega,⟨⟨a1,a2,a3,a4,a5⟩,by show k<15;omega⟩,fun e=>by have:(14:Nat)<12∨14<14:=e;omega,W.om,W.marks,W.hsum⟩,?_,rfl,rfl,rfl,fun h=>by have:(14:Nat)=23:=h;omega⟩;rw [hphi];show 100*(σ.count - m)+31<_;omega
theorem next_14{σ:St}(W:Wf σ)(h:σ.st=14):NextA σ.act σ:=by
 have few:=W.few;have at_:=W.at_;rw [h] at few at_;have hc:σ.count<8+hbits σ.hk:=few;obtain ⟨⟨a1,a2,a3,a4,a5⟩,a6⟩:=at_;rw [act_at h];simp only [actAt,need];have hphi:phi σ=100*σ.count+31:=by unfold phi;rw [h];rfl
 by_cases h3:σ.count<hbits σ.hk
 ·rw [if_pos h3];exact fun b hb=>W.take hb (by rw [h];show σ.count+8<8+hbits σ.hk;omega) (by rw [h];exact ⟨⟨a1,a2,a3,a4,a5⟩,a6⟩)
 ·rw [if_neg h3];have hh:=held_rd W (k:=hbits σ.hk) (by omega);have hr:=Tr.inRange_append a4 (jy1 a6 a4) (hleast σ.hk+σ.num (hbits σ.hk));unfold rowNumber;simp only;split
  ·exact ⟨by decide,by decide⟩
  ·split
   ·exact ⟨by decide,by decide⟩
   ·rename_i hl
    generalize hrow:σ.row++List.replicate (hleast σ.hk+σ.num (hbits σ.hk)) (hval σ.hk σ.row)=row' at *;have hlen:row'.length<=σ.nl+σ.nd:=by rw [← hrow];simp;omega
    split
    ·rename_i hw
     unfold endRow;show NextA (if jcj (row'.take σ.nl) (row'.drop σ.nl) then _ else _) σ;split
     ·exact ⟨by decide,by decide⟩
     ·rename_i hb
      unfold jcj at hb;refine ⟨⟨W.fmt,by show 16<24;omega,fun _=>by show 6<=16;omega,hh,y8i.of_lt (by show σ.count - hbits σ.hk<8;omega),⟨zgl hr (fun x hx=>List.mem_of_mem_take hx),?_,?_,zgl hr (fun x hx=>List.mem_of_mem_drop hx),?_,?_⟩,fun _=>⟨rfl,rfl⟩,W.om,W.marks,W.hsum⟩,?_,rfl,rfl,rfl,fun h=>by have:(16:Nat)=23:=h;omega⟩
      ·exact Classical.byContradiction fun hn=>hb (Or.inr (Or.inl hn))
      ·show 257<=(row'.take σ.nl).length∧(row'.take σ.nl).length<=269;rw [List.length_take];omega
      ·show okDists (row'.drop σ.nl);unfold okDists;by_cases h1:jwa gw (row'.drop σ.nl)=2048
       ·exact Or.inl h1
       ·cases h2:ky9 (row'.drop σ.nl)
        ·have h0:=(vtl (fun _=>1) 1 (fun _=>⟨by decide,by decide⟩) (by decide) (row'.drop σ.nl)).1;have:¬ 0<jwa (fun _=>1) (row'.drop σ.nl):=fun hp=>hb (Or.inr (Or.inr ⟨h1,h2,hp⟩))
         exact Or.inr (Or.inr (by omega))
        ·exact Or.inr (Or.inl rfl)
      ·show (row'.drop σ.nl).length<=16;rw [List.length_drop];omega
      ·rw [hphi];show 100*(σ.count - hbits σ.hk)+16<_;omega
    ·rename_i hw
     refine ⟨⟨W.fmt,by show 13<24;omega,fun _=>by show 6<=13;omega,hh,y8i.of_lt (by show σ.count - hbits σ.hk<8;omega),⟨a1,a2,a3,hr,by show row'.length < σ.nl+σ.nd;omega⟩,fun e=>by have:(13:Nat)<12∨14<13:=e;omega,W.om,W.marks,W.hsum⟩,?_,rfl,rfl,rfl,fun h=>by have:(13:Nat)=23:=h;omega⟩;rw [hphi];show 100*(σ.count - hbits σ.hk)+29<_;omega
theorem next_15{σ:St}(W:Wf σ)(h:σ.st=15):NextA σ.act σ:=by
 have few:=W.few;have at_:=W.at_;rw [h] at few at_;have hc:σ.count<8:=few;obtain ⟨a1,a2⟩:=at_;rw [act_at h];simp only [actAt];have hphi:phi σ=100*σ.count+17:=by unfold phi;rw [h];rfl
 refine ⟨⟨W.fmt,by show 16<24;omega,fun _=>by show 6<=16;omega,W.held,y8i.of_lt hc,⟨a1.ra,a1.wa,a1.na,a1.rb,a1.wb,a1.nb⟩,fun _=>W.own (by omega),om_snoc W.om a2,W.marks,W.hsum⟩,a2,?_,rfl,rfl,rfl⟩;rw [hphi];show 100*σ.count+16<_;omega
theorem next_16{σ:St}(W:Wf σ)(h:σ.st=16):NextA σ.act σ:=by
 have few:=W.few;have at_:=W.at_;rw [h] at few at_;have hc:y8i σ.la σ.held σ.count:=few;have a1:Sets σ:=at_;rw [act_at h];simp only [actAt,symbol];have hphi:phi σ=100*σ.count+16:=by unfold phi;rw [h];rfl
 cases e:jcs σ.la σ.held σ.count with
 | none=>exact ⟨by decide,by decide⟩
 | more=>exact fun b hb=>W.take hb (by rw [h];exact y8i.take b e) (by rw [h];exact ⟨a1.ra,a1.wa,a1.na,a1.rb,a1.wb,a1.nb⟩)
 | hit k m=>
  obtain ⟨h1,h2,h3⟩:=hit_facts e;have hm:=hc.1 k m e;have hn:=a1.na;show NextA ((σ.rd m).literal k) σ;unfold literal;split
  ·rename_i hk
   refine ⟨⟨W.fmt,by show 15<24;omega,fun _=>by show 6<=15;omega,held_rd W h2,by show σ.count - m<8;omega,⟨⟨a1.ra,a1.wa,a1.na,a1.rb,a1.wb,a1.nb⟩,hk⟩,fun _=>W.own (by omega),W.om,W.marks,W.hsum⟩,?_,rfl,rfl,rfl,fun h=>by have:(15:Nat)=23:=h;omega⟩;rw [hphi];show 100*(σ.count - m)+17<_;omega
  ·split
   ·exact next_end W (by omega) (held_rd W h2) (by show σ.count - m<8;omega) (by rw [hphi];show 100*(σ.count - m)+14<_;omega) rfl (W.own (by omega)) rfl rfl rfl rfl rfl
   ·rename_i k1 k2
    obtain ⟨s1,s2,s3⟩:=zj7 (j:=k - 257) (by omega);generalize k - 257=j at *;refine ⟨⟨W.fmt,by show 17<24;omega,fun _=>by show 6<=17;omega,held_rd W h2,by show σ.count - m<8+Tr.spanBits j;omega,⟨⟨a1.ra,a1.wa,a1.na,a1.rb,a1.wb,a1.nb⟩,s1,s2,s3⟩,fun _=>W.own (by omega),W.om,W.marks,W.hsum⟩,?_,rfl,rfl,rfl,fun h=>by have:(17:Nat)=23:=h;omega⟩;rw [hphi];show 100*(σ.count - m)+86<_;omega
theorem next_17{σ:St}(W:Wf σ)(h:σ.st=17):NextA σ.act σ:=by
 have few:=W.few;have at_:=W.at_;rw [h] at few at_;have hc:σ.count<8+σ.bits:=few;obtain ⟨a1,a2,a3,a4⟩:=at_;rw [act_at h];simp only [actAt,need];have hphi:phi σ=100*σ.count+86:=by unfold phi;rw [h];rfl
 have hn:=num_lt σ σ.bits;by_cases h3:σ.count < σ.bits
 ·rw [if_pos h3];exact fun b hb=>W.take hb (by rw [h];show σ.count+8<8+σ.bits;omega) (by rw [h];exact ⟨⟨a1.ra,a1.wa,a1.na,a1.rb,a1.wb,a1.nb⟩,a2,a3,a4⟩)
 ·rw [if_neg h3];have hh:=held_rd W (k:=σ.bits) (by omega);refine ⟨⟨W.fmt,by show 18<24;omega,fun _=>by show 6<=18;omega,hh,y8i.of_lt (by show σ.count - σ.bits<8;omega),⟨⟨a1.ra,a1.wa,a1.na,a1.rb,a1.wb,a1.nb⟩,by show 3<=σ.least+σ.num σ.bits∧σ.least+σ.num σ.bits<=66;omega⟩,fun _=>W.own (by omega),W.om,W.marks,W.hsum⟩,?_,rfl,rfl,rfl,fun h=>by have:(18:Nat)=23:=h;omega⟩;rw [hphi];show 100*(σ.count - σ.bits)+85<_;omega
theorem next_18{σ:St}(W:Wf σ)(h:σ.st=18):NextA σ.act σ:=by
 have few:=W.few;have at_:=W.at_;rw [h] at few at_;have hc:y8i σ.lb σ.held σ.count:=few;obtain ⟨a1,a2⟩:=at_;rw [act_at h];simp only [actAt,symbol];have hphi:phi σ=100*σ.count+85:=by unfold phi;rw [h];rfl
 cases e:jcs σ.lb σ.held σ.count with
 | none=>exact ⟨by decide,by decide⟩
 | more=>exact fun b hb=>W.take hb (by rw [h];exact y8i.take b e) (by rw [h];exact ⟨⟨a1.ra,a1.wa,a1.na,a1.rb,a1.wb,a1.nb⟩,a2⟩)
 | hit k m=>
  obtain ⟨h1,h2,h3⟩:=hit_facts e;have hm:=hc.1 k m e;have hn:=a1.nb;obtain ⟨s1,s2,s3⟩:=kfi (j:=k) (by omega);refine ⟨⟨W.fmt,by show 19<24;omega,fun _=>by show 6<=19;omega,held_rd W h2,by show σ.count - m<8+Tr.spanBits k;omega,⟨⟨⟨a1.ra,a1.wa,a1.na,a1.rb,a1.wb,a1.nb⟩,a2⟩,s1,s2,s3⟩,fun _=>W.own (by omega),W.om,W.marks,W.hsum⟩,?_,rfl,rfl,rfl,fun h=>by have:(19:Nat)=23:=h;omega⟩;rw [hphi];show 100*(σ.count - m)+84<_;omega
theorem next_19{σ:St}(W:Wf σ)(h:σ.st=19):NextA σ.act σ:=by
 have few:=W.few;have at_:=W.at_;rw [h] at few at_;have hc:σ.count<8+σ.bits:=few;obtain ⟨⟨a1,a5⟩,a2,a3,a4⟩:=at_;rw [act_at h];simp only [actAt,need];have hphi:phi σ=100*σ.count+84:=by unfold phi;rw [h];rfl
 have hn:=num_lt σ σ.bits;by_cases h3:σ.count < σ.bits
 ·rw [if_pos h3];exact fun b hb=>W.take hb (by rw [h];show σ.count+8<8+σ.bits;omega) (by rw [h];exact ⟨⟨⟨a1.ra,a1.wa,a1.na,a1.rb,a1.wb,a1.nb⟩,a5⟩,a2,a3,a4⟩)
 ·rw [if_neg h3];have hh:=held_rd W (k:=σ.bits) (by omega);split
  ·exact ⟨by decide,by decide⟩
  ·rename_i hd
   refine ⟨⟨W.fmt,by show 20<24;omega,fun _=>by show 6<=20;omega,hh,by show σ.count - σ.bits<8;omega,⟨⟨⟨a1.ra,a1.wa,a1.na,a1.rb,a1.wb,a1.nb⟩,a5.2⟩,by show 1<=σ.least+σ.num σ.bits∧σ.least+σ.num σ.bits<=σ.om.length∧σ.least+σ.num σ.bits<=256;omega⟩,fun _=>W.own (by omega),W.om,W.marks,W.hsum⟩,?_,rfl,rfl,rfl,fun h=>by have:(20:Nat)=23:=h;omega⟩;rw [hphi];show 100*(σ.count - σ.bits)+(17+σ.left)<_;omega
theorem next_20{σ:St}(W:Wf σ)(h:σ.st=20):NextA σ.act σ:=by
 have few:=W.few;have at_:=W.at_;rw [h] at few at_;have hc:σ.count<8:=few;obtain ⟨⟨a1,a5⟩,a2,a3,a4⟩:=at_;rw [act_at h];simp only [actAt];have hphi:phi σ=100*σ.count+(17+σ.left):=by unfold phi;rw [h];rfl
 split
 ·rename_i hl
  refine ⟨⟨W.fmt,by show 16<24;omega,fun _=>by show 6<=16;omega,W.held,y8i.of_lt hc,⟨a1.ra,a1.wa,a1.na,a1.rb,a1.wb,a1.nb⟩,fun _=>W.own (by omega),W.om,W.marks,W.hsum⟩,?_,rfl,rfl,rfl,fun h=>by have:(16:Nat)=23:=h;omega⟩;rw [hphi];show 100*σ.count+16<_;omega
 ·rename_i hl
  have hb:σ.om.getD (σ.om.length - σ.dist) 0<256:=by
   rw [List.getD_eq_getElem?_getD];cases e:σ.om[σ.om.length - σ.dist]? with
   | none=>decide
   | some x=>exact W.om x (List.mem_of_getElem? e)
  refine ⟨⟨W.fmt,W.st,W.raw,W.held,?_,?_,fun _=>W.own (by omega),om_snoc W.om hb,W.marks,W.hsum⟩,hb,?_,rfl,rfl,rfl⟩
  ·show Few σ.st _;rw [h];exact hc
  ·show At σ.st _;rw [h];exact ⟨⟨⟨a1.ra,a1.wa,a1.na,a1.rb,a1.wb,a1.nb⟩,by show σ.left - 1<=66;omega⟩,a2,by show σ.dist<=(σ.om++[_]).length;simp;omega,a4⟩
  ·rw [hphi];show 100*σ.count+loc σ.st _<_;rw [h];show 100*σ.count+(17+(σ.left - 1))<_;omega
theorem next{σ:St}(W:Wf σ):NextA σ.act σ:=by
 rcases cases24 W.st with h | h | h | h | h | h | h | h | h | h | h | h | h | h | h | h | h | h | h | h | h | h | h | h
 ·exact next_0 W h
 ·exact next_1 W h
 ·exact next_2 W h
 ·exact next_3 W h
 ·exact next_4 W h
 ·exact next_5 W h
 ·exact next_6 W h
 ·exact next_7 W h
 ·exact next_8 W h
 ·exact next_9 W h
 ·exact next_10 W h
 ·exact next_11 W h
 ·exact next_12 W h
 ·exact next_13 W h
 ·exact next_14 W h
 ·exact next_15 W h
 ·exact next_16 W h
 ·exact next_17 W h
 ·exact next_18 W h
 ·exact next_19 W h
 ·exact next_20 W h
 ·exact next_21 W h
 ·exact next_22 W h
 ·exact next_23 W h
end St
namespace St
def pos(σ:St)(t:Tr):Nat:=t.inn+σ.count / 8
theorem fin_add(σ:St)(b:Nat)(t:Tr):(σ.add b).fin t=σ.fin t:=fin_eq rfl rfl t
theorem after_add(σ:St)(b:Nat)(t:Tr):(σ.add b).after t=σ.after t:=after_eq rfl rfl rfl t
theorem cont_add(σ:St)(b:Nat)(x:RSet×RSet×Tr):(σ.add b).cont x=σ.cont x:=cont_eq rfl rfl rfl x
theorem cab_add(σ:St)(b:Nat)(t:Tr):(σ.add b).cab t=σ.cab t:=cont_add σ b (rset σ.la,rset σ.lb,t)
theorem k6_add(σ:St)(b:Nat)(t:Tr):(σ.add b).k6 t=σ.k6 t:=fin_add σ b _
theorem k5_add(σ:St)(b:Nat)(t:Tr):(σ.add b).k5 t=σ.k5 t:=k6_add σ b _
theorem k4_add(σ:St)(b:Nat)(t:Tr):(σ.add b).k4 t=σ.k4 t:=k5_add σ b _
theorem k3_add(σ:St)(b:Nat)(t:Tr):(σ.add b).k3 t=σ.k3 t:=k4_add σ b _
theorem k2_add(σ:St)(b:Nat)(t:Tr):(σ.add b).k2 t=σ.k2 t:=by
 unfold k2;rw [k6_add,k6_add];rfl
theorem K_add(σ:St)(b:Nat)(t:Tr):(σ.add b).K t=σ.K t:=by
 show Kat σ.st (σ.add b) t=Kat σ.st σ t;unfold Kat;split
 ·exact k2_add σ b _
 ·exact k2_add σ b _
 ·exact k2_add σ b _
 ·exact k3_add σ b _
 ·exact k4_add σ b _
 ·exact k5_add σ b _
 ·exact fin_add σ b _
 ·exact after_add σ b _
 ·exact after_add σ b _
 ·exact cont_add σ b _
 ·exact cont_add σ b _
 ·exact cont_add σ b _
 ·exact cont_add σ b _
 ·exact cont_add σ b _
 ·exact cont_add σ b _
 ·exact cab_add σ b _
 ·exact cab_add σ b _
 ·exact cab_add σ b _
 ·exact cab_add σ b _
 ·exact cab_add σ b _
 ·exact cab_add σ b _
 ·exact fin_add σ b _
 ·rfl
 ·rfl
theorem rel_add{σ:St}{t:Tr}(R:Rel σ t)(h:pos σ t<t.s.size):Rel (σ.add (k0w t.s (pos σ t))) t:=⟨R.going,R.hand.take h,R.lim,R.fine,R.om,R.head,R.begun,R.bytes⟩
end St
structure zik(pre:List Nat)(s:ByteArray):Prop where
 len:pre.length<=s.size
 at_:∀ k,k<pre.length->k0w s k=pre.getD k 0
theorem zik.snoc{pre:List Nat}{b:Nat}{s:ByteArray}(h:zik (pre++[b]) s):zik pre s∧pre.length<s.size∧k0w s pre.length=b:=by
 have hl:=h.len;rw [List.length_append,List.length_singleton] at hl;refine ⟨⟨by omega,fun k hk=>?_⟩,by omega,?_⟩
 ·rw [h.at_ k (by simp;omega)];simp [List.getD_eq_getElem?_getD,List.getElem?_append_left hk]
 ·rw [h.at_ pre.length (by simp)];simp [List.getD_eq_getElem?_getD]
theorem zik.push{pre:List Nat}{s:ByteArray}(h:zik pre s)(hl:pre.length<s.size):zik (pre++[k0w s pre.length]) s:=by
 refine ⟨by simp;omega,fun k hk=>?_⟩;rw [List.length_append,List.length_singleton] at hk;by_cases hk':k<pre.length
 ·rw [h.at_ k hk'];simp [List.getD_eq_getElem?_getD,List.getElem?_append_left hk']
 ·have e:k=pre.length:=by omega
  subst e;simp [List.getD_eq_getElem?_getD]
structure Cf where
 σ:St
 pre:List Nat
 outs:List Nat
 ats:List Nat
 starts:List Nat
structure GI(fm mem lim:Nat)(c:Cf):Prop where
 wf:St.Wf c.σ
 fmtE:c.σ.fmt=fm
 memE:c.σ.mem=mem
 limE:c.σ.lim=lim
 tr:∀ s:ByteArray,s.size≠0->zik c.pre s->∃ t,St.Rel c.σ t∧t.s=s∧St.pos c.σ t=c.pre.length∧t.out=c.outs∧t.ats=c.ats∧t.starts=c.starts∧Tr.obs (c.σ.K t)=Tr.obs (Tr.read fm mem lim s)
def St.begin(fm mem lim:Nat):St:=
 { fmt:=fm,mem:=mem,lim:=lim,st:=if fm=0 then 6 else 0,held:=0,count:=0,begun:=1,marks:=0,hsum:=0,hmany:=0,om:=[],last:=false,left:=0,nl:=0,nd:=0,told:=0,hl:=[],hs:=[],hk:=0,row:=[],la:=[],lb:=[],lit:=0,least:=0,bits:=0,dist:=0 }
def Cf.begin(fm mem lim:Nat):Cf:=⟨St.begin fm mem lim,[],[],[],[0]⟩
theorem St.begin_wf{fm mem lim:Nat}(h:fm<3):St.Wf (St.begin fm mem lim):=by
 by_cases h0:fm=0
 ·subst h0;exact ⟨h,by show 6<24;omega,fun _=>by show 6<=6;omega,by show 0<2^0;omega,by show 0<11;omega,trivial,fun _=>⟨rfl,rfl⟩,fun x hx=>(by cases hx),⟨Nat.zero_le _,fun _=>rfl⟩,by show 0<256;omega⟩
 ·have e:(St.begin fm mem lim).st=0:=by show (if fm=0 then 6 else 0)=0;rw [if_neg h0]
  exact ⟨h,by rw [e];omega,fun hh=>absurd hh h0,by show 0<2^0;omega,by rw [e];exact ⟨rfl,Nat.zero_le _⟩,by rw [e];rfl,fun _=>⟨rfl,rfl⟩,fun x hx=>(by cases hx),⟨Nat.zero_le _,fun _=>rfl⟩,by show 0<256;omega⟩
theorem St.begin_rel{fm mem lim:Nat}(s:ByteArray):St.Rel (St.begin fm mem lim) ({ Tr.start s lim with starts:=[0] }:Tr):=⟨rfl,⟨rfl,by show 0<2^0;omega,by show 0+0 / 8<=s.size;omega,by show 0=0+2^(0%8)*Tr.le s 0 (0 / 8);rw [show (0:Nat) / 8=0 from rfl];rfl⟩,rfl,⟨by show 0<=8;omega,by show 0<256;omega,Nat.zero_le _,Nat.le_refl _,rfl,by show 0<=18;omega⟩,fun _=>rfl,fun _=>⟨rfl,rfl⟩,fun _=>rfl,fun x hx=>(by cases hx)⟩
theorem GI.begin{fm mem lim:Nat}(h:fm<3)(hm:1<=mem):GI fm mem lim (Cf.begin fm mem lim):=by
 refine ⟨St.begin_wf h,rfl,rfl,rfl,fun s hs _=>⟨({ Tr.start s lim with starts:=[0] }:Tr),St.begin_rel s,rfl,by show 0+0 / 8=0;rfl,rfl,rfl,rfl,?_⟩⟩;have h3:fm=0∨fm=1∨fm=2:=by omega
 rcases h3 with rfl | rfl | rfl
 ·have e:Tr.read 0 mem lim s=({ Tr.start s lim with starts:=[0] }:Tr).blocks.trail:=by
   unfold Tr.read Tr.readRaw;rw [if_pos rfl,if_neg hs]
  rw [e];rfl
 ·have e:Tr.read 1 mem lim s=(((({ Tr.start s lim with starts:=[0] }:Tr).isB 115).isB 1).blocks.sum).trail:=by
   unfold Tr.read Tr.readShort;rw [if_neg (by decide),if_pos rfl,if_neg hs]
  have hk:∀ x:Tr,(St.begin 1 mem lim).k2 x=x.blocks.sum.trail:=fun x=>by
   unfold St.k2 St.k6 St.fin;have hf:(St.begin 1 mem lim).fmt=1:=rfl;rw [hf,if_neg (by decide),if_neg (by decide),if_pos rfl]
  have hK:∀ x:Tr,(St.begin 1 mem lim).K x=(St.begin 1 mem lim).k2 ((x.isB (if (1:Nat)=1 then 115 else 76)).isB (if (1:Nat)=1 then 1 else 2)):=fun x=>St.K_at (n:=0) rfl x
  rw [e];show Tr.obs ((St.begin 1 mem lim).K _)=_;rw [hK,hk,if_pos rfl,if_pos rfl]
 ·have e:Tr.read 2 mem lim s=Tr.long mem ({ Tr.start s lim with starts:=[0] }:Tr).member:=by
   unfold Tr.read Tr.readLong;rw [if_neg (by decide),if_neg (by decide),if_neg hs,Tr.long_go (kak s lim) ⟨rfl,by show 0<s.size;omega⟩ (by show ¬ mem<=0;omega)];rfl
  have hk:∀ x:Tr,(St.begin 2 mem lim).k2 x=Tr.long mem ((x.crown.2.marked x.crown.1).blocks.sum.sized):=fun x=>by
   unfold St.k2 St.k6 St.fin;have hf:(St.begin 2 mem lim).fmt=2:=rfl;rw [hf,if_pos rfl,if_neg (by decide),if_neg (by decide)];rfl
  have hK:∀ x:Tr,(St.begin 2 mem lim).K x=(St.begin 2 mem lim).k2 ((x.isB (if (2:Nat)=1 then 115 else 76)).isB (if (2:Nat)=1 then 1 else 2)):=fun x=>St.K_at (n:=0) rfl x
  rw [e];show Tr.obs ((St.begin 2 mem lim).K _)=_;rw [hK,hk,if_neg (by decide),if_neg (by decide)];unfold Tr.member Tr.headed;rfl
theorem GI.take{fm mem lim:Nat}{c:Cf}(h:GI fm mem lim c)(ha:c.σ.act= .take){b:Nat}(hb:b<256):GI fm mem lim { c with σ:=c.σ.add b,pre:=c.pre++[b] }:=by
 have N:=St.next h.wf;rw [ha] at N;refine ⟨N b hb,h.fmtE,h.memE,h.limE,fun s hs ht=>?_⟩;obtain ⟨t1,t2,t3⟩:=ht.snoc;obtain ⟨t,R,e1,e2,e3,e4,e5,e6⟩:=h.tr s hs t1;have hp:St.pos c.σ t<t.s.size:=by rw [e1,e2];exact t2
 have R':=St.rel_add R hp;rw [e1,e2,t3] at R';refine ⟨t,R',e1,?_,e3,e4,e5,?_⟩
 ·show t.inn+(c.σ.count+8) / 8=(c.pre++[b]).length;rw [List.length_append,List.length_singleton,← e2];show _=t.inn+c.σ.count / 8+1;omega
 ·show Tr.obs ((c.σ.add b).K t)=_;rw [St.K_add];exact e6
theorem GI.put{fm mem lim:Nat}{c:Cf}(h:GI fm mem lim c){b:Nat}{σ':St}(ha:c.σ.act= .put b σ'):GI fm mem lim { c with σ:=σ',outs:=c.outs++[b],ats:=c.ats++[c.pre.length] }∧b<256:=by
 have N:=St.next h.wf;rw [ha] at N;obtain ⟨W',hb,hphi,f1,f2,f3⟩:=N;refine ⟨⟨W',f1.trans h.fmtE,f2.trans h.memE,f3.trans h.limE,fun s hs ht=>?_⟩,hb⟩;obtain ⟨t,R,e1,e2,e3,e4,e5,e6⟩:=h.tr s hs ht;have S:=St.sim h.wf R;unfold St.Sim at S;rw [ha] at S;obtain ⟨t',R',hK,s1,s2,s3,s4,s5⟩:=S;refine ⟨t',R',s5.trans e1,?_,by rw [s1,e3],?_,s4.trans e5,by rw [← e6];exact congrArg _ hK⟩
 ·show t'.inn+σ'.count / 8=_;rw [s3];exact e2
 ·rw [s2,e4];show _=c.ats++[c.pre.length];rw [← e2];rfl
theorem GI.tau{fm mem lim:Nat}{c:Cf}(h:GI fm mem lim c){σ':St}(ha:c.σ.act= .tau σ'):GI fm mem lim { c with σ:=σ',starts:=if c.σ.st=23 then c.starts++[c.pre.length - 1] else c.starts }:=by
 have N:=St.next h.wf;rw [ha] at N;obtain ⟨W',hphi,f1,f2,f3,h23⟩:=N;refine ⟨W',f1.trans h.fmtE,f2.trans h.memE,f3.trans h.limE,fun s hs ht=>?_⟩;obtain ⟨t,R,e1,e2,e3,e4,e5,e6⟩:=h.tr s hs ht;have S:=St.sim h.wf R;unfold St.Sim at S;rw [ha] at S;obtain ⟨t',R',hK,s1,s2,s3,s4,s5⟩:=S;refine ⟨t',R',s5.trans e1,?_,by rw [s1,e3],by rw [s2,e4],?_,by rw [← e6];exact congrArg _ hK⟩
 ·show t'.inn+σ'.count / 8=_;rw [s3];exact e2
 ·rw [s4];show _=if c.σ.st=23 then c.starts++[c.pre.length - 1] else c.starts;by_cases hst:c.σ.st=23
  ·rw [if_pos hst,if_pos hst,e5];have few:=h.wf.few;rw [hst] at few;have hc:c.σ.count%8=0∧c.σ.count<=8:=few;have c8:c.σ.count=8:=by
    rcases St.head_count hc with c0 | c8
    ·rw [St.act_at hst] at ha;simp only [St.actAt,St.need] at ha;rw [if_pos (by omega)] at ha;cases ha
    ·exact c8
   have:t.inn=c.pre.length - 1:=by
    rw [← e2];show t.inn=t.inn+c.σ.count / 8 - 1;omega
   rw [this]
  ·rw [if_neg hst,if_neg hst,e5]
theorem GI.fail{fm mem lim:Nat}{c:Cf}(h:GI fm mem lim c){e:Nat}(ha:c.σ.act= .fail e){s:ByteArray}(hs:s.size≠0)(ht:zik c.pre s):Tr.obs (Tr.read fm mem lim s)=⟨c.outs,c.ats,c.pre.length,c.starts,e,false⟩∧4<=e∧e<=14:=by
 have N:=St.next h.wf;rw [ha] at N;obtain ⟨t,R,e1,e2,e3,e4,e5,e6⟩:=h.tr s hs ht;have S:=St.sim h.wf R;unfold St.Sim at S;rw [ha] at S;refine ⟨?_,N⟩;rw [← e6];have S2:Tr.obs (c.σ.K t)=⟨t.out,t.ats,t.inn+c.σ.count / 8,t.starts,e,false⟩:=S;rw [S2,e3,e4,e5,← e2];rfl
theorem GI.hungry{fm mem lim:Nat}{c:Cf}(h:GI fm mem lim c)(ha:c.σ.act= .take){s:ByteArray}(hs:s.size≠0)(ht:zik c.pre s)(hl:s.size=c.pre.length):Tr.obs (Tr.read fm mem lim s)=⟨c.outs,c.ats,c.pre.length,c.starts,0,decide (c.σ.st<23)⟩:=by
 obtain ⟨t,R,e1,e2,e3,e4,e5,e6⟩:=h.tr s hs ht;have S:=St.sim h.wf R;unfold St.Sim at S;rw [ha] at S;rw [← e6];have S2:Tr.obs (c.σ.K t)=_:=S (by show St.pos c.σ t=_;rw [e1,e2,hl]);rw [S2,e3,e4,e5,e1,hl]
structure Quo where
 out:Nat
 ratio:Nat
 slack:Nat
 steps:Nat
def vcn(q:Quo)(i o:Nat):Nat:=if q.steps<=i+o then 16 else if q.out<=o then 17 else if q.ratio*i+q.slack<=o then 18 else 0
inductive j3w(q:Quo)(D:Nat)(s:ByteArray):Cf->Cf->Prop
 | take (c:Cf):c.σ.act= .take->c.pre.length<s.size->¬ q.steps<=c.pre.length+c.outs.length->j3w q D s c { c with σ:=c.σ.add (k0w s c.pre.length),pre:=c.pre++[k0w s c.pre.length] }
 | put (c:Cf) (b:Nat) (σ':St):c.σ.act= .put b σ'->¬ D+64<=c.outs.length->vcn q c.pre.length c.outs.length=0->j3w q D s c { c with σ:=σ',outs:=c.outs++[b],ats:=c.ats++[c.pre.length] }
 | tau (c:Cf) (σ':St):c.σ.act= .tau σ'->j3w q D s c { c with σ:=σ',starts:=if c.σ.st=23 then c.starts++[c.pre.length - 1] else c.starts }
inductive v44(q:Quo)(D:Nat)(s:ByteArray):Cf->Cf->Prop
 | refl (c:Cf):v44 q D s c c
 | step (a b c:Cf):j3w q D s a b->v44 q D s b c->v44 q D s a c
theorem v44.trans{q:Quo}{D:Nat}{s:ByteArray}{a b c:Cf}(h:v44 q D s a b)(k:v44 q D s b c):v44 q D s a c:=by
 induction h with
 | refl=>exact k
 | step a b _ h1 _ ih=>exact .step a b _ h1 (ih k)
theorem v44.one{q:Quo}{D:Nat}{s:ByteArray}{a b:Cf}(h:j3w q D s a b):v44 q D s a b:= .step a b b h (.refl b)
inductive Halt(q:Quo)(D:Nat)(s:ByteArray)(closed:Bool)(c:Cf):Nat->Option Bool->Prop
 | hungry:c.σ.act= .take->s.size<=c.pre.length->Halt q D s closed c (if closed=true∧c.σ.st<23 then 15 else 0) (if closed=true then some (decide (¬ c.σ.st<23)) else none)
 | steps:c.σ.act= .take->c.pre.length<s.size->q.steps<=c.pre.length+c.outs.length->Halt q D s closed c 16 none
 | full (b:Nat) (σ':St):c.σ.act= .put b σ'->D+64<=c.outs.length->Halt q D s closed c 0 none
 | quota (b:Nat) (σ':St):c.σ.act= .put b σ'->¬ D+64<=c.outs.length->vcn q c.pre.length c.outs.length≠0->Halt q D s closed c (vcn q c.pre.length c.outs.length) none
 | fail (e:Nat):c.σ.act= .fail e->Halt q D s closed c e none
structure ypc(c:Cf):Prop where
 below:∀ x∈c.starts,x=0∨x<c.pre.length
 none:c.pre.length=0->c.starts=[0]
 one:c.σ.fmt≠2->c.starts=[0]
 bytes:∀ x∈c.pre,x<256
theorem ypc.begin(fm mem lim:Nat):ypc (Cf.begin fm mem lim):=⟨fun x hx=>by have:x∈[0]:=hx;simp at this;exact Or.inl this,fun _=>rfl,fun _=>rfl,fun x hx=>(by cases hx)⟩
theorem GI.step{fm mem lim:Nat}{q:Quo}{D:Nat}{s:ByteArray}{c c':Cf}(h:GI fm mem lim c)(st:j3w q D s c c')(ht:zik c.pre s):GI fm mem lim c'∧zik c'.pre s:=by
 cases st with
 | take h1 h2 h3=>exact ⟨h.take h1 (z5g _ _),ht.push h2⟩
 | put b σ' h1 h2 h3=>exact ⟨(h.put h1).1,ht⟩
 | tau σ' h1=>exact ⟨h.tau h1,ht⟩
theorem zck{c:Cf}{fm mem lim:Nat}(h:GI fm mem lim c)(hst:c.σ.st=23):c.σ.count=0∨c.σ.count=8:=by
 have few:=h.wf.few;rw [hst] at few;exact St.head_count few
theorem jqu{pre:List Nat}(h:∀ x∈pre,x<256):∃ s:ByteArray,s.size≠0∧zik pre s:=by
 refine ⟨⟨((pre++[0]).map UInt8.ofNat).toArray⟩,by simp [ByteArray.size],⟨by simp [ByteArray.size],fun k hk=>?_⟩⟩;unfold k0w;have h1:=h pre[k] (List.getElem_mem hk);simp only [List.getD_eq_getElem?_getD,List.getElem?_map,List.getElem?_append_left hk,List.getElem?_eq_getElem hk,Option.map_some,Option.getD_some];simp;omega
theorem tau23{c:Cf}{fm mem lim:Nat}(h:GI fm mem lim c)(hby:∀ x∈c.pre,x<256){σ':St}(ha:c.σ.act= .tau σ')(hst:c.σ.st=23):c.σ.fmt=2∧0<c.pre.length:=by
 have hc:=zck h hst;have ha2:=ha;rw [St.act_at hst] at ha2;simp only [St.actAt,St.need] at ha2;have h8:¬ c.σ.count<8:=fun h8=>by rw [if_pos h8] at ha2;cases ha2
 rw [if_neg h8] at ha2;have hf:c.σ.fmt=2:=Classical.byContradiction fun hf=>by rw [if_pos hf] at ha2;cases ha2
 refine ⟨hf,?_⟩;have e:=jqu hby;obtain ⟨s,hs,ht⟩:=e;obtain ⟨t,R,e1,e2,_⟩:=h.tr s hs ht;rw [← e2];show 0<t.inn+c.σ.count / 8;omega
theorem ypc.step{fm mem lim:Nat}{q:Quo}{D:Nat}{s:ByteArray}{c c':Cf}(h:GI fm mem lim c)(b:ypc c)(st:j3w q D s c c'):ypc c':=by
 have N:=St.next h.wf;cases st with
 | take h1 h2 h3=>
  refine ⟨fun x hx=>?_,fun h0=>?_,b.one,St.om_snoc b.bytes (z5g _ _)⟩
  ·have h4:=b.below x hx;show x=0∨x<(c.pre++[_]).length;rw [List.length_append,List.length_singleton];omega
  ·have h5:(c.pre++[k0w s c.pre.length]).length=0:=h0;simp at h5
 | put y σ' h1 h2 h3=>
  rw [h1] at N;exact ⟨b.below,b.none,fun hf=>b.one (by have:=N.2.2.2.1;intro h6;exact hf (this.trans h6)),b.bytes⟩
 | tau σ' h1=>
  rw [h1] at N;have hf:=N.2.2.1;by_cases hst:c.σ.st=23
  ·obtain ⟨f2,hp⟩:=tau23 h b.bytes h1 hst;refine ⟨fun x hx=>?_,fun h0=>by have:c.pre.length=0:=h0;omega,fun h6=>absurd (hf.trans f2) h6,b.bytes⟩;have hx2:x∈(if c.σ.st=23 then c.starts++[c.pre.length - 1] else c.starts):=hx;rw [if_pos hst] at hx2;rcases List.mem_append.1 hx2 with h7 | h7
   ·exact b.below x h7
   ·simp at h7;right;show x<c.pre.length;omega
  ·have e:(if c.σ.st=23 then c.starts++[c.pre.length - 1] else c.starts)=c.starts:=if_neg hst;exact ⟨fun x hx=>b.below x (by rw [← e];exact hx),fun h0=>e.trans (b.none h0),fun h6=>e.trans (b.one fun h7=>h6 (hf.trans h7)),b.bytes⟩
theorem jap(s:ByteArray)(k:Nat)(h:k<s.size):k0w s k=(s[k]).toNat:=(k2a s k h).symm
theorem jq5(s p:ByteArray)(k:Nat)(h:k<s.size):k0w (s++p) k=k0w s k:=by
 rw [jap _ _ (by rw [ByteArray.size_append];omega),jap _ _ h,ByteArray.getElem_append_left h]
theorem yaf(s:ByteArray)(n k:Nat)(hn:n<=s.size)(h:k<n):k0w (s.extract 0 n) k=k0w s k:=by
 rw [jap _ _ (by rw [ByteArray.size_extract];omega),jap _ _ (by omega),ByteArray.getElem_extract];simp
theorem zik.nil(s:ByteArray):zik [] s:=⟨Nat.zero_le _,fun k hk=>by simp at hk⟩
theorem zik.append{pre:List Nat}{s:ByteArray}(h:zik pre s)(p:ByteArray):zik pre (s++p):=⟨by rw [ByteArray.size_append];have:=h.len;omega,fun k hk=>by have:=h.len;rw [jq5 _ _ _ (by omega)];exact h.at_ k hk⟩
theorem zik.cut{pre:List Nat}{s:ByteArray}(h:zik pre s):zik pre (s.extract 0 pre.length)∧(s.extract 0 pre.length).size=pre.length:=by
 have hl:=h.len;have e:(s.extract 0 pre.length).size=pre.length:=by rw [ByteArray.size_extract];omega
 exact ⟨⟨by omega,fun k hk=>by rw [yaf _ _ _ hl hk];exact h.at_ k hk⟩,e⟩
theorem zik.prefix{a b:List Nat}{s:ByteArray}(h:zik (a++b) s):zik a s:=by
 have hl:=h.len;rw [List.length_append] at hl;refine ⟨by omega,fun k hk=>?_⟩;rw [h.at_ k (by rw [List.length_append];omega)];simp [List.getD_eq_getElem?_getD,List.getElem?_append_left hk]
structure z1f(a b:Cf):Prop where
 pre:∃ l,b.pre=a.pre++l
 outs:∃ l,b.outs=a.outs++l
theorem z1f.refl(a:Cf):z1f a a:=⟨⟨[],by simp⟩,⟨[],by simp⟩⟩
theorem z1f.trans{a b c:Cf}(h:z1f a b)(k:z1f b c):z1f a c:=by
 obtain ⟨⟨l,hl⟩,⟨m,hm⟩⟩:=h;obtain ⟨⟨x,hx⟩,⟨y,hy⟩⟩:=k;exact ⟨⟨l++x,by rw [hx,hl,List.append_assoc]⟩,⟨m++y,by rw [hy,hm,List.append_assoc]⟩⟩
theorem j3w.grows{q:Quo}{D:Nat}{s:ByteArray}{a b:Cf}(h:j3w q D s a b):z1f a b:=by
 cases h with
 | take=>exact ⟨⟨_,rfl⟩,⟨[],by simp⟩⟩
 | put=>exact ⟨⟨[],by simp⟩,⟨_,rfl⟩⟩
 | tau=>exact ⟨⟨[],by simp⟩,⟨[],by simp⟩⟩
theorem v44.grows{q:Quo}{D:Nat}{s:ByteArray}{a b:Cf}(h:v44 q D s a b):z1f a b:=by
 induction h with
 | refl=>exact z1f.refl _
 | step a b c h1 _ ih=>exact h1.grows.trans ih
theorem j3w.mono{q:Quo}{D D':Nat}{s s':ByteArray}{a b:Cf}(h:j3w q D s a b)(ht:zik b.pre s')(hD:D<=D'):j3w q D' s' a b:=by
 cases h with
 | take h1 h2 h3=>
  obtain ⟨_,t2,t3⟩:=ht.snoc;have:=j3w.take (q:=q) (D:=D') (s:=s') a h1 t2 h3;rw [t3] at this;exact this
 | put b σ' h1 h2 h3=>exact .put a b σ' h1 (by omega) h3
 | tau σ' h1=>exact .tau a σ' h1
theorem v44.mono{q:Quo}{D D':Nat}{s s':ByteArray}{a b:Cf}(h:v44 q D s a b)(hD:D<=D'):zik b.pre s'->v44 q D' s' a b:=by
 induction h with
 | refl=>exact fun _=> .refl _
 | step a b c h1 h2 ih=>
  intro ht;obtain ⟨⟨l,hl⟩,_⟩:=h2.grows;exact .step a b c (h1.mono (by rw [hl] at ht;exact ht.prefix) hD) (ih ht)
structure km3(c:Cf):Prop where
 act:c.pre=[]->c.σ.act= .take∧c.outs=[]∧c.σ.st<23
theorem km3.begin{fm mem lim:Nat}(h:fm<3):km3 (Cf.begin fm mem lim):=by
 refine ⟨fun _=>⟨?_,rfl,?_⟩⟩
 ·have h3:fm=0∨fm=1∨fm=2:=by omega
  rcases h3 with rfl | rfl | rfl <;> rfl
 ·show (if fm=0 then 6 else 0)<23;split <;> omega
theorem km3.step{q:Quo}{D:Nat}{s:ByteArray}{c c':Cf}(h:km3 c)(st:j3w q D s c c'):km3 c':=by
 cases st with
 | take h1 h2 h3=>exact ⟨fun h0=>by simp at h0⟩
 | put b σ' h1 h2 h3=>exact ⟨fun h0=>by have:=(h.act h0).1;rw [h1] at this;cases this⟩
 | tau σ' h1=>exact ⟨fun h0=>by have:=(h.act h0).1;rw [h1] at this;cases this⟩
structure zi6(fm mem lim:Nat)(c:Cf):Prop where
 gi:GI fm mem lim c
 bg:ypc c
 fs:km3 c
theorem zi6.begin{fm mem lim:Nat}(h:fm<3)(hm:1<=mem):zi6 fm mem lim (Cf.begin fm mem lim):=⟨GI.begin h hm,ypc.begin _ _ _,km3.begin h⟩
theorem zi6.step{fm mem lim:Nat}{q:Quo}{D:Nat}{s:ByteArray}{c c':Cf}(h:zi6 fm mem lim c)(st:j3w q D s c c')(ht:zik c.pre s):zi6 fm mem lim c'∧zik c'.pre s:=⟨⟨(h.gi.step st ht).1,h.bg.step h.gi st,h.fs.step st⟩,(h.gi.step st ht).2⟩
theorem zi6.steps{fm mem lim:Nat}{q:Quo}{D:Nat}{s:ByteArray}{c c':Cf}(st:v44 q D s c c'):zi6 fm mem lim c->zik c.pre s->zi6 fm mem lim c'∧zik c'.pre s:=by
 induction st with
 | refl=>exact fun h ht=>⟨h,ht⟩
 | step a b c h1 _ ih=>exact fun h ht=>ih (h.step h1 ht).1 (h.step h1 ht).2
structure MG where
 c:Cf
 q:Quo
 drained:Nat
 closed:Bool
 err:Nat
 acc:Bool
open Go.RowKit
def wi(n lo hi:Int):Bool:=decide (lo<=n∧n<=hi)
structure Cfg where
 fm:Int
 out:Int
 ratio:Int
 slack:Int
 mem:Int
 lim:Int
 steps:Int
def Cfg.val(c:Cfg):Value:= .agg #[.int .i64 c.fm, .int .i64 c.out, .int .i64 c.ratio, .int .i64 c.slack, .int .i64 c.mem, .int .i64 c.lim, .int .i64 c.steps]
def Cfg.right(c:Cfg):Bool:=wi c.fm 0 2 && wi c.out 0 100000 && wi c.ratio 0 1000 && wi c.slack 0 100000 && (wi c.mem 1 100 && wi c.lim 0 100 && wi c.steps 0 1000000)
theorem xaq{n lo hi:Int}:wi n lo hi=true↔lo<=n∧n<=hi:=by simp [wi]
theorem yur{c:Cfg}:c.right=true↔(0<=c.fm∧c.fm<=2)∧(0<=c.out∧c.out<=100000)∧(0<=c.ratio∧c.ratio<=1000)∧(0<=c.slack∧c.slack<=100000)∧(1<=c.mem∧c.mem<=100)∧(0<=c.lim∧c.lim<=100)∧(0<=c.steps∧c.steps<=1000000):=by
 simp only [Cfg.right,Bool.and_eq_true,xaq];omega
theorem vh2{c:Cfg}(h:c.right=true):c.fm=(c.fm.toNat:Int)∧c.out=(c.out.toNat:Int)∧c.ratio=(c.ratio.toNat:Int)∧c.slack=(c.slack.toNat:Int)∧c.mem=(c.mem.toNat:Int)∧c.lim=(c.lim.toNat:Int)∧c.steps=(c.steps.toNat:Int):=by
 have:=yur.1 h;omega
def StrO(w:World)(ad:Option Addr)(P:List ByteArray):Prop:=∀ k (hk:k<P.length),∃ b o,ad=some ⟨b,o,none⟩∧b<w.heap.size∧w.cell? ⟨b,o+k,none⟩=some (.string P[k])
structure Goes(m:MG)(s:ByteArray)(m':MG):Prop where
 run:∃ c' e a,v44 m.q m.drained s m.c c'∧Halt m.q m.drained s m.closed c' e a∧m'={ m with c:=c',err:=e,acc:=a.getD m.acc }
theorem zbe{pre:List Nat}(P:List ByteArray):∀ {s:ByteArray},zik pre s->zik pre (P.foldl (·++·) s):=by
 induction P with
 | nil=>exact fun h=>h
 | cons x xs ih=>exact fun h=>ih (h.append x)
inductive vsf(m:MG)(P:List ByteArray):MG->Int->Nat->Prop
 | refused:m.err≠0->vsf m P m 0 m.err
 | closed:m.err=0->m.closed=true->vsf m P m 0 3
 | goes (s:ByteArray) (m':MG):m.err=0->m.closed=false->zik m.c.pre s->s.size=m.c.pre.length->Goes m (P.foldl (·++·) s) m'->vsf m P m' ((m'.c.pre.length:Int) - m.c.pre.length) m'.err
theorem jsz{a b:ByteArray}(hs:a.size=b.size)(h:∀ k,k<a.size->k0w a k=k0w b k):a=b:=by
 apply ByteArray.ext;apply Array.ext
 ·exact hs
 ·intro i h1 h2;have:=h i h1;rw [jap a i h1,jap b i h2] at this;exact UInt8.toNat_inj.1 this
theorem vs5{pre:List Nat}{a b:ByteArray}(ha:zik pre a)(hb:zik pre b)(h1:a.size=pre.length)(h2:b.size=pre.length):a=b:=
 jsz (h1.trans h2.symm) fun k hk=>(ha.at_ k (by omega)).trans (hb.at_ k (by omega)).symm
inductive v6p(m:MG)(n:Int):MG->List Nat->Nat->Prop
 | refused:m.err≠0->v6p m n m [] m.err
 | wrong:m.err=0->n<0->v6p m n m [] 2
 | goes (s:ByteArray) (m':MG):m.err=0->0<=n->zik m.c.pre s->s.size=m.c.pre.length->Goes { m with drained:=m.drained+min n.toNat (m.c.outs.length - m.drained) } s m'->v6p m n m' ((m.c.outs.drop m.drained).take (min n.toNat (m.c.outs.length - m.drained))) 0
inductive jlu(m:MG):MG->Nat->Prop
 | refused:m.err≠0->jlu m m m.err
 | closed:m.err=0->m.closed=true->jlu m m 3
 | goes (s:ByteArray) (m':MG):m.err=0->m.closed=false->zik m.c.pre s->s.size=m.c.pre.length->Goes { m with closed:=true } s m'->jlu m m' m'.err
structure vwk(q:Quo)(D:Nat)(c:Cf):Prop where
 st:c.pre.length+c.outs.length<=q.steps
 ou:c.outs.length<=q.out
 ra:c.outs.length<=q.ratio*c.pre.length+q.slack
 ro:c.outs.length<=D+64
theorem kpf{q:Quo}{i o:Nat}(h:vcn q i o=0):i+o<q.steps∧o<q.out∧o<q.ratio*i+q.slack:=by
 unfold vcn at h;split at h
 ·cases h
 ·split at h
  ·cases h
  ·split at h
   ·cases h
   ·omega
theorem vwk.step{q:Quo}{D:Nat}{s:ByteArray}{c c':Cf}(h:vwk q D c)(k:j3w q D s c c'):vwk q D c':=by
 obtain ⟨h1,h2,h3,h4⟩:=h;cases k with
 | take g1 g2 g3=>
  refine ⟨?_,h2,?_,h4⟩
  ·show (c.pre++[_]).length+c.outs.length<=_;rw [List.length_append];simp only [List.length_cons,List.length_nil];omega
  ·show c.outs.length<=q.ratio*(c.pre++[_]).length+q.slack;rw [List.length_append];have h5:q.ratio*c.pre.length<=q.ratio*(c.pre.length+1):=Nat.mul_le_mul (Nat.le_refl _) (by omega);show c.outs.length<=q.ratio*(c.pre.length+1)+q.slack;omega
 | put b σ' g1 g2 g3=>
  obtain ⟨k1,k2,k3⟩:=kpf g3;refine ⟨?_,?_,?_,?_⟩
  ·show c.pre.length+(c.outs++[b]).length<=_;rw [List.length_append];simp only [List.length_cons,List.length_nil];omega
  ·show (c.outs++[b]).length<=_;rw [List.length_append];simp only [List.length_cons,List.length_nil];omega
  ·show (c.outs++[b]).length<=q.ratio*c.pre.length+q.slack;rw [List.length_append];simp only [List.length_cons,List.length_nil];omega
  ·show (c.outs++[b]).length<=_;rw [List.length_append];simp only [List.length_cons,List.length_nil];omega
 | tau σ' g1=>exact ⟨h1,h2,h3,h4⟩
theorem vwk.steps{q:Quo}{D:Nat}{s:ByteArray}{c c':Cf}(k:v44 q D s c c'):vwk q D c->vwk q D c':=by
 induction k with
 | refl=>exact fun h=>h
 | step a b c h1 _ ih=>exact fun h=>ih (h.step h1)
structure y58(m:MG):Prop where
 ck:vwk m.q m.drained m.c
 dr:m.drained<=m.c.outs.length
theorem Goes.kept{m m':MG}{s:ByteArray}(h:Goes m s m')(k:y58 m):y58 m'∧m'.q=m.q∧m'.drained=m.drained∧m'.closed=m.closed∧z1f m.c m'.c:=by
 obtain ⟨c',e,a,h1,h2,rfl⟩:=h.run;have g:=h1.grows;refine ⟨⟨k.ck.steps h1,?_⟩,rfl,rfl,rfl,g⟩;obtain ⟨l,hl⟩:=g.outs;show m.drained<=c'.outs.length;rw [hl,List.length_append];have:=k.dr;omega
theorem Goes.good{m m':MG}{s:ByteArray}{fm mem lim:Nat}(h:Goes m s m')(G:zi6 fm mem lim m.c)(ht:zik m.c.pre s):zi6 fm mem lim m'.c:=by
 obtain ⟨c',e,a,h1,h2,rfl⟩:=h.run;exact (zi6.steps h1 G ht).1
def MG.fresh(c:Cfg):MG:=⟨Cf.begin c.fm.toNat c.mem.toNat c.lim.toNat,⟨c.out.toNat,c.ratio.toNat,c.slack.toNat,c.steps.toNat⟩,0,false,0,false⟩
theorem j3w.det{q:Quo}{D:Nat}{s:ByteArray}{c c1 c2:Cf}(h:j3w q D s c c1)(k:j3w q D s c c2):c1=c2:=by
 cases h with
 | take h1 h2 h3=>
  cases k with
  | take _ _ _=>rfl
  | put b σ' g1 _ _=>rw [h1] at g1;cases g1
  | tau σ' g1=>rw [h1] at g1;cases g1
 | put b σ h1 h2 h3=>
  cases k with
  | take g1 _ _=>rw [h1] at g1;cases g1
  | put b' σ' g1 _ _=>
   rw [h1] at g1;injection g1 with e1 e2
   subst e1;subst e2;rfl
  | tau σ' g1=>rw [h1] at g1;cases g1
 | tau σ h1=>
  cases k with
  | take g1 _ _=>rw [h1] at g1;cases g1
  | put b' σ' g1 _ _=>rw [h1] at g1;cases g1
  | tau σ' g1=>
   rw [h1] at g1;injection g1 with e1
   subst e1;rfl
theorem Halt.stop{q:Quo}{D:Nat}{s:ByteArray}{cl:Bool}{c c':Cf}{e:Nat}{a:Option Bool}(h:Halt q D s cl c e a)(k:j3w q D s c c'):False:=by
 cases k with
 | take g1 g2 g3=>
  cases h with
  | hungry h1 h2=>omega
  | steps h1 h2 h3=>omega
  | full b σ' h1 h2=>rw [g1] at h1;cases h1
  | quota b σ' h1 h2 h3=>rw [g1] at h1;cases h1
  | fail _ h1=>rw [g1] at h1;cases h1
 | put b σ g1 g2 g3=>
  cases h with
  | hungry h1 h2=>rw [g1] at h1;cases h1
  | steps h1 h2 h3=>rw [g1] at h1;cases h1
  | full b σ' h1 h2=>exact g2 h2
  | quota b σ' h1 h2 h3=>exact h3 g3
  | fail _ h1=>rw [g1] at h1;cases h1
 | tau σ g1=>
  cases h with
  | hungry h1 h2=>rw [g1] at h1;cases h1
  | steps h1 h2 h3=>rw [g1] at h1;cases h1
  | full b σ' h1 h2=>rw [g1] at h1;cases h1
  | quota b σ' h1 h2 h3=>rw [g1] at h1;cases h1
  | fail _ h1=>rw [g1] at h1;cases h1
theorem Halt.det{q:Quo}{D:Nat}{s:ByteArray}{cl:Bool}{c:Cf}{e e':Nat}{a a':Option Bool}(h:Halt q D s cl c e a)(k:Halt q D s cl c e' a'):e=e'∧a=a':=by
 cases h with
 | hungry h1 h2=>
  cases k with
  | hungry _ _=>exact ⟨rfl,rfl⟩
  | steps g1 g2 g3=>omega
  | full b σ' g1 g2=>rw [g1] at h1;cases h1
  | quota b σ' g1 g2 g3=>rw [g1] at h1;cases h1
  | fail _ g1=>rw [g1] at h1;cases h1
 | steps h1 h2 h3=>
  cases k with
  | hungry g1 g2=>omega
  | steps _ _ _=>exact ⟨rfl,rfl⟩
  | full b σ' g1 g2=>rw [g1] at h1;cases h1
  | quota b σ' g1 g2 g3=>rw [g1] at h1;cases h1
  | fail _ g1=>rw [g1] at h1;cases h1
 | full b σ h1 h2=>
  cases k with
  | hungry g1 g2=>rw [g1] at h1;cases h1
  | steps g1 g2 g3=>rw [g1] at h1;cases h1
  | full _ _ _ _=>exact ⟨rfl,rfl⟩
  | quota b' σ' g1 g2 g3=>exact absurd h2 g2
  | fail _ g1=>rw [g1] at h1;cases h1
 | quota b σ h1 h2 h3=>
  cases k with
  | hungry g1 g2=>rw [g1] at h1;cases h1
  | steps g1 g2 g3=>rw [g1] at h1;cases h1
  | full b' σ' g1 g2=>exact absurd g2 h2
  | quota _ _ _ _ _=>exact ⟨rfl,rfl⟩
  | fail _ g1=>rw [g1] at h1;cases h1
 | fail _ h1=>
  cases k with
  | hungry g1 g2=>rw [g1] at h1;cases h1
  | steps g1 g2 g3=>rw [g1] at h1;cases h1
  | full b' σ' g1 g2=>rw [g1] at h1;cases h1
  | quota b' σ' g1 g2 g3=>rw [g1] at h1;cases h1
  | fail _ g1=>
   rw [h1] at g1;injection g1 with e1
   exact ⟨e1,rfl⟩
theorem v44.fin{q:Quo}{D:Nat}{s:ByteArray}{cl:Bool}{c c1 c2:Cf}{e1 e2:Nat}{a1 a2:Option Bool}(k1:v44 q D s c c1):Halt q D s cl c1 e1 a1->v44 q D s c c2->Halt q D s cl c2 e2 a2->c1=c2∧e1=e2∧a1=a2:=by
 induction k1 with
 | refl c=>
  intro h1 k2 h2;cases k2 with
  | refl=>exact ⟨rfl,h1.det h2⟩
  | step _ b _ g _=>exact (h1.stop g).elim
 | step a b c' g k ih=>
  intro h1 k2 h2;cases k2 with
  | refl=>exact (h2.stop g).elim
  | step _ b' _ g' k'=>
   have e:=g.det g';subst e;exact ih h1 k' h2
theorem v44.same{q:Quo}{D:Nat}{s:ByteArray}{c c':Cf}(k:v44 q D s c c'):s.size<=c.pre.length->c'.pre=c.pre:=by
 induction k with
 | refl=>exact fun _=>rfl
 | step a b c g _ ih=>
  intro h;cases g with
  | take g1 g2 g3=>omega
  | put _ _ _ _ _=>exact ih h
  | tau _ _=>exact ih h
theorem v44.rest_{q:Quo}{D:Nat}{s:ByteArray}{c c':Cf}(h:v44 q D s c c')(ha:c.σ.act= .take)(hl:s.size<=c.pre.length):c'=c:=by
 cases h with
 | refl=>rfl
 | step a b _ h1 _=>
  cases h1 with
  | take g1 g2 g3=>omega
  | put y σ' g1 _ _=>rw [g1] at ha;cases ha
  | tau σ' g1=>rw [g1] at ha;cases ha
structure Way(fm mem lim:Nat)(s:ByteArray)(m:MG):Prop where
 tk:zik m.c.pre s
 path:∀ D,m.drained<=D->v44 m.q D s (Cf.begin fm mem lim) m.c
theorem Way.fresh(c:Cfg)(s:ByteArray):Way c.fm.toNat c.mem.toNat c.lim.toNat s (MG.fresh c):=⟨zik.nil _,fun _ _=> .refl _⟩
theorem Way.goes{fm mem lim:Nat}{s s1:ByteArray}{m m':MG}(h:Way fm mem lim s m)(G:zi6 fm mem lim m.c)(go:Goes m s1 m')(ht:zik m.c.pre s1)(hp:∀ l,zik l s1->zik l s):Way fm mem lim s m':=by
 obtain ⟨c',e,a,h1,h2,rfl⟩:=go.run;have t1:=(zi6.steps h1 G ht).2;exact ⟨hp _ t1,fun D hD=>(h.path D hD).trans (h1.mono hD (hp _ t1))⟩
theorem Way.drained{fm mem lim:Nat}{s:ByteArray}{m:MG}(h:Way fm mem lim s m)(k:Nat):Way fm mem lim s { m with drained:=m.drained+k }:=⟨h.tk,fun D hD=>h.path D (by have:m.drained+k<=D:=hD;omega)⟩
theorem Way.shut{fm mem lim:Nat}{s:ByteArray}{m:MG}(h:Way fm mem lim s m):Way fm mem lim s { m with closed:=true }:=⟨h.tk,h.path⟩
structure Ends(fm mem lim:Nat)(s:ByteArray)(m:MG):Prop where
 fin:∃ a,m.acc=a.getD false∧∀ D,m.q.out<=D->v44 m.q D s (Cf.begin fm mem lim) m.c∧Halt m.q D s true m.c m.err a
theorem Ends.same{fm mem lim:Nat}{s:ByteArray}{m m':MG}(h:Ends fm mem lim s m)(k:Ends fm mem lim s m')(hq:m.q=m'.q):m.c=m'.c∧m.err=m'.err∧m.acc=m'.acc:=by
 obtain ⟨a,e1,h1⟩:=h.fin;obtain ⟨b,e2,h2⟩:=k.fin;obtain ⟨g1,g2⟩:=h1 m.q.out (Nat.le_refl _);obtain ⟨k1,k2⟩:=h2 m.q.out (by rw [hq];exact Nat.le_refl _);rw [← hq] at k1 k2;obtain ⟨r1,r2,r3⟩:=g1.fin g2 k1 k2;exact ⟨r1,r2,by rw [e1,e2,r3]⟩
theorem Halt.err_open{q:Quo}{D D':Nat}{s s':ByteArray}{c:Cf}{e:Nat}{a:Option Bool}(h:Halt q D s false c e a)(he:e≠0)(hs:s.size<=s'.size)(hD:D<=D'):Halt q D' s' true c e none∧a=none:=by
 cases h with
 | hungry h1 h2=>exact absurd (if_neg (by simp)) he
 | steps h1 h2 h3=>exact ⟨.steps h1 (by omega) h3,rfl⟩
 | full b σ' h1 h2=>exact absurd rfl he
 | quota b σ' h1 h2 h3=>exact ⟨.quota b σ' h1 (by omega) h3,rfl⟩
 | fail _ h1=>exact ⟨.fail _ h1,rfl⟩
theorem Halt.err_shut{q:Quo}{D D':Nat}{s:ByteArray}{c:Cf}{e:Nat}{a:Option Bool}(h:Halt q D s true c e a)(he:e≠0)(hD:D<=D'):Halt q D' s true c e a:=by
 cases h with
 | hungry h1 h2=>exact .hungry h1 h2
 | steps h1 h2 h3=>exact .steps h1 h2 h3
 | full b σ' h1 h2=>exact absurd rfl he
 | quota b σ' h1 h2 h3=>exact .quota b σ' h1 (by omega) h3
 | fail _ h1=>exact .fail _ h1
theorem GI.fail_ne{fm mem lim:Nat}{c:Cf}(h:GI fm mem lim c){e:Nat}(ha:c.σ.act= .fail e):e≠0:=by
 have hn:=St.next h.wf;rw [ha] at hn;have h4:4<=e∧e<=14:=hn;omega
structure jyu(fm mem lim:Nat)(s:ByteArray)(m m':MG):Prop where
 way:Way fm mem lim s m'
 open_:m'.closed=false
 q:m'.q=m.q
 acc:m'.acc=m.acc
 grows:z1f m.c m'.c
 err:m'.err≠0->Ends fm mem lim s m'
theorem MG.out_le{m:MG}(k:y58 m):m.drained<=m.q.out:=Nat.le_trans k.dr k.ck.ou
theorem Goes.open_{fm mem lim:Nat}{s s1:ByteArray}{m m':MG}(h:Way fm mem lim s m)(G:zi6 fm mem lim m.c)(k:y58 m)(hc:m.closed=false)(ha:m.acc=false)(go:Goes m s1 m')(ht:zik m.c.pre s1)(hp:∀ l,zik l s1->zik l s)(hs:s1.size<=s.size):jyu fm mem lim s m m':=by
 have W':=h.goes G go ht hp;have K':=go.kept k;obtain ⟨c',e,a,h1,h2,rfl⟩:=go.run;rw [hc] at h2;have hn:a=none:=by
  cases h2 with
  | hungry _ _=>exact if_neg (by simp)
  | steps _ _ _=>rfl
  | full _ _ _ _=>rfl
  | quota _ _ _ _ _=>rfl
  | fail _ _=>rfl
 refine ⟨W',hc,rfl,by rw [hn];rfl,K'.2.2.2.2,fun he=>⟨none,by rw [hn];exact ha,fun D hD=>?_⟩⟩;have hd:m.drained<=D:=Nat.le_trans (MG.out_le k) hD;exact ⟨W'.path D hd,(h2.err_open he hs hd).1⟩
structure yce(fm mem lim:Nat)(s:ByteArray)(m m':MG):Prop where
 way:Way fm mem lim s m'
 shut:m'.closed=true
 q:m'.q=m.q
 pre:m'.c.pre=m.c.pre
 grows:z1f m.c m'.c
 err:m'.err≠0->Ends fm mem lim s m'∧m'.acc=false
 ok:m'.err=0->m'.drained+64<=m'.c.outs.length∨(Ends fm mem lim s m'∧m'.acc=true)
theorem Goes.shut_{fm mem lim:Nat}{s:ByteArray}{m m':MG}(h:Way fm mem lim s m)(G:zi6 fm mem lim m.c)(k:y58 m)(hc:m.closed=true)(he:m.err=0)(ha:m.acc=true->m.c.σ.act= .take∧¬ m.c.σ.st<23)(hs:s.size<=m.c.pre.length)(go:Goes m s m'):yce fm mem lim s m m':=by
 have W':=h.goes G go h.tk (fun _ t=>t);have K':=go.kept k;have G':=go.good G h.tk;obtain ⟨c',e,a,h1,h2,rfl⟩:=go.run;rw [hc] at h2;have hpre:=h1.same hs;have hacc:m.acc=true->a=some true:=fun hA=>by
  obtain ⟨g1,g2⟩:=ha hA;have e1:=h1.rest_ g1 hs;subst e1;cases h2 with
  | hungry _ _=>rw [if_pos rfl];simp [g2]
  | steps _ h3 _=>omega
  | full _ _ h3 _=>rw [g1] at h3;cases h3
  | quota _ _ h3 _ _=>rw [g1] at h3;cases h3
  | fail _ h3=>rw [g1] at h3;cases h3
 have hg:a.getD m.acc=a.getD false:=by
  cases a with
  | some b=>rfl
  | none=>
   cases hA:m.acc with
   | false=>rfl
   | true=>exact absurd (hacc hA) (by simp)
 have hdk:=MG.out_le k;refine ⟨W',hc,rfl,hpre,K'.2.2.2.2,fun he'=>⟨⟨a,hg,fun D hD=>⟨W'.path D (Nat.le_trans hdk hD),h2.err_shut he' (Nat.le_trans hdk hD)⟩⟩,?_⟩,fun he'=>?_⟩
 ·show a.getD m.acc=false;rw [hg];cases h2 with
  | hungry g1 g2=>
   rw [if_pos rfl];by_cases h23:c'.σ.st<23
   ·simp [h23]
   ·exact absurd (if_neg (fun h=>h23 h.2)) he'
  | steps _ _ _=>rfl
  | full _ _ _ _=>rfl
  | quota _ _ _ _ _=>rfl
  | fail _ _=>rfl
 ·cases h2 with
  | hungry g1 g2=>
   right
   have h23:¬ c'.σ.st<23:=fun h23=>by
    have e1:(if true=true∧c'.σ.st<23 then 15 else 0)=0:=he';rw [if_pos ⟨rfl,h23⟩] at e1;cases e1
   have e2:(if true=true then some (decide ¬ c'.σ.st<23) else none)=some true:=by simp [h23]
   refine ⟨⟨_,hg,fun D hD=>⟨W'.path D (Nat.le_trans hdk hD), .hungry g1 g2⟩⟩,?_⟩;show (if true=true then some (decide ¬ c'.σ.st<23) else none).getD m.acc=true;rw [e2];rfl
  | steps _ _ _=>cases he'
  | full _ _ _ h3=>exact Or.inl h3
  | quota _ _ h1 h2 h3=>exact absurd he' h3
  | fail _ h3=>exact absurd he' (G'.gi.fail_ne h3)
theorem jp3(n:Int)(h₀:0<=n)(h₁:n<2^64):IntKind.u64.wrap n=n:=by
 rw [IntKind.wrap_u64];have:(2:Int)^64=18446744073709551616:=by decide
 omega
theorem jc5{k:Nat}(hk:k<=63):2^k<2^64:=Nat.pow_lt_pow_right (by decide) (by omega)
theorem vxu{a j:Nat}(h:a<2^j):(a:Int)<2^j:=by exact_mod_cast h
theorem vnv(h c b:Nat)(hb:b<256)(hc:c<=56)(hh:h<2^c):bits .or .u64 (h:Int) (IntKind.u64.wrap ((b:Int)*2^c))=((h+2^c*b:Nat):Int):=by
 have h8:2^c*b<2^64:=by
  have h1:2^c*b<2^c*2^8:=Nat.mul_lt_mul_of_pos_left hb (Nat.two_pow_pos c);rw [← Nat.pow_add] at h1;exact Nat.lt_of_lt_of_le h1 (Nat.pow_le_pow_right (by decide) (by omega))
 have e:(b:Int)*2^c=((2^c*b:Nat):Int):=by rw [Nat.mul_comm];simp
 have hh2:h<2^64:=Nat.lt_of_lt_of_le hh (Nat.pow_le_pow_right (by decide) (by omega));rw [e,jp3 _ (by omega) (vxu h8),(bits_nat .u64 64 (by decide) jp3 h _ hh2 h8).2,Nat.or_comm,← Nat.two_pow_add_eq_or_of_lt hh,Nat.add_comm]
theorem kar(h k:Nat)(hk:k<=63)(hh:h<2^64):bits .and .u64 (h:Int) (IntKind.u64.wrap (IntKind.u64.wrap (2^k) - 1))=((h%2^k:Nat):Int):=by
 have e:((2:Int)^k)=((2^k:Nat):Int):=by simp
 have hp:=Nat.two_pow_pos k;have hl:=jc5 hk;have e2:((2^k:Nat):Int) - 1=((2^k - 1:Nat):Int):=by omega
 rw [e,jp3 _ (by omega) (vxu hl),e2,jp3 _ (by omega) (vxu (by omega)),(bits_nat .u64 64 (by decide) jp3 h _ hh (by omega)).1,Nat.and_two_pow_sub_one_eq_mod]
theorem vwe(h:Nat)(hh:h<2^64):bits .and .u64 (h:Int) 1=((h%2:Nat):Int):=by
 have:=bits_mask .u64 64 (by decide) jp3 1 (by decide) (h:Int) (by omega) (vxu hh);have e:((2:Int)^1 - 1)=1:=by decide
 rw [e] at this;rw [this];simp
theorem jnx(n:Nat)(h:n<2^63):wrap64 (n:Int)=(n:Int):=by
 have h2:(2:Nat)^63=9223372036854775808:=by decide
 exact IntWalk.wrap64_in _ ⟨by omega,by omega⟩
theorem z7y(g o h c b:Nat)(w:World)(hb:b<256)(hc:c<=56)(hh:h<2^c)
  (c1:w.cell? ⟨g,o,none⟩=some (.int .u64 h)) (c2:w.cell? ⟨g,o+1,none⟩=some (.int .i64 c)) (f1:w.frozen? ⟨g,o,none⟩=false) (f2:w.frozen? ⟨g,o+1,none⟩=false) :
  Calls Tryz.prog 188 #[.pointer (some ⟨g,o,none⟩), .int .u8 b] w fun x w'=>x= .returned (.tuple #[])∧∃ n,w'=((w.drewN n).setCell ⟨g,o,none⟩ (.int .u64 (h+2^c*b:Nat))).setCell ⟨g,o+1,none⟩ (.int .i64 (c+8:Nat)):=by
 go_enter Tryz.func188,Tryz.ntmps188
 go_wp2_with fail
 go_region
 all_goals
  go_wp2_with fail
  go_end0
  refine ⟨rfl,1,?_⟩;rw [vnv h c b hb hc hh];rfl
theorem zto(g o h c k:Nat)(w:World)(hk:k<=c)(hc:c<=63)(hh:h<2^c)
  (c1:w.cell? ⟨g,o,none⟩=some (.int .u64 h)) (c2:w.cell? ⟨g,o+1,none⟩=some (.int .i64 c)) (f1:w.frozen? ⟨g,o,none⟩=false) (f2:w.frozen? ⟨g,o+1,none⟩=false) :
  Calls Tryz.prog 134 #[.pointer (some ⟨g,o,none⟩), .int .i64 k] w fun x w'=>x= .returned (.int .i64 (h%2^k:Nat))∧∃ n,w'=((w.drewN n).setCell ⟨g,o,none⟩ (.int .u64 (h / 2^k:Nat))).setCell ⟨g,o+1,none⟩ (.int .i64 (c - k:Nat)):=by
 go_enter Tryz.func134,Tryz.ntmps134
 go_wp2_with fail
 go_quiet (fail)
 go_wp2_with fail
 go_ret
 have hh2:h<2^64:=Nat.lt_of_lt_of_le hh (Nat.pow_le_pow_right (by decide) (by omega));have h63:h%2^k<2^63:=Nat.lt_of_lt_of_le (Nat.mod_lt _ (Nat.two_pow_pos k)) (Nat.pow_le_pow_right (by decide) (by omega));refine ⟨?_,nq,?_⟩
 ·show Ending.returned (Value.int .i64 (wrap64 (bits BinOp.and IntKind.u64 (h:Int) (IntKind.u64.wrap (IntKind.u64.wrap (2^k) - 1)))))=_;rw [kar h k (by omega) hh2,jnx _ h63]
 ·have e1:(h:Int) / 2^k=((h / 2^k:Nat):Int):=by simp
  have e2:(c:Int) - k=((c - k:Nat):Int):=by omega
  rw [e1,e2]
theorem yci(g o h c k:Nat)(w:World)(hk:k<c)(hc:c<=63)(hh:h<2^c)
  (c1:w.cell? ⟨g,o,none⟩=some (.int .u64 h)) :
  Calls Tryz.prog 171 #[.pointer (some ⟨g,o,none⟩), .int .i64 k] w fun x w'=>x= .returned (.int .i64 (h / 2^k%2:Nat))∧∃ n,w'=w.drewN n:=by
 go_enter Tryz.func171,Tryz.ntmps171
 go_wp2_with fail
 go_ret
 have hh2:h / 2^k<2^64:=Nat.lt_of_le_of_lt (Nat.div_le_self _ _) (Nat.lt_of_lt_of_le hh (Nat.pow_le_pow_right (by decide) (by omega)));refine ⟨?_,0,rfl⟩;show Ending.returned (Value.int .i64 (wrap64 (bits BinOp.and IntKind.u64 ((h:Int) / 2^k) 1)))=_;have e1:(h:Int) / 2^k=((h / 2^k:Nat):Int):=by simp
 rw [e1,vwe _ hh2,jnx _ (by omega)]
def cfgV(fm ou ra sl me he sp:Nat):Array Value:=#[.int .i64 fm, .int .i64 ou, .int .i64 ra, .int .i64 sl, .int .i64 me, .int .i64 he, .int .i64 sp]
def talV(tk pu mb:Nat):Array Value:=#[.int .i64 tk, .int .i64 pu, .int .i64 mb]
theorem jep(tk pu mb:Nat)(w:World)(h:tk+pu<=9223372036854775807) :
  Calls Tryz.prog 58 #[.agg (talV tk pu mb)] w fun x w'=>x= .returned (.int .i64 (tk+pu:Nat))∧Below w.heap.size w w':=by
 unfold talV;go_enter Tryz.func58,Tryz.ntmps58
 go_wp2_with fail
 go_ret
 refine ⟨?_,(Below.refl _ _).alloc (Nat.le_refl _) _⟩;show Ending.returned (Value.int .i64 _)=_;simp
structure TwoB(w W:World)(g:Nat)(fm ou ra sl me he sp tk pu mb:Nat):Prop where
 t0:W.cell? ⟨g,0,none⟩=some (.int .i64 tk)
 t1:W.cell? ⟨g,1,none⟩=some (.int .i64 pu)
 t2:W.cell? ⟨g,2,none⟩=some (.int .i64 mb)
 c1:W.cell? ⟨g+1,1,none⟩=some (.int .i64 ou)
 c2:W.cell? ⟨g+1,2,none⟩=some (.int .i64 ra)
 c3:W.cell? ⟨g+1,3,none⟩=some (.int .i64 sl)
 c6:W.cell? ⟨g+1,6,none⟩=some (.int .i64 sp)
 bel:Below w.heap.size w W
 g2:g+1<W.heap.size
theorem TwoB.mk2(w:World)(fm ou ra sl me he sp tk pu mb T U:Nat):TwoB w ((w.alloc (.cells (talV tk pu mb) T)).alloc (.cells (cfgV fm ou ra sl me he sp) U)) w.heap.size fm ou ra sl me he sp tk pu mb:=by
 unfold talV cfgV;have a:∀ i,((w.alloc (.cells #[.int .i64 tk, .int .i64 pu, .int .i64 mb] T)).alloc (.cells #[.int .i64 fm, .int .i64 ou, .int .i64 ra, .int .i64 sl, .int .i64 me, .int .i64 he, .int .i64 sp] U)).cell? ⟨w.heap.size,i,none⟩=(w.alloc (.cells #[.int .i64 tk, .int .i64 pu, .int .i64 mb] T)).cell? ⟨w.heap.size,i,none⟩:=fun i=>by
  unfold World.cell?;rw [Go.heap_alloc_old _ _ (by simp)]
 refine ⟨by rw [a];simp,by rw [a];simp,by rw [a];simp,?_,?_,?_,?_,((Below.refl _ _).alloc (Nat.le_refl _) _).alloc (by simp) _,by simp⟩;all_goals
  have:=heap_alloc_new (w.alloc (.cells #[.int .i64 tk, .int .i64 pu, .int .i64 mb] T)) (.cells #[.int .i64 fm, .int .i64 ou, .int .i64 ra, .int .i64 sl, .int .i64 me, .int .i64 he, .int .i64 sp] U);simp only [World.size_alloc] at this;unfold World.cell?;rw [this];rfl
theorem TwoB.step{w W W':World}{g:Nat}{fm ou ra sl me he sp tk pu mb:Nat}(h:TwoB w W g fm ou ra sl me he sp tk pu mb)(b:Below W.heap.size W W'):TwoB w W' g fm ou ra sl me he sp tk pu mb:=by
 have l:g<W.heap.size:=by have:=h.g2;omega
 exact ⟨(b.cell l).trans h.t0,(b.cell l).trans h.t1,(b.cell l).trans h.t2,(b.cell h.g2).trans h.c1,(b.cell h.g2).trans h.c2,(b.cell h.g2).trans h.c3,(b.cell h.g2).trans h.c6,h.bel.trans (b.mono h.bel.size),Nat.lt_of_lt_of_le h.g2 b.size⟩
theorem x44(fm ou ra sl me he sp tk pu mb:Nat)(w:World)(h:tk+pu<=9223372036854775807)(hsp:sp<=9223372036854775807) :
  Calls Tryz.prog 187 #[.agg (talV tk pu mb), .agg (cfgV fm ou ra sl me he sp)] w fun x w'=>x= .returned (.int .i64 (if sp<=tk+pu then 16 else 0:Nat))∧Below w.heap.size w w':=by
 have HS:Hid (∀ w,Calls Tryz.prog 58 #[.agg (talV tk pu mb)] w fun x w'=>x= .returned (.int .i64 (tk+pu:Nat))∧Below w.heap.size w w'):=fun w=>jep tk pu mb w h
 have T0:TwoB w ((w.alloc (.cells (talV tk pu mb) 110)).alloc (.cells (cfgV fm ou ra sl me he sp) 42)) w.heap.size fm ou ra sl me he sp tk pu mb:=TwoB.mk2 w fm ou ra sl me he sp tk pu mb _ _;unfold talV cfgV at *;obtain ⟨n,hn⟩:∃ n,n=tk+pu:=⟨_,rfl⟩
 rw [← hn] at HS h ⊢;clear hn;by_cases hc:sp<=n
 ·rw [if_pos hc];have hci:(sp:Int)<=n:=by omega
  go_enter Tryz.func187,Tryz.ntmps187
  go_wp2_with fail
  have HT:Hid (TwoB w ((w.alloc (.cells #[.int .i64 tk, .int .i64 pu, .int .i64 mb] 110)).alloc (.cells #[.int .i64 fm, .int .i64 ou, .int .i64 ra, .int .i64 sl, .int .i64 me, .int .i64 he, .int .i64 sp] 42)) w.heap.size fm ou ra sl me he sp tk pu mb):=T0;clear T0;generalize ((w.alloc (.cells #[.int .i64 tk, .int .i64 pu, .int .i64 mb] 110)).alloc (.cells #[.int .i64 fm, .int .i64 ou, .int .i64 ra, .int .i64 sl, .int .i64 me, .int .i64 he, .int .i64 sp] 42))=W at *;have t0:=HT.out.t0;have t1:=HT.out.t1;have t2:=HT.out.t2;have c6:=HT.out.c6;have HB:Hid (TwoB w W w.heap.size fm ou ra sl me he sp tk pu mb):=HT.out;have hg2:=HT.out.g2;go_region_held3 (fun wv=>wv.cell? ⟨w.heap.size,0,none⟩=some (.int .i64 tk)∧wv.cell? ⟨w.heap.size,1,none⟩=some (.int .i64 pu)∧wv.cell? ⟨w.heap.size,2,none⟩=some (.int .i64 mb)∧wv.cell? ⟨w.heap.size+1,6,none⟩=some (.int .i64 sp)) (first | exact ⟨t0,t1,t2,c6⟩ | exact ⟨k0,k1,k2,k6⟩)
   (first | (go_at_call 58;refine (HS.out _).mono ?_;rintro e w3 ⟨rfl,hb3⟩;have HT3:Hid (TwoB w w3 w.heap.size fm ou ra sl me he sp tk pu mb):=TwoB.step HB.out (W':=w3) ⟨hb3.os,hb3.tape,hb3.output,hb3.size,hb3.block⟩;have k0:=HT3.out.t0;have k1:=HT3.out.t1;have k2:=HT3.out.t2;have k6:=HT3.out.c6;clear hb3))
  all_goals
   go_wp2_with fail
   go_ret
   exact ⟨rfl,HT3.out.bel⟩
 ·rw [if_neg hc];have hci:¬ (sp:Int)<=n:=by omega
  go_enter Tryz.func187,Tryz.ntmps187
  go_wp2_with fail
  have HT:Hid (TwoB w ((w.alloc (.cells #[.int .i64 tk, .int .i64 pu, .int .i64 mb] 110)).alloc (.cells #[.int .i64 fm, .int .i64 ou, .int .i64 ra, .int .i64 sl, .int .i64 me, .int .i64 he, .int .i64 sp] 42)) w.heap.size fm ou ra sl me he sp tk pu mb):=T0;clear T0;generalize ((w.alloc (.cells #[.int .i64 tk, .int .i64 pu, .int .i64 mb] 110)).alloc (.cells #[.int .i64 fm, .int .i64 ou, .int .i64 ra, .int .i64 sl, .int .i64 me, .int .i64 he, .int .i64 sp] 42))=W at *;have t0:=HT.out.t0;have t1:=HT.out.t1;have t2:=HT.out.t2;have c6:=HT.out.c6;have HB:Hid (TwoB w W w.heap.size fm ou ra sl me he sp tk pu mb):=HT.out;have hg2:=HT.out.g2;go_region_held3 (fun wv=>wv.cell? ⟨w.heap.size,0,none⟩=some (.int .i64 tk)∧wv.cell? ⟨w.heap.size,1,none⟩=some (.int .i64 pu)∧wv.cell? ⟨w.heap.size,2,none⟩=some (.int .i64 mb)∧wv.cell? ⟨w.heap.size+1,6,none⟩=some (.int .i64 sp)) (first | exact ⟨t0,t1,t2,c6⟩ | exact ⟨k0,k1,k2,k6⟩)
   (first | (go_at_call 58;refine (HS.out _).mono ?_;rintro e w3 ⟨rfl,hb3⟩;have HT3:Hid (TwoB w w3 w.heap.size fm ou ra sl me he sp tk pu mb):=TwoB.step HB.out (W':=w3) ⟨hb3.os,hb3.tape,hb3.output,hb3.size,hb3.block⟩;have k0:=HT3.out.t0;have k1:=HT3.out.t1;have k2:=HT3.out.t2;have k6:=HT3.out.c6;clear hb3))
  all_goals
   go_wp2_with fail
   go_ret
   exact ⟨rfl,HT3.out.bel⟩
theorem xxj(fm ou ra sl me he sp tk pu mb:Nat)(w:World)(h:tk+pu<=9223372036854775807)(hsp:sp<=9223372036854775807)(hra:ra*tk+sl<=9223372036854775807)(hou:ou<=9223372036854775807) :
  Calls Tryz.prog 166 #[.agg (talV tk pu mb), .agg (cfgV fm ou ra sl me he sp)] w fun x w'=>x= .returned (.int .i64 (if sp<=tk+pu then 16 else if ou<=pu then 17 else if ra*tk+sl<=pu then 18 else 0:Nat))∧Below w.heap.size w w':=by
 have HS:Hid (∀ w,Calls Tryz.prog 58 #[.agg (talV tk pu mb)] w fun x w'=>x= .returned (.int .i64 (tk+pu:Nat))∧Below w.heap.size w w'):=fun w=>jep tk pu mb w h
 have T0:TwoB w ((w.alloc (.cells (talV tk pu mb) 110)).alloc (.cells (cfgV fm ou ra sl me he sp) 42)) w.heap.size fm ou ra sl me he sp tk pu mb:=TwoB.mk2 w fm ou ra sl me he sp tk pu mb _ _;unfold talV cfgV at *;obtain ⟨n,hn⟩:∃ n,n=tk+pu:=⟨_,rfl⟩
 rw [← hn] at HS h ⊢;have hpn:pu<=n∧tk<=n:=by omega
 clear hn;obtain ⟨R,hR⟩:∃ R,R=ra*tk:=⟨_,rfl⟩
 rw [← hR] at hra ⊢;have hRi:(ra:Int)*tk=(R:Int):=by rw [hR];simp
 clear hR;by_cases hc:sp<=n
 ·rw [if_pos hc];have hci:(sp:Int)<=n:=by omega
  go_enter Tryz.func166,Tryz.ntmps166
  go_wp2_with fail
  have HT:Hid (TwoB w ((w.alloc (.cells #[.int .i64 tk, .int .i64 pu, .int .i64 mb] 110)).alloc (.cells #[.int .i64 fm, .int .i64 ou, .int .i64 ra, .int .i64 sl, .int .i64 me, .int .i64 he, .int .i64 sp] 42)) w.heap.size fm ou ra sl me he sp tk pu mb):=T0;clear T0;generalize ((w.alloc (.cells #[.int .i64 tk, .int .i64 pu, .int .i64 mb] 110)).alloc (.cells #[.int .i64 fm, .int .i64 ou, .int .i64 ra, .int .i64 sl, .int .i64 me, .int .i64 he, .int .i64 sp] 42))=W at *;have t0:=HT.out.t0;have t1:=HT.out.t1;have t2:=HT.out.t2;have c6:=HT.out.c6;have HB:Hid (TwoB w W w.heap.size fm ou ra sl me he sp tk pu mb):=HT.out;have hg2:=HT.out.g2;go_region_held3 (fun wv=>wv.cell? ⟨w.heap.size,0,none⟩=some (.int .i64 tk)∧wv.cell? ⟨w.heap.size,1,none⟩=some (.int .i64 pu)∧wv.cell? ⟨w.heap.size,2,none⟩=some (.int .i64 mb)∧wv.cell? ⟨w.heap.size+1,6,none⟩=some (.int .i64 sp)) (first | exact ⟨t0,t1,t2,c6⟩ | exact ⟨k0,k1,k2,k6⟩)
   (first | (go_at_call 58;refine (HS.out _).mono ?_;rintro e w3 ⟨rfl,hb3⟩;have HT3:Hid (TwoB w w3 w.heap.size fm ou ra sl me he sp tk pu mb):=TwoB.step HB.out (W':=w3) ⟨hb3.os,hb3.tape,hb3.output,hb3.size,hb3.block⟩;have k0:=HT3.out.t0;have k1:=HT3.out.t1;have k2:=HT3.out.t2;have k6:=HT3.out.c6;clear hb3))
  all_goals
   have k3:=HT3.out.c1;have k4:=HT3.out.c2;have k5:=HT3.out.c3;go_wp2_with fail
   go_ret
   exact ⟨rfl,HT3.out.bel⟩
 ·rw [if_neg hc];have hci:¬ (sp:Int)<=n:=by omega
  by_cases hd:ou<=pu
  ·rw [if_pos hd];have hdi:(ou:Int)<=pu:=by omega
   go_enter Tryz.func166,Tryz.ntmps166
   go_wp2_with fail
   have HT:Hid (TwoB w ((w.alloc (.cells #[.int .i64 tk, .int .i64 pu, .int .i64 mb] 110)).alloc (.cells #[.int .i64 fm, .int .i64 ou, .int .i64 ra, .int .i64 sl, .int .i64 me, .int .i64 he, .int .i64 sp] 42)) w.heap.size fm ou ra sl me he sp tk pu mb):=T0;clear T0;generalize ((w.alloc (.cells #[.int .i64 tk, .int .i64 pu, .int .i64 mb] 110)).alloc (.cells #[.int .i64 fm, .int .i64 ou, .int .i64 ra, .int .i64 sl, .int .i64 me, .int .i64 he, .int .i64 sp] 42))=W at *;have t0:=HT.out.t0;have t1:=HT.out.t1;have t2:=HT.out.t2;have c6:=HT.out.c6;have HB:Hid (TwoB w W w.heap.size fm ou ra sl me he sp tk pu mb):=HT.out;have hg2:=HT.out.g2;go_region_held3 (fun wv=>wv.cell? ⟨w.heap.size,0,none⟩=some (.int .i64 tk)∧wv.cell? ⟨w.heap.size,1,none⟩=some (.int .i64 pu)∧wv.cell? ⟨w.heap.size,2,none⟩=some (.int .i64 mb)∧wv.cell? ⟨w.heap.size+1,6,none⟩=some (.int .i64 sp)) (first | exact ⟨t0,t1,t2,c6⟩ | exact ⟨k0,k1,k2,k6⟩)
    (first | (go_at_call 58;refine (HS.out _).mono ?_;rintro e w3 ⟨rfl,hb3⟩;have HT3:Hid (TwoB w w3 w.heap.size fm ou ra sl me he sp tk pu mb):=TwoB.step HB.out (W':=w3) ⟨hb3.os,hb3.tape,hb3.output,hb3.size,hb3.block⟩;have k0:=HT3.out.t0;have k1:=HT3.out.t1;have k2:=HT3.out.t2;have k6:=HT3.out.c6;clear hb3))
   all_goals
    have k3:=HT3.out.c1;have k4:=HT3.out.c2;have k5:=HT3.out.c3;go_wp2_with fail
    go_ret
    exact ⟨rfl,HT3.out.bel⟩
  ·rw [if_neg hd];have hdi:¬ (ou:Int)<=pu:=by omega
   by_cases hf:R+sl<=pu
   ·rw [if_pos hf];have hei:(R:Int)+sl<=pu:=by omega
    go_enter Tryz.func166,Tryz.ntmps166
    go_wp2_with fail
    have HT:Hid (TwoB w ((w.alloc (.cells #[.int .i64 tk, .int .i64 pu, .int .i64 mb] 110)).alloc (.cells #[.int .i64 fm, .int .i64 ou, .int .i64 ra, .int .i64 sl, .int .i64 me, .int .i64 he, .int .i64 sp] 42)) w.heap.size fm ou ra sl me he sp tk pu mb):=T0;clear T0;generalize ((w.alloc (.cells #[.int .i64 tk, .int .i64 pu, .int .i64 mb] 110)).alloc (.cells #[.int .i64 fm, .int .i64 ou, .int .i64 ra, .int .i64 sl, .int .i64 me, .int .i64 he, .int .i64 sp] 42))=W at *;have t0:=HT.out.t0;have t1:=HT.out.t1;have t2:=HT.out.t2;have c6:=HT.out.c6;have HB:Hid (TwoB w W w.heap.size fm ou ra sl me he sp tk pu mb):=HT.out;have hg2:=HT.out.g2;go_region_held3 (fun wv=>wv.cell? ⟨w.heap.size,0,none⟩=some (.int .i64 tk)∧wv.cell? ⟨w.heap.size,1,none⟩=some (.int .i64 pu)∧wv.cell? ⟨w.heap.size,2,none⟩=some (.int .i64 mb)∧wv.cell? ⟨w.heap.size+1,6,none⟩=some (.int .i64 sp)) (first | exact ⟨t0,t1,t2,c6⟩ | exact ⟨k0,k1,k2,k6⟩)
     (first | (go_at_call 58;refine (HS.out _).mono ?_;rintro e w3 ⟨rfl,hb3⟩;have HT3:Hid (TwoB w w3 w.heap.size fm ou ra sl me he sp tk pu mb):=TwoB.step HB.out (W':=w3) ⟨hb3.os,hb3.tape,hb3.output,hb3.size,hb3.block⟩;have k0:=HT3.out.t0;have k1:=HT3.out.t1;have k2:=HT3.out.t2;have k6:=HT3.out.c6;clear hb3))
    all_goals
     have k3:=HT3.out.c1;have k4:=HT3.out.c2;have k5:=HT3.out.c3;go_wp2_with fail
     go_ret
     exact ⟨rfl,HT3.out.bel⟩
   ·rw [if_neg hf];have hei:¬ (R:Int)+sl<=pu:=by omega
    go_enter Tryz.func166,Tryz.ntmps166
    go_wp2_with fail
    have HT:Hid (TwoB w ((w.alloc (.cells #[.int .i64 tk, .int .i64 pu, .int .i64 mb] 110)).alloc (.cells #[.int .i64 fm, .int .i64 ou, .int .i64 ra, .int .i64 sl, .int .i64 me, .int .i64 he, .int .i64 sp] 42)) w.heap.size fm ou ra sl me he sp tk pu mb):=T0;clear T0;generalize ((w.alloc (.cells #[.int .i64 tk, .int .i64 pu, .int .i64 mb] 110)).alloc (.cells #[.int .i64 fm, .int .i64 ou, .int .i64 ra, .int .i64 sl, .int .i64 me, .int .i64 he, .int .i64 sp] 42))=W at *;have t0:=HT.out.t0;have t1:=HT.out.t1;have t2:=HT.out.t2;have c6:=HT.out.c6;have HB:Hid (TwoB w W w.heap.size fm ou ra sl me he sp tk pu mb):=HT.out;have hg2:=HT.out.g2;go_region_held3 (fun wv=>wv.cell? ⟨w.heap.size,0,none⟩=some (.int .i64 tk)∧wv.cell? ⟨w.heap.size,1,none⟩=some (.int .i64 pu)∧wv.cell? ⟨w.heap.size,2,none⟩=some (.int .i64 mb)∧wv.cell? ⟨w.heap.size+1,6,none⟩=some (.int .i64 sp)) (first | exact ⟨t0,t1,t2,c6⟩ | exact ⟨k0,k1,k2,k6⟩)
     (first | (go_at_call 58;refine (HS.out _).mono ?_;rintro e w3 ⟨rfl,hb3⟩;have HT3:Hid (TwoB w w3 w.heap.size fm ou ra sl me he sp tk pu mb):=TwoB.step HB.out (W':=w3) ⟨hb3.os,hb3.tape,hb3.output,hb3.size,hb3.block⟩;have k0:=HT3.out.t0;have k1:=HT3.out.t1;have k2:=HT3.out.t2;have k6:=HT3.out.c6;clear hb3))
    all_goals
     have k3:=HT3.out.c1;have k4:=HT3.out.c2;have k5:=HT3.out.c3;go_wp2_with fail
     go_ret
     exact ⟨rfl,HT3.out.bel⟩
def vtb(b k:Nat):Array Value:=#[.int .i64 (Tr.spanLeast b k), .int .i64 (Tr.spanBits k)]
theorem xtd(cs:Array Value)(h:cs.size=2):(Tryz.prog.info? 125).map (·.size)=some cs.size:=by rw [h];kernel_rfl
theorem kqk{b k:Nat}(hb:b<=3)(h4:¬ k<4)(hk:k<=15):wrap64 ((b:Int)+wrap64 ((2+(k:Int)%2)*2^((k - 2) / 2)))=(Tr.spanLeast b k:Int)∧((k:Int) - 2) / 2=(Tr.spanBits k:Int):=by
 have:k=4∨k=5∨k=6∨k=7∨k=8∨k=9∨k=10∨k=11∨k=12∨k=13∨k=14∨k=15:=by omega
 rcases this with rfl | rfl | rfl | rfl | rfl | rfl | rfl | rfl | rfl | rfl | rfl | rfl <;> (simp [Tr.spanLeast,Tr.spanBits,wrap64];try omega)
theorem jbk(b k:Nat)(w:World)(hb:b<=3)(hk:k<=15) :
  Calls Tryz.prog 210 #[.int .i64 k, .int .i64 b] w fun x w'=>x= .returned (.agg (vtb b k))∧Below w.heap.size w w':=by
 by_cases h4:k<4
 ·have e:vtb b k=#[.int .i64 ((b:Int)+k), .int .i64 0]:=by unfold vtb;rw [show Tr.spanLeast b k=b+k from if_pos h4,show Tr.spanBits k=0 from if_pos h4];simp
  rw [e];clear e;go_enter Tryz.func210,Tryz.ntmps210
  go_wp2_with fail
  refine bodyPost_ret (v:= .agg #[.int .i64 ((b:Int)+k), .int .i64 0]) ?_ rfl ?_
  ·exact results_cell_row Tryz.results210 _ _ _ 125 _ _ _ rfl (heap_alloc_new _ _) Tryz.underlying125 rfl (xtd _ rfl)
  ·exact ⟨rfl,(Below.refl _ _).alloc (Nat.le_refl _) _⟩
 ·have HN:Hid (True->vtb b k=#[.int .i64 (wrap64 ((b:Int)+wrap64 ((2+(k:Int)%2)*2^((k - 2) / 2)))), .int .i64 (((k:Int) - 2) / 2)]):=fun _=>by
   have h:=kqk hb h4 hk;unfold vtb;rw [h.1,h.2]
  go_enter Tryz.func210,Tryz.ntmps210
  go_wp2_with fail
  refine bodyPost_ret (v:= .agg #[.int .i64 (wrap64 ((b:Int)+wrap64 ((2+(k:Int)%2)*2^((k - 2) / 2)))), .int .i64 (((k:Int) - 2) / 2)]) ?_ rfl ?_
  ·exact results_cell_row Tryz.results210 _ _ _ 125 _ _ _ rfl (heap_alloc_new _ _) Tryz.underlying125 rfl (xtd _ rfl)
  ·exact ⟨by rw [HN.out trivial],(Below.refl _ _).alloc (Nat.le_refl _) _⟩
theorem x00(k:Nat)(w:World)(hk:k<=15) :
  Calls Tryz.prog 194 #[.int .i64 k] w fun x w'=>x= .returned (.agg (vtb 1 k))∧Below w.heap.size w w':=by
 have B0:Below w.heap.size w (w.alloc (.cells #[.int .i64 0, .int .i64 0] 125)):=(Below.refl _ _).alloc (Nat.le_refl _) _;have HB0:Hid (Below w.heap.size w (w.alloc (.cells #[.int .i64 0, .int .i64 0] 125))):=B0;clear B0;go_enter Tryz.func194,Tryz.ntmps194
 go_wp2_with fail
 refine (jbk 1 k _ (by omega) hk).mono ?_;rintro e w1 ⟨rfl,hb1⟩;have h1:w1.heap[w.heap.size]?=some (.cells #[.int .i64 0, .int .i64 0] 125 (0,0)):=(hb1.block _ (by simp)).trans (heap_alloc_new _ _);have HB1:Hid (Below w.heap.size w w1):=y6y HB0.out hb1;obtain ⟨cs,hcs⟩:∃ cs,cs=vtb 1 k:=⟨_,rfl⟩
 have hsz:cs.size=2:=by rw [hcs];rfl
 have hone:cs.all (·.oneCell')=true:=by rw [hcs];simp [vtb,Value.oneCell']
 rw [← hcs];have HCS:Hid (True->cs=vtb 1 k):=fun _=>hcs
 clear hcs hb1;go_wp2_with (refine wpList_store_row rfl 125 _ _ rfl w.heap.size cs rfl rfl 125 _ h1 (xtd _ hsz) hsz.symm hone ?_)
 refine bodyPost_ret (v:= .agg cs) ?_ rfl ?_
 ·exact results_cell_row Tryz.results194 _ _ _ 125 _ _ _ rfl (setRow_heap _ _ _ _ 125 _ h1) Tryz.underlying125 rfl (xtd _ hsz)
 ·exact ⟨by rw [HCS.out trivial],below_setRow HB1.out (Nat.le_refl _) _⟩
def litC(k:Nat):Array Value:=
 if k<256 then #[.int .i64 0, .int .u8 k, .int .i64 0, .int .i64 0]
 else if k=256 then #[.int .i64 1, .int .u8 0, .int .i64 0, .int .i64 0]
 else #[.int .i64 2, .int .u8 0, .int .i64 (Tr.spanLeast 3 (k - 257)), .int .i64 (Tr.spanBits (k - 257))]
def v3q(k:Nat):Array Value:=
 if k=12 then #[.int .i64 0, .bool true, .int .i64 3, .int .i64 2]
 else if k=13 then #[.int .i64 0, .bool false, .int .i64 3, .int .i64 3]
 else if k=14 then #[.int .i64 0, .bool false, .int .i64 11, .int .i64 6]
 else #[.int .i64 k, .bool false, .int .i64 1, .int .i64 0]
theorem z2s(cs:Array Value)(h:cs.size=4):(Tryz.prog.info? 218).map (·.size)=some cs.size:=by rw [h];kernel_rfl
theorem yfc(cs:Array Value)(h:cs.size=4):(Tryz.prog.info? 127).map (·.size)=some cs.size:=by rw [h];kernel_rfl
theorem k82(k:Nat)(w:World)(hk:k<=268) :
  Calls Tryz.prog 192 #[.int .i64 k] w fun x w'=>x= .returned (.agg (litC k))∧Below w.heap.size w w':=by
 by_cases h1:k<256
 ·have HC:Hid (True->litC k=#[.int .i64 0, .int .u8 k, .int .i64 0, .int .i64 0]):=fun _=>by unfold litC;rw [if_pos h1]
  have hmod:(k:Int)%256=(k:Int):=by omega
  go_enter Tryz.func192,Tryz.ntmps192
  go_wp2_with fail
  refine bodyPost_ret (v:= .agg #[.int .i64 0, .int .u8 k, .int .i64 0, .int .i64 0]) ?_ rfl ?_
  ·exact results_cell_row Tryz.results192 _ _ _ 218 _ _ _ rfl (heap_alloc_new _ _) Tryz.underlying218 rfl (z2s _ rfl)
  ·exact ⟨by rw [HC.out trivial],(Below.refl _ _).alloc (Nat.le_refl _) _⟩
 ·by_cases h2:k=256
  ·have HC:Hid (True->litC k=#[.int .i64 1, .int .u8 0, .int .i64 0, .int .i64 0]):=fun _=>by unfold litC;rw [if_neg h1,if_pos h2]
   have hd:((k:Int)==256)=true:=by simp;omega
   clear h2;go_enter Tryz.func192,Tryz.ntmps192
   go_wp2_with fail
   refine bodyPost_ret (v:= .agg #[.int .i64 1, .int .u8 0, .int .i64 0, .int .i64 0]) ?_ rfl ?_
   ·exact results_cell_row Tryz.results192 _ _ _ 218 _ _ _ rfl (heap_alloc_new _ _) Tryz.underlying218 rfl (z2s _ rfl)
   ·exact ⟨by rw [HC.out trivial],(Below.refl _ _).alloc (Nat.le_refl _) _⟩
  ·have HC:Hid (True->litC k=#[.int .i64 2, .int .u8 0, .int .i64 (Tr.spanLeast 3 (k - 257)), .int .i64 (Tr.spanBits (k - 257))]):=fun _=>by unfold litC;rw [if_neg h1,if_neg h2]
   have hd:((k:Int)==256)=false:=by simp;omega
   obtain ⟨j,hj⟩:∃ j,j=k - 257:=⟨_,rfl⟩
   have hji:(k:Int) - 257=(j:Int):=by omega
   have hj11:j<=15:=by omega
   rw [← hj] at HC;clear hj;have HB0:Hid (Below w.heap.size w (w.alloc (.cells #[.int .i64 0, .int .u8 0, .int .i64 0, .int .i64 0] 218))):=(Below.refl _ _).alloc (Nat.le_refl _) _;go_enter Tryz.func192,Tryz.ntmps192
   go_wp2_with fail
   refine (jbk 3 j _ (by omega) hj11).mono ?_;rintro e w1 ⟨rfl,hb1⟩;have h1':w1.heap[w.heap.size]?=some (.cells #[.int .i64 0, .int .u8 0, .int .i64 0, .int .i64 0] 218 (0,0)):=(hb1.block _ (by simp)).trans (heap_alloc_new _ _);have HB1:Hid (Below w.heap.size w w1):=y6y HB0.out hb1;clear hb1;unfold vtb;have hone:(#[.int .i64 2, .int .u8 0, .int .i64 (Tr.spanLeast 3 j), .int .i64 (Tr.spanBits j)]:Array Value).all (·.oneCell')=true:=by simp [Value.oneCell']
   go_wp2_with (refine wpList_store_row rfl 218 _ _ rfl w.heap.size #[.int .i64 2, .int .u8 0, .int .i64 (Tr.spanLeast 3 j), .int .i64 (Tr.spanBits j)] rfl rfl 218 _ h1' (z2s _ rfl) rfl hone ?_)
   refine bodyPost_ret (v:= .agg #[.int .i64 2, .int .u8 0, .int .i64 (Tr.spanLeast 3 j), .int .i64 (Tr.spanBits j)]) ?_ rfl ?_
   ·exact results_cell_row Tryz.results192 _ _ _ 218 _ _ _ rfl (setRow_heap _ _ _ _ 218 _ h1') Tryz.underlying218 rfl (z2s _ rfl)
   ·exact ⟨by rw [HC.out trivial],below_setRow HB1.out (Nat.le_refl _) _⟩
theorem yhm(k:Nat)(w:World) :
  Calls Tryz.prog 169 #[.int .i64 k] w fun x w'=>x= .returned (.agg (v3q k))∧Below w.heap.size w w':=by
 by_cases h1:k=12
 ·have HC:Hid (True->v3q k=#[.int .i64 0, .bool true, .int .i64 3, .int .i64 2]):=fun _=>by unfold v3q;rw [if_pos h1]
  have hd:((k:Int)==12)=true:=by simp;omega
  clear h1;go_enter Tryz.func169,Tryz.ntmps169
  go_wp2_with fail
  refine bodyPost_ret (v:= .agg #[.int .i64 0, .bool true, .int .i64 3, .int .i64 2]) ?_ rfl ?_
  ·exact results_cell_row Tryz.results169 _ _ _ 127 _ _ _ rfl (heap_alloc_new _ _) Tryz.underlying127 rfl (yfc _ rfl)
  ·exact ⟨by rw [HC.out trivial],(Below.refl _ _).alloc (Nat.le_refl _) _⟩
 ·have d1:((k:Int)==12)=false:=by simp;omega
  by_cases h2:k=13
  ·have HC:Hid (True->v3q k=#[.int .i64 0, .bool false, .int .i64 3, .int .i64 3]):=fun _=>by unfold v3q;rw [if_neg h1,if_pos h2]
   have hd:((k:Int)==13)=true:=by simp;omega
   clear h1 h2;go_enter Tryz.func169,Tryz.ntmps169
   go_wp2_with fail
   refine bodyPost_ret (v:= .agg #[.int .i64 0, .bool false, .int .i64 3, .int .i64 3]) ?_ rfl ?_
   ·exact results_cell_row Tryz.results169 _ _ _ 127 _ _ _ rfl (heap_alloc_new _ _) Tryz.underlying127 rfl (yfc _ rfl)
   ·exact ⟨by rw [HC.out trivial],(Below.refl _ _).alloc (Nat.le_refl _) _⟩
  ·have d2:((k:Int)==13)=false:=by simp;omega
   by_cases h3:k=14
   ·have HC:Hid (True->v3q k=#[.int .i64 0, .bool false, .int .i64 11, .int .i64 6]):=fun _=>by unfold v3q;rw [if_neg h1,if_neg h2,if_pos h3]
    have hd:((k:Int)==14)=true:=by simp;omega
    clear h1 h2 h3;go_enter Tryz.func169,Tryz.ntmps169
    go_wp2_with fail
    refine bodyPost_ret (v:= .agg #[.int .i64 0, .bool false, .int .i64 11, .int .i64 6]) ?_ rfl ?_
    ·exact results_cell_row Tryz.results169 _ _ _ 127 _ _ _ rfl (heap_alloc_new _ _) Tryz.underlying127 rfl (yfc _ rfl)
    ·exact ⟨by rw [HC.out trivial],(Below.refl _ _).alloc (Nat.le_refl _) _⟩
   ·have HC:Hid (True->v3q k=#[.int .i64 k, .bool false, .int .i64 1, .int .i64 0]):=fun _=>by unfold v3q;rw [if_neg h1,if_neg h2,if_neg h3]
    have d3:((k:Int)==14)=false:=by simp;omega
    go_enter Tryz.func169,Tryz.ntmps169
    go_wp2_with fail
    refine bodyPost_ret (v:= .agg #[.int .i64 k, .bool false, .int .i64 1, .int .i64 0]) ?_ rfl ?_
    ·exact results_cell_row Tryz.results169 _ _ _ 127 _ _ _ rfl (heap_alloc_new _ _) Tryz.underlying127 rfl (yfc _ rfl)
    ·exact ⟨by rw [HC.out trivial],(Below.refl _ _).alloc (Nat.le_refl _) _⟩
def bfld(cnt fst bg:Nat->Int)(lg m n:Nat)(i:Nat):Value:=
 if i<12 then .int .i64 (cnt i) else if i<24 then .int .i64 (fst (i - 12)) else if i<36 then .int .i64 (bg (i - 24)) else if i=36 then .int .i64 lg else .slice (some ⟨m,0,none⟩) n n
theorem xw2(cnt fst bg:Nat->Int)(lg m n i:Nat)(h:i<12):bfld cnt fst bg lg m n i= .int .i64 (cnt i):=if_pos h
theorem ytq(cnt fst bg:Nat->Int)(lg m n i:Nat)(h:i<12):bfld cnt fst bg lg m n (12+i)= .int .i64 (fst i):=by
 unfold bfld;rw [if_neg (by omega),if_pos (by omega),show 12+i - 12=i by omega]
theorem xkl(cnt fst bg:Nat->Int)(lg m n i:Nat)(h:i<12):bfld cnt fst bg lg m n (24+i)= .int .i64 (bg i):=by
 unfold bfld;rw [if_neg (by omega),if_neg (by omega),if_pos (by omega),show 24+i - 24=i by omega]
theorem v7f{P:Program}{fn:Func}{p u:Tmp}{ty:TypeId}(h:fn.results=#[.cell p ty, .tmp u])(tmps:Array Value)(w:World)(g:Nat)(t:TypeId)(cs:Array Value)(fr:Nat×Nat)(d:TypeDesc)
  (hp:tmps.getD p undef= .pointer (some ⟨g,0,none⟩)) (hg:w.heap[g]?=some (.cells cs t fr))
  (hu:P.underlying ty=some d) (hd:(match d with | .struct _ | .array _ _=>true | _=>false)=true) (hi:(P.info? ty).map (·.size)=some cs.size) :
  (results fn tmps).run P w= .ok (.tuple #[.agg cs,tmps.getD u undef]) w:=by
 rw [results_cell_tmp h,hp];simp [asAddr,run_loadVar_row w g t ty cs fr d hg hu hd hi]
structure TabI(w:World)(ty:TypeId)(k:Nat)(p m n:Nat)(cnt fst bg:Nat->Int)(lg:Nat)(mg:Nat->List Value):Prop where
 row:w.rowIs p ty 38 (bfld cnt fst bg lg m n)
 at_:∀ j,j<n->(mg j).length=k∧w.rangeAt m (j*k) (mg j)
 pm:p<w.heap.size∧m<w.heap.size
theorem ysa{w:World}{p m n:Nat}{cnt fst bg:Nat->Int}{lg:Nat}{mg:Nat->List Value}(h:TabI w 271 2 p m n cnt fst bg lg mg) :
  Calls Tryz.prog 176 #[.pointer (some ⟨p,0,none⟩)] w fun x w'=>x= .returned (.int .i64 lg)∧w=w':=by
 have c2:w.cell? ⟨p,36,none⟩=some (.int .i64 lg):=h.row.cell (i:=36) (by omega);clear h;go_enter Tryz.func176,Tryz.ntmps176
 go_wp2_with fail
 go_ret
 exact ⟨rfl,rfl⟩
theorem x82{w:World}{p m n:Nat}{cnt fst bg:Nat->Int}{lg:Nat}{mg:Nat->List Value}(c L:Nat)(h:TabI w 271 2 p m n cnt fst bg lg mg)
  (hc:c<=1000000) (hL:L<12) (hf:0<=fst L∧fst L<=1000000) (hm:¬ (fst L<=c∧(c:Int) - fst L<cnt L)) :
  Calls Tryz.prog 177 #[.pointer (some ⟨p,0,none⟩), .int .i64 c, .int .i64 L] w fun x w'=>x= .returned (.tuple #[.agg #[.int .i64 0, .int .i64 0], .bool false])∧Below w.heap.size w w':=by
 have c1:w.cell? ⟨p,L,none⟩=some (.int .i64 (cnt L)):=by rw [h.row.cell (i:=L) (by omega),xw2 _ _ _ _ _ _ _ hL]
 have c2:w.cell? ⟨p,12+L,none⟩=some (.int .i64 (fst L)):=by rw [h.row.cell (i:=12+L) (by omega),ytq _ _ _ _ _ _ _ hL]
 have hp:=h.pm.1;clear h;obtain ⟨F,hF⟩:∃ F,F=fst L:=⟨_,rfl⟩
 obtain ⟨N,hN⟩:∃ N,N=cnt L:=⟨_,rfl⟩
 rw [← hF] at c2 hf hm;rw [← hN] at c1 hm;clear hF hN;have hL':(L:Int)<12:=by omega
 have HB:Hid (Below w.heap.size w ((w.alloc (.cells #[.int .i64 0, .int .i64 0] 125)).alloc (.cells #[.int .i64 0, .int .i64 0] 125))):=((Below.refl _ _).alloc (Nat.le_refl _) _).alloc (by simp) _;have HH:Hid (((w.alloc (.cells #[.int .i64 0, .int .i64 0] 125)).alloc (.cells #[.int .i64 0, .int .i64 0] 125)).heap[w.heap.size]?=some (.cells #[.int .i64 0, .int .i64 0] 125)):=(Go.heap_alloc_old _ _ (by simp)).trans (heap_alloc_new _ _);by_cases hlt:(c:Int) - F<0
 ·go_enter Tryz.func177,Tryz.ntmps177
  go_wp2_with fail
  refine bodyPost_ret (v7f Tryz.results177 _ _ _ _ _ _ _ rfl HH.out Tryz.underlying125 rfl (xtd _ rfl)) rfl ?_;exact ⟨rfl,HB.out⟩
 ·have hd:decide ((c:Int) - F<0)=false:=by simp;omega
  have hge:N<=(c:Int) - F:=by omega
  go_enter Tryz.func177,Tryz.ntmps177
  go_wp2_with fail
  refine bodyPost_ret (v7f Tryz.results177 _ _ _ _ _ _ _ rfl HH.out Tryz.underlying125 rfl (xtd _ rfl)) rfl ?_;exact ⟨rfl,HB.out⟩
theorem kkr{w:World}{p m n:Nat}{cnt fst bg:Nat->Int}{lg:Nat}{mg:Nat->List Value}(c L:Nat)(h:TabI w 271 2 p m n cnt fst bg lg mg)
  (hc:c<=1000000) (hL:L<12) (hf:0<=fst L∧fst L<=1000000) (hm:fst L<=c∧(c:Int) - fst L<cnt L) (j:Nat) (hj:bg L+((c:Int) - fst L)=j) (hn:j<n) (hn':n<=1000000) (v1 v2:Int) (hv:mg j=[.int .i64 v1, .int .i64 v2]) :
  Calls Tryz.prog 177 #[.pointer (some ⟨p,0,none⟩), .int .i64 c, .int .i64 L] w fun x w'=>x= .returned (.tuple #[.agg #[.int .i64 v1, .int .i64 v2], .bool true])∧Below w.heap.size w w':=by
 have c1:w.cell? ⟨p,L,none⟩=some (.int .i64 (cnt L)):=by rw [h.row.cell (i:=L) (by omega),xw2 _ _ _ _ _ _ _ hL]
 have c2:w.cell? ⟨p,12+L,none⟩=some (.int .i64 (fst L)):=by rw [h.row.cell (i:=12+L) (by omega),ytq _ _ _ _ _ _ _ hL]
 have c3:w.cell? ⟨p,24+L,none⟩=some (.int .i64 (bg L)):=by rw [h.row.cell (i:=24+L) (by omega),xkl _ _ _ _ _ _ _ hL]
 have c4:w.cell? ⟨p,37,none⟩=some (.slice (some ⟨m,0,none⟩) n n):=h.row.cell (i:=37) (by omega);have c5:w.cell? ⟨m,j*2,none⟩=some (.int .i64 v1):=(h.at_ j hn).2 0 _ (by rw [hv];rfl);have c6:w.cell? ⟨m,j*2+1,none⟩=some (.int .i64 v2):=(h.at_ j hn).2 1 _ (by rw [hv];rfl);have hp:=h.pm.1;have hm':=h.pm.2;clear h hv;obtain ⟨F,hF⟩:∃ F,F=fst L:=⟨_,rfl⟩
 obtain ⟨N,hN⟩:∃ N,N=cnt L:=⟨_,rfl⟩
 obtain ⟨b,hb⟩:∃ b,b=bg L:=⟨_,rfl⟩
 rw [← hF] at c2 hf hm hj;rw [← hN] at c1 hm;rw [← hb] at c3 hj;clear hF hN hb;have hL':(L:Int)<12:=by omega
 have hd:decide ((c:Int) - F<0)=false:=by simp;omega
 have hd2:decide (N<=(c:Int) - F)=false:=by simp;omega
 have HB:Hid (Below w.heap.size w (w.alloc (.cells #[.int .i64 v1, .int .i64 v2] 125)).drew):=((Below.refl _ _).alloc (Nat.le_refl _) _).drew;have HH:Hid ((w.alloc (.cells #[.int .i64 v1, .int .i64 v2] 125)).drew.heap[w.heap.size]?=some (.cells #[.int .i64 v1, .int .i64 v2] 125)):=heap_alloc_new _ _;have hjn:(j:Int)<n:=by omega
 go_enter Tryz.func177,Tryz.ntmps177
 go_wp2_with fail
 go_region
 go_wp2_with fail
 refine bodyPost_ret (v7f Tryz.results177 _ _ _ _ _ _ _ rfl HH.out Tryz.underlying125 rfl (xtd _ rfl)) rfl ?_;exact ⟨rfl,HB.out⟩
theorem vs7{w:World}{p m n:Nat}{cnt fst bg:Nat->Int}{lg:Nat}{mg:Nat->List Value}(h:TabI w 268 4 p m n cnt fst bg lg mg) :
  Calls Tryz.prog 174 #[.pointer (some ⟨p,0,none⟩)] w fun x w'=>x= .returned (.int .i64 lg)∧w=w':=by
 have c2:w.cell? ⟨p,36,none⟩=some (.int .i64 lg):=h.row.cell (i:=36) (by omega);clear h;go_enter Tryz.func174,Tryz.ntmps174
 go_wp2_with fail
 go_ret
 exact ⟨rfl,rfl⟩
theorem vrp{w:World}{p m n:Nat}{cnt fst bg:Nat->Int}{lg:Nat}{mg:Nat->List Value}(c L:Nat)(h:TabI w 268 4 p m n cnt fst bg lg mg)
  (hc:c<=1000000) (hL:L<12) (hf:0<=fst L∧fst L<=1000000) (hm:¬ (fst L<=c∧(c:Int) - fst L<cnt L)) :
  Calls Tryz.prog 175 #[.pointer (some ⟨p,0,none⟩), .int .i64 c, .int .i64 L] w fun x w'=>x= .returned (.tuple #[.agg #[.int .i64 0, .int .u8 0, .int .i64 0, .int .i64 0], .bool false])∧Below w.heap.size w w':=by
 have c1:w.cell? ⟨p,L,none⟩=some (.int .i64 (cnt L)):=by rw [h.row.cell (i:=L) (by omega),xw2 _ _ _ _ _ _ _ hL]
 have c2:w.cell? ⟨p,12+L,none⟩=some (.int .i64 (fst L)):=by rw [h.row.cell (i:=12+L) (by omega),ytq _ _ _ _ _ _ _ hL]
 have hp:=h.pm.1;clear h;obtain ⟨F,hF⟩:∃ F,F=fst L:=⟨_,rfl⟩
 obtain ⟨N,hN⟩:∃ N,N=cnt L:=⟨_,rfl⟩
 rw [← hF] at c2 hf hm;rw [← hN] at c1 hm;clear hF hN;have hL':(L:Int)<12:=by omega
 have HB:Hid (Below w.heap.size w ((w.alloc (.cells #[.int .i64 0, .int .u8 0, .int .i64 0, .int .i64 0] 218)).alloc (.cells #[.int .i64 0, .int .u8 0, .int .i64 0, .int .i64 0] 218))):=((Below.refl _ _).alloc (Nat.le_refl _) _).alloc (by simp) _;have HH:Hid (((w.alloc (.cells #[.int .i64 0, .int .u8 0, .int .i64 0, .int .i64 0] 218)).alloc (.cells #[.int .i64 0, .int .u8 0, .int .i64 0, .int .i64 0] 218)).heap[w.heap.size]?=some (.cells #[.int .i64 0, .int .u8 0, .int .i64 0, .int .i64 0] 218)):=(Go.heap_alloc_old _ _ (by simp)).trans (heap_alloc_new _ _);by_cases hlt:(c:Int) - F<0
 ·go_enter Tryz.func175,Tryz.ntmps175
  go_wp2_with fail
  refine bodyPost_ret (v7f Tryz.results175 _ _ _ _ _ _ _ rfl HH.out Tryz.underlying218 rfl (z2s _ rfl)) rfl ?_;exact ⟨rfl,HB.out⟩
 ·have hd:decide ((c:Int) - F<0)=false:=by simp;omega
  have hge:N<=(c:Int) - F:=by omega
  go_enter Tryz.func175,Tryz.ntmps175
  go_wp2_with fail
  refine bodyPost_ret (v7f Tryz.results175 _ _ _ _ _ _ _ rfl HH.out Tryz.underlying218 rfl (z2s _ rfl)) rfl ?_;exact ⟨rfl,HB.out⟩
theorem j98{w:World}{p m n:Nat}{cnt fst bg:Nat->Int}{lg:Nat}{mg:Nat->List Value}(c L:Nat)(h:TabI w 268 4 p m n cnt fst bg lg mg)
  (hc:c<=1000000) (hL:L<12) (hf:0<=fst L∧fst L<=1000000) (hm:fst L<=c∧(c:Int) - fst L<cnt L) (j:Nat) (hj:bg L+((c:Int) - fst L)=j) (hn:j<n) (hn':n<=1000000) (v1 v2 v3 v4:Int) (hv:mg j=[.int .i64 v1, .int .u8 v2, .int .i64 v3, .int .i64 v4]) :
  Calls Tryz.prog 175 #[.pointer (some ⟨p,0,none⟩), .int .i64 c, .int .i64 L] w fun x w'=>x= .returned (.tuple #[.agg #[.int .i64 v1, .int .u8 v2, .int .i64 v3, .int .i64 v4], .bool true])∧Below w.heap.size w w':=by
 have c1:w.cell? ⟨p,L,none⟩=some (.int .i64 (cnt L)):=by rw [h.row.cell (i:=L) (by omega),xw2 _ _ _ _ _ _ _ hL]
 have c2:w.cell? ⟨p,12+L,none⟩=some (.int .i64 (fst L)):=by rw [h.row.cell (i:=12+L) (by omega),ytq _ _ _ _ _ _ _ hL]
 have c3:w.cell? ⟨p,24+L,none⟩=some (.int .i64 (bg L)):=by rw [h.row.cell (i:=24+L) (by omega),xkl _ _ _ _ _ _ _ hL]
 have c4:w.cell? ⟨p,37,none⟩=some (.slice (some ⟨m,0,none⟩) n n):=h.row.cell (i:=37) (by omega);have c5:w.cell? ⟨m,j*4,none⟩=some (.int .i64 v1):=(h.at_ j hn).2 0 _ (by rw [hv];rfl);have c6:w.cell? ⟨m,j*4+1,none⟩=some (.int .u8 v2):=(h.at_ j hn).2 1 _ (by rw [hv];rfl);have c7:w.cell? ⟨m,j*4+2,none⟩=some (.int .i64 v3):=(h.at_ j hn).2 2 _ (by rw [hv];rfl);have c8:w.cell? ⟨m,j*4+3,none⟩=some (.int .i64 v4):=(h.at_ j hn).2 3 _ (by rw [hv];rfl);have hp:=h.pm.1;have hm':=h.pm.2;clear h hv;obtain ⟨F,hF⟩:∃ F,F=fst L:=⟨_,rfl⟩
 obtain ⟨N,hN⟩:∃ N,N=cnt L:=⟨_,rfl⟩
 obtain ⟨b,hb⟩:∃ b,b=bg L:=⟨_,rfl⟩
 rw [← hF] at c2 hf hm hj;rw [← hN] at c1 hm;rw [← hb] at c3 hj;clear hF hN hb;have hL':(L:Int)<12:=by omega
 have hd:decide ((c:Int) - F<0)=false:=by simp;omega
 have hd2:decide (N<=(c:Int) - F)=false:=by simp;omega
 have HB:Hid (Below w.heap.size w (w.alloc (.cells #[.int .i64 v1, .int .u8 v2, .int .i64 v3, .int .i64 v4] 218)).drew):=((Below.refl _ _).alloc (Nat.le_refl _) _).drew;have HH:Hid ((w.alloc (.cells #[.int .i64 v1, .int .u8 v2, .int .i64 v3, .int .i64 v4] 218)).drew.heap[w.heap.size]?=some (.cells #[.int .i64 v1, .int .u8 v2, .int .i64 v3, .int .i64 v4] 218)):=heap_alloc_new _ _;have hjn:(j:Int)<n:=by omega
 go_enter Tryz.func175,Tryz.ntmps175
 go_wp2_with fail
 go_region
 go_wp2_with fail
 refine bodyPost_ret (v7f Tryz.results175 _ _ _ _ _ _ _ rfl HH.out Tryz.underlying218 rfl (z2s _ rfl)) rfl ?_;exact ⟨rfl,HB.out⟩
theorem kta{w:World}{p m n:Nat}{cnt fst bg:Nat->Int}{lg:Nat}{mg:Nat->List Value}(h:TabI w 265 4 p m n cnt fst bg lg mg) :
  Calls Tryz.prog 170 #[.pointer (some ⟨p,0,none⟩)] w fun x w'=>x= .returned (.int .i64 lg)∧w=w':=by
 have c2:w.cell? ⟨p,36,none⟩=some (.int .i64 lg):=h.row.cell (i:=36) (by omega);clear h;go_enter Tryz.func170,Tryz.ntmps170
 go_wp2_with fail
 go_ret
 exact ⟨rfl,rfl⟩
theorem j90{w:World}{p m n:Nat}{cnt fst bg:Nat->Int}{lg:Nat}{mg:Nat->List Value}(c L:Nat)(h:TabI w 265 4 p m n cnt fst bg lg mg)
  (hc:c<=1000000) (hL:L<12) (hf:0<=fst L∧fst L<=1000000) (hm:¬ (fst L<=c∧(c:Int) - fst L<cnt L)) :
  Calls Tryz.prog 172 #[.pointer (some ⟨p,0,none⟩), .int .i64 c, .int .i64 L] w fun x w'=>x= .returned (.tuple #[.agg #[.int .i64 0, .bool false, .int .i64 0, .int .i64 0], .bool false])∧Below w.heap.size w w':=by
 have c1:w.cell? ⟨p,L,none⟩=some (.int .i64 (cnt L)):=by rw [h.row.cell (i:=L) (by omega),xw2 _ _ _ _ _ _ _ hL]
 have c2:w.cell? ⟨p,12+L,none⟩=some (.int .i64 (fst L)):=by rw [h.row.cell (i:=12+L) (by omega),ytq _ _ _ _ _ _ _ hL]
 have hp:=h.pm.1;clear h;obtain ⟨F,hF⟩:∃ F,F=fst L:=⟨_,rfl⟩
 obtain ⟨N,hN⟩:∃ N,N=cnt L:=⟨_,rfl⟩
 rw [← hF] at c2 hf hm;rw [← hN] at c1 hm;clear hF hN;have hL':(L:Int)<12:=by omega
 have HB:Hid (Below w.heap.size w ((w.alloc (.cells #[.int .i64 0, .bool false, .int .i64 0, .int .i64 0] 127)).alloc (.cells #[.int .i64 0, .bool false, .int .i64 0, .int .i64 0] 127))):=((Below.refl _ _).alloc (Nat.le_refl _) _).alloc (by simp) _;have HH:Hid (((w.alloc (.cells #[.int .i64 0, .bool false, .int .i64 0, .int .i64 0] 127)).alloc (.cells #[.int .i64 0, .bool false, .int .i64 0, .int .i64 0] 127)).heap[w.heap.size]?=some (.cells #[.int .i64 0, .bool false, .int .i64 0, .int .i64 0] 127)):=(Go.heap_alloc_old _ _ (by simp)).trans (heap_alloc_new _ _);by_cases hlt:(c:Int) - F<0
 ·go_enter Tryz.func172,Tryz.ntmps172
  go_wp2_with fail
  refine bodyPost_ret (v7f Tryz.results172 _ _ _ _ _ _ _ rfl HH.out Tryz.underlying127 rfl (yfc _ rfl)) rfl ?_;exact ⟨rfl,HB.out⟩
 ·have hd:decide ((c:Int) - F<0)=false:=by simp;omega
  have hge:N<=(c:Int) - F:=by omega
  go_enter Tryz.func172,Tryz.ntmps172
  go_wp2_with fail
  refine bodyPost_ret (v7f Tryz.results172 _ _ _ _ _ _ _ rfl HH.out Tryz.underlying127 rfl (yfc _ rfl)) rfl ?_;exact ⟨rfl,HB.out⟩
theorem vsr{w:World}{p m n:Nat}{cnt fst bg:Nat->Int}{lg:Nat}{mg:Nat->List Value}(c L:Nat)(h:TabI w 265 4 p m n cnt fst bg lg mg)
  (hc:c<=1000000) (hL:L<12) (hf:0<=fst L∧fst L<=1000000) (hm:fst L<=c∧(c:Int) - fst L<cnt L) (j:Nat) (hj:bg L+((c:Int) - fst L)=j) (hn:j<n) (hn':n<=1000000) (v1:Int) (v2:Bool) (v3 v4:Int) (hv:mg j=[.int .i64 v1, .bool v2, .int .i64 v3, .int .i64 v4]) :
  Calls Tryz.prog 172 #[.pointer (some ⟨p,0,none⟩), .int .i64 c, .int .i64 L] w fun x w'=>x= .returned (.tuple #[.agg #[.int .i64 v1, .bool v2, .int .i64 v3, .int .i64 v4], .bool true])∧Below w.heap.size w w':=by
 have c1:w.cell? ⟨p,L,none⟩=some (.int .i64 (cnt L)):=by rw [h.row.cell (i:=L) (by omega),xw2 _ _ _ _ _ _ _ hL]
 have c2:w.cell? ⟨p,12+L,none⟩=some (.int .i64 (fst L)):=by rw [h.row.cell (i:=12+L) (by omega),ytq _ _ _ _ _ _ _ hL]
 have c3:w.cell? ⟨p,24+L,none⟩=some (.int .i64 (bg L)):=by rw [h.row.cell (i:=24+L) (by omega),xkl _ _ _ _ _ _ _ hL]
 have c4:w.cell? ⟨p,37,none⟩=some (.slice (some ⟨m,0,none⟩) n n):=h.row.cell (i:=37) (by omega);have c5:w.cell? ⟨m,j*4,none⟩=some (.int .i64 v1):=(h.at_ j hn).2 0 _ (by rw [hv];rfl);have c6:w.cell? ⟨m,j*4+1,none⟩=some (.bool v2):=(h.at_ j hn).2 1 _ (by rw [hv];rfl);have c7:w.cell? ⟨m,j*4+2,none⟩=some (.int .i64 v3):=(h.at_ j hn).2 2 _ (by rw [hv];rfl);have c8:w.cell? ⟨m,j*4+3,none⟩=some (.int .i64 v4):=(h.at_ j hn).2 3 _ (by rw [hv];rfl);have hp:=h.pm.1;have hm':=h.pm.2;clear h hv;obtain ⟨F,hF⟩:∃ F,F=fst L:=⟨_,rfl⟩
 obtain ⟨N,hN⟩:∃ N,N=cnt L:=⟨_,rfl⟩
 obtain ⟨b,hb⟩:∃ b,b=bg L:=⟨_,rfl⟩
 rw [← hF] at c2 hf hm hj;rw [← hN] at c1 hm;rw [← hb] at c3 hj;clear hF hN hb;have hL':(L:Int)<12:=by omega
 have hd:decide ((c:Int) - F<0)=false:=by simp;omega
 have hd2:decide (N<=(c:Int) - F)=false:=by simp;omega
 have HB:Hid (Below w.heap.size w (w.alloc (.cells #[.int .i64 v1, .bool v2, .int .i64 v3, .int .i64 v4] 127)).drew):=((Below.refl _ _).alloc (Nat.le_refl _) _).drew;have HH:Hid ((w.alloc (.cells #[.int .i64 v1, .bool v2, .int .i64 v3, .int .i64 v4] 127)).drew.heap[w.heap.size]?=some (.cells #[.int .i64 v1, .bool v2, .int .i64 v3, .int .i64 v4] 127)):=heap_alloc_new _ _;have hjn:(j:Int)<n:=by omega
 go_enter Tryz.func172,Tryz.ntmps172
 go_wp2_with fail
 go_region
 go_wp2_with fail
 refine bodyPost_ret (v7f Tryz.results172 _ _ _ _ _ _ _ rfl HH.out Tryz.underlying127 rfl (yfc _ rfl)) rfl ?_;exact ⟨rfl,HB.out⟩
def tab0(f g:Nat->Int):Array Value:=#[.int .i64 (f 0), .int .i64 (f 1), .int .i64 (f 2), .int .i64 (f 3), .int .i64 (f 4), .int .i64 (f 5), .int .i64 (f 6), .int .i64 (f 7), .int .i64 (f 8), .int .i64 (f 9), .int .i64 (f 10), .int .i64 (f 11),
 .int .i64 (g 0), .int .i64 (g 1), .int .i64 (g 2), .int .i64 (g 3), .int .i64 (g 4), .int .i64 (g 5), .int .i64 (g 6), .int .i64 (g 7), .int .i64 (g 8), .int .i64 (g 9), .int .i64 (g 10), .int .i64 (g 11),
 .int .i64 0, .int .i64 0, .int .i64 0, .int .i64 0, .int .i64 0, .int .i64 0, .int .i64 0, .int .i64 0, .int .i64 0, .int .i64 0, .int .i64 0, .int .i64 0, .int .i64 0, .slice none 0 0]
def bfv(cnt fst bg:Nat->Int)(lg:Nat)(v:Value)(i:Nat):Value:=
 if i<12 then .int .i64 (cnt i) else if i<24 then .int .i64 (fst (i - 12)) else if i<36 then .int .i64 (bg (i - 24)) else if i=36 then .int .i64 lg else v
def bsum(l:List Int):Nat->Int
 | 0=>0
 | k+1=>bsum l k+cn l k
def bgTo(l:List Int)(k i:Nat):Int:=if i<k then bsum l i else 0
def lgTo(l:List Int):Nat->Nat
 | 0=>0
 | k+1=>if 0<cn l k then k else lgTo l k
theorem jnz(l:List Int)(w:World)(T:TypeId):(w.alloc (.cells (tab0 (cn l) (fc (cn l))) T)).rowIs w.heap.size T 38 (bfv (cn l) (fc (cn l)) (bgTo l 0) (lgTo l 0) (.slice none 0 0)):=by
 refine World.rowIs_alloc w (tab0 (cn l) (fc (cn l))) T _ ?_;intro i hi;have hi':i<38:=hi;have:i=0∨i=1∨i=2∨i=3∨i=4∨i=5∨i=6∨i=7∨i=8∨i=9∨i=10∨i=11∨i=12∨i=13∨i=14∨i=15∨i=16∨i=17∨i=18∨i=19∨i=20∨i=21∨i=22∨i=23∨i=24∨i=25∨i=26∨i=27∨i=28∨i=29∨i=30∨i=31∨i=32∨i=33∨i=34∨i=35∨i=36∨i=37:=by omega
 rcases this with rfl | rfl | rfl | rfl | rfl | rfl | rfl | rfl | rfl | rfl | rfl | rfl | rfl | rfl | rfl | rfl | rfl | rfl | rfl | rfl | rfl | rfl | rfl | rfl | rfl | rfl | rfl | rfl | rfl | rfl | rfl | rfl | rfl | rfl | rfl | rfl | rfl | rfl <;> rfl
theorem ysr{l:List Int}(hl:l.length<=269)(k:Nat)(hk:k<=12):0<=bsum l k∧bsum l k<=1000000*k:=by
 induction k with
 | zero=>simp [bsum]
 | succ k ih=>
  have h1:=z7r hl k (by omega);have:=ih (by omega);simp only [bsum];omega
theorem jnr{w:World}{p T:Nat}{cnt fst bg:Nat->Int}{lg:Nat}{v:Value}(k:Nat)(x:Int)(hk:k<12)(h:w.rowIs p T 38 (bfv cnt fst bg lg v)) :
  (w.setCell ⟨p,24+k,none⟩ (.int .i64 x)).rowIs p T 38 (bfv cnt fst (fun i=>if i=k then x else bg i) lg v):=by
 refine (h.set (24+k) _).congr fun i _=>?_
 unfold bfv;by_cases e:i=24+k
 ·subst e;rw [if_pos rfl,if_neg (by omega),if_neg (by omega),if_pos (by omega),show 24+k - 24=k by omega];simp
 ·rw [if_neg e];by_cases e1:i<12
  ·rw [if_pos e1,if_pos e1]
  ·rw [if_neg e1,if_neg e1];by_cases e2:i<24
   ·rw [if_pos e2,if_pos e2]
   ·rw [if_neg e2,if_neg e2];by_cases e3:i<36
    ·rw [if_pos e3,if_pos e3];have:¬ (i - 24=k):=by omega
     simp [this]
    ·rw [if_neg e3,if_neg e3]
theorem zta{w:World}{p T:Nat}{cnt fst bg:Nat->Int}{lg:Nat}{v:Value}(x:Nat)(h:w.rowIs p T 38 (bfv cnt fst bg lg v)) :
  (w.setCell ⟨p,36,none⟩ (.int .i64 x)).rowIs p T 38 (bfv cnt fst bg x v):=by
 refine (h.set 36 _).congr fun i _=>?_
 unfold bfv;by_cases e:i=36
 ·subst e;rfl
 ·simp [e]
theorem jb3{w:World}{p T:Nat}{cnt fst bg:Nat->Int}{lg:Nat}{v:Value}(x:Value)(h:w.rowIs p T 38 (bfv cnt fst bg lg v)) :
  (w.setCell ⟨p,37,none⟩ x).rowIs p T 38 (bfv cnt fst bg lg x):=by
 refine (h.set 37 _).congr fun i hi=>?_
 unfold bfv;by_cases e:i=37
 ·subst e;rfl
 ·rw [if_neg e];by_cases e1:i=36
  ·subst e1;rfl
  ·have:i<36:=by omega
   simp [this]
theorem xp6(l:List Int)(k:Nat):(fun i=>if i=k then bsum l k else bgTo l k i)=bgTo l (k+1):=by
 funext i
 unfold bgTo;by_cases e:i=k
 ·subst e;rw [if_pos rfl,if_pos (by omega)]
 ·rw [if_neg e];by_cases e1:i<k
  ·rw [if_pos e1,if_pos (by omega)]
  ·rw [if_neg e1,if_neg (by omega)]
theorem y6c:(Tryz.prog.info? 125).map (fun i=>(i.zero,i.size,i.bytes))=some (some (.agg #[.int .i64 0, .int .i64 0]),2,16):=by kernel_rfl
theorem khk(n:Nat)(hn:n<=12000000)(w:World):(Instr.makeSlice 269 (.int .i64 (n:Int)) (.int .i64 (n:Int))).run Tryz.prog w= .ok (.slice (some ⟨w.heap.size,0,none⟩) n n) (w.alloc (.cells (madeCells #[.int .i64 0, .int .i64 0] (n*2)) 125)):=by
 obtain ⟨i,hi,hz⟩:=Option.map_eq_some_iff.1 y6c;simp only [Prod.mk.injEq] at hz;have hr:=run_make (P:=Tryz.prog) w 269 125 i _ Tryz.underlying269 hi hz.1 .i64 .i64 n n (by omega) (Int.le_refl _) (by rw [hz.2.2];omega) (by omega);simp only [Int.toNat_natCast,hz.2.1] at hr;exact hr
theorem xfg{w:World}{p T:Nat}{cnt fst:Nat->Int}{l:List Int}{lg:Nat}{v:Value}(h:w.rowIs p T 38 (bfv cnt fst (bgTo l 12) lg v)):w.rangeAt p 24 (arr (bsum l)).toList:=by
 intro j x hx;have hj:j<12:=by have:=(List.getElem?_eq_some_iff.1 hx).1;simpa [arr] using this
 rw [h.cell (i:=24+j) (by omega)];have e:(arr (bsum l))[j]?=some x:=by simpa using hx
 rw [zge _ _ hj] at e;rw [← Option.some.inj e];unfold bfv bgTo;rw [if_neg (by omega),if_neg (by omega),if_pos (by omega),show 24+j - 24=j by omega,if_pos hj]
theorem tab_build(f g:Nat->Int)(w:World):(Instr.build 271 #[(0, .agg (arr f)),(1, .agg (arr g))]).run Tryz.prog w= .ok (.agg (tab0 f g)) w:=by kernel_rfl
theorem tab_box(f g:Nat->Int)(w:World):(Instr.box 271 (.agg (tab0 f g))).run Tryz.prog w= .ok (.pointer (some ⟨w.heap.size,0,none⟩)) (w.alloc (.cells (tab0 f g) 271)):=by kernel_rfl
theorem xwb{w:World}{g:Nat}{l:List Int}(h:w.heap[g]?=some (.cells (arr (cn l)) 199)):w.cell? ⟨g,0,none⟩=some (.int .i64 (cn l 0))∧w.cell? ⟨g,1,none⟩=some (.int .i64 (cn l 1))∧w.cell? ⟨g,2,none⟩=some (.int .i64 (cn l 2))∧w.cell? ⟨g,3,none⟩=some (.int .i64 (cn l 3))∧w.cell? ⟨g,4,none⟩=some (.int .i64 (cn l 4))∧w.cell? ⟨g,5,none⟩=some (.int .i64 (cn l 5))∧w.cell? ⟨g,6,none⟩=some (.int .i64 (cn l 6))∧w.cell? ⟨g,7,none⟩=some (.int .i64 (cn l 7))∧w.cell? ⟨g,8,none⟩=some (.int .i64 (cn l 8))∧w.cell? ⟨g,9,none⟩=some (.int .i64 (cn l 9))∧w.cell? ⟨g,10,none⟩=some (.int .i64 (cn l 10))∧w.cell? ⟨g,11,none⟩=some (.int .i64 (cn l 11)):=jax h
def pos(l:List Int)(i:Nat):Nat:=(bsum l (l.getD i 0).toNat+cn (l.take i) (l.getD i 0).toNat).toNat
theorem xki(l:List Int)(i j:Nat):cn (l.take i) j<=cn l j:=by
 unfold cn;have:=((List.take_sublist i l).filter (fun x=>decide (0<x) && x==(j:Int))).length_le;omega
theorem znk(l:List Int)(a d:Nat):bsum l a<=bsum l (a+d):=by
 induction d with
 | zero=>simp
 | succ d ih=>
  have:bsum l (a+(d+1))=bsum l (a+d)+cn l (a+d):=rfl;have:=v4o l (a+d);omega
theorem yr6{l:List Int}{i k n:Nat}(hik:i<k)(hi:i<l.length)(hx:l[i]=(n:Int))(hn:0<n):cn (l.take i) n+1<=cn (l.take k) n:=by
 have h1:=ysp (j:=n) hi;have h2:=xki (l.take k) (i+1) n;rw [List.take_take,Nat.min_eq_left (by omega),h1,hx,if_pos ⟨by omega,rfl⟩] at h2;omega
theorem k44{l:List Int}{i n:Nat}(hi:i<l.length)(hx:l[i]=(n:Int))(hl:l.length<=269)(hn:n<12):(pos l i:Int)=bsum l n+cn (l.take i) n:=by
 have e:(l.getD i 0).toNat=n:=by simp [hi,hx]
 have h1:=(ysr hl n (by omega)).1;have h2:=v4o (l.take i) n;unfold pos;rw [e];omega
theorem vil{l:List Int}{i n:Nat}(hi:i<l.length)(hx:l[i]=(n:Int))(hl:l.length<=269)(h0:0<n)(hn:n<12):(pos l i:Int)<bsum l 12:=by
 rw [k44 hi hx hl hn];have h1:=yr6 (k:=l.length) hi hi hx h0;rw [List.take_length] at h1;have h2:bsum l (n+1)=bsum l n+cn l n:=rfl;have h3:=znk l (n+1) (12 - (n+1));rw [show n+1+(12 - (n+1))=12 by omega] at h3;omega
theorem z4t{l:List Int}{i k n m:Nat}(hik:i<k)(hk:k<l.length)(hi:i<l.length)(hx:l[i]=(n:Int))(hy:l[k]=(m:Int))(hl:l.length<=269)(h0:0<n)(hn:n<12)(g0:0<m)(gn:m<12):pos l i≠pos l k:=by
 intro e;have e1:=k44 hi hx hl hn;have e2:=k44 hk hy hl gn;rw [e] at e1;have a1:=yr6 (k:=l.length) hi hi hx h0;have a2:=yr6 (k:=l.length) hk hk hy g0;rw [List.take_length] at a1 a2;have b1:=v4o (l.take i) n;have b2:=v4o (l.take k) m;have h2:bsum l (n+1)=bsum l n+cn l n:=rfl;have h3:bsum l (m+1)=bsum l m+cn l m:=rfl;by_cases c:n<m
 ·have:=znk l (n+1) (m - (n+1));rw [show n+1+(m - (n+1))=m by omega] at this;omega
 ·by_cases c2:m<n
  ·have:=znk l (m+1) (n - (m+1));rw [show m+1+(n - (m+1))=n by omega] at this;omega
  ·obtain rfl:n=m:=by omega
   have:=yr6 hik hi hx h0;omega
end Go.Proofs.YtbcjmakpempkiaaGreatDoor
