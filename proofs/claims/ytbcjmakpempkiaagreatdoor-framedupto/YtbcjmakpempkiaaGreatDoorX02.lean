import Derived.Test.YtbcjmakpempkiaaGreatDoorX01
set_option maxRecDepth 100000
set_option maxHeartbeats 8000000
set_option linter.all false
namespace Go.Proofs.YtbcjmakpempkiaaGreatDoor
theorem yym:∀ (hl:List Int) (i:Nat) (l:List Int),(∀ x∈hl,0<=x∧x<8)->inRange l=true->inRange (xhc hl i l)=true∧(xhc hl i l).length=l.length
 | [],_,l,_,h=>⟨h,rfl⟩
 | x :: xs,i,l,hx,h=>by
  have h1:=hx x (by simp);have h2:inRange (l.set (Tr.order.getD i 0) x)=true:=by
   rw [vto] at h ⊢;intro y hy;rcases List.mem_or_eq_of_mem_set hy with hy | hy
   ·exact h y hy
   ·omega
  have:=yym xs (i+1) (l.set (Tr.order.getD i 0) x) (fun y hy=>hx y (by simp [hy])) h2;exact ⟨this.1,by show (xhc xs (i+1) _).length=_;rw [this.2];simp⟩
theorem jsu{hl:List Int}(h:∀ x∈hl,0<=x∧x<8):inRange (hset hl)=true∧(hset hl).length=15:=yym hl 0 _ h (by decide)
theorem zgl{l m:List Int}(h:inRange l=true)(hs:∀ x∈m,x∈l):inRange m=true:=by
 rw [vto] at h ⊢;exact fun x hx=>h x (hs x hx)
theorem yyi{l:List Int}(h:inRange l=true)(k:Nat):yuc (l.getD k 0)=true:=by
 rw [vto] at h;rw [List.getD_eq_getElem?_getD];cases e:l[k]? with
 | none=>decide
 | some x=>
  have:=h x (List.mem_of_getElem? e);simp [yuc];omega
theorem jy1{k:Nat}{l:List Int}(hk:k<15)(h:inRange l=true):yuc (hval k l)=true:=by
 unfold hval;split
 ·exact yyi h _
 ·split
  ·decide
  ·split
   ·decide
   ·simp [yuc];omega
theorem zj7{j:Nat}(h:j<12):Tr.spanBits j<=4∧3<=Tr.spanLeast 3 j∧Tr.spanLeast 3 j+2^Tr.spanBits j<=67:=by
 have:j=0∨j=1∨j=2∨j=3∨j=4∨j=5∨j=6∨j=7∨j=8∨j=9∨j=10∨j=11:=by omega
 rcases this with rfl | rfl | rfl | rfl | rfl | rfl | rfl | rfl | rfl | rfl | rfl | rfl <;> decide
theorem v3i{j:Nat}(h:j<16):Tr.spanBits j<=6∧1<=Tr.spanLeast 1 j∧Tr.spanLeast 1 j+2^Tr.spanBits j<=257:=by
 have:j=0∨j=1∨j=2∨j=3∨j=4∨j=5∨j=6∨j=7∨j=8∨j=9∨j=10∨j=11∨j=12∨j=13∨j=14∨j=15:=by omega
 rcases this with rfl | rfl | rfl | rfl | rfl | rfl | rfl | rfl | rfl | rfl | rfl | rfl | rfl | rfl | rfl | rfl <;> decide
namespace St
theorem next_9{σ:St}(W:Wf σ)(h:σ.st=9):NextA σ.act σ:=by
 have few:=W.few;rw [h] at few;have hc:σ.count<12:=few;rw [act_at h];simp only [actAt,need];have hphi:phi σ=100*σ.count+4:=by unfold phi;rw [h];rfl
 by_cases h3:σ.count<4
 ·rw [if_pos h3];exact fun b hb=>W.take hb (by rw [h];show σ.count+8<12;omega) (by rw [h];trivial)
 ·rw [if_neg h3];have hh:=held_rd W (k:=4) (by omega);split
  ·exact ⟨by decide,by decide⟩
  ·rename_i hn
   refine ⟨⟨W.fmt,by show 10<24;omega,fun _=>by show 6<=10;omega,hh,by show σ.count - 4<12;omega,by show 257<=257+σ.num 4∧257+σ.num 4<=269;omega,fun _=>W.own (by omega),W.om,W.marks,W.hsum⟩,?_,rfl,rfl,rfl,fun h=>by have:(10:Nat)=23:=h;omega⟩;rw [hphi];show 100*(σ.count - 4)+3<_;omega
theorem next_10{σ:St}(W:Wf σ)(h:σ.st=10):NextA σ.act σ:=by
 have few:=W.few;have at_:=W.at_;rw [h] at few at_;have hc:σ.count<12:=few;have ha:257<=σ.nl∧σ.nl<=269:=at_;rw [act_at h];simp only [actAt,need];have hphi:phi σ=100*σ.count+3:=by unfold phi;rw [h];rfl
 have hn:=num_lt σ 4;by_cases h3:σ.count<4
 ·rw [if_pos h3];exact fun b hb=>W.take hb (by rw [h];show σ.count+8<12;omega) (by rw [h];exact ha)
 ·rw [if_neg h3];have hh:=held_rd W (k:=4) (by omega);refine ⟨⟨W.fmt,by show 11<24;omega,fun _=>by show 6<=11;omega,hh,by show σ.count - 4<12;omega,⟨ha,by show 1<=1+σ.num 4∧1+σ.num 4<=16;omega⟩,fun _=>W.own (by omega),W.om,W.marks,W.hsum⟩,?_,rfl,rfl,rfl,fun h=>by have:(11:Nat)=23:=h;omega⟩;rw [hphi];show 100*(σ.count - 4)+2<_;omega
theorem next_11{σ:St}(W:Wf σ)(h:σ.st=11):NextA σ.act σ:=by
 have few:=W.few;have at_:=W.at_;rw [h] at few at_;have hc:σ.count<12:=few;have ha:(257<=σ.nl∧σ.nl<=269)∧1<=σ.nd∧σ.nd<=16:=at_;have ho:=W.own (by omega);rw [act_at h];simp only [actAt,need];have hphi:phi σ=100*σ.count+2:=by unfold phi;rw [h];rfl
 by_cases h3:σ.count<4
 ·rw [if_pos h3];exact fun b hb=>W.take hb (by rw [h];show σ.count+8<12;omega) (by rw [h];exact ha)
 ·rw [if_neg h3];have hh:=held_rd W (k:=4) (by omega);split
  ·exact ⟨by decide,by decide⟩
  ·rename_i hn
   refine ⟨⟨W.fmt,by show 12<24;omega,fun _=>by show 6<=12;omega,hh,⟨by show σ.count - 4<11;omega,fun _=>by show σ.count - 4<8;omega⟩,⟨ha.1,ha.2,by show 4<=4+σ.num 4∧4+σ.num 4<=15;omega,by show σ.hl.length<=_;rw [ho.1];exact Nat.zero_le _,(fun x hx=>by have hx2:x∈σ.hl:=hx;rw [ho.1] at hx2;cases hx2),ho.2⟩,fun h=>by have:(12:Nat)<12∨14<12:=h;omega,W.om,W.marks,W.hsum⟩,?_,rfl,rfl,rfl,fun h=>by have:(12:Nat)=23:=h;omega⟩;rw [hphi];show 100*(σ.count - 4)+30<_;omega
theorem next_12{σ:St}(W:Wf σ)(h:σ.st=12):NextA σ.act σ:=by
 have few:=W.few;have at_:=W.at_;rw [h] at few at_;have hc:σ.count<11∧(σ.hl.length=σ.told->σ.count<8):=few;obtain ⟨a1,a2,a3,a4,a5,a6⟩:=at_;rw [act_at h];simp only [actAt,need];have hphi:phi σ=100*σ.count+30:=by unfold phi;rw [h];rfl
 have hn:=num_lt σ 3;split
 ·rename_i hl
  by_cases h3:σ.count<3
  ·rw [if_pos h3];exact fun b hb=>W.take hb (by rw [h];exact ⟨by show σ.count+8<11;omega,fun e=>by have:σ.hl.length=σ.told:=e;omega⟩) (by rw [h];exact ⟨a1,a2,a3,a4,a5,a6⟩)
  ·rw [if_neg h3];have hh:=held_rd W (k:=3) (by omega);refine ⟨⟨W.fmt,W.st,W.raw,hh,?_,?_,fun e=>by have:σ.st<12∨14 < σ.st:=e;omega,W.om,W.marks,W.hsum⟩,?_,rfl,rfl,rfl,fun e=>by have:σ.st=23:=e;omega⟩
   ·show Few σ.st _;rw [h];exact ⟨by show σ.count - 3<11;omega,fun _=>by show σ.count - 3<8;omega⟩
   ·show At σ.st _;rw [h];refine ⟨a1,a2,a3,by show (σ.hl++[_]).length<=σ.told;simp;omega,?_,a6⟩;intro x hx;rcases List.mem_append.1 hx with hx | hx
    ·exact a5 x hx
    ·simp at hx;omega
   ·rw [hphi];show 100*(σ.count - 3)+loc σ.st _<_;rw [h];show 100*(σ.count - 3)+30<_;omega
 ·rename_i hl
  split
  ·rename_i hw
   obtain ⟨r1,r2⟩:=jsu a5;refine ⟨⟨W.fmt,by show 13<24;omega,fun _=>by show 6<=13;omega,W.held,y8i.of_lt (by show σ.count<8;exact hc.2 (by omega)),⟨a1,a2,⟨r1,hw,r2⟩,by show inRange σ.row=true;rw [a6];rfl,by show σ.row.length < σ.nl+σ.nd;rw [a6];show 0<_;omega⟩,fun e=>by have:(13:Nat)<12∨14<13:=e;omega,W.om,W.marks,W.hsum⟩,?_,rfl,rfl,rfl,fun h=>by have:(13:Nat)=23:=h;omega⟩;rw [hphi];show 100*σ.count+29<_;omega
  ·exact ⟨by decide,by decide⟩
theorem hit_facts{l:List Int}{h c k m:Nat}(e:jcs l h c= .hit k m):1<=m∧m<=c∧k<l.length:=by
 have:=yyp l _ _ _ _ _ _ _ e;omega
theorem next_13{σ:St}(W:Wf σ)(h:σ.st=13):NextA σ.act σ:=by
 have few:=W.few;have at_:=W.at_;rw [h] at few at_;have hc:y8i σ.hs σ.held σ.count:=few;obtain ⟨a1,a2,a3,a4,a5⟩:=at_;rw [act_at h];simp only [actAt,symbol];have hphi:phi σ=100*σ.count+29:=by unfold phi;rw [h];rfl
 cases e:jcs σ.hs σ.held σ.count with
 | none=>exact ⟨by decide,by decide⟩
 | more=>exact fun b hb=>W.take hb (by rw [h];exact y8i.take b e) (by rw [h];exact ⟨a1,a2,a3,a4,a5⟩)
 | hit k m=>
  obtain ⟨h1,h2,h3⟩:=hit_facts e;have hm:=hc.1 k m e;refine ⟨⟨W.fmt,by show 14<24;omega,fun _=>by show 6<=14;omega,held_rd W h2,by show σ.count - m<8+hbits k;omega,⟨⟨a1,a2,a3,a4,a5⟩,by show k<15;omega⟩,fun e=>by have:(14:Nat)<12∨14<14:=e;omega,W.om,W.marks,W.hsum⟩,?_,rfl,rfl,rfl,fun h=>by have:(14:Nat)=23:=h;omega⟩;rw [hphi];show 100*(σ.count - m)+31<_;omega
theorem next_14{σ:St}(W:Wf σ)(h:σ.st=14):NextA σ.act σ:=by
 have few:=W.few;have at_:=W.at_;rw [h] at few at_;have hc:σ.count<8+hbits σ.hk:=few;obtain ⟨⟨a1,a2,a3,a4,a5⟩,a6⟩:=at_;rw [act_at h];simp only [actAt,need];have hphi:phi σ=100*σ.count+31:=by unfold phi;rw [h];rfl
 by_cases h3:σ.count<hbits σ.hk
 ·rw [if_pos h3];exact fun b hb=>W.take hb (by rw [h];show σ.count+8<8+hbits σ.hk;omega) (by rw [h];exact ⟨⟨a1,a2,a3,a4,a5⟩,a6⟩)
 ·rw [if_neg h3];have hh:=held_rd W (k:=hbits σ.hk) (by omega);have hr:=Tr.inRange_append a4 (jy1 a6 a4) (hleast σ.hk+σ.num (hbits σ.hk));unfold rowNumber;simp only;split
  ·exact ⟨by decide,by decide⟩
  ·split
   ·exact ⟨by decide,by decide⟩
   ·rename_i hl
    generalize hrow:σ.row++List.replicate (hleast σ.hk+σ.num (hbits σ.hk)) (hval σ.hk σ.row)=row' at *;have hlen:row'.length<=σ.nl+σ.nd:=by rw [← hrow];simp;omega
    split
    ·rename_i hw
     unfold endRow;show NextA (if jcj (row'.take σ.nl) (row'.drop σ.nl) then _ else _) σ;split
     ·exact ⟨by decide,by decide⟩
     ·rename_i hb
      unfold jcj at hb;refine ⟨⟨W.fmt,by show 16<24;omega,fun _=>by show 6<=16;omega,hh,y8i.of_lt (by show σ.count - hbits σ.hk<8;omega),⟨zgl hr (fun x hx=>List.mem_of_mem_take hx),?_,?_,zgl hr (fun x hx=>List.mem_of_mem_drop hx),?_,?_⟩,fun _=>⟨rfl,rfl⟩,W.om,W.marks,W.hsum⟩,?_,rfl,rfl,rfl,fun h=>by have:(16:Nat)=23:=h;omega⟩
      ·exact Classical.byContradiction fun hn=>hb (Or.inr (Or.inl hn))
      ·show 257<=(row'.take σ.nl).length∧(row'.take σ.nl).length<=269;rw [List.length_take];omega
      ·show okDists (row'.drop σ.nl);unfold okDists;by_cases h1:jwa gw (row'.drop σ.nl)=2048
       ·exact Or.inl h1
       ·cases h2:ky9 (row'.drop σ.nl)
        ·have h0:=(vtl (fun _=>1) 1 (fun _=>⟨by decide,by decide⟩) (by decide) (row'.drop σ.nl)).1;have:¬ 0<jwa (fun _=>1) (row'.drop σ.nl):=fun hp=>hb (Or.inr (Or.inr ⟨h1,h2,hp⟩))
         exact Or.inr (Or.inr (by omega))
        ·exact Or.inr (Or.inl rfl)
      ·show (row'.drop σ.nl).length<=16;rw [List.length_drop];omega
      ·rw [hphi];show 100*(σ.count - hbits σ.hk)+16<_;omega
    ·rename_i hw
     refine ⟨⟨W.fmt,by show 13<24;omega,fun _=>by show 6<=13;omega,hh,y8i.of_lt (by show σ.count - hbits σ.hk<8;omega),⟨a1,a2,a3,hr,by show row'.length < σ.nl+σ.nd;omega⟩,fun e=>by have:(13:Nat)<12∨14<13:=e;omega,W.om,W.marks,W.hsum⟩,?_,rfl,rfl,rfl,fun h=>by have:(13:Nat)=23:=h;omega⟩;rw [hphi];show 100*(σ.count - hbits σ.hk)+29<_;omega
theorem next_15{σ:St}(W:Wf σ)(h:σ.st=15):NextA σ.act σ:=by
 have few:=W.few;have at_:=W.at_;rw [h] at few at_;have hc:σ.count<8:=few;obtain ⟨a1,a2⟩:=at_;rw [act_at h];simp only [actAt];have hphi:phi σ=100*σ.count+17:=by unfold phi;rw [h];rfl
 refine ⟨⟨W.fmt,by show 16<24;omega,fun _=>by show 6<=16;omega,W.held,y8i.of_lt hc,⟨a1.ra,a1.wa,a1.na,a1.rb,a1.wb,a1.nb⟩,fun _=>W.own (by omega),om_snoc W.om a2,W.marks,W.hsum⟩,a2,?_,rfl,rfl,rfl⟩;rw [hphi];show 100*σ.count+16<_;omega
theorem next_16{σ:St}(W:Wf σ)(h:σ.st=16):NextA σ.act σ:=by
 have few:=W.few;have at_:=W.at_;rw [h] at few at_;have hc:y8i σ.la σ.held σ.count:=few;have a1:Sets σ:=at_;rw [act_at h];simp only [actAt,symbol];have hphi:phi σ=100*σ.count+16:=by unfold phi;rw [h];rfl
 cases e:jcs σ.la σ.held σ.count with
 | none=>exact ⟨by decide,by decide⟩
 | more=>exact fun b hb=>W.take hb (by rw [h];exact y8i.take b e) (by rw [h];exact ⟨a1.ra,a1.wa,a1.na,a1.rb,a1.wb,a1.nb⟩)
 | hit k m=>
  obtain ⟨h1,h2,h3⟩:=hit_facts e;have hm:=hc.1 k m e;have hn:=a1.na;show NextA ((σ.rd m).literal k) σ;unfold literal;split
  ·rename_i hk
   refine ⟨⟨W.fmt,by show 15<24;omega,fun _=>by show 6<=15;omega,held_rd W h2,by show σ.count - m<8;omega,⟨⟨a1.ra,a1.wa,a1.na,a1.rb,a1.wb,a1.nb⟩,hk⟩,fun _=>W.own (by omega),W.om,W.marks,W.hsum⟩,?_,rfl,rfl,rfl,fun h=>by have:(15:Nat)=23:=h;omega⟩;rw [hphi];show 100*(σ.count - m)+17<_;omega
  ·split
   ·exact next_end W (by omega) (held_rd W h2) (by show σ.count - m<8;omega) (by rw [hphi];show 100*(σ.count - m)+14<_;omega) rfl (W.own (by omega)) rfl rfl rfl rfl rfl
   ·rename_i k1 k2
    obtain ⟨s1,s2,s3⟩:=zj7 (j:=k - 257) (by omega);generalize k - 257=j at *;refine ⟨⟨W.fmt,by show 17<24;omega,fun _=>by show 6<=17;omega,held_rd W h2,by show σ.count - m<8+Tr.spanBits j;omega,⟨⟨a1.ra,a1.wa,a1.na,a1.rb,a1.wb,a1.nb⟩,s1,s2,s3⟩,fun _=>W.own (by omega),W.om,W.marks,W.hsum⟩,?_,rfl,rfl,rfl,fun h=>by have:(17:Nat)=23:=h;omega⟩;rw [hphi];show 100*(σ.count - m)+86<_;omega
theorem next_17{σ:St}(W:Wf σ)(h:σ.st=17):NextA σ.act σ:=by
 have few:=W.few;have at_:=W.at_;rw [h] at few at_;have hc:σ.count<8+σ.bits:=few;obtain ⟨a1,a2,a3,a4⟩:=at_;rw [act_at h];simp only [actAt,need];have hphi:phi σ=100*σ.count+86:=by unfold phi;rw [h];rfl
 have hn:=num_lt σ σ.bits;by_cases h3:σ.count < σ.bits
 ·rw [if_pos h3];exact fun b hb=>W.take hb (by rw [h];show σ.count+8<8+σ.bits;omega) (by rw [h];exact ⟨⟨a1.ra,a1.wa,a1.na,a1.rb,a1.wb,a1.nb⟩,a2,a3,a4⟩)
 ·rw [if_neg h3];have hh:=held_rd W (k:=σ.bits) (by omega);refine ⟨⟨W.fmt,by show 18<24;omega,fun _=>by show 6<=18;omega,hh,y8i.of_lt (by show σ.count - σ.bits<8;omega),⟨⟨a1.ra,a1.wa,a1.na,a1.rb,a1.wb,a1.nb⟩,by show 3<=σ.least+σ.num σ.bits∧σ.least+σ.num σ.bits<=66;omega⟩,fun _=>W.own (by omega),W.om,W.marks,W.hsum⟩,?_,rfl,rfl,rfl,fun h=>by have:(18:Nat)=23:=h;omega⟩;rw [hphi];show 100*(σ.count - σ.bits)+85<_;omega
theorem next_18{σ:St}(W:Wf σ)(h:σ.st=18):NextA σ.act σ:=by
 have few:=W.few;have at_:=W.at_;rw [h] at few at_;have hc:y8i σ.lb σ.held σ.count:=few;obtain ⟨a1,a2⟩:=at_;rw [act_at h];simp only [actAt,symbol];have hphi:phi σ=100*σ.count+85:=by unfold phi;rw [h];rfl
 cases e:jcs σ.lb σ.held σ.count with
 | none=>exact ⟨by decide,by decide⟩
 | more=>exact fun b hb=>W.take hb (by rw [h];exact y8i.take b e) (by rw [h];exact ⟨⟨a1.ra,a1.wa,a1.na,a1.rb,a1.wb,a1.nb⟩,a2⟩)
 | hit k m=>
  obtain ⟨h1,h2,h3⟩:=hit_facts e;have hm:=hc.1 k m e;have hn:=a1.nb;obtain ⟨s1,s2,s3⟩:=v3i (j:=k) (by omega);refine ⟨⟨W.fmt,by show 19<24;omega,fun _=>by show 6<=19;omega,held_rd W h2,by show σ.count - m<8+Tr.spanBits k;omega,⟨⟨⟨a1.ra,a1.wa,a1.na,a1.rb,a1.wb,a1.nb⟩,a2⟩,s1,s2,s3⟩,fun _=>W.own (by omega),W.om,W.marks,W.hsum⟩,?_,rfl,rfl,rfl,fun h=>by have:(19:Nat)=23:=h;omega⟩;rw [hphi];show 100*(σ.count - m)+84<_;omega
theorem next_19{σ:St}(W:Wf σ)(h:σ.st=19):NextA σ.act σ:=by
 have few:=W.few;have at_:=W.at_;rw [h] at few at_;have hc:σ.count<8+σ.bits:=few;obtain ⟨⟨a1,a5⟩,a2,a3,a4⟩:=at_;rw [act_at h];simp only [actAt,need];have hphi:phi σ=100*σ.count+84:=by unfold phi;rw [h];rfl
 have hn:=num_lt σ σ.bits;by_cases h3:σ.count < σ.bits
 ·rw [if_pos h3];exact fun b hb=>W.take hb (by rw [h];show σ.count+8<8+σ.bits;omega) (by rw [h];exact ⟨⟨⟨a1.ra,a1.wa,a1.na,a1.rb,a1.wb,a1.nb⟩,a5⟩,a2,a3,a4⟩)
 ·rw [if_neg h3];have hh:=held_rd W (k:=σ.bits) (by omega);split
  ·exact ⟨by decide,by decide⟩
  ·rename_i hd
   refine ⟨⟨W.fmt,by show 20<24;omega,fun _=>by show 6<=20;omega,hh,by show σ.count - σ.bits<8;omega,⟨⟨⟨a1.ra,a1.wa,a1.na,a1.rb,a1.wb,a1.nb⟩,a5.2⟩,by show 1<=σ.least+σ.num σ.bits∧σ.least+σ.num σ.bits<=σ.om.length∧σ.least+σ.num σ.bits<=256;omega⟩,fun _=>W.own (by omega),W.om,W.marks,W.hsum⟩,?_,rfl,rfl,rfl,fun h=>by have:(20:Nat)=23:=h;omega⟩;rw [hphi];show 100*(σ.count - σ.bits)+(17+σ.left)<_;omega
theorem next_20{σ:St}(W:Wf σ)(h:σ.st=20):NextA σ.act σ:=by
 have few:=W.few;have at_:=W.at_;rw [h] at few at_;have hc:σ.count<8:=few;obtain ⟨⟨a1,a5⟩,a2,a3,a4⟩:=at_;rw [act_at h];simp only [actAt];have hphi:phi σ=100*σ.count+(17+σ.left):=by unfold phi;rw [h];rfl
 split
 ·rename_i hl
  refine ⟨⟨W.fmt,by show 16<24;omega,fun _=>by show 6<=16;omega,W.held,y8i.of_lt hc,⟨a1.ra,a1.wa,a1.na,a1.rb,a1.wb,a1.nb⟩,fun _=>W.own (by omega),W.om,W.marks,W.hsum⟩,?_,rfl,rfl,rfl,fun h=>by have:(16:Nat)=23:=h;omega⟩;rw [hphi];show 100*σ.count+16<_;omega
 ·rename_i hl
  have hb:σ.om.getD (σ.om.length - σ.dist) 0<256:=by
   rw [List.getD_eq_getElem?_getD];cases e:σ.om[σ.om.length - σ.dist]? with
   | none=>decide
   | some x=>exact W.om x (List.mem_of_getElem? e)
  refine ⟨⟨W.fmt,W.st,W.raw,W.held,?_,?_,fun _=>W.own (by omega),om_snoc W.om hb,W.marks,W.hsum⟩,hb,?_,rfl,rfl,rfl⟩
  ·show Few σ.st _;rw [h];exact hc
  ·show At σ.st _;rw [h];exact ⟨⟨⟨a1.ra,a1.wa,a1.na,a1.rb,a1.wb,a1.nb⟩,by show σ.left - 1<=66;omega⟩,a2,by show σ.dist<=(σ.om++[_]).length;simp;omega,a4⟩
  ·rw [hphi];show 100*σ.count+loc σ.st _<_;rw [h];show 100*σ.count+(17+(σ.left - 1))<_;omega
theorem next{σ:St}(W:Wf σ):NextA σ.act σ:=by
 rcases cases24 W.st with h | h | h | h | h | h | h | h | h | h | h | h | h | h | h | h | h | h | h | h | h | h | h | h
 ·exact next_0 W h
 ·exact next_1 W h
 ·exact next_2 W h
 ·exact next_3 W h
 ·exact next_4 W h
 ·exact next_5 W h
 ·exact next_6 W h
 ·exact next_7 W h
 ·exact next_8 W h
 ·exact next_9 W h
 ·exact next_10 W h
 ·exact next_11 W h
 ·exact next_12 W h
 ·exact next_13 W h
 ·exact next_14 W h
 ·exact next_15 W h
 ·exact next_16 W h
 ·exact next_17 W h
 ·exact next_18 W h
 ·exact next_19 W h
 ·exact next_20 W h
 ·exact next_21 W h
 ·exact next_22 W h
 ·exact next_23 W h
end St
def v06:Nat->Nat->List Nat
 | _,0=>[]
 | b,n+1=>b%2 :: v06 (b / 2) n
def krl(c:Nat):Nat->List Nat
 | 0=>[]
 | n+1=>c / 2^n%2 :: krl c n
theorem vxm(n:Nat):∀ b,(v06 b n).length=n:=by
 induction n with
 | zero=>intro b;rfl
 | succ n ih=>intro b;simp [v06,ih]
theorem jqc(c n:Nat):(krl c n).length=n:=by
 induction n with
 | zero=>rfl
 | succ n ih=>simp [krl,ih]
theorem kkm(n:Nat):∀ b,v06 b (n+1)=v06 b n++[b / 2^n%2]:=by
 induction n with
 | zero=>intro b;simp [v06]
 | succ n ih=>
  intro b;show b%2 :: v06 (b / 2) (n+1)=b%2 :: v06 (b / 2) n++_;rw [ih (b / 2),Nat.div_div_eq_div_mul,Nat.pow_succ,Nat.mul_comm 2];rfl
def jq7(s:ByteArray):Nat->Nat->List Nat
 | _,0=>[]
 | i,n+1=>v06 (k0w s i) 8++jq7 s (i+1) n
namespace Tr
def remB(t:Tr):List Nat:=v06 t.cur t.left++jq7 t.s t.inn (t.s.size - t.inn)
structure On1(t:Tr)(l:List Nat):Prop where
 going:t.ended=false
 left:t.left<8
 cur:t.cur<2^t.left
 inn:t.inn<=t.s.size
 rem:remB t=l
theorem On1.bit{t:Tr}{b:Nat}{l:List Nat}(h:On1 t (b :: l)):t.bit.1=b∧On1 t.bit.2 l∧Rd t t.bit.2:=by
 obtain ⟨hg,h1,h2,h3,h4⟩:=h;unfold remB at h4;rcases Nat.eq_zero_or_pos t.left with h0 | h0
 ·rw [h0] at h4;have hlt:t.inn<t.s.size:=by
   apply Classical.byContradiction;intro hn;rw [show t.s.size - t.inn=0 by omega] at h4;simp [v06,jq7] at h4
  have e:t.s.size - t.inn=(t.s.size - (t.inn+1))+1:=by omega
  rw [e] at h4;have h5:k0w t.s t.inn%2 :: (v06 (k0w t.s t.inn / 2) 7++jq7 t.s (t.inn+1) (t.s.size - (t.inn+1)))=b :: l:=h4;injection h5 with h6 h7
  have hl:t.load={ t with inn:=t.inn+1,cur:=k0w t.s t.inn,left:=8 }:=by rw [load_zero h0,octet_some hg hlt]
  have eb:t.bit=(k0w t.s t.inn%2,{ t with inn:=t.inn+1,cur:=k0w t.s t.inn / 2,left:=7 }):=by unfold Tr.bit;rw [hl];rfl
  rw [eb];have hb:=z5g t.s t.inn;exact ⟨h6,⟨hg,by show 7<8;omega,by show k0w t.s t.inn / 2<2^7;omega,hlt,h7⟩,rfl⟩
 ·obtain ⟨r,hr⟩:∃ r,t.left=r+1:=⟨t.left - 1,by omega⟩
  rw [hr] at h4 h2;have h5:t.cur%2 :: (v06 (t.cur / 2) r++jq7 t.s t.inn (t.s.size - t.inn))=b :: l:=h4;injection h5 with h6 h7
  have eb:t.bit=(t.cur%2,{ t with cur:=t.cur / 2,left:=r }):=by unfold Tr.bit;rw [load_pos h0,hr];rfl
  rw [eb];rw [Nat.pow_succ] at h2;exact ⟨h6,⟨hg,by show r<8;omega,by show t.cur / 2<2^r;omega,h3,h7⟩,rfl⟩
theorem On1.number(n:Nat):∀ {t:Tr} {v:Nat} {l:List Nat},On1 t (v06 v n++l)->(t.number n).1=v%2^n∧On1 (t.number n).2 l∧Rd t (t.number n).2:=by
 induction n with
 | zero=>intro t v l h;exact ⟨by simp [Tr.number,Nat.mod_one],h,Rd.refl t⟩
 | succ n ih=>
  intro t v l h;rw [kkm,List.append_assoc] at h;obtain ⟨a1,a2,a3⟩:=ih h;obtain ⟨b1,b2,b3⟩:=a2.bit;refine ⟨?_,b2,a3.trans b3⟩;show (t.number n).1+(t.number n).2.bit.1*2^n=_;rw [a1,b1,Nat.mod_pow_succ,Nat.mul_comm]
end Tr
def yu0(l:List Int)(k:Nat):Nat:=(cdv (fc (cn l)) l k).toNat
theorem ji0(l:List Int){n:Nat}(hn:n<=12):shr (cn l) n<=shr (cn l) 12:=j7p (cn l) (v4o l) hn
theorem vfp{l:List Int}{k n:Nat}(hk:k<l.length)(hn:0<n)(h:l[k]=(n:Int))(hn2:n<=11):(yu0 l k:Int)=fc (cn l) n+cn (l.take k) n:=by
 have h1:=xj2 (nx:=fc (cn l)) hk h hn;unfold yu0;rw [h1];have h2:0<=shr (cn l) n:=by have:=j7p (cn l) (v4o l) (Nat.zero_le n);simpa [shr] using this
 have h3:=y0b (cn l) n hn2;have h4:=v4o (l.take k) n;have h5:0<=fc (cn l) n:=by
  apply Classical.byContradiction;intro hc;have:=Int.mul_neg_of_neg_of_pos (show fc (cn l) n<0 by omega) (Int.pow_pos (n:=2) (m:=11 - n) (by decide));omega
 omega
theorem z8f{l:List Int}{k n:Nat}(hr:inRange l=true)(hs:jwa gw l<=2048)(hk:k<l.length)(hn:0<n)(h:l[k]=(n:Int))(hn2:n<=11):yu0 l k<2^n:=by
 have e:=vfp hk hn h hn2;have h1:=yta hk hn hn2 h;rw [xj2 hk h hn,← e] at h1;have h2:=j50 hk hn h;have h3:=ji0 l (show n+1<=12 by omega);rw [kfr l hr,yky] at h3;have h4:((yu0 l k:Int)+1)*2^(11 - n)<=2^n*2^(11 - n):=by
  rw [Int.add_mul,h1,← Int.pow_add,show n+(11 - n)=11 by omega];have:(2:Int)^11=2048:=by decide
  omega
 have h5:=Int.le_of_mul_le_mul_right h4 (Int.pow_pos (by decide));have h6:((2^n:Nat):Int)=2^n:=by simp
 omega
theorem zrg{l:List Int}{k n j:Nat}(hk:k<l.length)(hn:0<n)(h:l[k]=(n:Int))(hn2:n<=11)(hjn:j<n):fc (cn l) j+cn l j<=((yu0 l k / 2^(n - j):Nat):Int):=by
 have e:=vfp hk hn h hn2;have h1:=yta hk hn hn2 h;rw [xj2 hk h hn,← e] at h1;have h2:=j9x l k n;have h3:=j7p (cn l) (v4o l) (show j+1<=n from hjn);rw [kfa,← y0b (cn l) j (by omega),← Int.add_mul] at h3;have h4:(fc (cn l) j+cn l j)*2^(n - j)*2^(11 - n)<=(yu0 l k:Int)*2^(11 - n):=by
  rw [h1,Int.mul_assoc,← Int.pow_add,show n - j+(11 - n)=11 - j by omega];exact Int.le_trans h3 h2
 have h5:=Int.le_of_mul_le_mul_right h4 (Int.pow_pos (by decide));have h6:((yu0 l k / 2^(n - j):Nat):Int)=(yu0 l k:Int) / 2^(n - j):=by simp
 rw [h6];exact Int.le_ediv_of_mul_le (Int.pow_pos (by decide)) h5
theorem kwg{l:List Int}(hr:inRange l=true)(hs:ky9 l=true){k n:Nat}(hk:k<l.length)(hn:0<n)(h:l[k]=(n:Int)):n=1:=by
 rw [ksm hr,jf2] at hs;have h1:=ynl hk hn h;have h2:=v4o (l.take k) n;have hn12:n<12:=by
  have:=(vto l).1 hr l[k] (List.getElem_mem hk);omega
 have h3:=hs n hn12;apply Classical.byContradiction;intro hne;have:one n=0:=by unfold one;rw [if_neg hne]
 omega
namespace Tr
theorem sym_read{l:List Int}{k n:Nat}(hr:inRange l=true)(hk:k<l.length)(hn:0<n)(h:l[k]=(n:Int))(hn2:n<=11)(m:Nat):∀ (j:Nat) {t:Tr} {r:List Nat},j+(m+1)=n->On1 t (krl (yu0 l k) (m+1)++r)->
  ∃ t',sym (rset l) (11 - j) (j+1) (yu0 l k / 2^(m+1)) t=((k:Int),t')∧On1 t' r∧Rd t t':=by
 induction m with
 | zero=>
  intro j t r hj h1;obtain ⟨b1,b2,b3⟩:=h1.bit;obtain ⟨q,hq⟩:∃ q,11 - j=q+1:=⟨10 - j,by omega⟩
  have hg:t.bit.2.ended=false:=b2.going;have hc:2*(yu0 l k / 2^(0+1))+t.bit.1=yu0 l k:=by rw [b1];simp;omega
  have hf:find (rset l) ((j+1:Nat):Int) ((yu0 l k:Nat):Int)=k:=by
   rw [vfp hk hn h hn2,show j+1=n by omega];exact jux (S:=rset l) hr hk hn h
  rw [hq];unfold Tr.sym;rw [if_neg (by rw [hg];simp),hc];rw [if_pos (by rw [hf];omega),hf];exact ⟨t.bit.2,rfl,b2,b3⟩
 | succ m ih=>
  intro j t r hj h1;obtain ⟨b1,b2,b3⟩:=h1.bit;obtain ⟨q,hq⟩:∃ q,11 - j=q+1:=⟨10 - j,by omega⟩
  have hg:t.bit.2.ended=false:=b2.going;have hc:2*(yu0 l k / 2^(m+1+1))+t.bit.1=yu0 l k / 2^(m+1):=by
   rw [b1,Nat.pow_succ 2 (m+1),← Nat.div_div_eq_div_mul];omega
  have hf:find (rset l) ((j+1:Nat):Int) ((yu0 l k / 2^(m+1):Nat):Int)= -1:=by
   refine zr0 (S:=rset l) hr (by omega) (Or.inr ?_);have:=zrg (j:=j+1) hk hn h hn2 (by omega);rw [show n - (j+1)=m+1 by omega] at this;exact this
  have hone:¬ (rset l).one=true:=fun hs=>by
   have:=kwg hr hs hk hn h;omega
  rw [hq];unfold Tr.sym;rw [if_neg (by rw [hg];simp),hc,if_neg (by rw [hf];decide),if_neg hone];obtain ⟨t',d1,d2,d3⟩:=ih (j+1) (by omega) b2;rw [show 11 - (j+1)=q by omega] at d1;exact ⟨t',d1,d2,b3.trans d3⟩
theorem On1.symbol{l:List Int}{k n:Nat}(hr:inRange l=true)(hs:jwa gw l<=2048)(hk:k<l.length)(hn:0<n)(h:l[k]=(n:Int)){t:Tr}{r:List Nat}(h1:On1 t (krl (yu0 l k) n++r)) :
  ∃ t',t.symbol (rset l)=((k:Int),t')∧On1 t' r∧Rd t t':=by
 have hn2:n<=11:=by
  have:=(vto l).1 hr l[k] (List.getElem_mem hk);omega
 obtain ⟨m,rfl⟩:∃ m,n=m+1:=⟨n - 1,by omega⟩
 have:=sym_read hr hk hn h hn2 m 0 (by omega) h1;rw [Nat.div_eq_of_lt (z8f hr hs hk hn h hn2)] at this;exact this
end Tr
inductive It where
 | byte (b:Nat)
 | copy (n far:Nat)
def kl5(far:Nat):Nat->List Nat->List Nat
 | 0,o=>o
 | n+1,o=>kl5 far n (o++[o.getD (o.length - far) 0])
def grow(o:List Nat):It->List Nat
 | .byte b=>o++[b]
 | .copy n far=>kl5 far n o
def xg4:List Nat->List It->List Nat
 | o,[]=>o
 | o,x :: xs=>xg4 (grow o x) xs
def OkIt(f:Nat)(o:List Nat):It->Prop
 | .byte b=>b<256
 | .copy n far=>3<=n∧n<=66∧1<=far∧far<=256∧far<=o.length - f
def jg0(f:Nat):List Nat->List It->Prop
 | _,[]=>True
 | o,x :: xs=>OkIt f o x∧jg0 f (grow o x) xs
def splF(base n:Nat):Nat->Nat->Nat
 | 0,k=>k
 | f+1,k=>if n<Tr.spanLeast base k+2^Tr.spanBits k then k else splF base n f (k+1)
def splK(base n:Nat):Nat:=splF base n 16 0
theorem jfv(base k:Nat):Tr.spanLeast base (k+1)=Tr.spanLeast base k+2^Tr.spanBits k:=by
 unfold Tr.spanLeast Tr.spanBits;by_cases h:k<3
 ·rw [if_pos (by omega),if_pos (by omega),if_pos (by omega)];simp;omega
 ·by_cases h3:k=3
  ·subst h3;simp
  ·rw [if_neg (by omega),if_neg (by omega),if_neg (by omega)];obtain ⟨m,hm⟩:∃ m,k=2*m∨k=2*m+1:=⟨k / 2,by omega⟩
   rcases hm with rfl | rfl
   ·have e1:(2*m+1 - 2) / 2=m - 1:=by omega
    have e2:(2*m - 2) / 2=m - 1:=by omega
    have e3:(2*m+1)%2=1:=by omega
    have e4:2*m%2=0:=by omega
    rw [e1,e2,e3,e4];omega
   ·have e1:(2*m+1+1 - 2) / 2=(m - 1)+1:=by omega
    have e2:(2*m+1 - 2) / 2=m - 1:=by omega
    have e3:(2*m+1+1)%2=0:=by omega
    have e4:(2*m+1)%2=1:=by omega
    rw [e1,e2,e3,e4,Nat.pow_succ];omega
theorem zvj(base n:Nat)(f:Nat):∀ k,Tr.spanLeast base k<=n->n<Tr.spanLeast base (k+f)->k<=splF base n f k∧splF base n f k<k+f∧Tr.spanLeast base (splF base n f k)<=n∧n<Tr.spanLeast base (splF base n f k)+2^Tr.spanBits (splF base n f k):=by
 induction f with
 | zero=>intro k h1 h2;rw [Nat.add_zero] at h2;omega
 | succ f ih=>
  intro k h1 h2;rw [splF];split
  ·rename_i h;exact ⟨Nat.le_refl _,by omega,h1,h⟩
  ·rename_i h
   have:=ih (k+1) (by rw [jfv];omega) (by rw [show k+1+f=k+(f+1) by omega];exact h2);omega
theorem y1z{n:Nat}(h1:3<=n)(h2:n<=66):splK 3 n<12∧Tr.spanLeast 3 (splK 3 n)<=n∧n - Tr.spanLeast 3 (splK 3 n)<2^Tr.spanBits (splK 3 n):=by
 have h:=zvj 3 n 16 0 h1 (Nat.lt_of_le_of_lt h2 (by decide));have h12:splF 3 n 16 0<12:=by
  apply Classical.byContradiction;intro hc;have hm:∀ d,Tr.spanLeast 3 12<=Tr.spanLeast 3 (12+d):=by
   intro d;induction d with
   | zero=>exact Nat.le_refl _
   | succ d ih=>rw [show 12+(d+1)=(12+d)+1 by omega,jfv 3 (12+d)];exact Nat.le_trans ih (Nat.le_add_right _ _)
  have h3:=hm (splF 3 n 16 0 - 12);rw [show 12+(splF 3 n 16 0 - 12)=splF 3 n 16 0 by omega] at h3;have h4:Tr.spanLeast 3 12=67:=by decide
  omega
 unfold splK;omega
theorem xx4{n:Nat}(h1:1<=n)(h2:n<=256):splK 1 n<16∧Tr.spanLeast 1 (splK 1 n)<=n∧n - Tr.spanLeast 1 (splK 1 n)<2^Tr.spanBits (splK 1 n):=by
 have h:=zvj 1 n 16 0 h1 (Nat.lt_of_le_of_lt h2 (by decide));unfold splK;omega
def symB(l:List Int)(k:Nat):List Nat:=krl (yu0 l k) (l.getD k 0).toNat
def Has(l:List Int)(k:Nat):Prop:=k<l.length∧0<l.getD k 0
def itB(a b:List Int):It->List Nat
 | .byte x=>symB a x
 | .copy n far=>symB a (257+splK 3 n)++(v06 (n - Tr.spanLeast 3 (splK 3 n)) (Tr.spanBits (splK 3 n))++(symB b (splK 1 far)++v06 (far - Tr.spanLeast 1 (splK 1 far)) (Tr.spanBits (splK 1 far))))
def itsB(a b:List Int):List It->List Nat
 | []=>symB a 256
 | x :: xs=>itB a b x++itsB a b xs
def xqf(a b:List Int):It->Prop
 | .byte x=>Has a x
 | .copy n far=>Has a (257+splK 3 n)∧Has b (splK 1 far)
structure Two2(a b:List Int):Prop where
 ra:inRange a=true
 sa:jwa gw a<=2048
 na:a.length<=269
 rb:inRange b=true
 sb:jwa gw b<=2048
 nb:b.length<=16
namespace Tr
theorem On1.sym{l:List Int}{k:Nat}(hr:inRange l=true)(hs:jwa gw l<=2048)(h:Has l k){t:Tr}{r:List Nat}(h1:On1 t (symB l k++r)):∃ t',t.symbol (rset l)=((k:Int),t')∧On1 t' r∧Rd t t':=by
 obtain ⟨hk,hp⟩:=h;have e:l.getD k 0=l[k]:=by simp [hk]
 unfold symB at h1;rw [e] at h1 hp;exact On1.symbol hr hs hk (n:=l[k].toNat) (by omega) (by omega) h1
structure Same(t t':Tr):Prop where
 s:t'.s=t.s
 starts:t'.starts=t.starts
 frm:t'.frm=t.frm
 limit:t'.limit=t.limit
theorem Same.refl(t:Tr):Same t t:=⟨rfl,rfl,rfl,rfl⟩
theorem Same.trans{a b c:Tr}(h:Same a b)(k:Same b c):Same a c:=⟨k.s.trans h.s,k.starts.trans h.starts,k.frm.trans h.frm,k.limit.trans h.limit⟩
theorem Rd.same{a b:Tr}(h:Rd a b):Same a b:=⟨h.near.s,h.near.starts,h.near.frm,h.near.limit⟩
theorem On1.put{t:Tr}{l:List Nat}(h:On1 t l)(b:Nat):On1 (t.put b) l∧Same t (t.put b)∧(t.put b).out=t.out++[b]:=by
 rw [put_going h.going];exact ⟨⟨h.going,h.left,h.cur,h.inn,h.rem⟩,⟨rfl,rfl,rfl,rfl⟩,rfl⟩
theorem On1.copyN(far n:Nat):∀ {t:Tr} {l:List Nat},On1 t l->On1 (Tr.copyN far n t) l∧Same t (Tr.copyN far n t)∧(Tr.copyN far n t).out=kl5 far n t.out:=by
 induction n with
 | zero=>intro t l h;exact ⟨h,Same.refl t,rfl⟩
 | succ n ih=>
  intro t l h;unfold Tr.copyN;rw [if_neg (by rw [h.going];simp)];obtain ⟨a1,a2,a3⟩:=h.put (t.out.getD (t.out.length - far) 0);obtain ⟨b1,b2,b3⟩:=ih a1;refine ⟨b1,a2.trans b2,?_⟩;rw [b3,a3];rfl
end Tr
theorem z77{l:List Int}{k:Nat}(h:Has l k):jwa (fun _=>1) l≠0:=by
 intro h0;obtain ⟨hk,hp⟩:=h;have e:l.getD k 0=l[k]:=by simp [hk]
 rw [e] at hp;have h1:=ynl hk (n:=l[k].toNat) (by omega) (by omega);rw [yzd l _ (by omega),v6y l h0] at h1;have:=v4o (l.take k) l[k].toNat;omega
namespace Tr
theorem On1.copies{a b:List Int}(T:Two2 a b){n far:Nat}{t:Tr}{r:List Nat}(hok:OkIt t.frm t.out (.copy n far))(hb:Has b (splK 1 far))
  (h:On1 t (v06 (n - Tr.spanLeast 3 (splK 3 n)) (Tr.spanBits (splK 3 n))++(symB b (splK 1 far)++(v06 (far - Tr.spanLeast 1 (splK 1 far)) (Tr.spanBits (splK 1 far))++r)))) :
  On1 (t.copies (rset b) (splK 3 n)) r∧Same t (t.copies (rset b) (splK 3 n))∧(t.copies (rset b) (splK 3 n)).out=kl5 far n t.out:=by
 obtain ⟨o1,o2,o3,o4,o5⟩:=hok;obtain ⟨s1,s2,s3⟩:=y1z o1 o2;obtain ⟨d1,d2,d3⟩:=xx4 o3 o4;generalize splK 3 n=k at *;generalize splK 1 far=q at *;obtain ⟨n1,n2,n3⟩:=On1.number _ h;rw [Nat.mod_eq_of_lt s3] at n1;obtain ⟨t',y1,y2,y3⟩:=n2.sym T.rb T.sb hb;obtain ⟨m1,m2,m3⟩:=On1.number _ y2;rw [Nat.mod_eq_of_lt d3] at m1;have N:=(n3.trans y3).trans m3;have e:t.copies (rset b) k=Tr.copyN far n (t'.number (Tr.spanBits q)).2:=by
  unfold Tr.copies;simp only;rw [if_neg (show ¬ (rset b).many=0 from z77 hb),y1];simp only;rw [if_neg (by omega)];simp only [Int.toNat_natCast];rw [m1,n1,show Tr.spanLeast 1 q+(far - Tr.spanLeast 1 q)=far by omega,show Tr.spanLeast 3 k+(n - Tr.spanLeast 3 k)=n by omega,N.near.out,N.near.frm,if_neg (by omega)]
 rw [e];obtain ⟨c1,c2,c3⟩:=m2.copyN far n;exact ⟨c1,N.same.trans c2,by rw [c3,N.near.out]⟩
theorem On1.content{a b:List Int}(T:Two2 a b)(h256:Has a 256)(items:List It):∀ {t:Tr} {r:List Nat},On1 t (itsB a b items++r)->jg0 t.frm t.out items->(∀ x∈items,xqf a b x)->
  On1 (Tr.content (rset a) (rset b) t) r∧Same t (Tr.content (rset a) (rset b) t)∧(Tr.content (rset a) (rset b) t).out=xg4 t.out items:=by
 induction items with
 | nil=>
  intro t r h _ _;obtain ⟨t',y1,y2,y3⟩:=On1.sym T.ra T.sa h256 h;rw [content_stop h.going (Or.inr (by rw [y1];rfl)),y1];exact ⟨y2,y3.same,y3.near.out⟩
 | cons x xs ih=>
  intro t r h hok hh;have hx:=hh x (by simp);have hxs:=fun y hy=>hh y (List.mem_cons_of_mem x hy)
  cases x with
  | byte c=>
   have hc:c<256:=hok.1;have h':On1 t (symB a c++(itsB a b xs++r)):=by rw [← List.append_assoc];exact h
   obtain ⟨t',y1,y2,y3⟩:=On1.sym T.ra T.sa hx h';obtain ⟨p1,p2,p3⟩:=y2.put c;have e:t.contentStep (rset a) (rset b)=t'.put c:=by
    unfold Tr.contentStep;rw [y1,if_pos (by show (c:Int)<256;omega)];show t'.put ((c:Int)%256).toNat=_;rw [show ((c:Int)%256).toNat=c by omega]
   rw [content_go (a:=rset a) (by exact T.na) h.going (by rw [y1];exact y2.going) (by rw [y1];show (c:Int)≠256;omega),e];have hok2:jg0 (t'.put c).frm (t'.put c).out xs:=by rw [p2.frm,p3,y3.near.frm,y3.near.out];exact hok.2
   obtain ⟨z1,z2,z3⟩:=ih p1 hok2 hxs;exact ⟨z1,(y3.same.trans p2).trans z2,by rw [z3,p3,y3.near.out];rfl⟩
  | copy n far=>
   obtain ⟨hx1,hx2⟩:=hx;have hok1:=hok.1;have hn:=y1z hok1.1 hok1.2.1;have h':On1 t (symB a (257+splK 3 n)++(v06 (n - Tr.spanLeast 3 (splK 3 n)) (Tr.spanBits (splK 3 n))++(symB b (splK 1 far)++(v06 (far - Tr.spanLeast 1 (splK 1 far)) (Tr.spanBits (splK 1 far))++(itsB a b xs++r))))):=by
    have e:itsB a b (.copy n far :: xs)++r=symB a (257+splK 3 n)++(v06 (n - Tr.spanLeast 3 (splK 3 n)) (Tr.spanBits (splK 3 n))++(symB b (splK 1 far)++(v06 (far - Tr.spanLeast 1 (splK 1 far)) (Tr.spanBits (splK 1 far))++(itsB a b xs++r)))):=by
     simp only [itsB,itB,List.append_assoc]
    rw [← e];exact h
   obtain ⟨t',y1,y2,y3⟩:=On1.sym T.ra T.sa hx1 h';have hok2:OkIt t'.frm t'.out (.copy n far):=by rw [y3.near.frm,y3.near.out];exact hok1
   obtain ⟨p1,p2,p3⟩:=y2.copies T hok2 hx2;have e:t.contentStep (rset a) (rset b)=t'.copies (rset b) (splK 3 n):=by
    unfold Tr.contentStep;rw [y1,if_neg (by show ¬ ((257+splK 3 n:Nat):Int)<256;omega)];show t'.copies (rset b) (((257+splK 3 n:Nat):Int) - 257).toNat=_;rw [show (((257+splK 3 n:Nat):Int) - 257).toNat=splK 3 n by omega]
   rw [content_go (a:=rset a) (by exact T.na) h.going (by rw [y1];exact y2.going) (by rw [y1];show ((257+splK 3 n:Nat):Int)≠256;omega),e];have hok3:jg0 (t'.copies (rset b) (splK 3 n)).frm (t'.copies (rset b) (splK 3 n)).out xs:=by rw [p2.frm,p3,y3.near.frm,y3.near.out];exact hok.2
   obtain ⟨z1,z2,z3⟩:=ih p1 hok3 hxs;exact ⟨z1,(y3.same.trans p2).trans z2,by rw [z3,p3,y3.near.out];rfl⟩
end Tr
def xg3:List Int:=[3,4,4,4,4,4,4,4,4,4,4,4,4,4,4]
def vsh:List Nat:=[4,4,4,3,4,4,4,4,4,4,4,4,4,4,4]
theorem y5q:inRange xg3=true∧jwa gw xg3=2048∧xg3.length=15∧xhc (vsh.map fun (n:Nat)=>(n:Int)) 0 (List.replicate 15 0)=xg3∧vsh.length=15:=by decide
theorem kav{k:Nat}(h:k<15):Has xg3 k:=by
 have:k=0∨k=1∨k=2∨k=3∨k=4∨k=5∨k=6∨k=7∨k=8∨k=9∨k=10∨k=11∨k=12∨k=13∨k=14:=by omega
 rcases this with rfl | rfl | rfl | rfl | rfl | rfl | rfl | rfl | rfl | rfl | rfl | rfl | rfl | rfl | rfl <;> exact ⟨by decide,by decide⟩
def xbm(l:List Int)(i:Nat):Nat->Nat->Nat
 | 0,n=>n
 | f+1,n=>if i+n<l.length∧l.getD (i+n) 0=l.getD i 0 then xbm l i f (n+1) else n
def kmg(l:List Int)(i:Nat):Nat:=xbm l i l.length 1
theorem x1m(l:List Int)(i:Nat)(f:Nat):∀ n,(∀ j,j<n->l.getD (i+j) 0=l.getD i 0)->i+n<=l.length->n<=xbm l i f n∧(∀ j,j<xbm l i f n->l.getD (i+j) 0=l.getD i 0)∧i+xbm l i f n<=l.length:=by
 induction f with
 | zero=>intro n h1 h2;exact ⟨Nat.le_refl _,h1,h2⟩
 | succ f ih=>
  intro n h1 h2;rw [xbm];split
  ·rename_i h
   have:=ih (n+1) (fun j hj=>by
    by_cases e:j=n
    ·subst e;exact h.2
    ·exact h1 j (by omega)) (by omega)
   exact ⟨by omega,this.2⟩
  ·exact ⟨Nat.le_refl _,h1,h2⟩
theorem x66{l:List Int}{i:Nat}(h:i<l.length):1<=kmg l i∧(∀ j,j<kmg l i->l.getD (i+j) 0=l.getD i 0)∧i+kmg l i<=l.length:=
 x1m l i l.length 1 (fun j hj=>by rw [show j=0 by omega];rfl) (by omega)
def rowB(runs:Bool)(l:List Int):Nat->Nat->List Nat
 | 0,_=>[]
 | f+1,i=>
  if i<l.length then
   if runs=true∧l.getD i 0=0∧11<=kmg l i then symB xg3 14++(v06 (min (kmg l i) 74 - 11) 6++rowB runs l f (i+min (kmg l i) 74))
   else if runs=true∧l.getD i 0=0∧3<=kmg l i then symB xg3 13++(v06 (kmg l i - 3) 3++rowB runs l f (i+kmg l i))
   else if runs=true∧0<i∧l.getD i 0=l.getD (i - 1) 0∧3<=kmg l i then symB xg3 12++(v06 (min (kmg l i) 6 - 3) 2++rowB runs l f (i+min (kmg l i) 6))
   else symB xg3 (l.getD i 0).toNat++rowB runs l f (i+1)
  else []
theorem yef{l:List Int}{i m:Nat}{x:Int}(h:∀ j,j<m->l.getD (i+j) 0=x)(hm:i+m<=l.length):l.take i++List.replicate m x=l.take (i+m):=by
 induction m with
 | zero=>simp
 | succ m ih=>
  have h1:=ih (fun j hj=>h j (by omega)) (by omega);have h2:=h m (by omega);have hl:i+m<l.length:=by omega
  rw [show i+(m+1)=i+m+1 by omega,List.take_succ_eq_append_getElem hl,List.replicate_succ',← List.append_assoc,h1];congr 2
  simp [hl] at h2;exact h2.symm
namespace Tr
theorem row_more{H:RSet}{N k:Nat}{l:List Int}{t t':Tr}(hl:l.length<N)(hg:t.ended=false)(hs:t.symbol H=((k:Int),t'))(x:Int)(m:Nat)(u:Tr)(hh:helped t' k l=(x,m,u))(hu:u.ended=false)(hm:l.length+m<=N) :
  row H N l t=row H N (l++List.replicate m x) u:=by
 rw [row_go hl hg,rowStep_eq,hs];simp only;rw [hh];have e:rowT N l.length (x,m,u)=u:=by unfold rowT;rw [if_neg (by show ¬ N<l.length+m;omega)]
 rw [e,if_neg (by rw [hu];simp)]
theorem On1.row(runs:Bool){l:List Int}(hl:∀ x∈l,0<=x∧x<=11)(f:Nat):∀ (i:Nat) {t:Tr} {r:List Nat},i<=l.length->l.length - i<=f->On1 t (rowB runs l f i++r)->
  ∃ t',Tr.row (rset xg3) l.length (l.take i) t=(l,t')∧On1 t' r∧Rd t t':=by
 obtain ⟨hr,hs,hlen,_⟩:=y5q;induction f with
 | zero=>
  intro i t r h1 h2 h3;have:i=l.length:=by omega
  subst this;rw [row_stop (by simp),List.take_length];exact ⟨t,rfl,h3,Rd.refl t⟩
 | succ f ih=>
  intro i t r h1 h2 h3;rw [rowB] at h3;by_cases hi:i<l.length
  ·rw [if_pos hi] at h3;obtain ⟨a1,a2,a3⟩:=x66 hi;have htl:(l.take i).length=i:=by rw [List.length_take];omega
   have hmem:l.getD i 0∈l:=by simp [hi]
   have hx:=hl _ hmem;split at h3
   ·rename_i hc
    rw [List.append_assoc,List.append_assoc] at h3;obtain ⟨t',y1,y2,y3⟩:=On1.sym hr (by omega) (kav (k:=14) (by omega)) h3;obtain ⟨n1,n2,n3⟩:=On1.number _ y2;rw [Nat.mod_eq_of_lt (by show min (kmg l i) 74 - 11<64;omega)] at n1;have hh:helped t' (14:Nat) (l.take i)=(0,min (kmg l i) 74,(t'.number 6).2):=by
     show ((0:Int),11+(t'.number 6).1,(t'.number 6).2)=_;rw [n1,show 11+(min (kmg l i) 74 - 11)=min (kmg l i) 74 by omega]
    rw [row_more (k:=14) (by omega) h3.going y1 _ _ _ hh n2.going (by omega),yef (fun j hj=>by rw [a2 j (by omega)];exact hc.2.1) (by omega)];obtain ⟨t2,z1,z2,z3⟩:=ih (i+min (kmg l i) 74) (by omega) (by omega) n2;exact ⟨t2,z1,z2,(y3.trans n3).trans z3⟩
   ·split at h3
    ·rename_i hc0 hc
     rw [List.append_assoc,List.append_assoc] at h3;have hlt:kmg l i<11:=by
      apply Classical.byContradiction;intro hn;exact hc0 ⟨hc.1,hc.2.1,by omega⟩
     obtain ⟨t',y1,y2,y3⟩:=On1.sym hr (by omega) (kav (k:=13) (by omega)) h3;obtain ⟨n1,n2,n3⟩:=On1.number _ y2;rw [Nat.mod_eq_of_lt (by show kmg l i - 3<8;omega)] at n1;have hh:helped t' (13:Nat) (l.take i)=(0,kmg l i,(t'.number 3).2):=by
      show ((0:Int),3+(t'.number 3).1,(t'.number 3).2)=_;rw [n1,show 3+(kmg l i - 3)=kmg l i by omega]
     rw [row_more (k:=13) (by omega) h3.going y1 _ _ _ hh n2.going (by omega),yef (fun j hj=>by rw [a2 j (by omega)];exact hc.2.1) (by omega)];obtain ⟨t2,z1,z2,z3⟩:=ih (i+kmg l i) (by omega) (by omega) n2;exact ⟨t2,z1,z2,(y3.trans n3).trans z3⟩
    ·split at h3
     ·rename_i hc
      rw [List.append_assoc,List.append_assoc] at h3;obtain ⟨t',y1,y2,y3⟩:=On1.sym hr (by omega) (kav (k:=12) (by omega)) h3;obtain ⟨n1,n2,n3⟩:=On1.number _ y2;rw [Nat.mod_eq_of_lt (by show min (kmg l i) 6 - 3<4;omega)] at n1;have hlast:(l.take i).getD ((l.take i).length - 1) 0=l.getD i 0:=by
       rw [htl,hc.2.2.1];simp [List.getD_eq_getElem?_getD,show i - 1<i by omega]
      have hh:helped t' (12:Nat) (l.take i)=(l.getD i 0,min (kmg l i) 6,(t'.number 2).2):=by
       show ((if (l.take i).length=0 then (0:Int) else (l.take i).getD ((l.take i).length - 1) 0),3+(t'.number 2).1,if (l.take i).length=0 then (t'.number 2).2.fail 10 else (t'.number 2).2)=_;rw [if_neg (by omega),if_neg (by omega),hlast,n1,show 3+(min (kmg l i) 6 - 3)=min (kmg l i) 6 by omega]
      rw [row_more (k:=12) (by omega) h3.going y1 _ _ _ hh n2.going (by omega),yef (fun j hj=>a2 j (by omega)) (by omega)];obtain ⟨t2,z1,z2,z3⟩:=ih (i+min (kmg l i) 6) (by omega) (by omega) n2;exact ⟨t2,z1,z2,(y3.trans n3).trans z3⟩
     ·rw [List.append_assoc] at h3;obtain ⟨t',y1,y2,y3⟩:=On1.sym hr (by omega) (kav (k:=(l.getD i 0).toNat) (by omega)) h3;have hh:helped t' ((l.getD i 0).toNat:Nat) (l.take i)=(l.getD i 0,1,t'):=by
       unfold helped;rw [if_neg (by omega),if_neg (by omega),if_neg (by omega),Int.toNat_of_nonneg hx.1]
      rw [row_more (k:=(l.getD i 0).toNat) (by omega) h3.going y1 _ _ _ hh y2.going (by omega),yef (fun j hj=>by rw [show j=0 by omega];rfl) (by omega)];obtain ⟨t2,z1,z2,z3⟩:=ih (i+1) (by omega) (by omega) y2;exact ⟨t2,z1,z2,y3.trans z3⟩
  ·rw [if_neg hi] at h3;have:i=l.length:=by omega
   subst this;rw [row_stop (by simp),List.take_length];exact ⟨t,rfl,h3,Rd.refl t⟩
theorem On1.helps:∀ (vs:List Nat) (i:Nat) (L:List Int) {t:Tr} {r:List Nat},(∀ x∈vs,x<8)->On1 t (vs.flatMap (fun v=>v06 v 3)++r)->
  ∃ t',Tr.helps vs.length i L t=(xhc (vs.map fun (n:Nat)=>(n:Int)) i L,t')∧On1 t' r∧Rd t t'
 | [],_,_,t,_,_,h=>⟨t,rfl,h,Rd.refl t⟩
 | v :: vs,i,L,t,r,hv,h=>by
  have h':On1 t (v06 v 3++(vs.flatMap (fun v=>v06 v 3)++r)):=by
   rw [← List.append_assoc];exact h
  obtain ⟨n1,n2,n3⟩:=On1.number _ h';rw [Nat.mod_eq_of_lt (by have:=hv v (by simp);omega)] at n1;obtain ⟨t',z1,z2,z3⟩:=On1.helps vs (i+1) (L.set (order.getD i 0) (t.number 3).1) (fun x hx=>hv x (by simp [hx])) n2;refine ⟨t',?_,z2,n3.trans z3⟩;show (if t.ended then (L,t) else Tr.helps vs.length (i+1) (L.set (order.getD i 0) (t.number 3).1) (t.number 3).2)=_;rw [if_neg (by rw [h.going];simp),z1,n1];rfl
end Tr
def ownB(runs:Bool)(a b:List Int):List Nat:=v06 12 4++(v06 15 4++(v06 11 4++(vsh.flatMap (fun v=>v06 v 3)++rowB runs (a++b) 285 0)))
namespace Tr
theorem On1.own{runs:Bool}{a b:List Int}(ha:a.length=269)(hb:b.length=16)(ra:inRange a=true)(rb:inRange b=true)(hbad:¬ jcj a b){t:Tr}{r:List Nat}(h:On1 t (ownB runs a b++r)) :
  ∃ t',t.own=(rset a,rset b,t')∧On1 t' r∧Rd t t':=by
 obtain ⟨_,hH,_,hpl,hvl⟩:=y5q;have e0:ownB runs a b++r=v06 12 4++(v06 15 4++(v06 11 4++(vsh.flatMap (fun v=>v06 v 3)++(rowB runs (a++b) 285 0++r)))):=by
  unfold ownB;simp only [List.append_assoc]
 rw [e0] at h;obtain ⟨n1,n2,n3⟩:=On1.number _ h;obtain ⟨m1,m2,m3⟩:=On1.number _ n2;obtain ⟨q1,q2,q3⟩:=On1.number _ m2;have hv8:∀ x∈vsh,x<8:=by decide
 obtain ⟨t4,z1,z2,z3⟩:=On1.helps vsh 0 (List.replicate 15 0) hv8 q2;rw [hvl,hpl] at z1;have hal:(a++b).length=285:=by rw [List.length_append];omega
 have hall:∀ x∈a++b,0<=x∧x<=11:=fun x hx=>by
  rcases List.mem_append.1 hx with hx | hx
  ·exact (vto a).1 ra x hx
  ·exact (vto b).1 rb x hx
 obtain ⟨t5,w1,w2,w3⟩:=On1.row runs hall 285 0 (Nat.zero_le _) (by omega) z2;rw [hal] at w1;refine ⟨t5,?_,w2,((((n3.trans m3).trans q3).trans z3).trans w3)⟩;rw [own_own0];have e12:(12:Nat)%2^4=12:=by decide
 have e15:(15:Nat)%2^4=15:=by decide
 have e11:(11:Nat)%2^4=11:=by decide
 unfold own0;rw [n1,e12,if_neg (by decide)];unfold own1;rw [m1,e15];unfold own2;rw [q1,e11,if_neg (by decide)];unfold own3;rw [show 4+11=15 from rfl,z1];unfold helpEnd;simp only [if_pos hH];rw [if_neg (by rw [z2.going];simp)];have e285:257+12+(1+15)=285:=rfl;rw [e285];have w1':Tr.row (rset xg3) 285 [] t4=(a++b,t5):=w1;rw [w1'];unfold rowEnd;simp only;rw [if_neg (by rw [w2.going];simp),show 257+12=a.length by omega,List.take_left,List.drop_left,if_neg hbad]
end Tr
inductive Pt where
 | plain (s:List Nat)
 | fixed (items:List It)
 | own (runs:Bool) (a b:List Int) (items:List It)
def xpo(n:Nat):List Nat:=List.replicate n 0
def padN(pos:Nat):Nat:=(8 - pos%8)%8
def octB(l:List Nat):List Nat:=l.flatMap fun b=>v06 b 8
def yj0(s:List Nat):List Nat:=octB [s.length%256,s.length / 256,(65535 - s.length)%256,(65535 - s.length) / 256]++octB s
def vu4(pos:Nat):Pt->List Nat
 | .plain s=>xpo (padN (pos+3))++yj0 s
 | .fixed items=>itsB Tr.fixedA Tr.fixedB items
 | .own runs a b items=>ownB runs a b++itsB a b items
def ydd:Pt->Nat
 | .plain _=>0
 | .fixed _=>1
 | .own _ _ _ _=>2
theorem x6w(p:Pt):ydd p<2^2:=by
 cases p with
 | plain s=>exact (by decide:(0:Nat)<4)
 | fixed l=>exact (by decide:(1:Nat)<4)
 | own r a b l=>exact (by decide:(2:Nat)<4)
def blkB(pos:Nat)(last:Nat)(p:Pt):List Nat:=last :: (v06 (ydd p) 2++vu4 pos p)
def vs5:Nat->List Pt->List Nat
 | _,[]=>[]
 | pos,[p]=>blkB pos 1 p++xpo (padN (pos+(blkB pos 1 p).length))
 | pos,p :: q :: ps=>blkB pos 0 p++vs5 (pos+(blkB pos 0 p).length) (q :: ps)
def yfa(o:List Nat):Pt->List Nat
 | .plain s=>o++s
 | .fixed items=>xg4 o items
 | .own _ _ _ items=>xg4 o items
def xcr:List Nat->List Pt->List Nat
 | o,[]=>o
 | o,p :: ps=>xcr (yfa o p) ps
def OkP(f:Nat)(o:List Nat):Pt->Prop
 | .plain s=>s.length<=65535∧∀ x∈s,x<256
 | .fixed items=>jg0 f o items
 | .own _ a b items=>a.length=269∧b.length=16∧inRange a=true∧inRange b=true∧¬ jcj a b∧jg0 f o items∧∀ x∈items,xqf a b x
def OkPs(f:Nat):List Nat->List Pt->Prop
 | _,[]=>True
 | o,p :: ps=>OkP f o p∧OkPs f (yfa o p) ps
theorem zxg(s:ByteArray)(n:Nat):∀ i,(jq7 s i n).length=8*n:=by
 induction n with
 | zero=>intro i;rfl
 | succ n ih=>
  intro i;show (v06 (k0w s i) 8++jq7 s (i+1) n).length=_;rw [List.length_append,vxm,ih];omega
theorem yez(n:Nat):∀ {a b:Nat},a<2^n->b<2^n->v06 a n=v06 b n->a=b:=by
 induction n with
 | zero=>intro a b h1 h2 _;simp at h1 h2;omega
 | succ n ih=>
  intro a b h1 h2 h;rw [Nat.pow_succ] at h1 h2;have h3:a%2 :: v06 (a / 2) n=b%2 :: v06 (b / 2) n:=h;injection h3 with h4 h5
  have:=ih (a:=a / 2) (b:=b / 2) (by omega) (by omega) h5;omega
theorem xhi(n:Nat):v06 0 n=xpo n:=by
 induction n with
 | zero=>rfl
 | succ n ih=>
  show 0%2 :: v06 (0 / 2) n=_;rw [show (0:Nat) / 2=0 from rfl,ih];rfl
namespace Tr
theorem On1.len{t:Tr}{l:List Nat}(h:On1 t l):l.length=t.left+8*(t.s.size - t.inn):=by
 rw [← h.rem];unfold remB;rw [List.length_append,vxm,zxg]
theorem On1.left_eq{t:Tr}{l:List Nat}(h:On1 t l):t.left=l.length%8:=by
 have h1:=h.len;have h2:=h.left;omega
theorem On1.skip{t:Tr}{z:Nat}{r:List Nat}(h:On1 t (xpo z++r))(hz:z<8)(hr:r.length%8=0):On1 t.skip r∧t.skip.left=0∧Rd t t.skip:=by
 have hl:=h.left_eq;rw [List.length_append,show (xpo z).length=z by simp [xpo]] at hl;have hz2:t.left=z:=by omega
 have h1:=h.rem;unfold remB at h1;rw [hz2] at h1;obtain ⟨h2,h3⟩:=List.append_inj h1 (by rw [vxm];simp [xpo]);rw [← xhi] at h2;have hc:t.cur=0:=yez z (by rw [← hz2];exact h.cur) (Nat.pow_pos (by decide)) h2;have e:t.skip={ t with left:=0 }:=by unfold Tr.skip;rw [if_neg (by rw [hc];simp)]
 rw [e];exact ⟨⟨h.going,by show 0<8;omega,by show t.cur<2^0;rw [hc];decide,h.inn,h3⟩,rfl,rfl⟩
theorem On1.octet{t:Tr}{b:Nat}{r:List Nat}(h:On1 t (v06 b 8++r))(h0:t.left=0)(hb:b<256):t.octet.1=b∧On1 t.octet.2 r∧t.octet.2.left=0∧Rd t t.octet.2:=by
 have hlen:=h.len;rw [List.length_append,vxm,h0] at hlen;have hlt:t.inn<t.s.size:=by omega
 have h1:=h.rem;unfold remB at h1;rw [h0,show t.s.size - t.inn=(t.s.size - (t.inn+1))+1 by omega] at h1;have h2:v06 (k0w t.s t.inn) 8++jq7 t.s (t.inn+1) (t.s.size - (t.inn+1))=v06 b 8++r:=h1;obtain ⟨h3,h4⟩:=List.append_inj h2 (by rw [vxm,vxm]);have h5:k0w t.s t.inn=b:=yez 8 (z5g _ _) hb h3;have hc:=h.cur;rw [h0] at hc;rw [octet_some h.going hlt,h5];refine ⟨rfl,⟨h.going,by show t.left<8;omega,by show t.cur<2^t.left;rw [h0];exact hc,hlt,?_⟩,h0,rfl⟩;show v06 t.cur t.left++_=_;rw [h0];exact h4
theorem On1.bytes:∀ (l:List Nat) {t:Tr} {r:List Nat},On1 t (octB l++r)->t.left=0->(∀ x∈l,x<256)->On1 (Tr.bytes l.length t) r∧(Tr.bytes l.length t).left=0∧Same t (Tr.bytes l.length t)∧(Tr.bytes l.length t).out=t.out++l
 | [],t,_,h,h0,_=>⟨h,h0,Same.refl t,by simp [Tr.bytes]⟩
 | x :: xs,t,r,h,h0,hx=>by
  have h':On1 t (v06 x 8++(octB xs++r)):=by rw [← List.append_assoc];exact h
  obtain ⟨a1,a2,a3,a4⟩:=h'.octet h0 (hx x (by simp));obtain ⟨b1,b2,b3⟩:=a2.put x;have hl:(t.octet.2.put x).left=0:=by rw [put_going a2.going];exact a3
  obtain ⟨c1,c2,c3,c4⟩:=On1.bytes xs b1 hl (fun y hy=>hx y (by simp [hy]));have e:Tr.bytes (x :: xs).length t=Tr.bytes xs.length (t.octet.2.put x):=by
   show (if t.ended then t else Tr.bytes xs.length (t.octet.2.put t.octet.1))=_;rw [if_neg (by rw [h.going];simp),a1]
  rw [e];exact ⟨c1,c2,(a4.same.trans b2).trans c3,by rw [c4,b3,a4.near.out];simp⟩
theorem octB_len(l:List Nat):(octB l).length=8*l.length:=by
 induction l with
 | nil=>rfl
 | cons x xs ih=>
  show (v06 x 8++octB xs).length=_;rw [List.length_append,vxm,ih];simp;omega
theorem On1.plain{s:List Nat}{z:Nat}{t:Tr}{r:List Nat}(h:On1 t (xpo z++(yj0 s++r)))(hz:z<8)(hr:r.length%8=0)(hs:s.length<=65535)(hb:∀ x∈s,x<256):On1 t.plain r∧Same t t.plain∧t.plain.out=t.out++s:=by
 have hl:(yj0 s++r).length%8=0:=by
  unfold yj0;rw [List.length_append,List.length_append,octB_len,octB_len];omega
 obtain ⟨k1,k2,k3⟩:=h.skip hz hl;have e0:yj0 s++r=v06 (s.length%256) 8++(v06 (s.length / 256) 8++(v06 ((65535 - s.length)%256) 8++(v06 ((65535 - s.length) / 256) 8++(octB s++r)))):=by
  unfold yj0;simp [octB,List.append_assoc]
 rw [e0] at k1;obtain ⟨a1,a2,a3,a4⟩:=k1.octet k2 (by omega);obtain ⟨b1,b2,b3,b4⟩:=a2.octet a3 (by omega);obtain ⟨c1,c2,c3,c4⟩:=b2.octet b3 (by omega);obtain ⟨d1,d2,d3,d4⟩:=c2.octet c3 (by omega);have hp:t.skip.plainRest=(s.length,t.skip.octet.2.octet.2.octet.2.octet.2):=by
  unfold plainRest;simp only;rw [a1,b1,c1,d1,show s.length%256+256*(s.length / 256)=s.length by omega,if_pos (by omega)]
 rw [plain_rest,hp];obtain ⟨f1,f2,f3,f4⟩:=On1.bytes s d2 d3 hb;have N:=(((k3.trans a4).trans b4).trans c4).trans d4;exact ⟨f1,N.same.trans f3,by rw [f4,N.near.out]⟩
end Tr
theorem vrw:Two2 Tr.fixedA Tr.fixedB:=by
 obtain ⟨f1,f2,f3,f4,f5,f6⟩:=St.fixed_sets;exact ⟨f1,by omega,by omega,f4,by omega,by omega⟩
theorem vsn{k:Nat}(h:k<269):Has Tr.fixedA k:=by
 refine ⟨by rw [St.fixed_sets.2.2.1];exact h,?_⟩;have e:Tr.fixedA.getD k 0=if k<243 then 8 else 9:=by
  unfold Tr.fixedA;rw [List.getD_eq_getElem?_getD,List.getElem?_append];simp only [List.length_replicate,List.getElem?_replicate];split
  ·simp
  ·rw [if_pos (by omega)];simp
 rw [e];split <;> decide
theorem jxz{k:Nat}(h:k<16):Has Tr.fixedB k:=by
 refine ⟨by rw [St.fixed_sets.2.2.2.2.2];exact h,?_⟩;unfold Tr.fixedB;rw [List.getD_eq_getElem?_getD,List.getElem?_replicate,if_pos h];decide
theorem kpt{f:Nat}{o:List Nat}{x:It}(h:OkIt f o x):xqf Tr.fixedA Tr.fixedB x:=by
 cases x with
 | byte b=>exact vsn (by have:b<256:=h;omega)
 | copy n far=>
  obtain ⟨h1,h2,h3,h4,_⟩:=h;exact ⟨vsn (by have:=(y1z h1 h2).1;omega),jxz (xx4 h3 h4).1⟩
theorem xdw{f:Nat}:∀ {o:List Nat} {l:List It},jg0 f o l->∀ x∈l,xqf Tr.fixedA Tr.fixedB x
 | _,[],_,x,hx=>by cases hx
 | o,y :: ys,h,x,hx=>by
  rcases List.mem_cons.1 hx with e | e
  ·subst e;exact kpt h.1
  ·exact xdw h.2 x e
theorem xl7{a b:List Int}(ha:a.length=269)(hb:b.length=16)(ra:inRange a=true)(rb:inRange b=true)(hbad:¬ jcj a b):Two2 a b∧Has a 256:=by
 unfold jcj at hbad;have h1:a.getD 256 0≠0:=fun e=>hbad (Or.inl e)
 have h2:jwa gw a=2048:=Classical.byContradiction fun hn=>hbad (Or.inr (Or.inl hn))
 have h0:=(vtl (fun _=>1) 1 (fun _=>⟨by decide,by decide⟩) (by decide) b).1;have h3:jwa gw b<=2048:=by
  by_cases e:jwa gw b=2048
  ·omega
  ·cases hs:ky9 b
   ·have:¬ 0<jwa (fun _=>1) b:=fun hp=>hbad (Or.inr (Or.inr ⟨e,hs,hp⟩))
    rw [v6y b (by omega)];decide
   ·unfold ky9 at hs;simp at hs;omega
 refine ⟨⟨ra,by omega,by omega,rb,h3,by omega⟩,⟨by omega,?_⟩⟩;have:a.getD 256 0∈a:=by
  have hl:256<a.length:=by omega
  simp [hl]
 have:=(vto a).1 ra _ this;omega
namespace Tr
theorem On1.block{pos:Nat}{p:Pt}{t:Tr}{r:List Nat}(h:On1 t (vu4 pos p++r))(hr:(pos+3+(vu4 pos p).length+r.length)%8=0)(hok:OkP t.frm t.out p):On1 (Tr.block (ydd p) t) r∧Same t (Tr.block (ydd p) t)∧(Tr.block (ydd p) t).out=yfa t.out p:=by
 cases p with
 | plain s=>
  have h':On1 t (xpo (padN (pos+3))++(yj0 s++r)):=by rw [← List.append_assoc];exact h
  have hz:padN (pos+3)<8:=Nat.mod_lt _ (by decide);have hlen:(vu4 pos (.plain s)).length=padN (pos+3)+(32+8*s.length):=by
   show (xpo (padN (pos+3))++yj0 s).length=_;unfold yj0;rw [List.length_append,List.length_append,octB_len,octB_len];simp [xpo]
  rw [hlen] at hr;have hr8:r.length%8=0:=by unfold padN at hr hz;omega
  exact h'.plain hz hr8 hok.1 hok.2
 | fixed items=>
  exact On1.content vrw (vsn (by omega)) items h hok (xdw hok)
 | own runs a b items=>
  obtain ⟨o1,o2,o3,o4,o5,o6,o7⟩:=hok;have h':On1 t (ownB runs a b++(itsB a b items++r)):=by rw [← List.append_assoc];exact h
  obtain ⟨t',y1,y2,y3⟩:=On1.own o1 o2 o3 o4 o5 h';obtain ⟨T,h256⟩:=xl7 o1 o2 o3 o4 o5;have e:Tr.block 2 t=Tr.content (rset a) (rset b) t':=by
   show Tr.content t.own.1 t.own.2.1 t.own.2.2=_;rw [y1]
  show On1 (Tr.block 2 t) r∧Same t (Tr.block 2 t)∧(Tr.block 2 t).out=xg4 t.out items;rw [e];obtain ⟨z1,z2,z3⟩:=On1.content T h256 items y2 (by rw [y3.near.frm,y3.near.out];exact o6) o7;exact ⟨z1,y3.same.trans z2,by rw [z3,y3.near.out]⟩
theorem On1.blocks:∀ (ps:List Pt) (pos:Nat) {t:Tr} {r:List Nat},ps≠[]->On1 t (vs5 pos ps++r)->(pos+(vs5 pos ps).length+r.length)%8=0->r.length%8=0->OkPs t.frm t.out ps->
  On1 (Tr.blocksFrom t) r∧(Tr.blocksFrom t).left=0∧Same t (Tr.blocksFrom t)∧(Tr.blocksFrom t).out=xcr t.out ps
 | [],_,_,_,hne,_,_,_,_=>absurd rfl hne
 | [p],pos,t,r,_,h,hl,hr,hok=>by
  have e0:vs5 pos [p]++r=1 :: (v06 (ydd p) 2++(vu4 pos p++(xpo (padN (pos+(blkB pos 1 p).length))++r))):=by
   show (blkB pos 1 p++xpo (padN (pos+(blkB pos 1 p).length)))++r=_;unfold blkB;simp [List.append_assoc]
  have elen:(blkB pos 1 p).length=3+(vu4 pos p).length:=by
   show (1 :: (v06 (ydd p) 2++vu4 pos p)).length=_;rw [List.length_cons,List.length_append,vxm];omega
  rw [e0] at h;obtain ⟨b1,b2,b3⟩:=h.bit;obtain ⟨n1,n2,n3⟩:=On1.number _ b2;have hk:ydd p%2^2=ydd p:=Nat.mod_eq_of_lt (x6w p);rw [hk] at n1;have N:=b3.trans n3;have hz:padN (pos+(blkB pos 1 p).length)<8:=Nat.mod_lt _ (by decide);obtain ⟨c1,c2,c3⟩:=n2.block (by
   rw [List.length_append,show (xpo (padN (pos+(blkB pos 1 p).length))).length=padN (pos+(blkB pos 1 p).length) by simp [xpo]];unfold padN at hz ⊢;omega) (by rw [N.near.frm,N.near.out];exact hok.1)
  obtain ⟨d1,d2,d3⟩:=c1.skip hz hr;have e:Tr.blocksFrom t=(Tr.block (ydd p) (t.bit.2.number 2).2).skip:=by
   rw [blocks_last h.going n2.going (by rw [b1];decide),n1,if_neg (by rw [c1.going];simp)]
  rw [e];exact ⟨d1,d2,(N.same.trans c2).trans d3.same,by rw [d3.near.out,c3,N.near.out];rfl⟩
 | p :: q :: ps,pos,t,r,_,h,hl,hr,hok=>by
  have e0:vs5 pos (p :: q :: ps)++r=0 :: (v06 (ydd p) 2++(vu4 pos p++(vs5 (pos+(blkB pos 0 p).length) (q :: ps)++r))):=by
   show (blkB pos 0 p++vs5 (pos+(blkB pos 0 p).length) (q :: ps))++r=_;unfold blkB;simp [List.append_assoc]
  have elen:(blkB pos 0 p).length=3+(vu4 pos p).length:=by
   show (0 :: (v06 (ydd p) 2++vu4 pos p)).length=_;rw [List.length_cons,List.length_append,vxm];omega
  have elen2:(vs5 pos (p :: q :: ps)).length=(blkB pos 0 p).length+(vs5 (pos+(blkB pos 0 p).length) (q :: ps)).length:=by
   show (blkB pos 0 p++vs5 (pos+(blkB pos 0 p).length) (q :: ps)).length=_;rw [List.length_append]
  rw [e0] at h;obtain ⟨b1,b2,b3⟩:=h.bit;obtain ⟨n1,n2,n3⟩:=On1.number _ b2;have hk:ydd p%2^2=ydd p:=Nat.mod_eq_of_lt (x6w p);rw [hk] at n1;have N:=b3.trans n3;obtain ⟨c1,c2,c3⟩:=n2.block (by rw [List.length_append];omega) (by rw [N.near.frm,N.near.out];exact hok.1);have hok2:OkPs (Tr.block (ydd p) (t.bit.2.number 2).2).frm (Tr.block (ydd p) (t.bit.2.number 2).2).out (q :: ps):=by
   rw [c2.frm,c3,N.near.frm,N.near.out];exact hok.2
  obtain ⟨z1,z2,z3,z4⟩:=On1.blocks (q :: ps) (pos+(blkB pos 0 p).length) (by simp) c1 (by omega) hr hok2;have e:Tr.blocksFrom t=Tr.blocksFrom (Tr.block (ydd p) (t.bit.2.number 2).2):=by
   rw [blocks_go h.going n2.going b1,n1]
  rw [e];exact ⟨z1,z2,(N.same.trans c2).trans z3,by rw [z4,c3,N.near.out];rfl⟩
end Tr
theorem juy(o:List Nat)(far n:Nat):∀ m:List Nat,1<=far->far<=m.length->kl5 far n (o++m)=o++kl5 far n m:=by
 induction n with
 | zero=>intro m _ _;rfl
 | succ n ih=>
  intro m h1 h2;have e:(o++m).getD ((o++m).length - far) 0=m.getD (m.length - far) 0:=by
   rw [List.getD_eq_getElem?_getD,List.getD_eq_getElem?_getD,List.length_append,List.getElem?_append_right (by omega)];congr 2
   omega
  show kl5 far n ((o++m)++[_])=o++kl5 far n (m++[_]);rw [e,List.append_assoc,ih _ h1 (by simp;omega)]
theorem jfb(far n:Nat):∀ m:List Nat,(kl5 far n m).length=m.length+n:=by
 induction n with
 | zero=>intro m;rfl
 | succ n ih=>intro m;show (kl5 far n (m++[_])).length=_;rw [ih];simp;omega
theorem j41(o:List Nat){m:List Nat}{x:It}(h:OkIt 0 m x):OkIt o.length (o++m) x∧grow (o++m) x=o++grow m x:=by
 cases x with
 | byte b=>exact ⟨h,by show (o++m)++[b]=o++(m++[b]);rw [List.append_assoc]⟩
 | copy n far=>
  obtain ⟨h1,h2,h3,h4,h5⟩:=h;refine ⟨⟨h1,h2,h3,h4,by rw [List.length_append];omega⟩,juy o far n m h3 (by omega)⟩
theorem jgs(o:List Nat):∀ (l:List It) {m:List Nat},jg0 0 m l->jg0 o.length (o++m) l∧xg4 (o++m) l=o++xg4 m l
 | [],_,_=>⟨trivial,rfl⟩
 | x :: xs,m,h=>by
  obtain ⟨h1,h2⟩:=j41 o h.1;obtain ⟨h3,h4⟩:=jgs o xs h.2;refine ⟨⟨h1,by rw [h2];exact h3⟩,?_⟩;show xg4 (grow (o++m) x) xs=o++xg4 (grow m x) xs;rw [h2,h4]
theorem v8m(o:List Nat){m:List Nat}{p:Pt}(h:OkP 0 m p):OkP o.length (o++m) p∧yfa (o++m) p=o++yfa m p:=by
 cases p with
 | plain s=>exact ⟨h,by show (o++m)++s=o++(m++s);rw [List.append_assoc]⟩
 | fixed l=>exact jgs o l h
 | own r a b l=>
  obtain ⟨h1,h2,h3,h4,h5,h6,h7⟩:=h;obtain ⟨k1,k2⟩:=jgs o l h6;exact ⟨⟨h1,h2,h3,h4,h5,k1,h7⟩,k2⟩
theorem xx2(o:List Nat):∀ (l:List Pt) {m:List Nat},OkPs 0 m l->OkPs o.length (o++m) l∧xcr (o++m) l=o++xcr m l
 | [],_,_=>⟨trivial,rfl⟩
 | x :: xs,m,h=>by
  obtain ⟨h1,h2⟩:=v8m o h.1;obtain ⟨h3,h4⟩:=xx2 o xs h.2;refine ⟨⟨h1,by rw [h2];exact h3⟩,?_⟩;show xcr (yfa (o++m) x) xs=o++xcr (yfa m x) xs;rw [h2,h4]
structure x56(raw out:List Nat):Prop where
 parts:∃ ps,ps≠[]∧octB raw=vs5 0 ps∧OkPs 0 [] ps∧out=xcr [] ps
def sum4(l:List Nat):List Nat:=[(Tr.sumL l).toNat / 16777216%256,(Tr.sumL l).toNat / 65536%256,(Tr.sumL l).toNat / 256%256,(Tr.sumL l).toNat%256]
namespace Tr
structure On8(t:Tr)(l:List Nat):Prop where
 on:On1 t (octB l)
 left:t.left=0
theorem octB_cons(b:Nat)(l:List Nat):octB (b :: l)=v06 b 8++octB l:=rfl
theorem octB_append(a b:List Nat):octB (a++b)=octB a++octB b:=by unfold octB;rw [List.flatMap_append]
theorem On8.octet{t:Tr}{b:Nat}{l:List Nat}(h:On8 t (b :: l))(hb:b<256):t.octet.1=b∧On8 t.octet.2 l∧Rd t t.octet.2:=by
 have h':=h.on;rw [octB_cons] at h';obtain ⟨a1,a2,a3,a4⟩:=h'.octet h.left hb;exact ⟨a1,⟨a2,a3⟩,a4⟩
theorem On8.inn{t:Tr}{l:List Nat}(h:On8 t l):t.inn+l.length=t.s.size:=by
 have h1:=h.on.len;rw [octB_len,h.left] at h1;have:=h.on.inn;omega
theorem On8.none{t:Tr}(h:On8 t []):t.octet=(0,{ t with needs:=true }):=octet_none h.on.going (by have:=h.inn;simp at this;omega)
theorem On8.blocks{t:Tr}{raw out l:List Nat}(h:On8 t (raw++l))(hp:x56 raw out):On8 t.blocks l∧t.blocks.out=t.out++out∧t.blocks.frm=t.out.length∧t.blocks.s=t.s∧t.blocks.starts=t.starts∧t.blocks.limit=t.limit:=by
 obtain ⟨ps,hne,hb,hok,rfl⟩:=hp.parts;have h0:=h.on;rw [octB_append,hb] at h0;have hl:=h.left;have h1:On1 ({ t with frm:=t.out.length,left:=0 }:Tr) (vs5 0 ps++octB l):=by
  refine ⟨h0.going,by show 0<8;omega,?_,h0.inn,?_⟩
  ·show t.cur<2^0;have:=h0.cur;rw [hl] at this;exact this
  ·show v06 t.cur 0++_=_;rw [← h0.rem];unfold remB;rw [hl]
 obtain ⟨s1,s2⟩:=xx2 t.out ps hok;rw [List.append_nil] at s1 s2;have h8:(octB l).length%8=0:=by rw [octB_len];omega
 have h9:(vs5 0 ps).length%8=0:=by rw [← hb,octB_len];omega
 obtain ⟨z1,z2,z3,z4⟩:=On1.blocks ps 0 hne h1 (by omega) h8 s1;exact ⟨⟨z1,z2⟩,by rw [← s2];exact z4,z3.frm,z3.s,z3.starts,z3.limit⟩
theorem sumL_lt(l:List Nat):0<=sumL l∧sumL l<4294967296:=by
 unfold sumL;have:=zz9 (fun k=>((l.getD k 0:Nat):Int)) l.length;omega
theorem On8.four{t:Tr}{a b c d:Nat}{l:List Nat}(h:On8 t (a :: b :: c :: d :: l))(ha:a<256)(hb:b<256)(hc:c<256)(hd:d<256):(t.four 4).1=256*(256*(256*a+b)+c)+d∧On8 (t.four 4).2 l∧Rd t (t.four 4).2:=by
 obtain ⟨a1,a2,a3⟩:=h.octet ha;obtain ⟨b1,b2,b3⟩:=a2.octet hb;obtain ⟨c1,c2,c3⟩:=b2.octet hc;obtain ⟨d1,d2,d3⟩:=c2.octet hd;have e:(t.four 4).2=t.octet.2.octet.2.octet.2.octet.2:=rfl;refine ⟨?_,by rw [e];exact d2,by rw [e];exact ((a3.trans b3).trans c3).trans d3⟩;show 256*(256*(256*(256*0+t.octet.1)+t.octet.2.octet.1)+t.octet.2.octet.2.octet.1)+t.octet.2.octet.2.octet.2.octet.1=_;rw [a1,b1,c1,d1];omega
end Tr
theorem kme(l:List Nat):∀ x∈sum4 l,x<256:=by
 intro x hx;simp [sum4] at hx;omega
theorem zp6(l:List Nat):((256*(256*(256*((Tr.sumL l).toNat / 16777216%256)+(Tr.sumL l).toNat / 65536%256)+(Tr.sumL l).toNat / 256%256)+(Tr.sumL l).toNat%256:Nat):Int)=Tr.sumL l:=by
 have:=Tr.sumL_lt l;omega
def jxp:Nat->List Nat->Nat
 | h,[]=>h
 | h,b :: l=>jxp ((h+b)%256) l
namespace Tr
structure Hd(t t':Tr)(l:List Nat):Prop where
 near:Near t t'
 many:t'.many=t.many+l.length
 head:t'.head=jxp t.head l
theorem sumM_append(a b:List Nat):∀ h,jxp h (a++b)=jxp (jxp h a) b:=by
 induction a with
 | nil=>intro h;rfl
 | cons x xs ih=>intro h;exact ih _
theorem Hd.refl(t:Tr):Hd t t []:=⟨Near.refl t,rfl,rfl⟩
theorem Hd.trans{a b c:Tr}{l m:List Nat}(h:Hd a b l)(k:Hd b c m):Hd a c (l++m):=⟨h.near.trans k.near,by rw [k.many,h.many,List.length_append];omega,by rw [k.head,h.head,sumM_append]⟩
theorem On8.crown{t:Tr}{b:Nat}{l:List Nat}(h:On8 t (b :: l))(hb:b<256)(hl:t.many+(b :: l).length<=t.limit):t.crown.1=b∧On8 t.crown.2 l∧Hd t t.crown.2 [b]:=by
 obtain ⟨a1,a2,a3⟩:=h.octet hb;have N:=a3.near;have hh:=a3.head;have e:t.crown.2={ t.octet.2 with many:=t.octet.2.many+1,head:=(t.octet.2.head+t.octet.1)%256 }:=by
  show t.octet.2.crowned t.octet.1=_;unfold Tr.crowned;rw [if_neg (by rw [N.limit,hh.2];simp at hl;omega)]
 refine ⟨a1,?_,?_⟩
 ·rw [e];have o:=a2.on;exact ⟨⟨o.going,o.left,o.cur,o.inn,o.rem⟩,a2.left⟩
 ·rw [e];refine ⟨⟨N.out,N.ats,N.starts,N.s,N.frm,N.limit,N.ended⟩,?_,?_⟩
  ·show t.octet.2.many+1=_;rw [hh.2];rfl
  ·show (t.octet.2.head+t.octet.1)%256=_;rw [hh.1,a1];rfl
theorem On8.isB{t:Tr}{b:Nat}{l:List Nat}(h:On8 t (b :: l))(hb:b<256)(hl:t.many+(b :: l).length<=t.limit):On8 (t.isB b) l∧Hd t (t.isB b) [b]:=by
 obtain ⟨a1,a2,a3⟩:=h.crown hb hl;unfold Tr.isB;rw [if_pos a1];exact ⟨a2,a3⟩
theorem On8.text:∀ (name:List Nat) {t:Tr} {l:List Nat},On8 t (name++0 :: l)->(∀ x∈name,x<256∧x≠0)->t.many+(name++0 :: l).length<=t.limit->On8 t.text l∧Hd t t.text (name++[0])
 | [],t,l,h,_,hl=>by
  obtain ⟨a1,a2,a3⟩:=On8.crown (b:=0) h (by omega) hl;rw [text_stop h.on.going a1];exact ⟨a2,a3⟩
 | x :: xs,t,l,h,hx,hl=>by
  have h1:=hx x (by simp);obtain ⟨a1,a2,a3⟩:=On8.crown (b:=x) (l:=xs++0 :: l) h h1.1 hl;rw [text_go h.on.going (by rw [a1];exact h1.2)];obtain ⟨b1,b2⟩:=On8.text xs a2 (fun y hy=>hx y (by simp [hy])) (by rw [a3.many,a3.near.limit];simp at hl ⊢;omega);exact ⟨b1,a3.trans b2⟩
end Tr
def z7c(m:Nat)(name note:List Nat):List Nat:=[76,2,m]++((if m%2=1 then name++[0] else [])++(if m / 2%2=1 then note++[0] else []))
def k6d(m:Nat)(name note:List Nat):List Nat:=z7c m name note++(if m / 4=1 then [jxp 0 (z7c m name note)] else [])
theorem zg9(l:List Nat):∀ {h:Nat},h<256->jxp h l<256:=by
 induction l with
 | nil=>intro h hh;exact hh
 | cons x xs ih=>intro h _;exact ih (Nat.mod_lt _ (by decide))
namespace Tr
theorem On8.texts{c:Prop}[Decidable c]{t:Tr}{name l:List Nat}(h:On8 t ((if c then name++[0] else [])++l))(hx:∀ x∈name,x<256∧x≠0)(hl:t.many+((if c then name++[0] else [])++l).length<=t.limit):On8 (if c then t.text else t) l∧Hd t (if c then t.text else t) (if c then name++[0] else []):=by
 split
 ·rename_i hc
  rw [if_pos hc] at h hl;rw [List.append_assoc] at h hl;exact On8.text name h hx hl
 ·rename_i hc
  rw [if_neg hc] at h;exact ⟨h,Hd.refl t⟩
theorem On8.head{t:Tr}{m:Nat}{name note l:List Nat}(hm:m<8)(hn:∀ x∈name,x<256∧x≠0)(ho:∀ x∈note,x<256∧x≠0)(h:On8 t (k6d m name note++l))(hl:(k6d m name note++l).length<=t.limit) :
  On8 (t.headed.crown.2.marked t.headed.crown.1) l∧Near t (t.headed.crown.2.marked t.headed.crown.1):=by
 have e0:k6d m name note++l=76 :: 2 :: m :: ((if m%2=1 then name++[0] else [])++((if m / 2%2=1 then note++[0] else [])++((if m / 4=1 then [jxp 0 (z7c m name note)] else [])++l))):=by
  unfold k6d z7c;simp [List.append_assoc]
 rw [e0] at h hl;have h0:On8 ({ t with head:=0,many:=0 }:Tr) (76 :: 2 :: m :: ((if m%2=1 then name++[0] else [])++((if m / 2%2=1 then note++[0] else [])++((if m / 4=1 then [jxp 0 (z7c m name note)] else [])++l)))):=by
  have o:=h.on;exact ⟨⟨o.going,o.left,o.cur,o.inn,o.rem⟩,h.left⟩
 have N0:Near t { t with head:=0,many:=0 }:=⟨rfl,rfl,rfl,rfl,rfl,rfl,rfl⟩
 obtain ⟨a1,a2⟩:=h0.isB (by omega) (by show 0+_<=t.limit;omega);obtain ⟨b1,b2⟩:=a1.isB (b:=2) (by omega) (by rw [a2.many,a2.near.limit];show 0+_+_<=t.limit;simp at hl ⊢;omega);obtain ⟨c1,c2,c3⟩:=b1.crown (b:=m) (by omega) (by rw [b2.many,a2.many,b2.near.limit,a2.near.limit];show 0+_+_+_<=t.limit;simp at hl ⊢;omega);have H3:=(a2.trans b2).trans c3;have eh:t.headed=(({ t with head:=0,many:=0 }:Tr).isB 76).isB 2:=rfl;rw [eh,c1];generalize ((({ t with head:=0,many:=0 }:Tr).isB 76).isB 2).crown.2=X at *;have hX:X.many=3:=H3.many;have hXl:X.limit=t.limit:=H3.near.limit;obtain ⟨d1,d2⟩:=On8.texts (c:=m%2=1) c2 hn (by rw [hX,hXl];simp only [List.length_cons] at hl;omega);have e2:X.marked m=(let t4:=if m / 2%2=1 then (if m%2=1 then X.text else X).text else (if m%2=1 then X.text else X)
   if m / 4=1 then t4.isB t4.head else t4):=by
  unfold Tr.marked;simp only [if_neg (show ¬ 7<m by omega)]
 rw [e2];have H4:=H3.trans d2;generalize (if m%2=1 then X.text else X)=Y at *;have hY:Y.many=3+(if m%2=1 then name++[0] else []).length:=by rw [d2.many,hX]
 have hYl:Y.limit=t.limit:=H4.near.limit;obtain ⟨f1,f2⟩:=On8.texts (c:=m / 2%2=1) d1 ho (by rw [hY,hYl];rw [List.length_cons,List.length_cons,List.length_cons,List.length_append] at hl;omega);have H5:=H4.trans f2;simp only;generalize (if m / 2%2=1 then Y.text else Y)=Z at *;have hA:[76]++[2]++[m]++(if m%2=1 then name++[0] else [])++(if m / 2%2=1 then note++[0] else [])=z7c m name note:=by
  unfold z7c;simp
 rw [hA] at H5;have hZh:Z.head=jxp 0 (z7c m name note):=H5.head;by_cases h4:m / 4=1
 ·rw [if_pos h4] at f1 ⊢;have hZm:Z.many=(z7c m name note).length:=by have:=H5.many;simpa using this
  have hal:(z7c m name note).length=3+((if m%2=1 then name++[0] else []).length+(if m / 2%2=1 then note++[0] else []).length):=by unfold z7c;simp;omega
  rw [← hZh] at f1;obtain ⟨g1,g2⟩:=On8.isB (b:=Z.head) (l:=l) f1 (by rw [hZh];exact zg9 _ (by omega)) (by rw [hZm,H5.near.limit,hal];show _<=t.limit;rw [if_pos h4] at hl;simp only [List.length_cons,List.length_append,List.length_nil] at hl ⊢;omega);exact ⟨g1,N0.trans (H5.near.trans g2.near)⟩
 ·rw [if_neg h4] at f1 ⊢;exact ⟨f1,N0.trans H5.near⟩
end Tr
open Go.RowKit
def Tr.readAll(fm:Nat)(s:ByteArray):Tr:=Tr.read fm 1152921504606846976 1152921504606846976 s
namespace St
def pos(σ:St)(t:Tr):Nat:=t.inn+σ.count / 8
theorem fin_add(σ:St)(b:Nat)(t:Tr):(σ.add b).fin t=σ.fin t:=fin_eq rfl rfl t
theorem after_add(σ:St)(b:Nat)(t:Tr):(σ.add b).after t=σ.after t:=after_eq rfl rfl rfl t
theorem cont_add(σ:St)(b:Nat)(x:RSet×RSet×Tr):(σ.add b).cont x=σ.cont x:=cont_eq rfl rfl rfl x
theorem cab_add(σ:St)(b:Nat)(t:Tr):(σ.add b).cab t=σ.cab t:=cont_add σ b (rset σ.la,rset σ.lb,t)
theorem k6_add(σ:St)(b:Nat)(t:Tr):(σ.add b).k6 t=σ.k6 t:=fin_add σ b _
theorem k5_add(σ:St)(b:Nat)(t:Tr):(σ.add b).k5 t=σ.k5 t:=k6_add σ b _
theorem k4_add(σ:St)(b:Nat)(t:Tr):(σ.add b).k4 t=σ.k4 t:=k5_add σ b _
theorem k3_add(σ:St)(b:Nat)(t:Tr):(σ.add b).k3 t=σ.k3 t:=k4_add σ b _
theorem k2_add(σ:St)(b:Nat)(t:Tr):(σ.add b).k2 t=σ.k2 t:=by
 unfold k2;rw [k6_add,k6_add];rfl
theorem K_add(σ:St)(b:Nat)(t:Tr):(σ.add b).K t=σ.K t:=by
 show Kat σ.st (σ.add b) t=Kat σ.st σ t;unfold Kat;split
 ·exact k2_add σ b _
 ·exact k2_add σ b _
 ·exact k2_add σ b _
 ·exact k3_add σ b _
 ·exact k4_add σ b _
 ·exact k5_add σ b _
 ·exact fin_add σ b _
 ·exact after_add σ b _
 ·exact after_add σ b _
 ·exact cont_add σ b _
 ·exact cont_add σ b _
 ·exact cont_add σ b _
 ·exact cont_add σ b _
 ·exact cont_add σ b _
 ·exact cont_add σ b _
 ·exact cab_add σ b _
 ·exact cab_add σ b _
 ·exact cab_add σ b _
 ·exact cab_add σ b _
 ·exact cab_add σ b _
 ·exact cab_add σ b _
 ·exact fin_add σ b _
 ·rfl
 ·rfl
theorem rel_add{σ:St}{t:Tr}(R:Rel σ t)(h:pos σ t<t.s.size):Rel (σ.add (k0w t.s (pos σ t))) t:=⟨R.going,R.hand.take h,R.lim,R.fine,R.om,R.head,R.begun,R.bytes⟩
end St
structure zik(pre:List Nat)(s:ByteArray):Prop where
 len:pre.length<=s.size
 at_:∀ k,k<pre.length->k0w s k=pre.getD k 0
theorem zik.snoc{pre:List Nat}{b:Nat}{s:ByteArray}(h:zik (pre++[b]) s):zik pre s∧pre.length<s.size∧k0w s pre.length=b:=by
 have hl:=h.len;rw [List.length_append,List.length_singleton] at hl;refine ⟨⟨by omega,fun k hk=>?_⟩,by omega,?_⟩
 ·rw [h.at_ k (by simp;omega)];simp [List.getD_eq_getElem?_getD,List.getElem?_append_left hk]
 ·rw [h.at_ pre.length (by simp)];simp [List.getD_eq_getElem?_getD]
theorem zik.push{pre:List Nat}{s:ByteArray}(h:zik pre s)(hl:pre.length<s.size):zik (pre++[k0w s pre.length]) s:=by
 refine ⟨by simp;omega,fun k hk=>?_⟩;rw [List.length_append,List.length_singleton] at hk;by_cases hk':k<pre.length
 ·rw [h.at_ k hk'];simp [List.getD_eq_getElem?_getD,List.getElem?_append_left hk']
 ·have e:k=pre.length:=by omega
  subst e;simp [List.getD_eq_getElem?_getD]
structure Cf where
 σ:St
 pre:List Nat
 outs:List Nat
 ats:List Nat
 starts:List Nat
structure GI(fm mem lim:Nat)(c:Cf):Prop where
 wf:St.Wf c.σ
 fmtE:c.σ.fmt=fm
 memE:c.σ.mem=mem
 limE:c.σ.lim=lim
 tr:∀ s:ByteArray,s.size≠0->zik c.pre s->∃ t,St.Rel c.σ t∧t.s=s∧St.pos c.σ t=c.pre.length∧t.out=c.outs∧t.ats=c.ats∧t.starts=c.starts∧Tr.obs (c.σ.K t)=Tr.obs (Tr.read fm mem lim s)
def St.begin(fm mem lim:Nat):St:=
 { fmt:=fm,mem:=mem,lim:=lim,st:=if fm=0 then 6 else 0,held:=0,count:=0,begun:=1,marks:=0,hsum:=0,hmany:=0,om:=[],last:=false,left:=0,nl:=0,nd:=0,told:=0,hl:=[],hs:=[],hk:=0,row:=[],la:=[],lb:=[],lit:=0,least:=0,bits:=0,dist:=0 }
def Cf.begin(fm mem lim:Nat):Cf:=⟨St.begin fm mem lim,[],[],[],[0]⟩
theorem St.begin_wf{fm mem lim:Nat}(h:fm<3):St.Wf (St.begin fm mem lim):=by
 by_cases h0:fm=0
 ·subst h0;exact ⟨h,by show 6<24;omega,fun _=>by show 6<=6;omega,by show 0<2^0;omega,by show 0<11;omega,trivial,fun _=>⟨rfl,rfl⟩,fun x hx=>(by cases hx),⟨Nat.zero_le _,fun _=>rfl⟩,by show 0<256;omega⟩
 ·have e:(St.begin fm mem lim).st=0:=by show (if fm=0 then 6 else 0)=0;rw [if_neg h0]
  exact ⟨h,by rw [e];omega,fun hh=>absurd hh h0,by show 0<2^0;omega,by rw [e];exact ⟨rfl,Nat.zero_le _⟩,by rw [e];rfl,fun _=>⟨rfl,rfl⟩,fun x hx=>(by cases hx),⟨Nat.zero_le _,fun _=>rfl⟩,by show 0<256;omega⟩
theorem St.begin_rel{fm mem lim:Nat}(s:ByteArray):St.Rel (St.begin fm mem lim) ({ Tr.start s lim with starts:=[0] }:Tr):=⟨rfl,⟨rfl,by show 0<2^0;omega,by show 0+0 / 8<=s.size;omega,by show 0=0+2^(0%8)*Tr.le s 0 (0 / 8);rw [show (0:Nat) / 8=0 from rfl];rfl⟩,rfl,⟨by show 0<=8;omega,by show 0<256;omega,Nat.zero_le _,Nat.le_refl _,rfl,by show 0<=18;omega⟩,fun _=>rfl,fun _=>⟨rfl,rfl⟩,fun _=>rfl,fun x hx=>(by cases hx)⟩
theorem GI.begin{fm mem lim:Nat}(h:fm<3)(hm:1<=mem):GI fm mem lim (Cf.begin fm mem lim):=by
 refine ⟨St.begin_wf h,rfl,rfl,rfl,fun s hs _=>⟨({ Tr.start s lim with starts:=[0] }:Tr),St.begin_rel s,rfl,by show 0+0 / 8=0;rfl,rfl,rfl,rfl,?_⟩⟩;have h3:fm=0∨fm=1∨fm=2:=by omega
 rcases h3 with rfl | rfl | rfl
 ·have e:Tr.read 0 mem lim s=({ Tr.start s lim with starts:=[0] }:Tr).blocks.trail:=by
   unfold Tr.read Tr.readRaw;rw [if_pos rfl,if_neg hs]
  rw [e];rfl
 ·have e:Tr.read 1 mem lim s=(((({ Tr.start s lim with starts:=[0] }:Tr).isB 115).isB 1).blocks.sum).trail:=by
   unfold Tr.read Tr.readShort;rw [if_neg (by decide),if_pos rfl,if_neg hs]
  have hk:∀ x:Tr,(St.begin 1 mem lim).k2 x=x.blocks.sum.trail:=fun x=>by
   unfold St.k2 St.k6 St.fin;have hf:(St.begin 1 mem lim).fmt=1:=rfl;rw [hf,if_neg (by decide),if_neg (by decide),if_pos rfl]
  have hK:∀ x:Tr,(St.begin 1 mem lim).K x=(St.begin 1 mem lim).k2 ((x.isB (if (1:Nat)=1 then 115 else 76)).isB (if (1:Nat)=1 then 1 else 2)):=fun x=>St.K_at (n:=0) rfl x
  rw [e];show Tr.obs ((St.begin 1 mem lim).K _)=_;rw [hK,hk,if_pos rfl,if_pos rfl]
 ·have e:Tr.read 2 mem lim s=Tr.long mem ({ Tr.start s lim with starts:=[0] }:Tr).member:=by
   unfold Tr.read Tr.readLong;rw [if_neg (by decide),if_neg (by decide),if_neg hs,Tr.long_go (kak s lim) ⟨rfl,by show 0<s.size;omega⟩ (by show ¬ mem<=0;omega)];rfl
  have hk:∀ x:Tr,(St.begin 2 mem lim).k2 x=Tr.long mem ((x.crown.2.marked x.crown.1).blocks.sum.sized):=fun x=>by
   unfold St.k2 St.k6 St.fin;have hf:(St.begin 2 mem lim).fmt=2:=rfl;rw [hf,if_pos rfl,if_neg (by decide),if_neg (by decide)];rfl
  have hK:∀ x:Tr,(St.begin 2 mem lim).K x=(St.begin 2 mem lim).k2 ((x.isB (if (2:Nat)=1 then 115 else 76)).isB (if (2:Nat)=1 then 1 else 2)):=fun x=>St.K_at (n:=0) rfl x
  rw [e];show Tr.obs ((St.begin 2 mem lim).K _)=_;rw [hK,hk,if_neg (by decide),if_neg (by decide)];unfold Tr.member Tr.headed;rfl
theorem GI.take{fm mem lim:Nat}{c:Cf}(h:GI fm mem lim c)(ha:c.σ.act= .take){b:Nat}(hb:b<256):GI fm mem lim { c with σ:=c.σ.add b,pre:=c.pre++[b] }:=by
 have N:=St.next h.wf;rw [ha] at N;refine ⟨N b hb,h.fmtE,h.memE,h.limE,fun s hs ht=>?_⟩;obtain ⟨t1,t2,t3⟩:=ht.snoc;obtain ⟨t,R,e1,e2,e3,e4,e5,e6⟩:=h.tr s hs t1;have hp:St.pos c.σ t<t.s.size:=by rw [e1,e2];exact t2
 have R':=St.rel_add R hp;rw [e1,e2,t3] at R';refine ⟨t,R',e1,?_,e3,e4,e5,?_⟩
 ·show t.inn+(c.σ.count+8) / 8=(c.pre++[b]).length;rw [List.length_append,List.length_singleton,← e2];show _=t.inn+c.σ.count / 8+1;omega
 ·show Tr.obs ((c.σ.add b).K t)=_;rw [St.K_add];exact e6
theorem GI.put{fm mem lim:Nat}{c:Cf}(h:GI fm mem lim c){b:Nat}{σ':St}(ha:c.σ.act= .put b σ'):GI fm mem lim { c with σ:=σ',outs:=c.outs++[b],ats:=c.ats++[c.pre.length] }∧b<256:=by
 have N:=St.next h.wf;rw [ha] at N;obtain ⟨W',hb,hphi,f1,f2,f3⟩:=N;refine ⟨⟨W',f1.trans h.fmtE,f2.trans h.memE,f3.trans h.limE,fun s hs ht=>?_⟩,hb⟩;obtain ⟨t,R,e1,e2,e3,e4,e5,e6⟩:=h.tr s hs ht;have S:=St.sim h.wf R;unfold St.Sim at S;rw [ha] at S;obtain ⟨t',R',hK,s1,s2,s3,s4,s5⟩:=S;refine ⟨t',R',s5.trans e1,?_,by rw [s1,e3],?_,s4.trans e5,by rw [← e6];exact congrArg _ hK⟩
 ·show t'.inn+σ'.count / 8=_;rw [s3];exact e2
 ·rw [s2,e4];show _=c.ats++[c.pre.length];rw [← e2];rfl
theorem GI.tau{fm mem lim:Nat}{c:Cf}(h:GI fm mem lim c){σ':St}(ha:c.σ.act= .tau σ'):GI fm mem lim { c with σ:=σ',starts:=if c.σ.st=23 then c.starts++[c.pre.length - 1] else c.starts }:=by
 have N:=St.next h.wf;rw [ha] at N;obtain ⟨W',hphi,f1,f2,f3,h23⟩:=N;refine ⟨W',f1.trans h.fmtE,f2.trans h.memE,f3.trans h.limE,fun s hs ht=>?_⟩;obtain ⟨t,R,e1,e2,e3,e4,e5,e6⟩:=h.tr s hs ht;have S:=St.sim h.wf R;unfold St.Sim at S;rw [ha] at S;obtain ⟨t',R',hK,s1,s2,s3,s4,s5⟩:=S;refine ⟨t',R',s5.trans e1,?_,by rw [s1,e3],by rw [s2,e4],?_,by rw [← e6];exact congrArg _ hK⟩
 ·show t'.inn+σ'.count / 8=_;rw [s3];exact e2
 ·rw [s4];show _=if c.σ.st=23 then c.starts++[c.pre.length - 1] else c.starts;by_cases hst:c.σ.st=23
  ·rw [if_pos hst,if_pos hst,e5];have few:=h.wf.few;rw [hst] at few;have hc:c.σ.count%8=0∧c.σ.count<=8:=few;have c8:c.σ.count=8:=by
    rcases St.head_count hc with c0 | c8
    ·rw [St.act_at hst] at ha;simp only [St.actAt,St.need] at ha;rw [if_pos (by omega)] at ha;cases ha
    ·exact c8
   have:t.inn=c.pre.length - 1:=by
    rw [← e2];show t.inn=t.inn+c.σ.count / 8 - 1;omega
   rw [this]
  ·rw [if_neg hst,if_neg hst,e5]
theorem GI.fail{fm mem lim:Nat}{c:Cf}(h:GI fm mem lim c){e:Nat}(ha:c.σ.act= .fail e){s:ByteArray}(hs:s.size≠0)(ht:zik c.pre s):Tr.obs (Tr.read fm mem lim s)=⟨c.outs,c.ats,c.pre.length,c.starts,e,false⟩∧4<=e∧e<=14:=by
 have N:=St.next h.wf;rw [ha] at N;obtain ⟨t,R,e1,e2,e3,e4,e5,e6⟩:=h.tr s hs ht;have S:=St.sim h.wf R;unfold St.Sim at S;rw [ha] at S;refine ⟨?_,N⟩;rw [← e6];have S2:Tr.obs (c.σ.K t)=⟨t.out,t.ats,t.inn+c.σ.count / 8,t.starts,e,false⟩:=S;rw [S2,e3,e4,e5,← e2];rfl
theorem GI.hungry{fm mem lim:Nat}{c:Cf}(h:GI fm mem lim c)(ha:c.σ.act= .take){s:ByteArray}(hs:s.size≠0)(ht:zik c.pre s)(hl:s.size=c.pre.length):Tr.obs (Tr.read fm mem lim s)=⟨c.outs,c.ats,c.pre.length,c.starts,0,decide (c.σ.st<23)⟩:=by
 obtain ⟨t,R,e1,e2,e3,e4,e5,e6⟩:=h.tr s hs ht;have S:=St.sim h.wf R;unfold St.Sim at S;rw [ha] at S;rw [← e6];have S2:Tr.obs (c.σ.K t)=_:=S (by show St.pos c.σ t=_;rw [e1,e2,hl]);rw [S2,e3,e4,e5,e1,hl]
structure ksp(s:ByteArray)(S:List Nat):Prop where
 tk:zik S s
 size:s.size=S.length
theorem ke3{s:ByteArray}{S:List Nat}(h:zik S s)(n:Nat):∀ i,i+n=S.length->jq7 s i n=octB (S.drop i):=by
 induction n with
 | zero=>intro i hi;rw [List.drop_of_length_le (by omega)];rfl
 | succ n ih=>
  intro i hi;have hl:i<S.length:=by omega
  show v06 (k0w s i) 8++jq7 s (i+1) n=_;rw [ih (i+1) (by omega),h.at_ i hl,List.drop_eq_getElem_cons hl];have e:S.getD i 0=S[i]:=by simp [hl]
  rw [e];rfl
namespace Tr
theorem on8_start{s:ByteArray}{S:List Nat}(h:ksp s S)(lim:Nat)(st:List Nat):On8 ({ Tr.start s lim with starts:=st }:Tr) S:=by
 refine ⟨⟨rfl,by show 0<8;omega,by show 0<2^0;omega,Nat.zero_le _,?_⟩,rfl⟩;show v06 0 0++jq7 s 0 (s.size - 0)=_;rw [Nat.sub_zero,h.size];have:=ke3 h.tk S.length 0 (by omega);rw [this];rfl
theorem On8.trail{t:Tr}(h:On8 t []):t.trail=t:=by
 unfold Tr.trail;rw [if_neg];have:=h.inn;simp at this;omega
theorem mean_ok{t:Tr}(h:t.ended=false):t.mean=(xu6 t.out,0):=by
 obtain ⟨h1,h2⟩:=(ended_iff t).1 h;unfold Tr.mean;rw [if_neg (by omega),h2];rfl
theorem mean_obs{t:Tr}{o a:List Nat}{i:Nat}{s:List Nat}{e:Nat}{n:Bool}(h:obs t=⟨o,a,i,s,e,n⟩):t.mean=if e≠0 then (⟨#[]⟩,e) else if n then (⟨#[]⟩,15) else (xu6 o,0):=by
 unfold obs at h;injection h with h1 h2 h3 h4 h5 h6
 unfold Tr.mean;rw [h1,h5,h6]
theorem err_obs{t:Tr}{e:Nat}(h:t.err=e)(he:e≠0):t.mean=(⟨#[]⟩,e):=by
 unfold Tr.mean;rw [if_pos (by rw [h];exact he),h]
theorem Frz.err{a b:Tr}(h:Frz a b)(he:a.ended=true):b.err=a.err∧b.needs=a.needs:=by
 have:=h he;unfold obs at this;injection this with h1 h2 h3 h4 h5 h6
 exact ⟨h5,h6⟩
theorem sum_ok{t:Tr}{out l:List Nat}(h:On8 t (sum4 out++l))(ho:t.out.drop t.frm=out):On8 t.sum l∧Rd t t.sum:=by
 have h':On8 t ((Tr.sumL out).toNat / 16777216%256 :: (Tr.sumL out).toNat / 65536%256 :: (Tr.sumL out).toNat / 256%256 :: (Tr.sumL out).toNat%256 :: l):=h;obtain ⟨a1,a2,a3⟩:=h'.four (by omega) (by omega) (by omega) (by omega);unfold Tr.sum;rw [if_pos (by rw [a1,a3.near.out,a3.near.frm,ho];exact zp6 out)];exact ⟨a2,a3⟩
theorem sum_bad{t:Tr}{out l:List Nat}{a b c d:Nat}(h:On8 t (a :: b :: c :: d :: l))(ha:a<256)(hb:b<256)(hc:c<256)(hd:d<256)(ho:t.out.drop t.frm=out)(hne:[a,b,c,d]≠sum4 out):t.sum.err=12∧t.sum.ended=true:=by
 obtain ⟨a1,a2,a3⟩:=h.four ha hb hc hd;have hn:¬ (((t.four 4).1:Nat):Int)=Tr.sumL ((t.four 4).2.out.drop (t.four 4).2.frm):=by
  rw [a1,a3.near.out,a3.near.frm,ho];intro e;apply hne;have h0:=sumL_lt out;unfold sum4;have e2:256*(256*(256*a+b)+c)+d=(Tr.sumL out).toNat:=by omega
  rw [← e2];congr 1
  ·omega
  ·congr 1
   ·omega
   ·congr 1
    ·omega
    ·congr 1
     omega
 unfold Tr.sum;rw [if_neg hn];refine ⟨?_,ended_fail _ (by decide)⟩;rw [fail_going a2.on.going]
theorem sum_short{t:Tr}{a b c:Nat}(h:On8 t [a,b,c])(ha:a<256)(hb:b<256)(hc:c<256):t.sum.err=0∧t.sum.needs=true:=by
 obtain ⟨a1,a2,a3⟩:=h.octet ha;obtain ⟨b1,b2,b3⟩:=a2.octet hb;obtain ⟨c1,c2,c3⟩:=b2.octet hc;have e:(t.four 4).2=t.octet.2.octet.2.octet.2.octet.2:=rfl;have h1:(t.four 4).2={ t.octet.2.octet.2.octet.2 with needs:=true }:=by rw [e,c2.none]
 have he:=((ended_iff _).1 c2.on.going).1;have hend:(t.four 4).2.ended=true:=by rw [h1];unfold Tr.ended;simp
 unfold Tr.sum;split
 ·rw [h1];exact ⟨he,rfl⟩
 ·rw [fail_ended hend,h1];exact ⟨he,rfl⟩
def size2(n:Nat):List Nat:=[n%256,n / 256%256]
theorem sized_ok{t:Tr}{l:List Nat}{n:Nat}(h:On8 t (size2 n++l))(ho:t.out.length - t.frm=n):On8 t.sized l∧Rd t t.sized:=by
 have h':On8 t (n%256 :: n / 256%256 :: l):=h;obtain ⟨a1,a2,a3⟩:=h'.octet (by omega);obtain ⟨b1,b2,b3⟩:=a2.octet (by omega);have N:=(a3.trans b3).near;unfold Tr.sized;rw [if_pos (by rw [a1,b1,N.out,N.frm,ho];omega)];exact ⟨b2,a3.trans b3⟩
theorem sized_bad{t:Tr}{l:List Nat}{n a b:Nat}(h:On8 t (a :: b :: l))(ha:a<256)(hb:b<256)(ho:t.out.length - t.frm=n)(hne:[a,b]≠size2 n):t.sized.err=13∧t.sized.ended=true:=by
 obtain ⟨a1,a2,a3⟩:=h.octet ha;obtain ⟨b1,b2,b3⟩:=a2.octet hb;have N:=(a3.trans b3).near;have hn:¬ t.octet.1+256*t.octet.2.octet.1=(t.octet.2.octet.2.out.length - t.octet.2.octet.2.frm)%65536:=by
  rw [a1,b1,N.out,N.frm,ho];intro e;apply hne;unfold size2;congr 1
  ·omega
  ·congr 1
   omega
 unfold Tr.sized;rw [if_neg hn];refine ⟨?_,ended_fail _ (by decide)⟩;rw [fail_going b2.on.going]
theorem sized_short{t:Tr}{a:Nat}(h:On8 t [a])(ha:a<256):t.sized.err=0∧t.sized.needs=true:=by
 obtain ⟨a1,a2,a3⟩:=h.octet ha;have h1:t.octet.2.octet.2={ t.octet.2 with needs:=true }:=by rw [a2.none]
 have he:=((ended_iff _).1 a2.on.going).1;have hend:t.octet.2.octet.2.ended=true:=by rw [h1];unfold Tr.ended;simp
 unfold Tr.sized;split
 ·rw [h1];exact ⟨he,rfl⟩
 ·rw [fail_ended hend,h1];exact ⟨he,rfl⟩
end Tr
theorem x56.ne{raw out:List Nat}(h:x56 raw out):raw≠[]:=by
 obtain ⟨ps,hne,hb,_,_⟩:=h.parts;intro e;rw [e] at hb;cases ps with
 | nil=>exact hne rfl
 | cons p qs=>
  cases qs with
  | nil=>simp [vs5,blkB,octB] at hb
  | cons q r=>simp [vs5,blkB,octB] at hb
theorem xwf{s:ByteArray}(hs:s.size≠0):Tr.readAll 1 s=((((({ Tr.start s 1152921504606846976 with starts:=[0] }:Tr).isB 115).isB 1).blocks.sum).trail):=by
 unfold Tr.readAll Tr.read Tr.readShort;rw [if_neg (by decide),if_pos rfl,if_neg hs]
theorem vyv{s:ByteArray}{raw out l:List Nat}(h:ksp s (115 :: 1 :: (raw++l)))(hp:x56 raw out)(hz:s.size<=1000000000) :
  Tr.On8 (((({ Tr.start s 1152921504606846976 with starts:=[0] }:Tr).isB 115).isB 1).blocks) l∧(((({ Tr.start s 1152921504606846976 with starts:=[0] }:Tr).isB 115).isB 1).blocks).out=out∧(((({ Tr.start s 1152921504606846976 with starts:=[0] }:Tr).isB 115).isB 1).blocks).frm=0:=by
 have h0:=Tr.on8_start h 1152921504606846976 [0];have hl:(115 :: 1 :: (raw++l)).length<=1000000000:=by rw [← h.size];exact hz
 obtain ⟨a1,a2⟩:=h0.isB (by omega) (by show 0+_<=1152921504606846976;omega);obtain ⟨b1,b2⟩:=a1.isB (b:=1) (by omega) (by rw [a2.many,a2.near.limit];show 0+_+_<=1152921504606846976;simp at hl ⊢;omega);obtain ⟨c1,c2,c3,_⟩:=b1.blocks hp;have N:=(a2.trans b2).near;rw [N.out] at c2 c3;exact ⟨c1,by rw [c2];rfl,by rw [c3];rfl⟩
theorem y97{s:ByteArray}{x:Nat}{l:List Nat}(h:ksp s (x :: l)):s.size≠0:=by rw [h.size];simp
theorem vjr{s:ByteArray}{raw out:List Nat}(h:ksp s (115 :: 1 :: (raw++sum4 out)))(hp:x56 raw out)(hz:s.size<=1000000000):(Tr.readAll 1 s).mean=(xu6 out,0):=by
 obtain ⟨c1,c2,c3⟩:=vyv h hp hz;rw [xwf (y97 h)];generalize ((({ Tr.start s 1152921504606846976 with starts:=[0] }:Tr).isB 115).isB 1).blocks=T at *;rw [← List.append_nil (sum4 out)] at c1;obtain ⟨d1,d2⟩:=Tr.sum_ok c1 (by rw [c2,c3];rfl);rw [d1.trail,Tr.mean_ok d1.on.going,d2.near.out,c2]
theorem kxr{s:ByteArray}{raw out:List Nat}{a b c d:Nat}(h:ksp s (115 :: 1 :: (raw++[a,b,c,d])))(hp:x56 raw out)(hz:s.size<=1000000000)(ha:a<256)(hb:b<256)(hc:c<256)(hd:d<256)(hne:[a,b,c,d]≠sum4 out):(Tr.readAll 1 s).mean=(⟨#[]⟩,12):=by
 obtain ⟨c1,c2,c3⟩:=vyv h hp hz;rw [xwf (y97 h)];generalize ((({ Tr.start s 1152921504606846976 with starts:=[0] }:Tr).isB 115).isB 1).blocks=T at *;obtain ⟨d1,d2⟩:=Tr.sum_bad c1 ha hb hc hd (by rw [c2,c3];rfl) hne;have:=(Tr.frz_trail T.sum).err d2;exact Tr.err_obs (this.1.trans d1) (by decide)
theorem jsd{s:ByteArray}{raw out:List Nat}{a b c:Nat}(h:ksp s (115 :: 1 :: (raw++[a,b,c])))(hp:x56 raw out)(hz:s.size<=1000000000)(ha:a<256)(hb:b<256)(hc:c<256):(Tr.readAll 1 s).mean=(⟨#[]⟩,15):=by
 obtain ⟨c1,c2,c3⟩:=vyv h hp hz;rw [xwf (y97 h)];generalize ((({ Tr.start s 1152921504606846976 with starts:=[0] }:Tr).isB 115).isB 1).blocks=T at *;obtain ⟨d1,d2⟩:=Tr.sum_short c1 ha hb hc;have he:T.sum.ended=true:=by unfold Tr.ended;rw [d2];simp
 have:=(Tr.frz_trail T.sum).err he;unfold Tr.mean;rw [this.1,this.2,d1,d2];rfl
theorem krj{s:ByteArray}{raw out:List Nat}{x:Nat}(h:ksp s (115 :: 1 :: (raw++(sum4 out++[x]))))(hp:x56 raw out)(hz:s.size<=1000000000):(Tr.readAll 1 s).mean=(⟨#[]⟩,14):=by
 obtain ⟨c1,c2,c3⟩:=vyv h hp hz;rw [xwf (y97 h)];generalize ((({ Tr.start s 1152921504606846976 with starts:=[0] }:Tr).isB 115).isB 1).blocks=T at *;obtain ⟨d1,d2⟩:=Tr.sum_ok c1 (by rw [c2,c3];rfl);refine Tr.err_obs ?_ (by decide);unfold Tr.trail;have hi:=d1.inn;simp at hi;generalize T.sum=U at *;have hg:({ U with inn:=U.inn+1 }:Tr).ended=false:=d1.on.going;rw [if_pos ⟨d1.on.going,by omega⟩,Tr.fail_going hg]
def vin(m:Nat)(name note raw sb zb:List Nat):List Nat:=k6d m name note++(raw++(sb++zb))
structure Mem(m:Nat)(name note raw out:List Nat):Prop where
 m8:m<8
 nm:∀ x∈name,x<256∧x≠0
 nt:∀ x∈note,x<256∧x≠0
 pk:x56 raw out
namespace Tr
theorem On8.mem{t:Tr}{m:Nat}{name note raw out l:List Nat}(M:Mem m name note raw out)(h:On8 t (k6d m name note++(raw++l)))(hl:(k6d m name note++(raw++l)).length<=t.limit) :
  ∃ U,t.member=U.sum.sized∧On8 U l∧U.out=t.out++out∧U.frm=t.out.length∧U.s=t.s∧U.starts=t.starts∧U.limit=t.limit:=by
 obtain ⟨a1,a2⟩:=h.head M.m8 M.nm M.nt hl;obtain ⟨b1,b2,b3,b4,b5,b6⟩:=a1.blocks M.pk;refine ⟨(t.headed.crown.2.marked t.headed.crown.1).blocks,rfl,b1,?_,?_,b4.trans a2.s,b5.trans a2.starts,b6.trans a2.limit⟩
 ·rw [b2,a2.out]
 ·rw [b3,a2.out]
theorem On8.member{t:Tr}{m:Nat}{name note raw out l:List Nat}(M:Mem m name note raw out)(h:On8 t (vin m name note raw (sum4 out) (Tr.size2 out.length)++l))(hl:(vin m name note raw (sum4 out) (Tr.size2 out.length)++l).length<=t.limit) :
  On8 t.member l∧t.member.out=t.out++out∧t.member.starts=t.starts∧t.member.limit=t.limit:=by
 have e:vin m name note raw (sum4 out) (Tr.size2 out.length)++l=k6d m name note++(raw++(sum4 out++(Tr.size2 out.length++l))):=by unfold vin;simp only [List.append_assoc]
 rw [e] at h hl;obtain ⟨U,u1,u2,u3,u4,u5,u6,u7⟩:=h.mem M hl;obtain ⟨c1,c2⟩:=sum_ok (out:=out) u2 (by rw [u3,u4];simp);obtain ⟨d1,d2⟩:=sized_ok (n:=out.length) c1 (by rw [c2.near.out,c2.near.frm,u3,u4];simp);have N:=(c2.trans d2).near;rw [u1];exact ⟨d1,by rw [N.out,u3],by rw [N.starts,u6],by rw [N.limit,u7]⟩
theorem member_sum{t:Tr}{m a b c d:Nat}{name note raw out l:List Nat}(M:Mem m name note raw out)(h:On8 t (k6d m name note++(raw++(a :: b :: c :: d :: l))))(hl:(k6d m name note++(raw++(a :: b :: c :: d :: l))).length<=t.limit)
  (ha:a<256) (hb:b<256) (hc:c<256) (hd:d<256) (hne:[a,b,c,d]≠sum4 out):t.member.err=12∧t.member.ended=true:=by
 obtain ⟨U,u1,u2,u3,u4,u5,u6,u7⟩:=h.mem M hl;obtain ⟨d1,d2⟩:=sum_bad (out:=out) u2 ha hb hc hd (by rw [u3,u4];simp) hne;have:=(frz_sized U.sum).err d2;rw [u1];exact ⟨this.1.trans d1,(frz_sized U.sum).to d2⟩
theorem member_size{t:Tr}{m a b:Nat}{name note raw out l:List Nat}(M:Mem m name note raw out)(h:On8 t (k6d m name note++(raw++(sum4 out++(a :: b :: l)))))(hl:(k6d m name note++(raw++(sum4 out++(a :: b :: l)))).length<=t.limit)
  (ha:a<256) (hb:b<256) (hne:[a,b]≠Tr.size2 out.length):t.member.err=13∧t.member.ended=true:=by
 obtain ⟨U,u1,u2,u3,u4,u5,u6,u7⟩:=h.mem M hl;obtain ⟨c1,c2⟩:=sum_ok (out:=out) u2 (by rw [u3,u4];simp);rw [u1];exact sized_bad (n:=out.length) c1 ha hb (by rw [c2.near.out,c2.near.frm,u3,u4];simp) hne
theorem member_short{t:Tr}{m a:Nat}{name note raw out:List Nat}(M:Mem m name note raw out)(h:On8 t (k6d m name note++(raw++(sum4 out++[a]))))(hl:(k6d m name note++(raw++(sum4 out++[a]))).length<=t.limit)(ha:a<256):t.member.err=0∧t.member.needs=true:=by
 obtain ⟨U,u1,u2,u3,u4,u5,u6,u7⟩:=h.mem M hl;obtain ⟨c1,c2⟩:=sum_ok (out:=out) u2 (by rw [u3,u4];simp);rw [u1];exact sized_short c1 ha
end Tr
theorem jcv(m:Nat)(name note l:List Nat):∃ r,k6d m name note++l=76 :: r:=⟨_,rfl⟩
theorem kdc{t:Tr}(hf:Tr.Fine t){x:Nat}{l:List Nat}(h:Tr.On8 t (x :: l))(hm:t.starts.length<1152921504606846976):Tr.long 1152921504606846976 t=Tr.long 1152921504606846976 ({ t with starts:=t.starts++[t.inn] }:Tr).member:=
 Tr.long_go hf ⟨h.on.going,by have:=h.inn;simp at this;omega⟩ (by omega)
theorem xhq{t:Tr}{l:List Nat}(h:Tr.On8 t l)(st:List Nat):Tr.On8 ({ t with starts:=st }:Tr) l:=by
 have o:=h.on;exact ⟨⟨o.going,o.left,o.cur,o.inn,o.rem⟩,h.left⟩
theorem yuf{s:ByteArray}(hs:s.size≠0):Tr.readAll 2 s=Tr.long 1152921504606846976 (Tr.start s 1152921504606846976):=by
 unfold Tr.readAll Tr.read Tr.readLong;rw [if_neg (by decide),if_neg (by decide),if_neg hs]
theorem jpa{s:ByteArray}{m:Nat}{name note l:List Nat}(h:ksp s (k6d m name note++l)):s.size≠0:=by
 obtain ⟨r,e⟩:=jcv m name note l;rw [e] at h;exact y97 h
theorem z9r{s:ByteArray}{m:Nat}{name note raw out l:List Nat}(M:Mem m name note raw out)(h:ksp s (vin m name note raw (sum4 out) (Tr.size2 out.length)++l))(hz:s.size<=1000000000) :
  ∃ U,Tr.readAll 2 s=Tr.long 1152921504606846976 U∧Tr.On8 U l∧U.out=out∧U.starts=[0]∧U.limit=1152921504606846976∧Tr.Fine U:=by
 have e:vin m name note raw (sum4 out) (Tr.size2 out.length)++l=k6d m name note++(raw++(sum4 out++(Tr.size2 out.length++l))):=by unfold vin;simp only [List.append_assoc]
 have hne:s.size≠0:=by rw [e] at h;exact jpa h
 have h0:Tr.On8 (Tr.start s 1152921504606846976) (vin m name note raw (sum4 out) (Tr.size2 out.length)++l):=Tr.on8_start h 1152921504606846976 [];have hl:(vin m name note raw (sum4 out) (Tr.size2 out.length)++l).length<=1000000000:=by rw [← h.size];exact hz
 obtain ⟨r,er⟩:=jcv m name note (raw++(sum4 out++(Tr.size2 out.length++l)));have hf:=kak s 1152921504606846976;have h1:=h0;rw [e,er] at h1;have f1:Tr.Fine ({ Tr.start s 1152921504606846976 with starts:=(Tr.start s 1152921504606846976).starts++[(Tr.start s 1152921504606846976).inn] }:Tr):=⟨hf.left,hf.cur,hf.inn,hf.frm,hf.ats,hf.err⟩
 rw [yuf hne,kdc hf h1 (by show 0<1152921504606846976;omega)];obtain ⟨d1,d2,d3,d4⟩:=Tr.On8.member M (xhq h0 ((Tr.start s 1152921504606846976).starts++[(Tr.start s 1152921504606846976).inn])) (by show _<=1152921504606846976;omega);exact ⟨_,rfl,d1,by rw [d2];rfl,by rw [d3];rfl,by rw [d4];rfl,(Tr.part_member f1).1.fine f1⟩
theorem zlb{s:ByteArray}{m m2:Nat}{name note raw out name2 note2 raw2 out2:List Nat}(M:Mem m name note raw out)(M2:Mem m2 name2 note2 raw2 out2)
  (h:ksp s (vin m name note raw (sum4 out) (Tr.size2 out.length)++vin m2 name2 note2 raw2 (sum4 out2) (Tr.size2 out2.length))) (hz:s.size<=1000000000):(Tr.readAll 2 s).mean=(xu6 (out++out2),0):=by
 obtain ⟨U,u1,u2,u3,u4,u5,u6⟩:=z9r M h hz;have hl:(vin m2 name2 note2 raw2 (sum4 out2) (Tr.size2 out2.length)).length<=1000000000:=by
  have:(vin m name note raw (sum4 out) (Tr.size2 out.length)++vin m2 name2 note2 raw2 (sum4 out2) (Tr.size2 out2.length)).length<=1000000000:=by rw [← h.size];exact hz
  rw [List.length_append] at this;omega
 have hx:∃ r,vin m2 name2 note2 raw2 (sum4 out2) (Tr.size2 out2.length)=76 :: r:=jcv _ _ _ _;obtain ⟨r,er⟩:=hx;have u2':=u2;rw [er] at u2';rw [u1,kdc u6 u2' (by rw [u4];decide)];rw [← List.append_nil (vin m2 name2 note2 raw2 (sum4 out2) (Tr.size2 out2.length))] at u2;obtain ⟨d1,d2,d3,d4⟩:=Tr.On8.member M2 (xhq u2 (U.starts++[U.inn])) (by show _<=U.limit;rw [u5,List.append_nil];omega);generalize ({ U with starts:=U.starts++[U.inn] }:Tr).member=V at *;have hi:=d1.inn;simp at hi;rw [Tr.long_stop (by omega),Tr.mean_ok d1.on.going,d2];show (xu6 (U.out++out2),0)=_;rw [u3]
theorem kig{s:ByteArray}{m a b c d:Nat}{name note raw out l:List Nat}(M:Mem m name note raw out)(h:ksp s (k6d m name note++(raw++(a :: b :: c :: d :: l))))(hz:s.size<=1000000000)
  (ha:a<256) (hb:b<256) (hc:c<256) (hd:d<256) (hne:[a,b,c,d]≠sum4 out):(Tr.readAll 2 s).mean=(⟨#[]⟩,12):=by
 have h0:Tr.On8 (Tr.start s 1152921504606846976) (k6d m name note++(raw++(a :: b :: c :: d :: l))):=Tr.on8_start h 1152921504606846976 [];have hl:(k6d m name note++(raw++(a :: b :: c :: d :: l))).length<=1000000000:=by rw [← h.size];exact hz
 obtain ⟨r,er⟩:=jcv m name note (raw++(a :: b :: c :: d :: l));have h1:=h0;rw [er] at h1;rw [yuf (jpa h),kdc (kak s _) h1 (by show 0<1152921504606846976;omega)];obtain ⟨d1,d2⟩:=Tr.member_sum M (xhq h0 ((Tr.start s 1152921504606846976).starts++[(Tr.start s 1152921504606846976).inn])) (by show _<=1152921504606846976;omega) ha hb hc hd hne;exact Tr.err_obs (((Tr.frz_long _ _).err d2).1.trans d1) (by decide)
theorem ksw{s:ByteArray}{m a b:Nat}{name note raw out l:List Nat}(M:Mem m name note raw out)(h:ksp s (k6d m name note++(raw++(sum4 out++(a :: b :: l)))))(hz:s.size<=1000000000)
  (ha:a<256) (hb:b<256) (hne:[a,b]≠Tr.size2 out.length):(Tr.readAll 2 s).mean=(⟨#[]⟩,13):=by
 have h0:Tr.On8 (Tr.start s 1152921504606846976) (k6d m name note++(raw++(sum4 out++(a :: b :: l)))):=Tr.on8_start h 1152921504606846976 [];have hl:(k6d m name note++(raw++(sum4 out++(a :: b :: l)))).length<=1000000000:=by rw [← h.size];exact hz
 obtain ⟨r,er⟩:=jcv m name note (raw++(sum4 out++(a :: b :: l)));have h1:=h0;rw [er] at h1;rw [yuf (jpa h),kdc (kak s _) h1 (by show 0<1152921504606846976;omega)];obtain ⟨d1,d2⟩:=Tr.member_size M (xhq h0 ((Tr.start s 1152921504606846976).starts++[(Tr.start s 1152921504606846976).inn])) (by show _<=1152921504606846976;omega) ha hb hne;exact Tr.err_obs (((Tr.frz_long _ _).err d2).1.trans d1) (by decide)
theorem jcb{s:ByteArray}{m m2 a:Nat}{name note raw out name2 note2 raw2 out2:List Nat}(M:Mem m name note raw out)(M2:Mem m2 name2 note2 raw2 out2)
  (h:ksp s (vin m name note raw (sum4 out) (Tr.size2 out.length)++(k6d m2 name2 note2++(raw2++(sum4 out2++[a]))))) (hz:s.size<=1000000000) (ha:a<256):(Tr.readAll 2 s).mean=(⟨#[]⟩,15):=by
 obtain ⟨U,u1,u2,u3,u4,u5,u6⟩:=z9r M h hz;have hl:(k6d m2 name2 note2++(raw2++(sum4 out2++[a]))).length<=1000000000:=by
  have:(vin m name note raw (sum4 out) (Tr.size2 out.length)++(k6d m2 name2 note2++(raw2++(sum4 out2++[a])))).length<=1000000000:=by rw [← h.size];exact hz
  rw [List.length_append] at this;omega
 obtain ⟨r,er⟩:=jcv m2 name2 note2 (raw2++(sum4 out2++[a]));have u2':=u2;rw [er] at u2';rw [u1,kdc u6 u2' (by rw [u4];decide)];obtain ⟨d1,d2⟩:=Tr.member_short M2 (xhq u2 (U.starts++[U.inn])) (by show _<=U.limit;rw [u5];omega) ha;generalize ({ U with starts:=U.starts++[U.inn] }:Tr).member=V at *;have he:V.ended=true:=by unfold Tr.ended;rw [d2];simp
 have:=(Tr.frz_long 1152921504606846976 V).err he;unfold Tr.mean;rw [this.1,this.2,d1,d2];rfl
theorem j9p{s:ByteArray}{m x:Nat}{name note raw out:List Nat}(M:Mem m name note raw out)(h:ksp s (vin m name note raw (sum4 out) (Tr.size2 out.length)++[x]))(hz:s.size<=1000000000)(hx:x<256)(hne:x≠76):(Tr.readAll 2 s).mean=(⟨#[]⟩,4):=by
 obtain ⟨U,u1,u2,u3,u4,u5,u6⟩:=z9r M h hz;rw [u1,kdc u6 u2 (by rw [u4];decide)];have v0:Tr.On8 ({ ({ U with starts:=U.starts++[U.inn] }:Tr) with head:=0,many:=0 }:Tr) [x]:=by
  have o:=u2.on;exact ⟨⟨o.going,o.left,o.cur,o.inn,o.rem⟩,u2.left⟩
 generalize hV:({ U with starts:=U.starts++[U.inn] }:Tr)=V at *;have hlim:V.limit=1152921504606846976:=by rw [← hV];exact u5
 obtain ⟨c1,c2,c3⟩:=v0.crown hx (by show 0+1<=V.limit;omega);have e:({ V with head:=0,many:=0 }:Tr).isB 76=({ V with head:=0,many:=0 }:Tr).crown.2.fail 4:=by
  unfold Tr.isB;rw [if_neg (by rw [c1];exact hne)]
 have hend:(({ V with head:=0,many:=0 }:Tr).isB 76).ended=true:=by rw [e];exact Tr.ended_fail _ (by decide)
 have herr:(({ V with head:=0,many:=0 }:Tr).isB 76).err=4:=by rw [e,Tr.fail_going c2.on.going]
 have hz2:Tr.Frz (({ V with head:=0,many:=0 }:Tr).isB 76) (Tr.long 1152921504606846976 V.member):=
  ((((((Tr.frz_isB _ 2).trans (Tr.frz_crown _)).trans (Tr.frz_marked _ _)).trans (Tr.frz_blocks _)).trans (Tr.frz_sum _)).trans (Tr.frz_sized _)).trans (Tr.frz_long _ _)
 exact Tr.err_obs ((hz2.err hend).1.trans herr) (by decide)
end Go.Proofs.YtbcjmakpempkiaaGreatDoor
