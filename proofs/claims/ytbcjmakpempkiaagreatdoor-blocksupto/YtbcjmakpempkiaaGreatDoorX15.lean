import Derived.Test.YtbcjmakpempkiaaGreatDoorX14
set_option maxRecDepth 100000
set_option maxHeartbeats 8000000
set_option linter.all false
namespace Go.Proofs.YtbcjmakpempkiaaGreatDoor
namespace St
theorem fmt_pos{σ:St}(W:Wf σ)(h:σ.st<6):σ.fmt≠0:=fun h0=>by have:=W.raw h0;omega
theorem six{n:Nat}(h:n<6):n=0∨n=1∨n=2∨n=3∨n=4∨n=5:=by omega
theorem few_head{σ:St}{n:Nat}(h:n<6)(hc:σ.count%8=0∧σ.count<=8):Few n σ:=by
 rcases six h with rfl | rfl | rfl | rfl | rfl | rfl <;> exact hc
theorem few_of{σ:St}{n:Nat}(h:n<6)(hf:Few n σ):σ.count%8=0∧σ.count<=8:=by
 rcases six h with rfl | rfl | rfl | rfl | rfl | rfl <;> exact hf
theorem at_head{σ:St}{n:Nat}(h:n<6)(hc:σ.om=[]):At n σ:=by
 rcases six h with rfl | rfl | rfl | rfl | rfl | rfl <;> exact hc
theorem at_of{σ:St}{n:Nat}(h:n<6)(ha:At n σ):σ.om=[]:=by
 rcases six h with rfl | rfl | rfl | rfl | rfl | rfl <;> exact ha
theorem loc_head{σ:St}{n:Nat}(h:n<6):loc n σ=11 - n:=by
 rcases six h with rfl | rfl | rfl | rfl | rfl | rfl <;> rfl
theorem take_head{σ:St}(W:Wf σ)(hst:σ.st<6)(h8:σ.count<8)(b:Nat)(hb:b<256):Wf (σ.add b):=by
 have hc:=few_of hst W.few;exact W.take hb (few_head hst ⟨by show (σ.count+8)%8=0;omega,by show σ.count+8<=8;omega⟩) (at_head hst (show σ.om=[] from at_of hst W.at_))
theorem wf_crown{σ σ':St}(W:Wf σ)(hst:σ.st<6)(h8:¬ σ.count<8)(hn:σ'.st<=6)(h1:σ'.fmt=σ.fmt)(h2:σ'.held=σ.held / 2^8)(h3:σ'.count=σ.count - 8)(h4:σ'.hl=σ.hl)(h5:σ'.row=σ.row)(h6:σ'.om=σ.om)(h7:σ'.marks<=7∧(σ.fmt≠2->σ'.marks=0))(h9:σ'.hsum=(σ.hsum+σ.num 8)%256)(h10:σ'.mem=σ.mem)(h11:σ'.lim=σ.lim):NextA (.tau σ') σ:=by
 have hc:=few_of hst W.few;have ho:=at_of hst W.at_;have hf:=fmt_pos W hst;refine ⟨⟨by rw [h1];exact W.fmt,by omega,fun h0=>absurd (h1 ▸ h0) hf,by rw [h2,h3];exact held_rd W (by omega),?_,?_,fun _=>by rw [h4,h5];exact W.own (by omega),by rw [h6];exact W.om,by rw [h1];exact h7,by rw [h9];omega⟩,?_,h1,h10,h11,fun h=>by omega⟩
 ·by_cases e:σ'.st=6
  ·rw [e];show σ'.count<11;omega
  ·exact few_head (by omega) ⟨by omega,by omega⟩
 ·by_cases e:σ'.st=6
  ·rw [e];exact trivial
  ·exact at_head (by omega) (by rw [h6];exact ho)
 ·unfold phi;rw [loc_head hst];by_cases e:σ'.st=6
  ·rw [e];show 100*σ'.count+5<_;omega
  ·rw [loc_head (by omega)];omega
theorem wf_over{σ:St}(W:Wf σ)(hst:σ.st<6):NextA (.tau { σ with st:=σ.st+1 }) σ:=by
 have hc:=few_of hst W.few;have ho:=at_of hst W.at_;have hf:=fmt_pos W hst;refine ⟨⟨W.fmt,by show σ.st+1<24;omega,fun h0=>absurd h0 hf,W.held,?_,?_,fun _=>W.own (by omega),W.om,W.marks,W.hsum⟩,?_,rfl,rfl,rfl,fun h=>by have:σ.st+1=23:=h;omega⟩
 ·show Few (σ.st+1) _;by_cases e:σ.st=5
  ·rw [e];show σ.count<11;omega
  ·exact few_head (by omega) hc
 ·show At (σ.st+1) _;by_cases e:σ.st=5
  ·rw [e];exact trivial
  ·exact at_head (by omega) ho
 ·unfold phi;rw [loc_head hst];show 100*σ.count+loc (σ.st+1) _<_;by_cases e:σ.st=5
  ·rw [e];show 100*σ.count+5<_;omega
  ·rw [loc_head (by omega)];omega
theorem next_byte{σ:St}(W:Wf σ)(hst:σ.st<6)(w:Nat):NextA (σ.need 8 (σ.headByte w (σ.st+1))) σ:=by
 unfold need headByte;by_cases h8:σ.count<8
 ·rw [if_pos h8];exact fun b hb=>take_head W hst h8 b hb
 ·rw [if_neg h8];split
  ·exact ⟨by decide,by decide⟩
  ·split
   ·exact wf_crown W hst h8 (by show σ.st+1<=6;omega) rfl rfl rfl rfl rfl rfl W.marks rfl rfl rfl
   ·exact ⟨by decide,by decide⟩
theorem next_text{σ:St}(W:Wf σ)(hst:σ.st<6):NextA (σ.need 8 (σ.text (σ.st+1))) σ:=by
 unfold need text;by_cases h8:σ.count<8
 ·rw [if_pos h8];exact fun b hb=>take_head W hst h8 b hb
 ·rw [if_neg h8];split
  ·exact ⟨by decide,by decide⟩
  ·refine wf_crown W hst h8 ?_ rfl rfl rfl rfl rfl rfl W.marks rfl rfl rfl;show (if σ.num 8=0 then σ.st+1 else σ.st)<=6;split <;> omega
theorem next_0{σ:St}(W:Wf σ)(h:σ.st=0):NextA σ.act σ:=by
 have:=next_byte W (by omega) (if σ.fmt=1 then 115 else 76);rw [act_at h];rw [h] at this;exact this
theorem next_1{σ:St}(W:Wf σ)(h:σ.st=1):NextA σ.act σ:=by
 have:=next_byte W (by omega) (if σ.fmt=1 then 1 else 2);rw [act_at h];rw [h] at this;exact this
theorem next_2{σ:St}(W:Wf σ)(h:σ.st=2):NextA σ.act σ:=by
 rw [act_at h];simp only [actAt,need];split
 ·rename_i hf
  by_cases h8:σ.count<8
  ·rw [if_pos h8];exact fun b hb=>take_head W (by omega) h8 b hb
  ·rw [if_neg h8];split
   ·exact ⟨by decide,by decide⟩
   ·split
    ·exact ⟨by decide,by decide⟩
    ·rename_i h7
     exact wf_crown W (by omega) h8 (by show 3<=6;omega) rfl rfl rfl rfl rfl rfl ⟨by show σ.num 8<=7;omega,fun h=>absurd hf h⟩ rfl rfl rfl
 ·have:=wf_over W (by omega);rw [h] at this;exact this
theorem next_3{σ:St}(W:Wf σ)(h:σ.st=3):NextA σ.act σ:=by
 rw [act_at h];simp only [actAt];split
 ·have:=next_text W (by omega);rw [h] at this;exact this
 ·have:=wf_over W (by omega);rw [h] at this;exact this
theorem next_4{σ:St}(W:Wf σ)(h:σ.st=4):NextA σ.act σ:=by
 rw [act_at h];simp only [actAt];split
 ·have:=next_text W (by omega);rw [h] at this;exact this
 ·have:=wf_over W (by omega);rw [h] at this;exact this
theorem next_5{σ:St}(W:Wf σ)(h:σ.st=5):NextA σ.act σ:=by
 rw [act_at h];simp only [actAt];split
 ·have:=next_byte W (by omega) σ.hsum;rw [h] at this;exact this
 ·have:=wf_over W (by omega);rw [h] at this;exact this
theorem next_end{σ τ:St}(W:Wf σ)(hs:6<=σ.st)(hb:τ.held<2^τ.count)(hc:τ.count<8)(hp:100*τ.count+14<phi σ)(h1:τ.fmt=σ.fmt)(h2:τ.hl=[]∧τ.row=[])(h6:τ.om=σ.om)(h7:τ.marks=σ.marks)(h9:τ.hsum=σ.hsum)(h10:τ.mem=σ.mem)(h11:τ.lim=σ.lim):NextA τ.endBlock σ:=by
 unfold endBlock;split
 ·split
  ·exact ⟨by decide,by decide⟩
  ·refine ⟨⟨by show τ.fmt<3;rw [h1];exact W.fmt,by show 21<24;omega,fun _=>by show 6<=21;omega,by show 0<2^0;omega,⟨rfl,by show 0<=32;omega,fun _=>rfl⟩,trivial,fun _=>h2,by show ∀ x∈τ.om,x<256;rw [h6];exact W.om,by show τ.marks<=7∧(τ.fmt≠2->τ.marks=0);rw [h1,h7];exact W.marks,by show τ.hsum<256;rw [h9];exact W.hsum⟩,?_,h1,h10,h11,fun h=>by have:(21:Nat)=23:=h;omega⟩;show 100*0+14<_;omega
 ·refine ⟨⟨by show τ.fmt<3;rw [h1];exact W.fmt,by show 6<24;omega,fun _=>by show 6<=6;omega,hb,by show τ.count<11;omega,trivial,fun _=>h2,by show ∀ x∈τ.om,x<256;rw [h6];exact W.om,by show τ.marks<=7∧(τ.fmt≠2->τ.marks=0);rw [h1,h7];exact W.marks,by show τ.hsum<256;rw [h9];exact W.hsum⟩,?_,h1,h10,h11,fun h=>by have:(6:Nat)=23:=h;omega⟩;show 100*τ.count+5<_;omega
theorem fixed_sets:inRange Tr.fixedA=true∧jwa gw Tr.fixedA=2048∧Tr.fixedA.length=269∧inRange Tr.fixedB=true∧jwa gw Tr.fixedB=2048∧Tr.fixedB.length=16:=by decide
theorem next_6{σ:St}(W:Wf σ)(h:σ.st=6):NextA σ.act σ:=by
 have few:=W.few;rw [h] at few;have hc:σ.count<11:=few;rw [act_at h];simp only [actAt,need];have hphi:phi σ=100*σ.count+5:=by unfold phi;rw [h];rfl
 by_cases h3:σ.count<3
 ·rw [if_pos h3];exact fun b hb=>W.take hb (by rw [h];show σ.count+8<11;omega) (by rw [h];trivial)
 ·rw [if_neg h3];have hh:=held_rd W (k:=3) (by omega);have hown:=W.own (by omega);unfold kind;simp only;split
  ·split
   ·exact ⟨by decide,by decide⟩
   ·refine ⟨⟨W.fmt,by show 7<24;omega,fun _=>by show 6<=7;omega,by show 0<2^0;omega,⟨rfl,by show 0<=32;omega⟩,trivial,fun _=>hown,W.om,W.marks,W.hsum⟩,?_,rfl,rfl,rfl,fun h=>by have:(7:Nat)=23:=h;omega⟩;rw [hphi];show 100*0+21<_;omega
  ·split
   ·obtain ⟨f1,f2,f3,f4,f5,f6⟩:=fixed_sets;refine ⟨⟨W.fmt,by show 16<24;omega,fun _=>by show 6<=16;omega,hh,y8i.of_lt (by show σ.count - 3<8;omega),⟨f1,f2,by show 257<=Tr.fixedA.length∧Tr.fixedA.length<=269;omega,f4,Or.inl f5,by show Tr.fixedB.length<=16;omega⟩,fun _=>hown,W.om,W.marks,W.hsum⟩,?_,rfl,rfl,rfl,fun h=>by have:(16:Nat)=23:=h;omega⟩;rw [hphi];show 100*(σ.count - 3)+16<_;omega
   ·split
    ·refine ⟨⟨W.fmt,by show 9<24;omega,fun _=>by show 6<=9;omega,hh,by show σ.count - 3<12;omega,trivial,fun _=>hown,W.om,W.marks,W.hsum⟩,?_,rfl,rfl,rfl,fun h=>by have:(9:Nat)=23:=h;omega⟩;rw [hphi];show 100*(σ.count - 3)+4<_;omega
    ·exact ⟨by decide,by decide⟩
theorem next_7{σ:St}(W:Wf σ)(h:σ.st=7):NextA σ.act σ:=by
 have few:=W.few;rw [h] at few;have hc:σ.count%8=0∧σ.count<=32:=few;rw [act_at h];simp only [actAt,need];have hphi:phi σ=100*σ.count+21:=by unfold phi;rw [h];rfl
 by_cases h3:σ.count<32
 ·rw [if_pos h3];exact fun b hb=>W.take hb (by rw [h];show (σ.count+8)%8=0∧σ.count+8<=32;omega) (by rw [h];trivial)
 ·rw [if_neg h3];have hh:=held_rd W (k:=32) (by omega);split
  ·refine ⟨⟨W.fmt,by show 8<24;omega,fun _=>by show 6<=8;omega,hh,⟨by show (σ.count - 32)%8=0;omega,by show σ.count - 32<=8;omega,fun _=>by show σ.count - 32=0;omega⟩,?_,fun _=>W.own (by omega),W.om,W.marks,W.hsum⟩,?_,rfl,rfl,rfl,fun h=>by have:(8:Nat)=23:=h;omega⟩
   ·show σ.num 16<=65535;have:σ.num 16<2^16:=Nat.mod_lt _ (by decide);omega
   ·rw [hphi];show 100*(σ.count - 32)+20<_;omega
  ·exact ⟨by decide,by decide⟩
theorem num_lt(σ:St)(k:Nat):σ.num k<2^k:=Nat.mod_lt _ (Nat.pow_pos (by decide))
theorem om_snoc{l:List Nat}(h:∀ x∈l,x<256){b:Nat}(hb:b<256):∀ x∈l++[b],x<256:=fun x hx=>by
 rcases List.mem_append.1 hx with hx | hx
 ·exact h x hx
 ·simp at hx;omega
theorem next_8{σ:St}(W:Wf σ)(h:σ.st=8):NextA σ.act σ:=by
 have few:=W.few;have at_:=W.at_;rw [h] at few at_;have hc:σ.count%8=0∧σ.count<=8∧(σ.left=0->σ.count=0):=few;have ha:σ.left<=65535:=at_;rw [act_at h];simp only [actAt,need];have hphi:phi σ=100*σ.count+20:=by unfold phi;rw [h];rfl
 split
 ·exact next_end W (by omega) W.held (by omega) (by omega) rfl (W.own (by omega)) rfl rfl rfl rfl rfl
 ·rename_i hl
  by_cases h3:σ.count<8
  ·rw [if_pos h3];exact fun b hb=>W.take hb (by rw [h];show (σ.count+8)%8=0∧σ.count+8<=8∧(σ.left=0->σ.count+8=0);omega) (by rw [h];exact ha)
  ·rw [if_neg h3];have hh:=held_rd W (k:=8) (by omega);have hn:=num_lt σ 8;refine ⟨⟨W.fmt,W.st,W.raw,hh,?_,?_,fun _=>W.own (by omega),om_snoc W.om hn,W.marks,W.hsum⟩,hn,?_,rfl,rfl,rfl⟩
   ·show Few σ.st _;rw [h];show (σ.count - 8)%8=0∧σ.count - 8<=8∧(σ.left - 1=0->σ.count - 8=0);omega
   ·show At σ.st _;rw [h];show σ.left - 1<=65535;omega
   ·rw [hphi];show 100*(σ.count - 8)+loc σ.st _<_;rw [h];show 100*(σ.count - 8)+20<_;omega
theorem next_21{σ:St}(W:Wf σ)(h:σ.st=21):NextA σ.act σ:=by
 have few:=W.few;rw [h] at few;have hc:σ.count%8=0∧σ.count<=32∧(σ.fmt=0->σ.count=0):=few;rw [act_at h];simp only [actAt,need];have hphi:phi σ=100*σ.count+14:=by unfold phi;rw [h];rfl
 split
 ·rename_i hf
  refine ⟨⟨W.fmt,by show 22<24;omega,fun _=>by show 6<=22;omega,W.held,⟨by show σ.count%8=0;omega,by show σ.count<=16;omega,fun _=>by show σ.count=0;omega⟩,trivial,fun _=>W.own (by omega),W.om,W.marks,W.hsum⟩,?_,rfl,rfl,rfl,fun h=>by have:(22:Nat)=23:=h;omega⟩;rw [hphi];show 100*σ.count+13<_;omega
 ·rename_i hf
  by_cases h3:σ.count<32
  ·rw [if_pos h3];exact fun b hb=>W.take hb (by rw [h];show (σ.count+8)%8=0∧σ.count+8<=32∧(σ.fmt=0->σ.count+8=0);omega) (by rw [h];trivial)
  ·rw [if_neg h3];have hh:=held_rd W (k:=32) (by omega);split
   ·refine ⟨⟨W.fmt,by show 22<24;omega,fun _=>by show 6<=22;omega,hh,⟨by show (σ.count - 32)%8=0;omega,by show σ.count - 32<=16;omega,fun _=>by show σ.count - 32=0;omega⟩,trivial,fun _=>W.own (by omega),W.om,W.marks,W.hsum⟩,?_,rfl,rfl,rfl,fun h=>by have:(22:Nat)=23:=h;omega⟩;rw [hphi];show 100*(σ.count - 32)+13<_;omega
   ·exact ⟨by decide,by decide⟩
theorem next_22{σ:St}(W:Wf σ)(h:σ.st=22):NextA σ.act σ:=by
 have few:=W.few;rw [h] at few;have hc:σ.count%8=0∧σ.count<=16∧(σ.fmt≠2->σ.count=0):=few;rw [act_at h];simp only [actAt,need];have hphi:phi σ=100*σ.count+13:=by unfold phi;rw [h];rfl
 split
 ·rename_i hf
  by_cases h3:σ.count<16
  ·rw [if_pos h3];exact fun b hb=>W.take hb (by rw [h];show (σ.count+8)%8=0∧σ.count+8<=16∧(σ.fmt≠2->σ.count+8=0);omega) (by rw [h];trivial)
  ·rw [if_neg h3];have hh:=held_rd W (k:=16) (by omega);split
   ·refine ⟨⟨W.fmt,by show 23<24;omega,fun _=>by show 6<=23;omega,hh,⟨by show (σ.count - 16)%8=0;omega,by show σ.count - 16<=8;omega⟩,trivial,fun _=>W.own (by omega),W.om,W.marks,W.hsum⟩,?_,rfl,rfl,rfl,fun _=>by show σ.count - 16=0;omega⟩;rw [hphi];show 100*(σ.count - 16)+12<_;omega
   ·exact ⟨by decide,by decide⟩
 ·rename_i hf
  refine ⟨⟨W.fmt,by show 23<24;omega,fun _=>by show 6<=23;omega,W.held,⟨by show σ.count%8=0;omega,by show σ.count<=8;omega⟩,trivial,fun _=>W.own (by omega),W.om,W.marks,W.hsum⟩,?_,rfl,rfl,rfl,fun _=>by show σ.count=0;omega⟩;rw [hphi];show 100*σ.count+12<_;omega
theorem next_23{σ:St}(W:Wf σ)(h:σ.st=23):NextA σ.act σ:=by
 have few:=W.few;rw [h] at few;have hc:σ.count%8=0∧σ.count<=8:=few;rw [act_at h];simp only [actAt,need];have hphi:phi σ=100*σ.count+12:=by unfold phi;rw [h];rfl
 by_cases h3:σ.count<8
 ·rw [if_pos h3];exact fun b hb=>W.take hb (by rw [h];show (σ.count+8)%8=0∧σ.count+8<=8;omega) (by rw [h];trivial)
 ·rw [if_neg h3];split
  ·exact ⟨by decide,by decide⟩
  ·rename_i hf
   split
   ·exact ⟨by decide,by decide⟩
   ·refine ⟨⟨W.fmt,by show 0<24;omega,fun h0=>absurd (show σ.fmt=0 from h0) (by omega),W.held,hc,rfl,fun _=>W.own (by omega),fun x hx=>(by cases hx),⟨Nat.zero_le _,fun _=>rfl⟩,by show 0<256;omega⟩,?_,rfl,rfl,rfl,fun h=>by have:(0:Nat)=23:=h;omega⟩;rw [hphi];show 100*σ.count+11<_;omega
end St
theorem yym:∀ (hl:List Int) (i:Nat) (l:List Int),(∀ x∈hl,0<=x∧x<8)->inRange l=true->inRange (xhc hl i l)=true∧(xhc hl i l).length=l.length
 | [],_,l,_,h=>⟨h,rfl⟩
 | x :: xs,i,l,hx,h=>by
  have h1:=hx x (by simp);have h2:inRange (l.set (Tr.order.getD i 0) x)=true:=by
   rw [vto] at h ⊢;intro y hy;rcases List.mem_or_eq_of_mem_set hy with hy | hy
   ·exact h y hy
   ·omega
  have:=yym xs (i+1) (l.set (Tr.order.getD i 0) x) (fun y hy=>hx y (by simp [hy])) h2;exact ⟨this.1,by show (xhc xs (i+1) _).length=_;rw [this.2];simp⟩
theorem jsu{hl:List Int}(h:∀ x∈hl,0<=x∧x<8):inRange (hset hl)=true∧(hset hl).length=15:=yym hl 0 _ h (by decide)
theorem zgl{l m:List Int}(h:inRange l=true)(hs:∀ x∈m,x∈l):inRange m=true:=by
 rw [vto] at h ⊢;exact fun x hx=>h x (hs x hx)
theorem yyi{l:List Int}(h:inRange l=true)(k:Nat):yuc (l.getD k 0)=true:=by
 rw [vto] at h;rw [List.getD_eq_getElem?_getD];cases e:l[k]? with
 | none=>decide
 | some x=>
  have:=h x (List.mem_of_getElem? e);simp [yuc];omega
theorem jy1{k:Nat}{l:List Int}(hk:k<15)(h:inRange l=true):yuc (hval k l)=true:=by
 unfold hval;split
 ·exact yyi h _
 ·split
  ·decide
  ·split
   ·decide
   ·simp [yuc];omega
theorem zj7{j:Nat}(h:j<12):Tr.spanBits j<=4∧3<=Tr.spanLeast 3 j∧Tr.spanLeast 3 j+2^Tr.spanBits j<=67:=by
 have:j=0∨j=1∨j=2∨j=3∨j=4∨j=5∨j=6∨j=7∨j=8∨j=9∨j=10∨j=11:=by omega
 rcases this with rfl | rfl | rfl | rfl | rfl | rfl | rfl | rfl | rfl | rfl | rfl | rfl <;> decide
theorem kfi{j:Nat}(h:j<16):Tr.spanBits j<=6∧1<=Tr.spanLeast 1 j∧Tr.spanLeast 1 j+2^Tr.spanBits j<=257:=by
 have:j=0∨j=1∨j=2∨j=3∨j=4∨j=5∨j=6∨j=7∨j=8∨j=9∨j=10∨j=11∨j=12∨j=13∨j=14∨j=15:=by omega
 rcases this with rfl | rfl | rfl | rfl | rfl | rfl | rfl | rfl | rfl | rfl | rfl | rfl | rfl | rfl | rfl | rfl <;> decide
namespace St
theorem next_9{σ:St}(W:Wf σ)(h:σ.st=9):NextA σ.act σ:=by
 have few:=W.few;rw [h] at few;have hc:σ.count<12:=few;rw [act_at h];simp only [actAt,need];have hphi:phi σ=100*σ.count+4:=by unfold phi;rw [h];rfl
 by_cases h3:σ.count<4
 ·rw [if_pos h3];exact fun b hb=>W.take hb (by rw [h];show σ.count+8<12;omega) (by rw [h];trivial)
 ·rw [if_neg h3];have hh:=held_rd W (k:=4) (by omega);split
  ·exact ⟨by decide,by decide⟩
  ·rename_i hn
   refine ⟨⟨W.fmt,by show 10<24;omega,fun _=>by show 6<=10;omega,hh,by show σ.count - 4<12;omega,by show 257<=257+σ.num 4∧257+σ.num 4<=269;omega,fun _=>W.own (by omega),W.om,W.marks,W.hsum⟩,?_,rfl,rfl,rfl,fun h=>by have:(10:Nat)=23:=h;omega⟩;rw [hphi];show 100*(σ.count - 4)+3<_;omega
theorem next_10{σ:St}(W:Wf σ)(h:σ.st=10):NextA σ.act σ:=by
 have few:=W.few;have at_:=W.at_;rw [h] at few at_;have hc:σ.count<12:=few;have ha:257<=σ.nl∧σ.nl<=269:=at_;rw [act_at h];simp only [actAt,need];have hphi:phi σ=100*σ.count+3:=by unfold phi;rw [h];rfl
 have hn:=num_lt σ 4;by_cases h3:σ.count<4
 ·rw [if_pos h3];exact fun b hb=>W.take hb (by rw [h];show σ.count+8<12;omega) (by rw [h];exact ha)
 ·rw [if_neg h3];have hh:=held_rd W (k:=4) (by omega);refine ⟨⟨W.fmt,by show 11<24;omega,fun _=>by show 6<=11;omega,hh,by show σ.count - 4<12;omega,⟨ha,by show 1<=1+σ.num 4∧1+σ.num 4<=16;omega⟩,fun _=>W.own (by omega),W.om,W.marks,W.hsum⟩,?_,rfl,rfl,rfl,fun h=>by have:(11:Nat)=23:=h;omega⟩;rw [hphi];show 100*(σ.count - 4)+2<_;omega
theorem next_11{σ:St}(W:Wf σ)(h:σ.st=11):NextA σ.act σ:=by
 have few:=W.few;have at_:=W.at_;rw [h] at few at_;have hc:σ.count<12:=few;have ha:(257<=σ.nl∧σ.nl<=269)∧1<=σ.nd∧σ.nd<=16:=at_;have ho:=W.own (by omega);rw [act_at h];simp only [actAt,need];have hphi:phi σ=100*σ.count+2:=by unfold phi;rw [h];rfl
 by_cases h3:σ.count<4
 ·rw [if_pos h3];exact fun b hb=>W.take hb (by rw [h];show σ.count+8<12;omega) (by rw [h];exact ha)
 ·rw [if_neg h3];have hh:=held_rd W (k:=4) (by omega);split
  ·exact ⟨by decide,by decide⟩
  ·rename_i hn
   refine ⟨⟨W.fmt,by show 12<24;omega,fun _=>by show 6<=12;omega,hh,⟨by show σ.count - 4<11;omega,fun _=>by show σ.count - 4<8;omega⟩,⟨ha.1,ha.2,by show 4<=4+σ.num 4∧4+σ.num 4<=15;omega,by show σ.hl.length<=_;rw [ho.1];exact Nat.zero_le _,(fun x hx=>by have hx2:x∈σ.hl:=hx;rw [ho.1] at hx2;cases hx2),ho.2⟩,fun h=>by have:(12:Nat)<12∨14<12:=h;omega,W.om,W.marks,W.hsum⟩,?_,rfl,rfl,rfl,fun h=>by have:(12:Nat)=23:=h;omega⟩;rw [hphi];show 100*(σ.count - 4)+30<_;omega
theorem next_12{σ:St}(W:Wf σ)(h:σ.st=12):NextA σ.act σ:=by
 have few:=W.few;have at_:=W.at_;rw [h] at few at_;have hc:σ.count<11∧(σ.hl.length=σ.told->σ.count<8):=few;obtain ⟨a1,a2,a3,a4,a5,a6⟩:=at_;rw [act_at h];simp only [actAt,need];have hphi:phi σ=100*σ.count+30:=by unfold phi;rw [h];rfl
 have hn:=num_lt σ 3;split
 ·rename_i hl
  by_cases h3:σ.count<3
  ·rw [if_pos h3];exact fun b hb=>W.take hb (by rw [h];exact ⟨by show σ.count+8<11;omega,fun e=>by have:σ.hl.length=σ.told:=e;omega⟩) (by rw [h];exact ⟨a1,a2,a3,a4,a5,a6⟩)
  ·rw [if_neg h3];have hh:=held_rd W (k:=3) (by omega);refine ⟨⟨W.fmt,W.st,W.raw,hh,?_,?_,fun e=>by have:σ.st<12∨14 < σ.st:=e;omega,W.om,W.marks,W.hsum⟩,?_,rfl,rfl,rfl,fun e=>by have:σ.st=23:=e;omega⟩
   ·show Few σ.st _;rw [h];exact ⟨by show σ.count - 3<11;omega,fun _=>by show σ.count - 3<8;omega⟩
   ·show At σ.st _;rw [h];refine ⟨a1,a2,a3,by show (σ.hl++[_]).length<=σ.told;simp;omega,?_,a6⟩;intro x hx;rcases List.mem_append.1 hx with hx | hx
    ·exact a5 x hx
    ·simp at hx;omega
   ·rw [hphi];show 100*(σ.count - 3)+loc σ.st _<_;rw [h];show 100*(σ.count - 3)+30<_;omega
 ·rename_i hl
  split
  ·rename_i hw
   obtain ⟨r1,r2⟩:=jsu a5;refine ⟨⟨W.fmt,by show 13<24;omega,fun _=>by show 6<=13;omega,W.held,y8i.of_lt (by show σ.count<8;exact hc.2 (by omega)),⟨a1,a2,⟨r1,hw,r2⟩,by show inRange σ.row=true;rw [a6];rfl,by show σ.row.length < σ.nl+σ.nd;rw [a6];show 0<_;omega⟩,fun e=>by have:(13:Nat)<12∨14<13:=e;omega,W.om,W.marks,W.hsum⟩,?_,rfl,rfl,rfl,fun h=>by have:(13:Nat)=23:=h;omega⟩;rw [hphi];show 100*σ.count+29<_;omega
  ·exact ⟨by decide,by decide⟩
theorem hit_facts{l:List Int}{h c k m:Nat}(e:jcs l h c= .hit k m):1<=m∧m<=c∧k<l.length:=by
 have:=zmq l _ _ _ _ _ _ _ e;omega
theorem next_13{σ:St}(W:Wf σ)(h:σ.st=13):NextA σ.act σ:=by
 have few:=W.few;have at_:=W.at_;rw [h] at few at_;have hc:y8i σ.hs σ.held σ.count:=few;obtain ⟨a1,a2,a3,a4,a5⟩:=at_;rw [act_at h];simp only [actAt,symbol];have hphi:phi σ=100*σ.count+29:=by unfold phi;rw [h];rfl
 cases e:jcs σ.hs σ.held σ.count with
 | none=>exact ⟨by decide,by decide⟩
 | more=>exact fun b hb=>W.take hb (by rw [h];exact y8i.take b e) (by rw [h];exact ⟨a1,a2,a3,a4,a5⟩)
 | hit k m=>
  obtain ⟨h1,h2,h3⟩:=hit_facts e;have hm:=hc.1 k m e;refine ⟨⟨W.fmt,by show 14<24;omega,fun _=>by show 6<=14;omega,held_rd W h2,by show σ.count - m<8+hbits k;omega,⟨⟨a1,a2,a3,a4,a5⟩,by show k<15;omega⟩,fun e=>by have:(14:Nat)<12∨14<14:=e;omega,W.om,W.marks,W.hsum⟩,?_,rfl,rfl,rfl,fun h=>by have:(14:Nat)=23:=h;omega⟩;rw [hphi];show 100*(σ.count - m)+31<_;omega
theorem next_14{σ:St}(W:Wf σ)(h:σ.st=14):NextA σ.act σ:=by
 have few:=W.few;have at_:=W.at_;rw [h] at few at_;have hc:σ.count<8+hbits σ.hk:=few;obtain ⟨⟨a1,a2,a3,a4,a5⟩,a6⟩:=at_;rw [act_at h];simp only [actAt,need];have hphi:phi σ=100*σ.count+31:=by unfold phi;rw [h];rfl
 by_cases h3:σ.count<hbits σ.hk
 ·rw [if_pos h3];exact fun b hb=>W.take hb (by rw [h];show σ.count+8<8+hbits σ.hk;omega) (by rw [h];exact ⟨⟨a1,a2,a3,a4,a5⟩,a6⟩)
 ·rw [if_neg h3];have hh:=held_rd W (k:=hbits σ.hk) (by omega);have hr:=Tr.inRange_append a4 (jy1 a6 a4) (hleast σ.hk+σ.num (hbits σ.hk));unfold rowNumber;simp only;split
  ·exact ⟨by decide,by decide⟩
  ·split
   ·exact ⟨by decide,by decide⟩
   ·rename_i hl
    generalize hrow:σ.row++List.replicate (hleast σ.hk+σ.num (hbits σ.hk)) (hval σ.hk σ.row)=row' at *;have hlen:row'.length<=σ.nl+σ.nd:=by rw [← hrow];simp;omega
    split
    ·rename_i hw
     unfold endRow;show NextA (if jcj (row'.take σ.nl) (row'.drop σ.nl) then _ else _) σ;split
     ·exact ⟨by decide,by decide⟩
     ·rename_i hb
      unfold jcj at hb;refine ⟨⟨W.fmt,by show 16<24;omega,fun _=>by show 6<=16;omega,hh,y8i.of_lt (by show σ.count - hbits σ.hk<8;omega),⟨zgl hr (fun x hx=>List.mem_of_mem_take hx),?_,?_,zgl hr (fun x hx=>List.mem_of_mem_drop hx),?_,?_⟩,fun _=>⟨rfl,rfl⟩,W.om,W.marks,W.hsum⟩,?_,rfl,rfl,rfl,fun h=>by have:(16:Nat)=23:=h;omega⟩
      ·exact Classical.byContradiction fun hn=>hb (Or.inr (Or.inl hn))
      ·show 257<=(row'.take σ.nl).length∧(row'.take σ.nl).length<=269;rw [List.length_take];omega
      ·show okDists (row'.drop σ.nl);unfold okDists;by_cases h1:jwa gw (row'.drop σ.nl)=2048
       ·exact Or.inl h1
       ·cases h2:ky9 (row'.drop σ.nl)
        ·have h0:=(vtl (fun _=>1) 1 (fun _=>⟨by decide,by decide⟩) (by decide) (row'.drop σ.nl)).1;have:¬ 0<jwa (fun _=>1) (row'.drop σ.nl):=fun hp=>hb (Or.inr (Or.inr ⟨h1,h2,hp⟩))
         exact Or.inr (Or.inr (by omega))
        ·exact Or.inr (Or.inl rfl)
      ·show (row'.drop σ.nl).length<=16;rw [List.length_drop];omega
      ·rw [hphi];show 100*(σ.count - hbits σ.hk)+16<_;omega
    ·rename_i hw
     refine ⟨⟨W.fmt,by show 13<24;omega,fun _=>by show 6<=13;omega,hh,y8i.of_lt (by show σ.count - hbits σ.hk<8;omega),⟨a1,a2,a3,hr,by show row'.length < σ.nl+σ.nd;omega⟩,fun e=>by have:(13:Nat)<12∨14<13:=e;omega,W.om,W.marks,W.hsum⟩,?_,rfl,rfl,rfl,fun h=>by have:(13:Nat)=23:=h;omega⟩;rw [hphi];show 100*(σ.count - hbits σ.hk)+29<_;omega
theorem next_15{σ:St}(W:Wf σ)(h:σ.st=15):NextA σ.act σ:=by
 have few:=W.few;have at_:=W.at_;rw [h] at few at_;have hc:σ.count<8:=few;obtain ⟨a1,a2⟩:=at_;rw [act_at h];simp only [actAt];have hphi:phi σ=100*σ.count+17:=by unfold phi;rw [h];rfl
 refine ⟨⟨W.fmt,by show 16<24;omega,fun _=>by show 6<=16;omega,W.held,y8i.of_lt hc,⟨a1.ra,a1.wa,a1.na,a1.rb,a1.wb,a1.nb⟩,fun _=>W.own (by omega),om_snoc W.om a2,W.marks,W.hsum⟩,a2,?_,rfl,rfl,rfl⟩;rw [hphi];show 100*σ.count+16<_;omega
theorem next_16{σ:St}(W:Wf σ)(h:σ.st=16):NextA σ.act σ:=by
 have few:=W.few;have at_:=W.at_;rw [h] at few at_;have hc:y8i σ.la σ.held σ.count:=few;have a1:Sets σ:=at_;rw [act_at h];simp only [actAt,symbol];have hphi:phi σ=100*σ.count+16:=by unfold phi;rw [h];rfl
 cases e:jcs σ.la σ.held σ.count with
 | none=>exact ⟨by decide,by decide⟩
 | more=>exact fun b hb=>W.take hb (by rw [h];exact y8i.take b e) (by rw [h];exact ⟨a1.ra,a1.wa,a1.na,a1.rb,a1.wb,a1.nb⟩)
 | hit k m=>
  obtain ⟨h1,h2,h3⟩:=hit_facts e;have hm:=hc.1 k m e;have hn:=a1.na;show NextA ((σ.rd m).literal k) σ;unfold literal;split
  ·rename_i hk
   refine ⟨⟨W.fmt,by show 15<24;omega,fun _=>by show 6<=15;omega,held_rd W h2,by show σ.count - m<8;omega,⟨⟨a1.ra,a1.wa,a1.na,a1.rb,a1.wb,a1.nb⟩,hk⟩,fun _=>W.own (by omega),W.om,W.marks,W.hsum⟩,?_,rfl,rfl,rfl,fun h=>by have:(15:Nat)=23:=h;omega⟩;rw [hphi];show 100*(σ.count - m)+17<_;omega
  ·split
   ·exact next_end W (by omega) (held_rd W h2) (by show σ.count - m<8;omega) (by rw [hphi];show 100*(σ.count - m)+14<_;omega) rfl (W.own (by omega)) rfl rfl rfl rfl rfl
   ·rename_i k1 k2
    obtain ⟨s1,s2,s3⟩:=zj7 (j:=k - 257) (by omega);generalize k - 257=j at *;refine ⟨⟨W.fmt,by show 17<24;omega,fun _=>by show 6<=17;omega,held_rd W h2,by show σ.count - m<8+Tr.spanBits j;omega,⟨⟨a1.ra,a1.wa,a1.na,a1.rb,a1.wb,a1.nb⟩,s1,s2,s3⟩,fun _=>W.own (by omega),W.om,W.marks,W.hsum⟩,?_,rfl,rfl,rfl,fun h=>by have:(17:Nat)=23:=h;omega⟩;rw [hphi];show 100*(σ.count - m)+86<_;omega
theorem next_17{σ:St}(W:Wf σ)(h:σ.st=17):NextA σ.act σ:=by
 have few:=W.few;have at_:=W.at_;rw [h] at few at_;have hc:σ.count<8+σ.bits:=few;obtain ⟨a1,a2,a3,a4⟩:=at_;rw [act_at h];simp only [actAt,need];have hphi:phi σ=100*σ.count+86:=by unfold phi;rw [h];rfl
 have hn:=num_lt σ σ.bits;by_cases h3:σ.count < σ.bits
 ·rw [if_pos h3];exact fun b hb=>W.take hb (by rw [h];show σ.count+8<8+σ.bits;omega) (by rw [h];exact ⟨⟨a1.ra,a1.wa,a1.na,a1.rb,a1.wb,a1.nb⟩,a2,a3,a4⟩)
 ·rw [if_neg h3];have hh:=held_rd W (k:=σ.bits) (by omega);refine ⟨⟨W.fmt,by show 18<24;omega,fun _=>by show 6<=18;omega,hh,y8i.of_lt (by show σ.count - σ.bits<8;omega),⟨⟨a1.ra,a1.wa,a1.na,a1.rb,a1.wb,a1.nb⟩,by show 3<=σ.least+σ.num σ.bits∧σ.least+σ.num σ.bits<=66;omega⟩,fun _=>W.own (by omega),W.om,W.marks,W.hsum⟩,?_,rfl,rfl,rfl,fun h=>by have:(18:Nat)=23:=h;omega⟩;rw [hphi];show 100*(σ.count - σ.bits)+85<_;omega
theorem next_18{σ:St}(W:Wf σ)(h:σ.st=18):NextA σ.act σ:=by
 have few:=W.few;have at_:=W.at_;rw [h] at few at_;have hc:y8i σ.lb σ.held σ.count:=few;obtain ⟨a1,a2⟩:=at_;rw [act_at h];simp only [actAt,symbol];have hphi:phi σ=100*σ.count+85:=by unfold phi;rw [h];rfl
 cases e:jcs σ.lb σ.held σ.count with
 | none=>exact ⟨by decide,by decide⟩
 | more=>exact fun b hb=>W.take hb (by rw [h];exact y8i.take b e) (by rw [h];exact ⟨⟨a1.ra,a1.wa,a1.na,a1.rb,a1.wb,a1.nb⟩,a2⟩)
 | hit k m=>
  obtain ⟨h1,h2,h3⟩:=hit_facts e;have hm:=hc.1 k m e;have hn:=a1.nb;obtain ⟨s1,s2,s3⟩:=kfi (j:=k) (by omega);refine ⟨⟨W.fmt,by show 19<24;omega,fun _=>by show 6<=19;omega,held_rd W h2,by show σ.count - m<8+Tr.spanBits k;omega,⟨⟨⟨a1.ra,a1.wa,a1.na,a1.rb,a1.wb,a1.nb⟩,a2⟩,s1,s2,s3⟩,fun _=>W.own (by omega),W.om,W.marks,W.hsum⟩,?_,rfl,rfl,rfl,fun h=>by have:(19:Nat)=23:=h;omega⟩;rw [hphi];show 100*(σ.count - m)+84<_;omega
theorem next_19{σ:St}(W:Wf σ)(h:σ.st=19):NextA σ.act σ:=by
 have few:=W.few;have at_:=W.at_;rw [h] at few at_;have hc:σ.count<8+σ.bits:=few;obtain ⟨⟨a1,a5⟩,a2,a3,a4⟩:=at_;rw [act_at h];simp only [actAt,need];have hphi:phi σ=100*σ.count+84:=by unfold phi;rw [h];rfl
 have hn:=num_lt σ σ.bits;by_cases h3:σ.count < σ.bits
 ·rw [if_pos h3];exact fun b hb=>W.take hb (by rw [h];show σ.count+8<8+σ.bits;omega) (by rw [h];exact ⟨⟨⟨a1.ra,a1.wa,a1.na,a1.rb,a1.wb,a1.nb⟩,a5⟩,a2,a3,a4⟩)
 ·rw [if_neg h3];have hh:=held_rd W (k:=σ.bits) (by omega);split
  ·exact ⟨by decide,by decide⟩
  ·rename_i hd
   refine ⟨⟨W.fmt,by show 20<24;omega,fun _=>by show 6<=20;omega,hh,by show σ.count - σ.bits<8;omega,⟨⟨⟨a1.ra,a1.wa,a1.na,a1.rb,a1.wb,a1.nb⟩,a5.2⟩,by show 1<=σ.least+σ.num σ.bits∧σ.least+σ.num σ.bits<=σ.om.length∧σ.least+σ.num σ.bits<=256;omega⟩,fun _=>W.own (by omega),W.om,W.marks,W.hsum⟩,?_,rfl,rfl,rfl,fun h=>by have:(20:Nat)=23:=h;omega⟩;rw [hphi];show 100*(σ.count - σ.bits)+(17+σ.left)<_;omega
theorem next_20{σ:St}(W:Wf σ)(h:σ.st=20):NextA σ.act σ:=by
 have few:=W.few;have at_:=W.at_;rw [h] at few at_;have hc:σ.count<8:=few;obtain ⟨⟨a1,a5⟩,a2,a3,a4⟩:=at_;rw [act_at h];simp only [actAt];have hphi:phi σ=100*σ.count+(17+σ.left):=by unfold phi;rw [h];rfl
 split
 ·rename_i hl
  refine ⟨⟨W.fmt,by show 16<24;omega,fun _=>by show 6<=16;omega,W.held,y8i.of_lt hc,⟨a1.ra,a1.wa,a1.na,a1.rb,a1.wb,a1.nb⟩,fun _=>W.own (by omega),W.om,W.marks,W.hsum⟩,?_,rfl,rfl,rfl,fun h=>by have:(16:Nat)=23:=h;omega⟩;rw [hphi];show 100*σ.count+16<_;omega
 ·rename_i hl
  have hb:σ.om.getD (σ.om.length - σ.dist) 0<256:=by
   rw [List.getD_eq_getElem?_getD];cases e:σ.om[σ.om.length - σ.dist]? with
   | none=>decide
   | some x=>exact W.om x (List.mem_of_getElem? e)
  refine ⟨⟨W.fmt,W.st,W.raw,W.held,?_,?_,fun _=>W.own (by omega),om_snoc W.om hb,W.marks,W.hsum⟩,hb,?_,rfl,rfl,rfl⟩
  ·show Few σ.st _;rw [h];exact hc
  ·show At σ.st _;rw [h];exact ⟨⟨⟨a1.ra,a1.wa,a1.na,a1.rb,a1.wb,a1.nb⟩,by show σ.left - 1<=66;omega⟩,a2,by show σ.dist<=(σ.om++[_]).length;simp;omega,a4⟩
  ·rw [hphi];show 100*σ.count+loc σ.st _<_;rw [h];show 100*σ.count+(17+(σ.left - 1))<_;omega
theorem next{σ:St}(W:Wf σ):NextA σ.act σ:=by
 rcases cases24 W.st with h | h | h | h | h | h | h | h | h | h | h | h | h | h | h | h | h | h | h | h | h | h | h | h
 ·exact next_0 W h
 ·exact next_1 W h
 ·exact next_2 W h
 ·exact next_3 W h
 ·exact next_4 W h
 ·exact next_5 W h
 ·exact next_6 W h
 ·exact next_7 W h
 ·exact next_8 W h
 ·exact next_9 W h
 ·exact next_10 W h
 ·exact next_11 W h
 ·exact next_12 W h
 ·exact next_13 W h
 ·exact next_14 W h
 ·exact next_15 W h
 ·exact next_16 W h
 ·exact next_17 W h
 ·exact next_18 W h
 ·exact next_19 W h
 ·exact next_20 W h
 ·exact next_21 W h
 ·exact next_22 W h
 ·exact next_23 W h
end St
namespace St
def pos(σ:St)(t:Tr):Nat:=t.inn+σ.count / 8
theorem fin_add(σ:St)(b:Nat)(t:Tr):(σ.add b).fin t=σ.fin t:=fin_eq rfl rfl t
theorem after_add(σ:St)(b:Nat)(t:Tr):(σ.add b).after t=σ.after t:=after_eq rfl rfl rfl t
theorem cont_add(σ:St)(b:Nat)(x:RSet×RSet×Tr):(σ.add b).cont x=σ.cont x:=cont_eq rfl rfl rfl x
theorem cab_add(σ:St)(b:Nat)(t:Tr):(σ.add b).cab t=σ.cab t:=cont_add σ b (rset σ.la,rset σ.lb,t)
theorem k6_add(σ:St)(b:Nat)(t:Tr):(σ.add b).k6 t=σ.k6 t:=fin_add σ b _
theorem k5_add(σ:St)(b:Nat)(t:Tr):(σ.add b).k5 t=σ.k5 t:=k6_add σ b _
theorem k4_add(σ:St)(b:Nat)(t:Tr):(σ.add b).k4 t=σ.k4 t:=k5_add σ b _
theorem k3_add(σ:St)(b:Nat)(t:Tr):(σ.add b).k3 t=σ.k3 t:=k4_add σ b _
theorem k2_add(σ:St)(b:Nat)(t:Tr):(σ.add b).k2 t=σ.k2 t:=by
 unfold k2;rw [k6_add,k6_add];rfl
theorem K_add(σ:St)(b:Nat)(t:Tr):(σ.add b).K t=σ.K t:=by
 show Kat σ.st (σ.add b) t=Kat σ.st σ t;unfold Kat;split
 ·exact k2_add σ b _
 ·exact k2_add σ b _
 ·exact k2_add σ b _
 ·exact k3_add σ b _
 ·exact k4_add σ b _
 ·exact k5_add σ b _
 ·exact fin_add σ b _
 ·exact after_add σ b _
 ·exact after_add σ b _
 ·exact cont_add σ b _
 ·exact cont_add σ b _
 ·exact cont_add σ b _
 ·exact cont_add σ b _
 ·exact cont_add σ b _
 ·exact cont_add σ b _
 ·exact cab_add σ b _
 ·exact cab_add σ b _
 ·exact cab_add σ b _
 ·exact cab_add σ b _
 ·exact cab_add σ b _
 ·exact cab_add σ b _
 ·exact fin_add σ b _
 ·rfl
 ·rfl
theorem rel_add{σ:St}{t:Tr}(R:Rel σ t)(h:pos σ t<t.s.size):Rel (σ.add (k0w t.s (pos σ t))) t:=⟨R.going,R.hand.take h,R.lim,R.fine,R.om,R.head,R.begun,R.bytes⟩
end St
structure zik(pre:List Nat)(s:ByteArray):Prop where
 len:pre.length<=s.size
 at_:∀ k,k<pre.length->k0w s k=pre.getD k 0
theorem zik.snoc{pre:List Nat}{b:Nat}{s:ByteArray}(h:zik (pre++[b]) s):zik pre s∧pre.length<s.size∧k0w s pre.length=b:=by
 have hl:=h.len;rw [List.length_append,List.length_singleton] at hl;refine ⟨⟨by omega,fun k hk=>?_⟩,by omega,?_⟩
 ·rw [h.at_ k (by simp;omega)];simp [List.getD_eq_getElem?_getD,List.getElem?_append_left hk]
 ·rw [h.at_ pre.length (by simp)];simp [List.getD_eq_getElem?_getD]
theorem zik.push{pre:List Nat}{s:ByteArray}(h:zik pre s)(hl:pre.length<s.size):zik (pre++[k0w s pre.length]) s:=by
 refine ⟨by simp;omega,fun k hk=>?_⟩;rw [List.length_append,List.length_singleton] at hk;by_cases hk':k<pre.length
 ·rw [h.at_ k hk'];simp [List.getD_eq_getElem?_getD,List.getElem?_append_left hk']
 ·have e:k=pre.length:=by omega
  subst e;simp [List.getD_eq_getElem?_getD]
structure Cf where
 σ:St
 pre:List Nat
 outs:List Nat
 ats:List Nat
 starts:List Nat
structure GI(fm mem lim:Nat)(c:Cf):Prop where
 wf:St.Wf c.σ
 fmtE:c.σ.fmt=fm
 memE:c.σ.mem=mem
 limE:c.σ.lim=lim
 tr:∀ s:ByteArray,s.size≠0->zik c.pre s->∃ t,St.Rel c.σ t∧t.s=s∧St.pos c.σ t=c.pre.length∧t.out=c.outs∧t.ats=c.ats∧t.starts=c.starts∧Tr.obs (c.σ.K t)=Tr.obs (Tr.read fm mem lim s)
def St.begin(fm mem lim:Nat):St:=
 { fmt:=fm,mem:=mem,lim:=lim,st:=if fm=0 then 6 else 0,held:=0,count:=0,begun:=1,marks:=0,hsum:=0,hmany:=0,om:=[],last:=false,left:=0,nl:=0,nd:=0,told:=0,hl:=[],hs:=[],hk:=0,row:=[],la:=[],lb:=[],lit:=0,least:=0,bits:=0,dist:=0 }
def Cf.begin(fm mem lim:Nat):Cf:=⟨St.begin fm mem lim,[],[],[],[0]⟩
theorem St.begin_wf{fm mem lim:Nat}(h:fm<3):St.Wf (St.begin fm mem lim):=by
 by_cases h0:fm=0
 ·subst h0;exact ⟨h,by show 6<24;omega,fun _=>by show 6<=6;omega,by show 0<2^0;omega,by show 0<11;omega,trivial,fun _=>⟨rfl,rfl⟩,fun x hx=>(by cases hx),⟨Nat.zero_le _,fun _=>rfl⟩,by show 0<256;omega⟩
 ·have e:(St.begin fm mem lim).st=0:=by show (if fm=0 then 6 else 0)=0;rw [if_neg h0]
  exact ⟨h,by rw [e];omega,fun hh=>absurd hh h0,by show 0<2^0;omega,by rw [e];exact ⟨rfl,Nat.zero_le _⟩,by rw [e];rfl,fun _=>⟨rfl,rfl⟩,fun x hx=>(by cases hx),⟨Nat.zero_le _,fun _=>rfl⟩,by show 0<256;omega⟩
theorem St.begin_rel{fm mem lim:Nat}(s:ByteArray):St.Rel (St.begin fm mem lim) ({ Tr.start s lim with starts:=[0] }:Tr):=⟨rfl,⟨rfl,by show 0<2^0;omega,by show 0+0 / 8<=s.size;omega,by show 0=0+2^(0%8)*Tr.le s 0 (0 / 8);rw [show (0:Nat) / 8=0 from rfl];rfl⟩,rfl,⟨by show 0<=8;omega,by show 0<256;omega,Nat.zero_le _,Nat.le_refl _,rfl,by show 0<=18;omega⟩,fun _=>rfl,fun _=>⟨rfl,rfl⟩,fun _=>rfl,fun x hx=>(by cases hx)⟩
theorem GI.begin{fm mem lim:Nat}(h:fm<3)(hm:1<=mem):GI fm mem lim (Cf.begin fm mem lim):=by
 refine ⟨St.begin_wf h,rfl,rfl,rfl,fun s hs _=>⟨({ Tr.start s lim with starts:=[0] }:Tr),St.begin_rel s,rfl,by show 0+0 / 8=0;rfl,rfl,rfl,rfl,?_⟩⟩;have h3:fm=0∨fm=1∨fm=2:=by omega
 rcases h3 with rfl | rfl | rfl
 ·have e:Tr.read 0 mem lim s=({ Tr.start s lim with starts:=[0] }:Tr).blocks.trail:=by
   unfold Tr.read Tr.readRaw;rw [if_pos rfl,if_neg hs]
  rw [e];rfl
 ·have e:Tr.read 1 mem lim s=(((({ Tr.start s lim with starts:=[0] }:Tr).isB 115).isB 1).blocks.sum).trail:=by
   unfold Tr.read Tr.readShort;rw [if_neg (by decide),if_pos rfl,if_neg hs]
  have hk:∀ x:Tr,(St.begin 1 mem lim).k2 x=x.blocks.sum.trail:=fun x=>by
   unfold St.k2 St.k6 St.fin;have hf:(St.begin 1 mem lim).fmt=1:=rfl;rw [hf,if_neg (by decide),if_neg (by decide),if_pos rfl]
  have hK:∀ x:Tr,(St.begin 1 mem lim).K x=(St.begin 1 mem lim).k2 ((x.isB (if (1:Nat)=1 then 115 else 76)).isB (if (1:Nat)=1 then 1 else 2)):=fun x=>St.K_at (n:=0) rfl x
  rw [e];show Tr.obs ((St.begin 1 mem lim).K _)=_;rw [hK,hk,if_pos rfl,if_pos rfl]
 ·have e:Tr.read 2 mem lim s=Tr.long mem ({ Tr.start s lim with starts:=[0] }:Tr).member:=by
   unfold Tr.read Tr.readLong;rw [if_neg (by decide),if_neg (by decide),if_neg hs,Tr.long_go (kak s lim) ⟨rfl,by show 0<s.size;omega⟩ (by show ¬ mem<=0;omega)];rfl
  have hk:∀ x:Tr,(St.begin 2 mem lim).k2 x=Tr.long mem ((x.crown.2.marked x.crown.1).blocks.sum.sized):=fun x=>by
   unfold St.k2 St.k6 St.fin;have hf:(St.begin 2 mem lim).fmt=2:=rfl;rw [hf,if_pos rfl,if_neg (by decide),if_neg (by decide)];rfl
  have hK:∀ x:Tr,(St.begin 2 mem lim).K x=(St.begin 2 mem lim).k2 ((x.isB (if (2:Nat)=1 then 115 else 76)).isB (if (2:Nat)=1 then 1 else 2)):=fun x=>St.K_at (n:=0) rfl x
  rw [e];show Tr.obs ((St.begin 2 mem lim).K _)=_;rw [hK,hk,if_neg (by decide),if_neg (by decide)];unfold Tr.member Tr.headed;rfl
theorem GI.take{fm mem lim:Nat}{c:Cf}(h:GI fm mem lim c)(ha:c.σ.act= .take){b:Nat}(hb:b<256):GI fm mem lim { c with σ:=c.σ.add b,pre:=c.pre++[b] }:=by
 have N:=St.next h.wf;rw [ha] at N;refine ⟨N b hb,h.fmtE,h.memE,h.limE,fun s hs ht=>?_⟩;obtain ⟨t1,t2,t3⟩:=ht.snoc;obtain ⟨t,R,e1,e2,e3,e4,e5,e6⟩:=h.tr s hs t1;have hp:St.pos c.σ t<t.s.size:=by rw [e1,e2];exact t2
 have R':=St.rel_add R hp;rw [e1,e2,t3] at R';refine ⟨t,R',e1,?_,e3,e4,e5,?_⟩
 ·show t.inn+(c.σ.count+8) / 8=(c.pre++[b]).length;rw [List.length_append,List.length_singleton,← e2];show _=t.inn+c.σ.count / 8+1;omega
 ·show Tr.obs ((c.σ.add b).K t)=_;rw [St.K_add];exact e6
theorem GI.put{fm mem lim:Nat}{c:Cf}(h:GI fm mem lim c){b:Nat}{σ':St}(ha:c.σ.act= .put b σ'):GI fm mem lim { c with σ:=σ',outs:=c.outs++[b],ats:=c.ats++[c.pre.length] }∧b<256:=by
 have N:=St.next h.wf;rw [ha] at N;obtain ⟨W',hb,hphi,f1,f2,f3⟩:=N;refine ⟨⟨W',f1.trans h.fmtE,f2.trans h.memE,f3.trans h.limE,fun s hs ht=>?_⟩,hb⟩;obtain ⟨t,R,e1,e2,e3,e4,e5,e6⟩:=h.tr s hs ht;have S:=St.sim h.wf R;unfold St.Sim at S;rw [ha] at S;obtain ⟨t',R',hK,s1,s2,s3,s4,s5⟩:=S;refine ⟨t',R',s5.trans e1,?_,by rw [s1,e3],?_,s4.trans e5,by rw [← e6];exact congrArg _ hK⟩
 ·show t'.inn+σ'.count / 8=_;rw [s3];exact e2
 ·rw [s2,e4];show _=c.ats++[c.pre.length];rw [← e2];rfl
theorem GI.tau{fm mem lim:Nat}{c:Cf}(h:GI fm mem lim c){σ':St}(ha:c.σ.act= .tau σ'):GI fm mem lim { c with σ:=σ',starts:=if c.σ.st=23 then c.starts++[c.pre.length - 1] else c.starts }:=by
 have N:=St.next h.wf;rw [ha] at N;obtain ⟨W',hphi,f1,f2,f3,h23⟩:=N;refine ⟨W',f1.trans h.fmtE,f2.trans h.memE,f3.trans h.limE,fun s hs ht=>?_⟩;obtain ⟨t,R,e1,e2,e3,e4,e5,e6⟩:=h.tr s hs ht;have S:=St.sim h.wf R;unfold St.Sim at S;rw [ha] at S;obtain ⟨t',R',hK,s1,s2,s3,s4,s5⟩:=S;refine ⟨t',R',s5.trans e1,?_,by rw [s1,e3],by rw [s2,e4],?_,by rw [← e6];exact congrArg _ hK⟩
 ·show t'.inn+σ'.count / 8=_;rw [s3];exact e2
 ·rw [s4];show _=if c.σ.st=23 then c.starts++[c.pre.length - 1] else c.starts;by_cases hst:c.σ.st=23
  ·rw [if_pos hst,if_pos hst,e5];have few:=h.wf.few;rw [hst] at few;have hc:c.σ.count%8=0∧c.σ.count<=8:=few;have c8:c.σ.count=8:=by
    rcases St.head_count hc with c0 | c8
    ·rw [St.act_at hst] at ha;simp only [St.actAt,St.need] at ha;rw [if_pos (by omega)] at ha;cases ha
    ·exact c8
   have:t.inn=c.pre.length - 1:=by
    rw [← e2];show t.inn=t.inn+c.σ.count / 8 - 1;omega
   rw [this]
  ·rw [if_neg hst,if_neg hst,e5]
theorem GI.fail{fm mem lim:Nat}{c:Cf}(h:GI fm mem lim c){e:Nat}(ha:c.σ.act= .fail e){s:ByteArray}(hs:s.size≠0)(ht:zik c.pre s):Tr.obs (Tr.read fm mem lim s)=⟨c.outs,c.ats,c.pre.length,c.starts,e,false⟩∧4<=e∧e<=14:=by
 have N:=St.next h.wf;rw [ha] at N;obtain ⟨t,R,e1,e2,e3,e4,e5,e6⟩:=h.tr s hs ht;have S:=St.sim h.wf R;unfold St.Sim at S;rw [ha] at S;refine ⟨?_,N⟩;rw [← e6];have S2:Tr.obs (c.σ.K t)=⟨t.out,t.ats,t.inn+c.σ.count / 8,t.starts,e,false⟩:=S;rw [S2,e3,e4,e5,← e2];rfl
theorem GI.hungry{fm mem lim:Nat}{c:Cf}(h:GI fm mem lim c)(ha:c.σ.act= .take){s:ByteArray}(hs:s.size≠0)(ht:zik c.pre s)(hl:s.size=c.pre.length):Tr.obs (Tr.read fm mem lim s)=⟨c.outs,c.ats,c.pre.length,c.starts,0,decide (c.σ.st<23)⟩:=by
 obtain ⟨t,R,e1,e2,e3,e4,e5,e6⟩:=h.tr s hs ht;have S:=St.sim h.wf R;unfold St.Sim at S;rw [ha] at S;rw [← e6];have S2:Tr.obs (c.σ.K t)=_:=S (by show St.pos c.σ t=_;rw [e1,e2,hl]);rw [S2,e3,e4,e5,e1,hl]
end Go.Proofs.YtbcjmakpempkiaaGreatDoor
