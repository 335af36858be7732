import Derived.Test.YtbcjmakpempkiaaGreatDoorX11
set_option maxRecDepth 100000
set_option maxHeartbeats 8000000
set_option linter.all false
namespace Go.Proofs.YtbcjmakpempkiaaGreatDoor
namespace Tr
theorem Fwd.bytesOk{a b:Tr}(h:Fwd a b)(hb:xeo a):xeo b:=by unfold xeo;rw [h.out];exact hb
theorem put_bytesOk{t:Tr}(h:xeo t){b:Nat}(hb:b<256):xeo (t.put b):=by
 cases hd:t.ended
 ·rw [put_going hd];intro x hx;rcases List.mem_append.1 hx with hx | hx
  ·exact h x hx
  ·simp at hx;omega
 ·rw [put_ended hd];exact h
theorem bytes_bytesOk(n:Nat):∀ t:Tr,xeo t->xeo (Tr.bytes n t):=by
 induction n with
 | zero=>intro t h;exact h
 | succ n ih=>
  intro t h;unfold Tr.bytes;split
  ·exact h
  ·exact ih _ (put_bytesOk ((fwd_octet t).bytesOk h) (octet_lt t))
theorem getD_lt{t:Tr}(h:xeo t)(k:Nat):t.out.getD k 0<256:=by have:=h.get k;omega
theorem copyN_bytesOk(far n:Nat):∀ t:Tr,xeo t->xeo (Tr.copyN far n t):=by
 induction n with
 | zero=>intro t h;exact h
 | succ n ih=>
  intro t h;unfold Tr.copyN;split
  ·exact h
  ·exact ih _ (put_bytesOk h (getD_lt h _))
theorem copies_bytesOk{t:Tr}(h:xeo t)(b:RSet)(k:Nat):xeo (t.copies b k):=by
 unfold Tr.copies;simp only;have f1:=(fwd_number t (spanBits k)).bytesOk h;have f2:xeo (if b.many=0 then (t.number (spanBits k)).2.fail 11 else (t.number (spanBits k)).2):=(fwd_ite_fail _ _ (by decide)).bytesOk f1;generalize (if b.many=0 then (t.number (spanBits k)).2.fail 11 else (t.number (spanBits k)).2)=t1 at *;have f3:=(fwd_symbol t1 b).bytesOk f2;split
 ·exact (fwd_fail _ (by decide)).bytesOk f3
 ·have f4:=(fwd_number (t1.symbol b).2 (spanBits (t1.symbol b).1.toNat)).bytesOk f3;generalize (t1.symbol b).2.number (spanBits (t1.symbol b).1.toNat)=f at *;exact copyN_bytesOk _ _ _ ((fwd_ite_fail _ _ (by decide)).bytesOk f4)
theorem contentStep_bytesOk{t:Tr}(h:xeo t)(a b:RSet):xeo (t.contentStep a b):=by
 have f:=(fwd_symbol t a).bytesOk h;unfold Tr.contentStep;split
 ·exact put_bytesOk f (by omega)
 ·exact copies_bytesOk f _ _
theorem content_bytesOk{a b:RSet}(ha:a.l.length<=269):∀ (n:Nat) (t:Tr),t.mu<=n->xeo t->xeo (content a b t):=by
 intro n;induction n with
 | zero=>
  intro t hn h;have:t.ended=true:=by
   cases h:t.ended
   ·have:=mu_pos h;omega
   ·rfl
  rw [content_ended this];exact h
 | succ n ih=>
  intro t hn h;cases h1:t.ended
  ·by_cases h2:(t.symbol a).2.ended=true∨(t.symbol a).1=256
   ·rw [content_stop h1 h2];exact (fwd_symbol t a).bytesOk h
   ·have h3:(t.symbol a).2.ended=false:=by
     cases h:(t.symbol a).2.ended
     ·rfl
     ·exact absurd (Or.inl h) h2
    rw [content_go ha h1 h3 (fun e=>h2 (Or.inr e))];have r:=run_contentStep (b:=b) ha h1;exact ih _ (by omega) (contentStep_bytesOk h a b)
  ·rw [content_ended h1];exact h
theorem block_bytesOk(k:Nat){t:Tr}(h:xeo t):xeo (block k t):=by
 unfold block;split
 ·exact bytes_bytesOk _ _ ((fwd_plainHead t).bytesOk h)
 ·split
  ·exact content_bytesOk (by show Tr.fixedA.length<=269;rw [vsf];omega) t.mu t (Nat.le_refl _) h
  ·split
   ·exact content_bytesOk (own_len t) _ _ (Nat.le_refl _) ((fwd_own t).bytesOk h)
   ·exact (fwd_fail t (by decide)).bytesOk h
theorem blocksFrom_bytesOk:∀ (n:Nat) (t:Tr),t.mu<=n->xeo t->xeo (blocksFrom t):=by
 intro n;induction n with
 | zero=>
  intro t hn h;have he:t.ended=true:=by
   cases h:t.ended
   ·have:=mu_pos h;omega
   ·rfl
  rw [blocks_end he];exact h
 | succ n ih=>
  intro t hn h;cases h1:t.ended
  ·have fd:=((fwd_bit t).trans (fwd_number t.bit.2 2)).bytesOk h;cases h2:(t.bit.2.number 2).2.ended
   ·have rb:=block_bytesOk (t.bit.2.number 2).1 fd;have hmu:=mu_block h1;by_cases h3:t.bit.1=0
    ·rw [blocks_go h1 h2 h3];exact ih _ (show (block (t.bit.2.number 2).1 (t.bit.2.number 2).2).mu<=n by omega) rb
    ·rw [blocks_last h1 h2 h3];split
     ·exact rb
     ·exact (fwd_skip _).bytesOk rb
   ·rw [blocks_short h1 h2];exact fd
  ·rw [blocks_end h1];exact h
theorem blocks_bytesOk{t:Tr}(h:xeo t):xeo t.blocks:=blocksFrom_bytesOk _ _ (Nat.le_refl _) h
structure Part(t t':Tr):Prop where
 s:t'.s=t.s
 starts:t'.starts=t.starts
 limit:t'.limit=t.limit
 mu:t'.mu<=t.mu
 cost:t'.cost<=t.cost
 ended:t.ended=true->t'.ended=true
 bytes:xeo t->xeo t'
 fine:Fine t->Fine t'
theorem Part.trans{a b c:Tr}(h:Part a b)(k:Part b c):Part a c:=⟨k.s.trans h.s,k.starts.trans h.starts,k.limit.trans h.limit,Nat.le_trans k.mu h.mu,Nat.le_trans k.cost h.cost,fun x=>k.ended (h.ended x),fun x=>k.bytes (h.bytes x),fun x=>k.fine (h.fine x)⟩
theorem Fwd.part{a b:Tr}(h:Fwd a b)(hf:Fine a->Fine b):Part a b:=⟨h.s,h.starts,h.limit,h.mu,h.cost,h.ended,h.bytesOk,hf⟩
theorem part_marked(t:Tr)(m:Nat):Fwd t (t.marked m)∧(Fine t->Fine (t.marked m))∧(∀ n,Low n t->Low (n+1) (t.marked m)):=by
 unfold marked;dsimp only
 have f2:Fwd t (if 7<m then t.fail 4 else t):=fwd_ite_fail _ t (by decide);have g2:Fine t->Fine (if 7<m then t.fail 4 else t):=fun h=>Fine.ite_fail _ h (by decide)
 have l2:∀ n,Low n t->Low n (if 7<m then t.fail 4 else t):=fun n h=>by
  split
  ·exact h.fail (by decide)
  ·exact h
 generalize (if 7<m then t.fail 4 else t)=t2 at *;have f3:Fwd t2 (if m%2=1 then t2.text else t2)∧(Fine t2->Fine (if m%2=1 then t2.text else t2))∧(∀ n,Low n t2->Low n (if m%2=1 then t2.text else t2)):=by
  split
  ·exact ⟨fwd_text t2,fun h=>h.text,fun n h=>h.text⟩
  ·exact ⟨Fwd.refl _,fun h=>h,fun n h=>h⟩
 generalize (if m%2=1 then t2.text else t2)=t3 at *;have f4:Fwd t3 (if m / 2%2=1 then t3.text else t3)∧(Fine t3->Fine (if m / 2%2=1 then t3.text else t3))∧(∀ n,Low n t3->Low n (if m / 2%2=1 then t3.text else t3)):=by
  split
  ·exact ⟨fwd_text t3,fun h=>h.text,fun n h=>h.text⟩
  ·exact ⟨Fwd.refl _,fun h=>h,fun n h=>h⟩
 generalize (if m / 2%2=1 then t3.text else t3)=t4 at *;have f:=(f2.trans f3.1).trans f4.1;split
 ·exact ⟨f.trans (fwd_isB t4 _),fun h=>(f4.2.1 (f3.2.1 (g2 h))).isB _,fun n h=>(f4.2.2 n (f3.2.2 n (l2 n h))).isB _⟩
 ·exact ⟨f,fun h=>f4.2.1 (f3.2.1 (g2 h)),fun n h=>(f4.2.2 n (f3.2.2 n (l2 n h))).mono (by omega)⟩
theorem part_blocks{t:Tr}(h:Fine t):Part t t.blocks:=by
 have f:=blocks_facts h;exact ⟨f.1,f.2.1,f.2.2.2.2.2.2,f.2.2.2.1,f.2.2.1,f.2.2.2.2.2.1,blocks_bytesOk,fun _=>f.2.2.2.2.1⟩
theorem fwd_sized(t:Tr):Fwd t t.sized:=by
 unfold sized;split
 ·exact (fwd_octet t).trans (fwd_octet _)
 ·exact ((fwd_octet t).trans (fwd_octet _)).trans (fwd_fail _ (by decide))
theorem Fine.sized{t:Tr}(h:Fine t):Fine t.sized:=by
 unfold Tr.sized;split
 ·exact h.octet.octet
 ·exact h.octet.octet.fail (by decide)
theorem zero_facts(t:Tr):Fwd t { t with head:=0,many:=0 }∧(Fine t->Fine { t with head:=0,many:=0 })∧Low t.mu { t with head:=0,many:=0 }:=⟨⟨rfl,rfl,rfl,rfl,rfl,rfl,Nat.le_refl _,fun h=>h⟩,fun h=>⟨h.left,h.cur,h.inn,h.frm,h.ats,h.err⟩,⟨by show 0<256;omega,by show 0+t.mu<=t.mu;omega⟩⟩
theorem headed_facts(t:Tr):Fwd t t.headed∧(Fine t->Fine t.headed)∧Low (t.mu+2) t.headed∧(t.ended=false->t.headed.mu<t.mu):=by
 have z:=zero_facts t;refine ⟨z.1.trans ((fwd_isB _ 76).trans (fwd_isB _ 2)),fun h=>((z.2.1 h).isB 76).isB 2,(z.2.2.isB 76).isB 2,fun he=>?_⟩;have h1:(({ t with head:=0,many:=0 }:Tr).isB 76).mu<t.mu:=by
  have hm:({ t with head:=0,many:=0 }:Tr).crown.2.mu<t.mu:=mu_crown (t:={ t with head:=0,many:=0 }) he;unfold isB;split
  ·exact hm
  ·rw [mu_fail _ (by decide)];exact mu_pos he
 exact Nat.lt_of_le_of_lt (fwd_isB _ 2).mu h1
theorem part_member{t:Tr}(h:Fine t):Part t t.member∧(t.ended=false->t.member.mu<t.mu):=by
 have a:=headed_facts t;have m:=part_marked t.headed.crown.2 t.headed.crown.1;have f1:Part t (t.headed.crown.2.marked t.headed.crown.1):=(a.1.trans ((fwd_crown _).trans m.1)).part (fun h=>m.2.1 (a.2.1 h).crown);have F1:=f1.fine h;have f2:=part_blocks F1;have f3:Part (t.headed.crown.2.marked t.headed.crown.1).blocks (t.headed.crown.2.marked t.headed.crown.1).blocks.sum:=(fwd_sum _).part (fun h=>h.sum);have f4:Part (t.headed.crown.2.marked t.headed.crown.1).blocks.sum t.member:=(fwd_sized _).part (fun h=>h.sized);refine ⟨((f1.trans f2).trans f3).trans f4,fun he=>?_⟩;have h1:=a.2.2.2 he;have h2:=((fwd_crown t.headed).trans m.1).mu;have h3:=((f2.trans f3).trans f4).mu;omega
def long(members:Nat)(t:Tr):Tr:=
 if t.ended=false∧t.inn<t.s.size then
  if members<=t.starts.length then ({ t with inn:=t.inn+1 }:Tr).fail 6
  else if _h:({ t with starts:=t.starts++[t.inn] }:Tr).member.mu<t.mu then long members ({ t with starts:=t.starts++[t.inn] }:Tr).member
  else t
 else t
 termination_by t.mu
def readShort(s:ByteArray)(limit:Nat):Tr:=if s.size=0 then { Tr.start s limit with needs:=true } else (((({ Tr.start s limit with starts:=[0] }:Tr).isB 115).isB 1).blocks.sum).trail
def readLong(s:ByteArray)(members limit:Nat):Tr:=if s.size=0 then { Tr.start s limit with needs:=true } else long members (Tr.start s limit)
def read(format:Nat)(members limit:Nat)(s:ByteArray):Tr:=if format=0 then readRaw s limit else if format=1 then readShort s limit else readLong s members limit
theorem long_stop{members:Nat}{t:Tr}(h:¬ (t.ended=false∧t.inn<t.s.size)):long members t=t:=by rw [long,if_neg h]
theorem long_many{members:Nat}{t:Tr}(h:t.ended=false∧t.inn<t.s.size)(h2:members<=t.starts.length):long members t=({ t with inn:=t.inn+1 }:Tr).fail 6:=by rw [long,if_pos h,if_pos h2]
theorem long_go{members:Nat}{t:Tr}(hf:Fine t)(h:t.ended=false∧t.inn<t.s.size)(h2:¬ members<=t.starts.length):long members t=long members ({ t with starts:=t.starts++[t.inn] }:Tr).member:=by
 have hm:({ t with starts:=t.starts++[t.inn] }:Tr).member.mu<t.mu:=(part_member (t:={ t with starts:=t.starts++[t.inn] }) ⟨hf.left,hf.cur,hf.inn,hf.frm,hf.ats,hf.err⟩).2 h.1;rw [long,if_pos h,if_neg h2,dif_pos hm]
end Tr
namespace Tr
def le(s:ByteArray):Nat->Nat->Nat
 | _,0=>0
 | i,n+1=>k0w s i+256*le s (i+1) n
theorem le_last(s:ByteArray)(n:Nat):∀ i,le s i (n+1)=le s i n+256^n*k0w s (i+n):=by
 induction n with
 | zero=>intro i;simp [le]
 | succ n ih=>
  intro i;have h1:le s i (n+1+1)=k0w s i+256*le s (i+1) (n+1):=rfl;have h2:le s i (n+1)=k0w s i+256*le s (i+1) n:=rfl;rw [h1,h2,ih (i+1),Nat.pow_succ,show i+1+n=i+(n+1) by omega,Nat.mul_add];have:256*(256^n*k0w s (i+(n+1)))=256^n*256*k0w s (i+(n+1)):=by
   rw [← Nat.mul_assoc,Nat.mul_comm 256 (256^n)]
  omega
structure Hand(t:Tr)(h c:Nat):Prop where
 left:t.left=c%8
 cur:t.cur<2^(c%8)
 inn:t.inn+c / 8<=t.s.size
 val:h=t.cur+2^(c%8)*le t.s t.inn (c / 8)
theorem pow_split(c:Nat):2^(c%8)*256^(c / 8)=2^c:=by
 rw [show (256:Nat)=2^8 from rfl,← Nat.pow_mul,← Nat.pow_add];congr 1;omega
theorem Hand.take{t:Tr}{h c:Nat}(H:Hand t h c)(hs:t.inn+c / 8<t.s.size):Hand t (h+2^c*k0w t.s (t.inn+c / 8)) (c+8):=by
 have e1:(c+8)%8=c%8:=by omega
 have e2:(c+8) / 8=c / 8+1:=by omega
 refine ⟨by rw [e1];exact H.left,by rw [e1];exact H.cur,by omega,?_⟩;rw [e1,e2,le_last,Nat.mul_add,← Nat.mul_assoc,pow_split,H.val];omega
def Rd(t t':Tr):Prop:=t'={ t with inn:=t'.inn,cur:=t'.cur,left:=t'.left }
theorem Rd.refl(t:Tr):Rd t t:=rfl
theorem Rd.trans{a b c:Tr}(h:Rd a b)(k:Rd b c):Rd a c:=by unfold Rd at *;rw [k,h]
theorem Rd.ended{a b:Tr}(h:Rd a b):b.ended=a.ended:=by unfold Rd at h;rw [h];rfl
theorem Hand.bit{t:Tr}{h c:Nat}(H:Hand t h c)(hg:t.ended=false)(hc:0<c) :
  t.bit.1=h%2∧Hand t.bit.2 (h / 2) (c - 1)∧Rd t t.bit.2∧t.bit.2.inn+(c - 1) / 8=t.inn+c / 8:=by
 obtain ⟨h1,h2,h3,h4⟩:=H;by_cases h0:c%8=0
 ·obtain ⟨m,hm⟩:∃ m,c / 8=m+1:=⟨c / 8 - 1,by omega⟩
  have e1:(c - 1)%8=7:=by omega
  have e2:(c - 1) / 8=m:=by omega
  rw [h0] at h1 h2 h4;rw [hm] at h3 h4;have hb:=z5g t.s t.inn;have hl:t.load={ t with inn:=t.inn+1,cur:=k0w t.s t.inn,left:=8 }:=by
   rw [load_zero h1,octet_some hg (by omega)]
  have hv:h=k0w t.s t.inn+256*le t.s (t.inn+1) m:=by
   rw [h4];simp only [Nat.pow_zero] at h2;have:le t.s t.inn (m+1)=k0w t.s t.inn+256*le t.s (t.inn+1) m:=rfl;omega
  have eb:t.bit=(k0w t.s t.inn%2,{ t with inn:=t.inn+1,cur:=k0w t.s t.inn / 2,left:=7 }):=by unfold Tr.bit;rw [hl];rfl
  rw [eb];refine ⟨by show k0w t.s t.inn%2=h%2;omega,⟨?_,?_,?_,?_⟩,rfl,?_⟩
  ·show 7=(c - 1)%8;omega
  ·show k0w t.s t.inn / 2<2^((c - 1)%8);rw [e1];omega
  ·show t.inn+1+(c - 1) / 8<=t.s.size;omega
  ·show h / 2=k0w t.s t.inn / 2+2^((c - 1)%8)*le t.s (t.inn+1) ((c - 1) / 8);rw [e1,e2];omega
  ·show t.inn+1+(c - 1) / 8=t.inn+c / 8;omega
 ·obtain ⟨r,hr⟩:∃ r,c%8=r+1:=⟨c%8 - 1,by omega⟩
  have e1:(c - 1)%8=r:=by omega
  have e2:(c - 1) / 8=c / 8:=by omega
  rw [hr] at h1 h2 h4;have eb:t.bit=(t.cur%2,{ t with cur:=t.cur / 2,left:=r }):=by
   unfold Tr.bit;rw [load_pos (by omega),h1];rfl
  rw [eb];rw [Nat.pow_succ] at h2 h4;have h5:h=t.cur+2*(2^r*le t.s t.inn (c / 8)):=by
   rw [h4,Nat.mul_comm (2^r) 2,Nat.mul_assoc]
  refine ⟨by show t.cur%2=h%2;omega,⟨?_,?_,?_,?_⟩,rfl,?_⟩
  ·show r=(c - 1)%8;omega
  ·show t.cur / 2<2^((c - 1)%8);rw [e1];omega
  ·show t.inn+(c - 1) / 8<=t.s.size;omega
  ·show h / 2=t.cur / 2+2^((c - 1)%8)*le t.s t.inn ((c - 1) / 8);rw [e1,e2];omega
  ·show t.inn+(c - 1) / 8=t.inn+c / 8;omega
theorem Hand.number{t:Tr}{h c:Nat}(H:Hand t h c)(hg:t.ended=false)(k:Nat)(hk:k<=c) :
  (t.number k).1=h%2^k∧Hand (t.number k).2 (h / 2^k) (c - k)∧Rd t (t.number k).2∧(t.number k).2.inn+(c - k) / 8=t.inn+c / 8:=by
 induction k with
 | zero=>exact ⟨by simp [Tr.number,Nat.mod_one],by simpa [Tr.number] using H,Rd.refl t,rfl⟩
 | succ k ih=>
  obtain ⟨a,b,r,e⟩:=ih (by omega);obtain ⟨a2,b2,r2,e2⟩:=b.bit (by rw [r.ended,hg]) (by omega);refine ⟨?_,?_,r.trans r2,?_⟩
  ·show (t.number k).1+(t.number k).2.bit.1*2^k=_;rw [a,a2,Nat.mod_pow_succ,Nat.mul_comm]
  ·have e3:h / 2^(k+1)=h / 2^k / 2:=by rw [Nat.pow_succ,Nat.div_div_eq_div_mul]
   rw [e3,show c - (k+1)=c - k - 1 by omega];exact b2
  ·rw [show c - (k+1)=c - k - 1 by omega];show (t.number k).2.bit.2.inn+_=_;omega
structure Ob where
 out:List Nat
 ats:List Nat
 inn:Nat
 starts:List Nat
 err:Nat
 needs:Bool
def obs(t:Tr):Ob:=⟨t.out,t.ats,t.inn,t.starts,t.err,t.needs⟩
theorem obs_ended{a b:Tr}(h:obs a=obs b):a.ended=b.ended:=by
 unfold obs at h;injection h with h1 h2 h3 h4 h5 h6
 unfold Tr.ended;rw [h5,h6]
def Frz(t t':Tr):Prop:=t.ended=true->obs t'=obs t
theorem Frz.refl(t:Tr):Frz t t:=fun _=>rfl
theorem Frz.trans{a b c:Tr}(h:Frz a b)(k:Frz b c):Frz a c:=fun he=>by
 have h1:=h he;rw [k (by rw [obs_ended h1];exact he),h1]
theorem frz_fail(t:Tr)(e:Nat):Frz t (t.fail e):=fun h=>by rw [fail_ended h]
theorem frz_octet(t:Tr):Frz t t.octet.2:=fun h=>by rw [octet_ended h]
theorem frz_bit(t:Tr):Frz t t.bit.2:=fun h=>by
 unfold Tr.bit;by_cases hl:t.left=0
 ·rw [load_zero hl,octet_ended h];rfl
 ·rw [load_pos (by omega)];rfl
theorem frz_number(t:Tr)(k:Nat):Frz t (t.number k).2:=by
 induction k with
 | zero=>exact Frz.refl t
 | succ k ih=>exact ih.trans (frz_bit _)
theorem frz_skip(t:Tr):Frz t t.skip:=fun h=>by
 unfold Tr.skip;split
 ·rw [fail_ended h];rfl
 ·rfl
theorem frz_put(t:Tr)(b:Nat):Frz t (t.put b):=fun h=>by rw [put_ended h]
theorem frz_sym(S:RSet)(r n c:Nat)(t:Tr):Frz t (sym S r n c t).2:=fun h=>by
 cases r with
 | zero=>rfl
 | succ r=>
  unfold Tr.sym;have hb:=frz_bit t h;rw [if_pos (by rw [obs_ended hb];exact h)];exact hb
theorem frz_symbol(t:Tr)(S:RSet):Frz t (t.symbol S).2:=frz_sym S 11 1 0 t
theorem frz_bytes(n:Nat)(t:Tr):Frz t (bytes n t):=fun h=>by
 cases n with
 | zero=>rfl
 | succ n=>unfold Tr.bytes;rw [if_pos h]
theorem frz_ite_fail(c:Prop)[Decidable c](t:Tr)(e:Nat):Frz t (if c then t.fail e else t):=by
 split
 ·exact frz_fail t e
 ·exact Frz.refl t
theorem frz_ite_fail'(c:Prop)[Decidable c](t:Tr)(e:Nat):Frz t (if c then t else t.fail e):=by
 split
 ·exact Frz.refl t
 ·exact frz_fail t e
theorem frz_copyN(far n:Nat)(t:Tr):Frz t (copyN far n t):=fun h=>by
 cases n with
 | zero=>rfl
 | succ n=>unfold Tr.copyN;rw [if_pos h]
theorem frz_content(a b:RSet)(t:Tr):Frz t (content a b t):=fun h=>by rw [content_ended h]
theorem frz_blocksFrom(t:Tr):Frz t (blocksFrom t):=fun h=>by rw [blocks_end h]
theorem frz_blocks(t:Tr):Frz t t.blocks:=fun h=>by unfold Tr.blocks;rw [blocks_end (t:={ t with frm:=t.out.length,left:=0 }) h];rfl
theorem frz_four(t:Tr)(k:Nat):Frz t (t.four k).2:=by
 induction k with
 | zero=>exact Frz.refl t
 | succ k ih=>exact ih.trans (frz_octet _)
theorem frz_sum(t:Tr):Frz t t.sum:=(frz_four t 4).trans (by unfold Tr.sum;exact frz_ite_fail' _ _ _)
theorem frz_crowned(t:Tr)(b:Nat):Frz t (t.crowned b):=fun h=>by
 unfold Tr.crowned;split
 ·rw [fail_ended h];rfl
 ·rfl
theorem frz_crown(t:Tr):Frz t t.crown.2:=(frz_octet t).trans (frz_crowned _ _)
theorem frz_isB(t:Tr)(b:Nat):Frz t (t.isB b):=(frz_crown t).trans (by unfold Tr.isB;exact frz_ite_fail' _ _ _)
theorem frz_text(t:Tr):Frz t t.text:=fun h=>by rw [text_end h]
theorem frz_sized(t:Tr):Frz t t.sized:=((frz_octet t).trans (frz_octet _)).trans (by unfold Tr.sized;exact frz_ite_fail' _ _ _)
theorem frz_long(m:Nat)(t:Tr):Frz t (long m t):=fun h=>by rw [long_stop (by rw [h];simp)]
theorem frz_row(H:RSet)(n:Nat)(l:List Int)(t:Tr):Frz t (row H n l t).2:=fun h=>by rw [row_stop (by rw [h];simp)]
theorem frz_trail(t:Tr):Frz t t.trail:=fun h=>by unfold Tr.trail;rw [if_neg (by rw [h];simp)]
def dry(t:Tr):Ob:=⟨t.out,t.ats,t.s.size,t.starts,0,true⟩
theorem dry_of{a b:Tr}(h:Rd a b)(hi:b.inn=a.s.size)(hg:a.ended=false)(hn:b.left=0):obs b.bit.2=dry a:=by
 have hs:b.s=a.s:=by unfold Rd at h;rw [h]
 unfold Tr.bit;rw [load_zero hn,octet_none (by rw [h.ended];exact hg) (by rw [hs];omega)];have he:a.err=0:=((ended_iff a).1 hg).1;unfold Rd at h;rw [h];show Ob.mk a.out a.ats b.inn a.starts a.err true=Ob.mk a.out a.ats a.s.size a.starts 0 true;rw [hi,he]
theorem dry_ended{t t':Tr}(h:obs t'=dry t):t'.ended=true:=by
 unfold obs dry at h;injection h with h1 h2 h3 h4 h5 h6
 unfold Tr.ended;rw [h6];simp
theorem Hand.starve{t:Tr}{h c:Nat}(H:Hand t h c)(hg:t.ended=false)(hs:t.inn+c / 8=t.s.size)(k:Nat)(hk:c<k):obs (t.number k).2=dry t:=by
 obtain ⟨a,b,r,e⟩:=H.number hg c (Nat.le_refl _);rw [Nat.sub_self] at b e;have h1:obs (t.number (c+1)).2=dry t:=dry_of r (by omega) hg b.left;have h2:∀ j,obs (t.number (c+1+j)).2=dry t:=by
  intro j;induction j with
  | zero=>exact h1
  | succ j ih=>
   have:obs (t.number (c+1+j)).2.bit.2=obs (t.number (c+1+j)).2:=frz_bit _ (dry_ended ih);exact this.trans ih
 have:=h2 (k - (c+1));rwa [show c+1+(k - (c+1))=k by omega] at this
theorem Hand.octet{t:Tr}{h c:Nat}(H:Hand t h c)(hg:t.ended=false)(h0:c%8=0)(hc:8<=c) :
  t.octet.1=h%256∧Hand t.octet.2 (h / 256) (c - 8)∧Rd t t.octet.2∧t.octet.2.inn+(c - 8) / 8=t.inn+c / 8:=by
 obtain ⟨h1,h2,h3,h4⟩:=H;obtain ⟨m,hm⟩:∃ m,c / 8=m+1:=⟨c / 8 - 1,by omega⟩
 rw [h0] at h1 h2 h4;rw [hm] at h3 h4;have hb:=z5g t.s t.inn;have hv:h=k0w t.s t.inn+256*le t.s (t.inn+1) m:=by
  have:le t.s t.inn (m+1)=k0w t.s t.inn+256*le t.s (t.inn+1) m:=rfl;rw [h4];simp only [Nat.pow_zero] at h2;omega
 have hcur:t.cur=0:=by simp only [Nat.pow_zero] at h2;omega
 have e1:(c - 8)%8=0:=by omega
 have e2:(c - 8) / 8=m:=by omega
 rw [octet_some hg (by omega)];refine ⟨by show k0w t.s t.inn=h%256;omega,⟨?_,?_,?_,?_⟩,rfl,?_⟩
 ·show t.left=(c - 8)%8;omega
 ·show t.cur<2^((c - 8)%8);rw [e1];simpa using h2
 ·show t.inn+1+(c - 8) / 8<=t.s.size;omega
 ·show h / 256=t.cur+2^((c - 8)%8)*le t.s (t.inn+1) ((c - 8) / 8);rw [e1,e2,hcur];simp only [Nat.pow_zero];omega
 ·show t.inn+1+(c - 8) / 8=t.inn+c / 8;omega
theorem Hand.octet_dry{t:Tr}{h:Nat}(H:Hand t h 0)(hg:t.ended=false)(hs:t.inn=t.s.size):obs t.octet.2=dry t:=by
 rw [octet_none hg (by omega)];have he:t.err=0:=((ended_iff t).1 hg).1;show Ob.mk t.out t.ats t.inn t.starts t.err true=Ob.mk t.out t.ats t.s.size t.starts 0 true;rw [hs,he]
end Tr
def lng(l:List Int):Nat->Nat
 | 0=>0
 | k+1=>if 0<cn l k then k else lng l k
theorem y4h(l:List Int)(k:Nat):lng l (k+1)<=k:=by
 induction k with
 | zero=>simp [lng]
 | succ k ih=>
  rw [lng];split
  ·omega
  ·omega
theorem kgb(l:List Int)(n k:Nat)(h:lng l n<k)(hk:k<n):cn l k=0:=by
 induction n with
 | zero=>omega
 | succ n ih=>
  rw [lng] at h;have:=v4o l k;split at h
  ·omega
  ·by_cases e:k=n
   ·subst e;omega
   ·exact ih h (by omega)
theorem vga{l:List Int}(h:jwa (fun _=>1) l=0)(n:Nat):lng l n=0:=by
 induction n with
 | zero=>rfl
 | succ n ih=>
  rw [lng,ih];split
  ·rename_i hp
   rcases Nat.eq_zero_or_pos n with e | e
   ·exact e
   ·rw [yzd l n e,v6y l h] at hp;omega
  ·rfl
theorem x8u{l:List Int}(hr:inRange l=true)(h:ky9 l=true):lng l 12=1:=by
 rw [ksm hr,jf2] at h;have e:∀ j,j<12->cn l j=if j=1 then 1 else 0:=fun j hj=>by rw [h j hj];rfl
 simp [lng,e]
inductive Scan where
 | hit (k m:Nat)
 | more
 | none
def scan(l:List Int):Nat->Nat->Nat->Nat->Nat->Scan
 | 0,_,_,_,_=> .none
 | r+1,n,code,h,c=>
  if c=0 then .more
  else if 0<=find (rset l) n ((2*code+h%2:Nat):Int) then .hit (find (rset l) n ((2*code+h%2:Nat):Int)).toNat n
  else scan l r (n+1) (2*code+h%2) (h / 2) (c - 1)
def jcs(l:List Int)(h c:Nat):Scan:=scan l (lng l 12) 1 0 h c
theorem zmq(l:List Int)(r:Nat):∀ (n code h c k m:Nat),scan l r n code h c= .hit k m->n<=m∧m+1<=n+c∧m<n+r∧k<l.length:=by
 induction r with
 | zero=>intro n code h c k m e;simp [scan] at e
 | succ r ih=>
  intro n code h c k m e;rw [scan] at e;split at e
  ·cases e
  ·split at e
   ·rename_i h2
    injection e with e1 e2
    have h3:=Tr.find_lt (rset l) n ((2*code+h%2:Nat):Int);have h4:(rset l).l.length=l.length:=rfl;omega
   ·have:=ih _ _ _ _ _ _ e;omega
theorem x53(l:List Int)(r:Nat):∀ (n code h c:Nat),scan l r n code h c= .more->c<r:=by
 induction r with
 | zero=>intro n code h c e;simp [scan] at e
 | succ r ih=>
  intro n code h c e;rw [scan] at e;split at e
  ·omega
  ·split at e
   ·cases e
   ·have:=ih _ _ _ _ e;omega
theorem ymw(l:List Int)(b:Nat)(r:Nat):∀ (n code h c k m:Nat),scan l r n code h c= .more->scan l r n code (h+2^c*b) (c+8)= .hit k m->n+c<=m:=by
 induction r with
 | zero=>intro n code h c k m e;simp [scan] at e
 | succ r ih=>
  intro n code h c k m e e2;rw [scan] at e;split at e
  ·have:=zmq l _ _ _ _ _ _ _ e2;omega
  ·rename_i hc
   obtain ⟨d,rfl⟩:∃ d,c=d+1:=⟨c - 1,by omega⟩
   have h1:h+2^(d+1)*b=h+2*(2^d*b):=by rw [Nat.pow_succ,Nat.mul_comm (2^d) 2,Nat.mul_assoc]
   have h2:(h+2^(d+1)*b)%2=h%2:=by omega
   have h3:(h+2^(d+1)*b) / 2=h / 2+2^d*b:=by omega
   split at e
   ·cases e
   ·rename_i hn
    rw [scan,if_neg (by omega),h2,if_neg hn,h3,show d+1+8 - 1=d+8 by omega] at e2;have:=ih (n+1) _ _ _ _ _ e e2;omega
def y8i(l:List Int)(h c:Nat):Prop:=(∀ k m,jcs l h c= .hit k m->c<m+8)∧(jcs l h c= .none->c<lng l 12+8)
theorem y8i.of_lt{l:List Int}{h c:Nat}(hc:c<8):y8i l h c:=⟨fun _ _ _=>by omega,fun _=>by omega⟩
theorem y8i.take{l:List Int}{h c:Nat}(b:Nat)(hm:jcs l h c= .more):y8i l (h+2^c*b) (c+8):=by
 refine ⟨fun k m e=>?_,fun _=>?_⟩
 ·have:=ymw l b _ _ _ _ _ _ _ hm e;omega
 ·have:=x53 l _ _ _ _ _ hm;omega
theorem sym_hit(l:List Int)(r:Nat):∀ (R n code h c k m:Nat) (t:Tr),scan l r n code h c= .hit k m->Tr.Hand t h c->t.ended=false->r<=R->(ky9 l=true->r<=1)->
  ∃ t',Tr.sym (rset l) R n code t=((k:Int),t')∧Tr.Hand t' (h / 2^(m+1 - n)) (c - (m+1 - n))∧Tr.Rd t t'∧t'.inn+(c - (m+1 - n)) / 8=t.inn+c / 8:=by
 induction r with
 | zero=>intro R n code h c k m t e;simp [scan] at e
 | succ r ih=>
  intro R n code h c k m t e H hg hR ho;obtain ⟨R,rfl⟩:∃ R',R=R'+1:=⟨R - 1,by omega⟩
  have hb0:=zmq l _ _ _ _ _ _ _ e;rw [scan] at e;split at e
  ·cases e
  ·rename_i hc
   obtain ⟨b1,b2,b3,b4⟩:=H.bit hg (by omega);have hg2:t.bit.2.ended=false:=by rw [b3.ended];exact hg
   unfold Tr.sym;rw [if_neg (by rw [hg2];simp),b1];split at e
   ·rename_i hf
    injection e with e1 e2
    rw [if_pos hf];subst e2;refine ⟨t.bit.2,?_,?_,b3,?_⟩
    ·rw [← e1];congr 1;omega
    ·rw [show n+1 - n=1 by omega];exact b2
    ·rw [show n+1 - n=1 by omega];exact b4
   ·rename_i hf
    rw [if_neg hf];have h1:=zmq l _ _ _ _ _ _ _ e;have hone:ky9 l=false:=by
     cases hs:ky9 l
     ·rfl
     ·have:=ho hs;omega
    rw [if_neg (by show ¬ (ky9 l=true);rw [hone];simp)];obtain ⟨t',d1,d2,d3,d4⟩:=ih R (n+1) _ _ _ _ _ t.bit.2 e b2 hg2 (by omega) (fun hs=>by rw [hone] at hs;cases hs);refine ⟨t',d1,?_,b3.trans d3,?_⟩
    ·have e5:m+1 - n=(m+1 - (n+1))+1:=by omega
     rw [e5,Nat.pow_succ,Nat.mul_comm,← Nat.div_div_eq_div_mul,show c - (m+1 - (n+1)+1)=c - 1 - (m+1 - (n+1)) by omega];exact d2
    ·rw [show c - (m+1 - n)=c - 1 - (m+1 - (n+1)) by omega];omega
theorem Tr.Rd.dry{a b:Tr}(h:Tr.Rd a b):b.dry=a.dry:=by
 unfold Tr.Rd at h;rw [h];rfl
theorem v3j(l:List Int)(r:Nat):∀ (R n code h c:Nat) (t:Tr),scan l r n code h c= .more->Tr.Hand t h c->t.ended=false->t.inn+c / 8=t.s.size->r<=R->(ky9 l=true->r<=1)->
  (Tr.sym (rset l) R n code t).1= -1∧Tr.obs (Tr.sym (rset l) R n code t).2=t.dry:=by
 induction r with
 | zero=>intro R n code h c t e;simp [scan] at e
 | succ r ih=>
  intro R n code h c t e H hg hs hR ho;obtain ⟨R,rfl⟩:∃ R',R=R'+1:=⟨R - 1,by omega⟩
  rw [scan] at e;split at e
  ·rename_i hc
   subst hc;have hd:Tr.obs t.bit.2=t.dry:=Tr.dry_of (Tr.Rd.refl t) (by omega) hg H.left;unfold Tr.sym;rw [if_pos (Tr.dry_ended hd)];exact ⟨rfl,hd⟩
  ·rename_i hc
   obtain ⟨b1,b2,b3,b4⟩:=H.bit hg (by omega);have hg2:t.bit.2.ended=false:=by rw [b3.ended];exact hg
   unfold Tr.sym;rw [if_neg (by rw [hg2];simp),b1];split at e
   ·cases e
   ·rename_i hf
    rw [if_neg hf];have h1:=x53 l _ _ _ _ _ e;have hone:ky9 l=false:=by
     cases hs:ky9 l
     ·rfl
     ·have:=ho hs;omega
    rw [if_neg (by show ¬ (ky9 l=true);rw [hone];simp)];have hsz:t.bit.2.s=t.s:=by have:=b3;unfold Tr.Rd at this;rw [this]
    have:=ih R (n+1) _ _ _ t.bit.2 e b2 hg2 (by rw [hsz];omega) (by omega) (fun hs=>by rw [hone] at hs;cases hs);rw [b3.dry] at this;exact this
theorem y9v(l:List Int):shr (cn l) (lng l 12+1)=shr (cn l) 12:=by
 have h:∀ d,lng l 12+1+d<=12->shr (cn l) (lng l 12+1+d)=shr (cn l) (lng l 12+1):=by
  intro d;induction d with
  | zero=>intro _;rfl
  | succ d ih=>
   intro hd;rw [show lng l 12+1+(d+1)=(lng l 12+1+d)+1 by omega,kfa,ih (by omega),kgb l 12 _ (by omega) (by omega)];simp
 have:lng l 12<=11:=y4h l 11;have:=h (12 - (lng l 12+1)) (by omega);rw [← this];congr 1;omega
theorem vrs{l:List Int}(hr:inRange l=true)(hc:jwa gw l=2048)(r:Nat):∀ (k code h c:Nat),k+r=lng l 12->code<2^k->shr (cn l) (k+1)<=(code:Int)*2^(11 - k)->scan l r (k+1) code h c≠ .none:=by
 induction r with
 | zero=>
  intro k code h c hk hlt hs _;have hk':k=lng l 12:=by omega
  have h11:lng l 12<=11:=y4h l 11;have e:shr (cn l) (k+1)=2048:=by rw [hk',y9v,kfr l hr,yky,hc]
  rw [e] at hs;have h1:(code:Int)*2^(11 - k)<2^k*2^(11 - k):=Int.mul_lt_mul_of_pos_right (by exact_mod_cast hlt) (Int.pow_pos (by decide));rw [← Int.pow_add,show k+(11 - k)=11 by omega] at h1;have:(2:Int)^11=2048:=by decide
  omega
 | succ r ih=>
  intro k code h c hk hlt hs;have h11:lng l 12<=11:=y4h l 11;rw [scan];split
  ·simp
  ·split
   ·simp
   ·rename_i hf
    have hb:h%2<=1:=by omega
    refine ih (k+1) _ _ _ (by omega) (by rw [Nat.pow_succ];omega) ?_;have hP:(0:Int)<2^(11 - (k+1)):=Int.pow_pos (by decide);have e1:=y0b (cn l) (k+1) (by omega);have e2:(2:Int)^(11 - k)=2*2^(11 - (k+1)):=by
     rw [show 11 - k=(11 - (k+1))+1 by omega,Int.pow_succ];omega
    rw [kfa (cn l) (k+1)];rw [e2] at hs;generalize (2:Int)^(11 - (k+1))=P at *;have hge:fc (cn l) (k+1)<=((2*code+h%2:Nat):Int):=by
     apply v6p hP;rw [e1];refine Int.le_trans hs ?_;have:(code:Int)*(2*P)=(2*code)*P:=by rw [← Int.mul_assoc,Int.mul_comm (code:Int) 2]
     rw [this];exact Int.mul_le_mul_of_nonneg_right (by omega) (by omega)
    have hout:fc (cn l) (k+1)+cn l (k+1)<=((2*code+h%2:Nat):Int):=by
     apply Classical.byContradiction;intro hn;obtain ⟨i,_,_,_,hfi⟩:=k5a (S:=rset l) hr (n:=k+1) (by omega) hge (by show _<fc (cn l) (k+1)+cn l (k+1);omega);rw [hfi] at hf;omega
    rw [← e1,← Int.add_mul];exact Int.mul_le_mul_of_nonneg_right hout (by omega)
theorem zxu{l:List Int}(hr:inRange l=true)(hc:jwa gw l=2048)(h c:Nat):jcs l h c≠ .none:=
 vrs hr hc (lng l 12) 0 0 h c (by omega) (by decide) (by rw [kfa,xu8];simp [shr])
structure St where
 fmt:Nat
 mem:Nat
 lim:Nat
 st:Nat
 held:Nat
 count:Nat
 begun:Nat
 marks:Nat
 hsum:Nat
 hmany:Nat
 om:List Nat
 last:Bool
 left:Nat
 nl:Nat
 nd:Nat
 told:Nat
 hl:List Int
 hs:List Int
 hk:Nat
 row:List Int
 la:List Int
 lb:List Int
 lit:Nat
 least:Nat
 bits:Nat
 dist:Nat
inductive Act where
 | take
 | put (b:Nat) (σ:St)
 | tau (σ:St)
 | fail (e:Nat)
def hbits(k:Nat):Nat:=if k=12 then 2 else if k=13 then 3 else if k=14 then 6 else 0
def hleast(k:Nat):Nat:=if k=12 then 3 else if k=13 then 3 else if k=14 then 11 else 1
def hval(k:Nat)(row:List Int):Int:=if k=12 then row.getD (row.length - 1) 0 else if k=13 then 0 else if k=14 then 0 else k
def xhc:List Int->Nat->List Int->List Int
 | [],_,l=>l
 | x :: xs,i,l=>xhc xs (i+1) (l.set (Tr.order.getD i 0) x)
def hset(hl:List Int):List Int:=xhc hl 0 (List.replicate 15 0)
def jcj(a b:List Int):Prop:=a.getD 256 0=0∨jwa gw a≠2048∨(jwa gw b≠2048∧ky9 b=false∧0<jwa (fun _=>1) b)
instance (a b:List Int):Decidable (jcj a b):=by unfold jcj;infer_instance
def big4(h:Nat):Nat:=256*(256*(256*(h%256)+h / 256%256)+h / 65536%256)+h / 16777216%256
namespace St
def rd(σ:St)(k:Nat):St:={ σ with held:=σ.held / 2^k,count:=σ.count - k }
def num(σ:St)(k:Nat):Nat:=σ.held%2^k
def add(σ:St)(b:Nat):St:={ σ with held:=σ.held+2^σ.count*b,count:=σ.count+8 }
def need(σ:St)(k:Nat)(A:Act):Act:=if σ.count<k then .take else A
def crown(σ:St):St:={ σ.rd 8 with hsum:=(σ.hsum+σ.num 8)%256,hmany:=σ.hmany+1 }
def headByte(σ:St)(want next:Nat):Act:=if σ.lim<=σ.hmany then .fail 5 else if σ.num 8=want then .tau { σ.crown with st:=next } else .fail 4
def text(σ:St)(next:Nat):Act:=if σ.lim<=σ.hmany then .fail 5 else .tau { σ.crown with st:=if σ.num 8=0 then next else σ.st }
def endBlock(σ:St):Act:=if σ.last then (if σ.held≠0 then .fail 8 else .tau { σ with held:=0,count:=0,st:=21 }) else .tau { σ with st:=6 }
def kind(σ:St):Act:=
 let τ:St:={ σ.rd 3 with last:=σ.num 1==1 }
 if σ.held / 2%4=0 then (if τ.held≠0 then .fail 8 else .tau { τ with held:=0,count:=0,st:=7 })
 else if σ.held / 2%4=1 then .tau { τ with la:=Tr.fixedA,lb:=Tr.fixedB,st:=16 }
 else if σ.held / 2%4=2 then .tau { τ with st:=9 }
 else .fail 7
def endRow(σ:St):Act:=
 if jcj (σ.row.take σ.nl) (σ.row.drop σ.nl) then .fail 10
 else .tau { σ with la:=σ.row.take σ.nl,lb:=σ.row.drop σ.nl,hl:=[],hs:=[],row:=[],st:=16 }
def rowNumber(σ:St):Act:=
 let times:=hleast σ.hk+σ.num (hbits σ.hk)
 if σ.hk=12∧σ.row.length=0 then .fail 10
 else if σ.nl+σ.nd < σ.row.length+times then .fail 10
 else
  let τ:St:={ σ.rd (hbits σ.hk) with row:=σ.row++List.replicate times (hval σ.hk σ.row),st:=13 }
  if τ.row.length=σ.nl+σ.nd then τ.endRow else .tau τ
def literal(σ:St)(k:Nat):Act:=
 if k<256 then .tau { σ with lit:=k,st:=15 }
 else if k=256 then σ.endBlock
 else .tau { σ with least:=Tr.spanLeast 3 (k - 257),bits:=Tr.spanBits (k - 257),st:=17 }
def symbol(σ:St)(l:List Int)(f:St->Nat->Act):Act:=
 match jcs l σ.held σ.count with
 | .hit k m=>f (σ.rd m) k
 | .more=> .take
 | .none=> .fail 11
def actAt(n:Nat)(σ:St):Act:=
 match n with
 | 0=>σ.need 8 (σ.headByte (if σ.fmt=1 then 115 else 76) 1)
 | 1=>σ.need 8 (σ.headByte (if σ.fmt=1 then 1 else 2) 2)
 | 2=>if σ.fmt=2 then σ.need 8 (if σ.lim<=σ.hmany then .fail 5 else if 7 < σ.num 8 then .fail 4 else .tau { σ.crown with marks:=σ.num 8,st:=3 }) else .tau { σ with st:=3 }
 | 3=>if σ.marks%2=1 then σ.need 8 (σ.text 4) else .tau { σ with st:=4 }
 | 4=>if σ.marks / 2%2=1 then σ.need 8 (σ.text 5) else .tau { σ with st:=5 }
 | 5=>if σ.marks / 4=1 then σ.need 8 (σ.headByte σ.hsum 6) else .tau { σ with st:=6 }
 | 6=>σ.need 3 σ.kind
 | 7=>σ.need 32 (if σ.held / 65536%65536=65535 - σ.num 16 then .tau { σ.rd 32 with left:=σ.num 16,st:=8 } else .fail 9)
 | 8=>if σ.left=0 then σ.endBlock else σ.need 8 (.put (σ.num 8) { σ.rd 8 with left:=σ.left - 1,om:=σ.om++[σ.num 8] })
 | 9=>σ.need 4 (if 12 < σ.num 4 then .fail 10 else .tau { σ.rd 4 with nl:=257+σ.num 4,st:=10 })
 | 10=>σ.need 4 (.tau { σ.rd 4 with nd:=1+σ.num 4,st:=11 })
 | 11=>σ.need 4 (if 11 < σ.num 4 then .fail 10 else .tau { σ.rd 4 with told:=4+σ.num 4,st:=12 })
 | 12=>if σ.hl.length < σ.told then σ.need 3 (.tau { σ.rd 3 with hl:=σ.hl++[(σ.num 3:Int)] })
   else if jwa gw (hset σ.hl)=2048 then .tau { σ with hs:=hset σ.hl,st:=13 } else .fail 10
 | 13=>σ.symbol σ.hs (fun τ k=> .tau { τ with hk:=k,st:=14 })
 | 14=>σ.need (hbits σ.hk) σ.rowNumber
 | 15=> .put σ.lit { σ with om:=σ.om++[σ.lit],st:=16 }
 | 16=>σ.symbol σ.la (fun τ k=>τ.literal k)
 | 17=>σ.need σ.bits (.tau { σ.rd σ.bits with left:=σ.least+σ.num σ.bits,st:=18 })
 | 18=>σ.symbol σ.lb (fun τ k=> .tau { τ with least:=Tr.spanLeast 1 k,bits:=Tr.spanBits k,st:=19 })
 | 19=>σ.need σ.bits (if σ.om.length < σ.least+σ.num σ.bits then .fail 11 else .tau { σ.rd σ.bits with dist:=σ.least+σ.num σ.bits,st:=20 })
 | 20=>if σ.left=0 then .tau { σ with st:=16 } else .put (σ.om.getD (σ.om.length - σ.dist) 0) { σ with left:=σ.left - 1,om:=σ.om++[σ.om.getD (σ.om.length - σ.dist) 0] }
 | 21=>if σ.fmt=0 then .tau { σ with st:=22 } else σ.need 32 (if (big4 σ.held:Int)=Tr.sumL σ.om then .tau { σ.rd 32 with st:=22 } else .fail 12)
 | 22=>if σ.fmt=2 then σ.need 16 (if σ.num 16=σ.om.length%65536 then .tau { σ.rd 16 with st:=23 } else .fail 13) else .tau { σ with st:=23 }
 | _=>σ.need 8 (if σ.fmt≠2 then .fail 14 else if σ.mem<=σ.begun then .fail 6 else .tau { σ with st:=0,om:=[],hsum:=0,hmany:=0,marks:=0,begun:=σ.begun+1 })
def act(σ:St):Act:=actAt σ.st σ
def Few(n:Nat)(σ:St):Prop:=
 match n with
 | 6=>σ.count<11
 | 7=>σ.count%8=0∧σ.count<=32
 | 8=>σ.count%8=0∧σ.count<=8∧(σ.left=0->σ.count=0)
 | 9=>σ.count<12
 | 10=>σ.count<12
 | 11=>σ.count<12
 | 12=>σ.count<11∧(σ.hl.length=σ.told->σ.count<8)
 | 13=>y8i σ.hs σ.held σ.count
 | 14=>σ.count<8+hbits σ.hk
 | 15=>σ.count<8
 | 16=>y8i σ.la σ.held σ.count
 | 17=>σ.count<8+σ.bits
 | 18=>y8i σ.lb σ.held σ.count
 | 19=>σ.count<8+σ.bits
 | 20=>σ.count<8
 | 21=>σ.count%8=0∧σ.count<=32∧(σ.fmt=0->σ.count=0)
 | 22=>σ.count%8=0∧σ.count<=16∧(σ.fmt≠2->σ.count=0)
 | _=>σ.count%8=0∧σ.count<=8
def okDists(l:List Int):Prop:=jwa gw l=2048∨ky9 l=true∨jwa (fun _=>1) l=0
structure Sets(σ:St):Prop where
 ra:inRange σ.la=true
 wa:jwa gw σ.la=2048
 na:257<=σ.la.length∧σ.la.length<=269
 rb:inRange σ.lb=true
 wb:okDists σ.lb
 nb:σ.lb.length<=16
def At(n:Nat)(σ:St):Prop:=
 match n with
 | 0=>σ.om=[]
 | 1=>σ.om=[]
 | 2=>σ.om=[]
 | 3=>σ.om=[]
 | 4=>σ.om=[]
 | 5=>σ.om=[]
 | 8=>σ.left<=65535
 | 10=>257<=σ.nl∧σ.nl<=269
 | 11=>(257<=σ.nl∧σ.nl<=269)∧1<=σ.nd∧σ.nd<=16
 | 12=>(257<=σ.nl∧σ.nl<=269)∧(1<=σ.nd∧σ.nd<=16)∧(4<=σ.told∧σ.told<=15)∧σ.hl.length<=σ.told∧(∀ x∈σ.hl,0<=x∧x<8)∧σ.row=[]
 | 13=>(257<=σ.nl∧σ.nl<=269)∧(1<=σ.nd∧σ.nd<=16)∧(inRange σ.hs=true∧jwa gw σ.hs=2048∧σ.hs.length=15)∧inRange σ.row=true∧σ.row.length < σ.nl+σ.nd
 | 14=>((257<=σ.nl∧σ.nl<=269)∧(1<=σ.nd∧σ.nd<=16)∧(inRange σ.hs=true∧jwa gw σ.hs=2048∧σ.hs.length=15)∧inRange σ.row=true∧σ.row.length < σ.nl+σ.nd)∧σ.hk<15
 | 15=>Sets σ∧σ.lit<256
 | 16=>Sets σ
 | 17=>Sets σ∧σ.bits<=4∧3<=σ.least∧σ.least+2^σ.bits<=67
 | 18=>Sets σ∧3<=σ.left∧σ.left<=66
 | 19=>(Sets σ∧3<=σ.left∧σ.left<=66)∧σ.bits<=6∧1<=σ.least∧σ.least+2^σ.bits<=257
 | 20=>(Sets σ∧σ.left<=66)∧1<=σ.dist∧σ.dist<=σ.om.length∧σ.dist<=256
 | _=>True
structure Wf(σ:St):Prop where
 fmt:σ.fmt<3
 st:σ.st<24
 raw:σ.fmt=0->6<=σ.st
 held:σ.held<2^σ.count
 few:Few σ.st σ
 at_:At σ.st σ
 own:σ.st<12∨14 < σ.st->σ.hl=[]∧σ.row=[]
 om:∀ x∈σ.om,x<256
 marks:σ.marks<=7∧(σ.fmt≠2->σ.marks=0)
 hsum:σ.hsum<256
end St
end Go.Proofs.YtbcjmakpempkiaaGreatDoor
