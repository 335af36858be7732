import Derived.Test.YtbcjmakpempkiaaGreatDoorX00
set_option maxRecDepth 100000
set_option maxHeartbeats 8000000
set_option linter.all false
namespace Go.Proofs.YtbcjmakpempkiaaGreatDoor
def lng(l:List Int):Nat->Nat
 | 0=>0
 | k+1=>if 0<cn l k then k else lng l k
theorem y4h(l:List Int)(k:Nat):lng l (k+1)<=k:=by
 induction k with
 | zero=>simp [lng]
 | succ k ih=>
  rw [lng];split
  ·omega
  ·omega
theorem kgb(l:List Int)(n k:Nat)(h:lng l n<k)(hk:k<n):cn l k=0:=by
 induction n with
 | zero=>omega
 | succ n ih=>
  rw [lng] at h;have:=v4o l k;split at h
  ·omega
  ·by_cases e:k=n
   ·subst e;omega
   ·exact ih h (by omega)
theorem vga{l:List Int}(h:jwa (fun _=>1) l=0)(n:Nat):lng l n=0:=by
 induction n with
 | zero=>rfl
 | succ n ih=>
  rw [lng,ih];split
  ·rename_i hp
   rcases Nat.eq_zero_or_pos n with e | e
   ·exact e
   ·rw [yzd l n e,v6y l h] at hp;omega
  ·rfl
theorem x8u{l:List Int}(hr:inRange l=true)(h:ky9 l=true):lng l 12=1:=by
 rw [ksm hr,jf2] at h;have e:∀ j,j<12->cn l j=if j=1 then 1 else 0:=fun j hj=>by rw [h j hj];rfl
 simp [lng,e]
inductive Scan where
 | hit (k m:Nat)
 | more
 | none
def scan(l:List Int):Nat->Nat->Nat->Nat->Nat->Scan
 | 0,_,_,_,_=> .none
 | r+1,n,code,h,c=>
  if c=0 then .more
  else if 0<=find (rset l) n ((2*code+h%2:Nat):Int) then .hit (find (rset l) n ((2*code+h%2:Nat):Int)).toNat n
  else scan l r (n+1) (2*code+h%2) (h / 2) (c - 1)
def jcs(l:List Int)(h c:Nat):Scan:=scan l (lng l 12) 1 0 h c
theorem yyp(l:List Int)(r:Nat):∀ (n code h c k m:Nat),scan l r n code h c= .hit k m->n<=m∧m+1<=n+c∧m<n+r∧k<l.length:=by
 induction r with
 | zero=>intro n code h c k m e;simp [scan] at e
 | succ r ih=>
  intro n code h c k m e;rw [scan] at e;split at e
  ·cases e
  ·split at e
   ·rename_i h2
    injection e with e1 e2
    have h3:=Tr.find_lt (rset l) n ((2*code+h%2:Nat):Int);have h4:(rset l).l.length=l.length:=rfl;omega
   ·have:=ih _ _ _ _ _ _ e;omega
theorem x53(l:List Int)(r:Nat):∀ (n code h c:Nat),scan l r n code h c= .more->c<r:=by
 induction r with
 | zero=>intro n code h c e;simp [scan] at e
 | succ r ih=>
  intro n code h c e;rw [scan] at e;split at e
  ·omega
  ·split at e
   ·cases e
   ·have:=ih _ _ _ _ e;omega
theorem ymw(l:List Int)(b:Nat)(r:Nat):∀ (n code h c k m:Nat),scan l r n code h c= .more->scan l r n code (h+2^c*b) (c+8)= .hit k m->n+c<=m:=by
 induction r with
 | zero=>intro n code h c k m e;simp [scan] at e
 | succ r ih=>
  intro n code h c k m e e2;rw [scan] at e;split at e
  ·have:=yyp l _ _ _ _ _ _ _ e2;omega
  ·rename_i hc
   obtain ⟨d,rfl⟩:∃ d,c=d+1:=⟨c - 1,by omega⟩
   have h1:h+2^(d+1)*b=h+2*(2^d*b):=by rw [Nat.pow_succ,Nat.mul_comm (2^d) 2,Nat.mul_assoc]
   have h2:(h+2^(d+1)*b)%2=h%2:=by omega
   have h3:(h+2^(d+1)*b) / 2=h / 2+2^d*b:=by omega
   split at e
   ·cases e
   ·rename_i hn
    rw [scan,if_neg (by omega),h2,if_neg hn,h3,show d+1+8 - 1=d+8 by omega] at e2;have:=ih (n+1) _ _ _ _ _ e e2;omega
def y8i(l:List Int)(h c:Nat):Prop:=(∀ k m,jcs l h c= .hit k m->c<m+8)∧(jcs l h c= .none->c<lng l 12+8)
theorem y8i.of_lt{l:List Int}{h c:Nat}(hc:c<8):y8i l h c:=⟨fun _ _ _=>by omega,fun _=>by omega⟩
theorem y8i.take{l:List Int}{h c:Nat}(b:Nat)(hm:jcs l h c= .more):y8i l (h+2^c*b) (c+8):=by
 refine ⟨fun k m e=>?_,fun _=>?_⟩
 ·have:=ymw l b _ _ _ _ _ _ _ hm e;omega
 ·have:=x53 l _ _ _ _ _ hm;omega
theorem sym_hit(l:List Int)(r:Nat):∀ (R n code h c k m:Nat) (t:Tr),scan l r n code h c= .hit k m->Tr.Hand t h c->t.ended=false->r<=R->(ky9 l=true->r<=1)->
  ∃ t',Tr.sym (rset l) R n code t=((k:Int),t')∧Tr.Hand t' (h / 2^(m+1 - n)) (c - (m+1 - n))∧Tr.Rd t t'∧t'.inn+(c - (m+1 - n)) / 8=t.inn+c / 8:=by
 induction r with
 | zero=>intro R n code h c k m t e;simp [scan] at e
 | succ r ih=>
  intro R n code h c k m t e H hg hR ho;obtain ⟨R,rfl⟩:∃ R',R=R'+1:=⟨R - 1,by omega⟩
  have hb0:=yyp l _ _ _ _ _ _ _ e;rw [scan] at e;split at e
  ·cases e
  ·rename_i hc
   obtain ⟨b1,b2,b3,b4⟩:=H.bit hg (by omega);have hg2:t.bit.2.ended=false:=by rw [b3.ended];exact hg
   unfold Tr.sym;rw [if_neg (by rw [hg2];simp),b1];split at e
   ·rename_i hf
    injection e with e1 e2
    rw [if_pos hf];subst e2;refine ⟨t.bit.2,?_,?_,b3,?_⟩
    ·rw [← e1];congr 1;omega
    ·rw [show n+1 - n=1 by omega];exact b2
    ·rw [show n+1 - n=1 by omega];exact b4
   ·rename_i hf
    rw [if_neg hf];have h1:=yyp l _ _ _ _ _ _ _ e;have hone:ky9 l=false:=by
     cases hs:ky9 l
     ·rfl
     ·have:=ho hs;omega
    rw [if_neg (by show ¬ (ky9 l=true);rw [hone];simp)];obtain ⟨t',d1,d2,d3,d4⟩:=ih R (n+1) _ _ _ _ _ t.bit.2 e b2 hg2 (by omega) (fun hs=>by rw [hone] at hs;cases hs);refine ⟨t',d1,?_,b3.trans d3,?_⟩
    ·have e5:m+1 - n=(m+1 - (n+1))+1:=by omega
     rw [e5,Nat.pow_succ,Nat.mul_comm,← Nat.div_div_eq_div_mul,show c - (m+1 - (n+1)+1)=c - 1 - (m+1 - (n+1)) by omega];exact d2
    ·rw [show c - (m+1 - n)=c - 1 - (m+1 - (n+1)) by omega];omega
theorem Tr.Rd.dry{a b:Tr}(h:Tr.Rd a b):b.dry=a.dry:=by
 unfold Tr.Rd at h;rw [h];rfl
theorem v3j(l:List Int)(r:Nat):∀ (R n code h c:Nat) (t:Tr),scan l r n code h c= .more->Tr.Hand t h c->t.ended=false->t.inn+c / 8=t.s.size->r<=R->(ky9 l=true->r<=1)->
  (Tr.sym (rset l) R n code t).1= -1∧Tr.obs (Tr.sym (rset l) R n code t).2=t.dry:=by
 induction r with
 | zero=>intro R n code h c t e;simp [scan] at e
 | succ r ih=>
  intro R n code h c t e H hg hs hR ho;obtain ⟨R,rfl⟩:∃ R',R=R'+1:=⟨R - 1,by omega⟩
  rw [scan] at e;split at e
  ·rename_i hc
   subst hc;have hd:Tr.obs t.bit.2=t.dry:=Tr.dry_of (Tr.Rd.refl t) (by omega) hg H.left;unfold Tr.sym;rw [if_pos (Tr.dry_ended hd)];exact ⟨rfl,hd⟩
  ·rename_i hc
   obtain ⟨b1,b2,b3,b4⟩:=H.bit hg (by omega);have hg2:t.bit.2.ended=false:=by rw [b3.ended];exact hg
   unfold Tr.sym;rw [if_neg (by rw [hg2];simp),b1];split at e
   ·cases e
   ·rename_i hf
    rw [if_neg hf];have h1:=x53 l _ _ _ _ _ e;have hone:ky9 l=false:=by
     cases hs:ky9 l
     ·rfl
     ·have:=ho hs;omega
    rw [if_neg (by show ¬ (ky9 l=true);rw [hone];simp)];have hsz:t.bit.2.s=t.s:=by have:=b3;unfold Tr.Rd at this;rw [this]
    have:=ih R (n+1) _ _ _ t.bit.2 e b2 hg2 (by rw [hsz];omega) (by omega) (fun hs=>by rw [hone] at hs;cases hs);rw [b3.dry] at this;exact this
theorem y9v(l:List Int):shr (cn l) (lng l 12+1)=shr (cn l) 12:=by
 have h:∀ d,lng l 12+1+d<=12->shr (cn l) (lng l 12+1+d)=shr (cn l) (lng l 12+1):=by
  intro d;induction d with
  | zero=>intro _;rfl
  | succ d ih=>
   intro hd;rw [show lng l 12+1+(d+1)=(lng l 12+1+d)+1 by omega,kfa,ih (by omega),kgb l 12 _ (by omega) (by omega)];simp
 have:lng l 12<=11:=y4h l 11;have:=h (12 - (lng l 12+1)) (by omega);rw [← this];congr 1;omega
theorem vrs{l:List Int}(hr:inRange l=true)(hc:jwa gw l=2048)(r:Nat):∀ (k code h c:Nat),k+r=lng l 12->code<2^k->shr (cn l) (k+1)<=(code:Int)*2^(11 - k)->scan l r (k+1) code h c≠ .none:=by
 induction r with
 | zero=>
  intro k code h c hk hlt hs _;have hk':k=lng l 12:=by omega
  have h11:lng l 12<=11:=y4h l 11;have e:shr (cn l) (k+1)=2048:=by rw [hk',y9v,kfr l hr,yky,hc]
  rw [e] at hs;have h1:(code:Int)*2^(11 - k)<2^k*2^(11 - k):=Int.mul_lt_mul_of_pos_right (by exact_mod_cast hlt) (Int.pow_pos (by decide));rw [← Int.pow_add,show k+(11 - k)=11 by omega] at h1;have:(2:Int)^11=2048:=by decide
  omega
 | succ r ih=>
  intro k code h c hk hlt hs;have h11:lng l 12<=11:=y4h l 11;rw [scan];split
  ·simp
  ·split
   ·simp
   ·rename_i hf
    have hb:h%2<=1:=by omega
    refine ih (k+1) _ _ _ (by omega) (by rw [Nat.pow_succ];omega) ?_;have hP:(0:Int)<2^(11 - (k+1)):=Int.pow_pos (by decide);have e1:=y0b (cn l) (k+1) (by omega);have e2:(2:Int)^(11 - k)=2*2^(11 - (k+1)):=by
     rw [show 11 - k=(11 - (k+1))+1 by omega,Int.pow_succ];omega
    rw [kfa (cn l) (k+1)];rw [e2] at hs;generalize (2:Int)^(11 - (k+1))=P at *;have hge:fc (cn l) (k+1)<=((2*code+h%2:Nat):Int):=by
     apply xuq hP;rw [e1];refine Int.le_trans hs ?_;have:(code:Int)*(2*P)=(2*code)*P:=by rw [← Int.mul_assoc,Int.mul_comm (code:Int) 2]
     rw [this];exact Int.mul_le_mul_of_nonneg_right (by omega) (by omega)
    have hout:fc (cn l) (k+1)+cn l (k+1)<=((2*code+h%2:Nat):Int):=by
     apply Classical.byContradiction;intro hn;obtain ⟨i,_,_,_,hfi⟩:=k5a (S:=rset l) hr (n:=k+1) (by omega) hge (by show _<fc (cn l) (k+1)+cn l (k+1);omega);rw [hfi] at hf;omega
    rw [← e1,← Int.add_mul];exact Int.mul_le_mul_of_nonneg_right hout (by omega)
theorem zxu{l:List Int}(hr:inRange l=true)(hc:jwa gw l=2048)(h c:Nat):jcs l h c≠ .none:=
 vrs hr hc (lng l 12) 0 0 h c (by omega) (by decide) (by rw [kfa,xu8];simp [shr])
structure St where
 fmt:Nat
 mem:Nat
 lim:Nat
 st:Nat
 held:Nat
 count:Nat
 begun:Nat
 marks:Nat
 hsum:Nat
 hmany:Nat
 om:List Nat
 last:Bool
 left:Nat
 nl:Nat
 nd:Nat
 told:Nat
 hl:List Int
 hs:List Int
 hk:Nat
 row:List Int
 la:List Int
 lb:List Int
 lit:Nat
 least:Nat
 bits:Nat
 dist:Nat
inductive Act where
 | take
 | put (b:Nat) (σ:St)
 | tau (σ:St)
 | fail (e:Nat)
def hbits(k:Nat):Nat:=if k=12 then 2 else if k=13 then 3 else if k=14 then 6 else 0
def hleast(k:Nat):Nat:=if k=12 then 3 else if k=13 then 3 else if k=14 then 11 else 1
def hval(k:Nat)(row:List Int):Int:=if k=12 then row.getD (row.length - 1) 0 else if k=13 then 0 else if k=14 then 0 else k
def xhc:List Int->Nat->List Int->List Int
 | [],_,l=>l
 | x :: xs,i,l=>xhc xs (i+1) (l.set (Tr.order.getD i 0) x)
def hset(hl:List Int):List Int:=xhc hl 0 (List.replicate 15 0)
def jcj(a b:List Int):Prop:=a.getD 256 0=0∨jwa gw a≠2048∨(jwa gw b≠2048∧ky9 b=false∧0<jwa (fun _=>1) b)
instance (a b:List Int):Decidable (jcj a b):=by unfold jcj;infer_instance
def big4(h:Nat):Nat:=256*(256*(256*(h%256)+h / 256%256)+h / 65536%256)+h / 16777216%256
namespace St
def rd(σ:St)(k:Nat):St:={ σ with held:=σ.held / 2^k,count:=σ.count - k }
def num(σ:St)(k:Nat):Nat:=σ.held%2^k
def add(σ:St)(b:Nat):St:={ σ with held:=σ.held+2^σ.count*b,count:=σ.count+8 }
def need(σ:St)(k:Nat)(A:Act):Act:=if σ.count<k then .take else A
def crown(σ:St):St:={ σ.rd 8 with hsum:=(σ.hsum+σ.num 8)%256,hmany:=σ.hmany+1 }
def headByte(σ:St)(want next:Nat):Act:=if σ.lim<=σ.hmany then .fail 5 else if σ.num 8=want then .tau { σ.crown with st:=next } else .fail 4
def text(σ:St)(next:Nat):Act:=if σ.lim<=σ.hmany then .fail 5 else .tau { σ.crown with st:=if σ.num 8=0 then next else σ.st }
def endBlock(σ:St):Act:=if σ.last then (if σ.held≠0 then .fail 8 else .tau { σ with held:=0,count:=0,st:=21 }) else .tau { σ with st:=6 }
def kind(σ:St):Act:=
 let τ:St:={ σ.rd 3 with last:=σ.num 1==1 }
 if σ.held / 2%4=0 then (if τ.held≠0 then .fail 8 else .tau { τ with held:=0,count:=0,st:=7 })
 else if σ.held / 2%4=1 then .tau { τ with la:=Tr.fixedA,lb:=Tr.fixedB,st:=16 }
 else if σ.held / 2%4=2 then .tau { τ with st:=9 }
 else .fail 7
def endRow(σ:St):Act:=
 if jcj (σ.row.take σ.nl) (σ.row.drop σ.nl) then .fail 10
 else .tau { σ with la:=σ.row.take σ.nl,lb:=σ.row.drop σ.nl,hl:=[],hs:=[],row:=[],st:=16 }
def rowNumber(σ:St):Act:=
 let times:=hleast σ.hk+σ.num (hbits σ.hk)
 if σ.hk=12∧σ.row.length=0 then .fail 10
 else if σ.nl+σ.nd < σ.row.length+times then .fail 10
 else
  let τ:St:={ σ.rd (hbits σ.hk) with row:=σ.row++List.replicate times (hval σ.hk σ.row),st:=13 }
  if τ.row.length=σ.nl+σ.nd then τ.endRow else .tau τ
def literal(σ:St)(k:Nat):Act:=
 if k<256 then .tau { σ with lit:=k,st:=15 }
 else if k=256 then σ.endBlock
 else .tau { σ with least:=Tr.spanLeast 3 (k - 257),bits:=Tr.spanBits (k - 257),st:=17 }
def symbol(σ:St)(l:List Int)(f:St->Nat->Act):Act:=
 match jcs l σ.held σ.count with
 | .hit k m=>f (σ.rd m) k
 | .more=> .take
 | .none=> .fail 11
def actAt(n:Nat)(σ:St):Act:=
 match n with
 | 0=>σ.need 8 (σ.headByte (if σ.fmt=1 then 115 else 76) 1)
 | 1=>σ.need 8 (σ.headByte (if σ.fmt=1 then 1 else 2) 2)
 | 2=>if σ.fmt=2 then σ.need 8 (if σ.lim<=σ.hmany then .fail 5 else if 7 < σ.num 8 then .fail 4 else .tau { σ.crown with marks:=σ.num 8,st:=3 }) else .tau { σ with st:=3 }
 | 3=>if σ.marks%2=1 then σ.need 8 (σ.text 4) else .tau { σ with st:=4 }
 | 4=>if σ.marks / 2%2=1 then σ.need 8 (σ.text 5) else .tau { σ with st:=5 }
 | 5=>if σ.marks / 4=1 then σ.need 8 (σ.headByte σ.hsum 6) else .tau { σ with st:=6 }
 | 6=>σ.need 3 σ.kind
 | 7=>σ.need 32 (if σ.held / 65536%65536=65535 - σ.num 16 then .tau { σ.rd 32 with left:=σ.num 16,st:=8 } else .fail 9)
 | 8=>if σ.left=0 then σ.endBlock else σ.need 8 (.put (σ.num 8) { σ.rd 8 with left:=σ.left - 1,om:=σ.om++[σ.num 8] })
 | 9=>σ.need 4 (if 12 < σ.num 4 then .fail 10 else .tau { σ.rd 4 with nl:=257+σ.num 4,st:=10 })
 | 10=>σ.need 4 (.tau { σ.rd 4 with nd:=1+σ.num 4,st:=11 })
 | 11=>σ.need 4 (if 11 < σ.num 4 then .fail 10 else .tau { σ.rd 4 with told:=4+σ.num 4,st:=12 })
 | 12=>if σ.hl.length < σ.told then σ.need 3 (.tau { σ.rd 3 with hl:=σ.hl++[(σ.num 3:Int)] })
   else if jwa gw (hset σ.hl)=2048 then .tau { σ with hs:=hset σ.hl,st:=13 } else .fail 10
 | 13=>σ.symbol σ.hs (fun τ k=> .tau { τ with hk:=k,st:=14 })
 | 14=>σ.need (hbits σ.hk) σ.rowNumber
 | 15=> .put σ.lit { σ with om:=σ.om++[σ.lit],st:=16 }
 | 16=>σ.symbol σ.la (fun τ k=>τ.literal k)
 | 17=>σ.need σ.bits (.tau { σ.rd σ.bits with left:=σ.least+σ.num σ.bits,st:=18 })
 | 18=>σ.symbol σ.lb (fun τ k=> .tau { τ with least:=Tr.spanLeast 1 k,bits:=Tr.spanBits k,st:=19 })
 | 19=>σ.need σ.bits (if σ.om.length < σ.least+σ.num σ.bits then .fail 11 else .tau { σ.rd σ.bits with dist:=σ.least+σ.num σ.bits,st:=20 })
 | 20=>if σ.left=0 then .tau { σ with st:=16 } else .put (σ.om.getD (σ.om.length - σ.dist) 0) { σ with left:=σ.left - 1,om:=σ.om++[σ.om.getD (σ.om.length - σ.dist) 0] }
 | 21=>if σ.fmt=0 then .tau { σ with st:=22 } else σ.need 32 (if (big4 σ.held:Int)=Tr.sumL σ.om then .tau { σ.rd 32 with st:=22 } else .fail 12)
 | 22=>if σ.fmt=2 then σ.need 16 (if σ.num 16=σ.om.length%65536 then .tau { σ.rd 16 with st:=23 } else .fail 13) else .tau { σ with st:=23 }
 | _=>σ.need 8 (if σ.fmt≠2 then .fail 14 else if σ.mem<=σ.begun then .fail 6 else .tau { σ with st:=0,om:=[],hsum:=0,hmany:=0,marks:=0,begun:=σ.begun+1 })
def act(σ:St):Act:=actAt σ.st σ
def Few(n:Nat)(σ:St):Prop:=
 match n with
 | 6=>σ.count<11
 | 7=>σ.count%8=0∧σ.count<=32
 | 8=>σ.count%8=0∧σ.count<=8∧(σ.left=0->σ.count=0)
 | 9=>σ.count<12
 | 10=>σ.count<12
 | 11=>σ.count<12
 | 12=>σ.count<11∧(σ.hl.length=σ.told->σ.count<8)
 | 13=>y8i σ.hs σ.held σ.count
 | 14=>σ.count<8+hbits σ.hk
 | 15=>σ.count<8
 | 16=>y8i σ.la σ.held σ.count
 | 17=>σ.count<8+σ.bits
 | 18=>y8i σ.lb σ.held σ.count
 | 19=>σ.count<8+σ.bits
 | 20=>σ.count<8
 | 21=>σ.count%8=0∧σ.count<=32∧(σ.fmt=0->σ.count=0)
 | 22=>σ.count%8=0∧σ.count<=16∧(σ.fmt≠2->σ.count=0)
 | _=>σ.count%8=0∧σ.count<=8
def okDists(l:List Int):Prop:=jwa gw l=2048∨ky9 l=true∨jwa (fun _=>1) l=0
structure Sets(σ:St):Prop where
 ra:inRange σ.la=true
 wa:jwa gw σ.la=2048
 na:257<=σ.la.length∧σ.la.length<=269
 rb:inRange σ.lb=true
 wb:okDists σ.lb
 nb:σ.lb.length<=16
def At(n:Nat)(σ:St):Prop:=
 match n with
 | 0=>σ.om=[]
 | 1=>σ.om=[]
 | 2=>σ.om=[]
 | 3=>σ.om=[]
 | 4=>σ.om=[]
 | 5=>σ.om=[]
 | 8=>σ.left<=65535
 | 10=>257<=σ.nl∧σ.nl<=269
 | 11=>(257<=σ.nl∧σ.nl<=269)∧1<=σ.nd∧σ.nd<=16
 | 12=>(257<=σ.nl∧σ.nl<=269)∧(1<=σ.nd∧σ.nd<=16)∧(4<=σ.told∧σ.told<=15)∧σ.hl.length<=σ.told∧(∀ x∈σ.hl,0<=x∧x<8)∧σ.row=[]
 | 13=>(257<=σ.nl∧σ.nl<=269)∧(1<=σ.nd∧σ.nd<=16)∧(inRange σ.hs=true∧jwa gw σ.hs=2048∧σ.hs.length=15)∧inRange σ.row=true∧σ.row.length < σ.nl+σ.nd
 | 14=>((257<=σ.nl∧σ.nl<=269)∧(1<=σ.nd∧σ.nd<=16)∧(inRange σ.hs=true∧jwa gw σ.hs=2048∧σ.hs.length=15)∧inRange σ.row=true∧σ.row.length < σ.nl+σ.nd)∧σ.hk<15
 | 15=>Sets σ∧σ.lit<256
 | 16=>Sets σ
 | 17=>Sets σ∧σ.bits<=4∧3<=σ.least∧σ.least+2^σ.bits<=67
 | 18=>Sets σ∧3<=σ.left∧σ.left<=66
 | 19=>(Sets σ∧3<=σ.left∧σ.left<=66)∧σ.bits<=6∧1<=σ.least∧σ.least+2^σ.bits<=257
 | 20=>(Sets σ∧σ.left<=66)∧1<=σ.dist∧σ.dist<=σ.om.length∧σ.dist<=256
 | _=>True
structure Wf(σ:St):Prop where
 fmt:σ.fmt<3
 st:σ.st<24
 raw:σ.fmt=0->6<=σ.st
 held:σ.held<2^σ.count
 few:Few σ.st σ
 at_:At σ.st σ
 own:σ.st<12∨14 < σ.st->σ.hl=[]∧σ.row=[]
 om:∀ x∈σ.om,x<256
 marks:σ.marks<=7∧(σ.fmt≠2->σ.marks=0)
 hsum:σ.hsum<256
end St
namespace Tr
def plainRest(t:Tr):Nat×Tr:=
 let a:=t.octet
 let b:=a.2.octet
 let c:=b.2.octet
 let d:=c.2.octet
 (a.1+256*b.1,if c.1+256*d.1=65535 - (a.1+256*b.1) then d.2 else d.2.fail 9)
theorem frz_plainRest(t:Tr):Frz t t.plainRest.2:=
 ((((frz_octet t).trans (frz_octet _)).trans (frz_octet _)).trans (frz_octet _)).trans (by unfold plainRest;exact frz_ite_fail' _ _ _)
def rowEnd(nl:Nat)(r:List Int×Tr):RSet×RSet×Tr:=
 if r.2.ended then (yk3,yk3,r.2)
 else (rset (r.1.take nl),rset (r.1.drop nl),if jcj (r.1.take nl) (r.1.drop nl) then r.2.fail 10 else r.2)
theorem frz_rowEnd(nl:Nat)(r:List Int×Tr):Frz r.2 (rowEnd nl r).2.2:=by
 unfold rowEnd;split
 ·exact Frz.refl _
 ·exact frz_ite_fail _ _ _
def helpEnd(nl nd:Nat)(h:List Int×Tr):RSet×RSet×Tr:=
 if (if jwa gw h.1=2048 then h.2 else h.2.fail 10).ended then (yk3,yk3,if jwa gw h.1=2048 then h.2 else h.2.fail 10)
 else rowEnd nl (row (rset h.1) (nl+nd) [] (if jwa gw h.1=2048 then h.2 else h.2.fail 10))
theorem frz_helpEnd(nl nd:Nat)(h:List Int×Tr):Frz h.2 (helpEnd nl nd h).2.2:=by
 unfold helpEnd;have hz:=frz_ite_fail' (jwa gw h.1=2048) h.2 10;generalize (if jwa gw h.1=2048 then h.2 else h.2.fail 10)=x at *;by_cases hx:x.ended=true
 ·rw [if_pos hx];exact hz
 ·rw [if_neg hx];exact hz.trans ((frz_row _ _ _ _).trans (frz_rowEnd _ _))
theorem frz_helps(r i:Nat)(L:List Int)(t:Tr):Frz t (helps r i L t).2:=fun h=>by
 cases r with
 | zero=>rfl
 | succ r=>unfold Tr.helps;rw [if_pos h]
def own3(nl nd r i:Nat)(L:List Int)(t:Tr):RSet×RSet×Tr:=helpEnd nl nd (helps r i L t)
theorem frz_own3(nl nd r i:Nat)(L:List Int)(t:Tr):Frz t (own3 nl nd r i L t).2.2:=by
 unfold own3;exact (frz_helps r i L t).trans (frz_helpEnd _ _ _)
def own2(nl nd:Nat)(t:Tr):RSet×RSet×Tr:=
 own3 nl nd (4+(t.number 4).1) 0 (List.replicate 15 0) (if 11<(t.number 4).1 then (t.number 4).2.fail 10 else (t.number 4).2)
theorem frz_own2(nl nd:Nat)(t:Tr):Frz t (own2 nl nd t).2.2:=by
 unfold own2;have h1:=frz_number t 4;generalize t.number 4=c at *;have h2:=frz_ite_fail (11<c.1) c.2 10;generalize (if 11<c.1 then c.2.fail 10 else c.2)=x at *;exact h1.trans (h2.trans (frz_own3 _ _ _ _ _ _))
def own1(nl:Nat)(t:Tr):RSet×RSet×Tr:=own2 nl (1+(t.number 4).1) (t.number 4).2
theorem frz_own1(nl:Nat)(t:Tr):Frz t (own1 nl t).2.2:=by
 unfold own1;exact (frz_number t 4).trans (frz_own2 _ _ _)
def own0(t:Tr):RSet×RSet×Tr:=own1 (257+(t.number 4).1) (if 12<(t.number 4).1 then (t.number 4).2.fail 10 else (t.number 4).2)
theorem own_own0(t:Tr):t.own=own0 t:=by
 unfold own own0 own1 own2 own3 helpEnd rowEnd ownRow ownHelp ownHead;simp only;simp only [Nat.add_assoc,Nat.add_comm 1];congr
def rowHelp(H:RSet)(n k:Nat)(l:List Int)(t:Tr):List Int×Tr:=
 row H n (if (rowT n l.length (helped t k l)).ended then l else l++List.replicate (helped t k l).2.1 (helped t k l).1) (rowT n l.length (helped t k l))
def copyF(n least bits:Nat)(t:Tr):Tr:=
 copyN (least+(t.number bits).1) n (if (t.number bits).2.out.length - (t.number bits).2.frm<least+(t.number bits).1 then (t.number bits).2.fail 11 else (t.number bits).2)
def copyD(b:RSet)(n:Nat)(t:Tr):Tr:=
 if ((if b.many=0 then t.fail 11 else t).symbol b).1<0 then ((if b.many=0 then t.fail 11 else t).symbol b).2.fail 11
 else copyF n (spanLeast 1 ((if b.many=0 then t.fail 11 else t).symbol b).1.toNat) (spanBits ((if b.many=0 then t.fail 11 else t).symbol b).1.toNat) ((if b.many=0 then t.fail 11 else t).symbol b).2
def copyL(b:RSet)(least bits:Nat)(t:Tr):Tr:=copyD b (least+(t.number bits).1) (t.number bits).2
theorem copies_copyL(t:Tr)(b:RSet)(k:Nat):t.copies b k=copyL b (spanLeast 3 k) (spanBits k) t:=rfl
theorem frz_copyF(n least bits:Nat)(t:Tr):Frz t (copyF n least bits t):=by
 unfold copyF;exact (frz_number t bits).trans ((frz_ite_fail _ _ _).trans (frz_copyN _ _ _))
theorem frz_copyD(b:RSet)(n:Nat)(t:Tr):Frz t (copyD b n t):=by
 refine (frz_ite_fail (b.many=0) t 11).trans ((frz_symbol _ b).trans ?_);unfold copyD;generalize (if b.many=0 then t.fail 11 else t)=x;split
 ·exact frz_fail _ _
 ·exact frz_copyF _ _ _ _
theorem frz_helped(t:Tr)(k:Int)(l:List Int):Frz t (helped t k l).2.2:=by
 unfold helped;split
 ·split
  ·exact (frz_number t 2).trans (frz_fail _ _)
  ·exact frz_number t 2
 ·split
  ·exact frz_number t 3
  ·split
   ·exact frz_number t 6
   ·exact Frz.refl t
theorem frz_rowT(n len:Nat)(h:Int×Nat×Tr):Frz h.2.2 (rowT n len h):=by unfold rowT;exact frz_ite_fail _ _ _
theorem Frz.ite{c:Prop}[Decidable c]{t a b:Tr}(ha:Frz t a)(hb:Frz t b):Frz t (if c then a else b):=by
 split
 ·exact ha
 ·exact hb
theorem frz_marked(t:Tr)(m:Nat):Frz t (t.marked m):=by
 unfold marked;dsimp only
 exact (frz_ite_fail (7<m) t 4).trans ((Frz.ite (c:=m%2=1) (frz_text _) (Frz.refl _)).trans ((Frz.ite (c:=m / 2%2=1) (frz_text _) (Frz.refl _)).trans (Frz.ite (c:=m / 4=1) (frz_isB _ _) (Frz.refl _))))
theorem Frz.obs_eq{a b:Tr}{o:Ob}(h:Frz a b)(ho:obs a=o)(he:a.ended=true):obs b=o:=(h he).trans ho
end Tr
namespace St
def fin(σ:St)(t:Tr):Tr:=if σ.fmt=0 then t.trail else if σ.fmt=1 then t.sum.trail else Tr.long σ.mem t.sum.sized
def after(σ:St)(t:Tr):Tr:=σ.fin (if σ.last then (if t.ended then t else t.skip) else Tr.blocksFrom t)
def cont(σ:St)(x:RSet×RSet×Tr):Tr:=σ.after (Tr.content x.1 x.2.1 x.2.2)
def cab(σ:St)(t:Tr):Tr:=σ.cont (rset σ.la,rset σ.lb,t)
def k6(σ:St)(t:Tr):Tr:=σ.fin t.blocks
def k5(σ:St)(t:Tr):Tr:=σ.k6 (if σ.marks / 4=1 then t.isB t.head else t)
def k4(σ:St)(t:Tr):Tr:=σ.k5 (if σ.marks / 2%2=1 then t.text else t)
def k3(σ:St)(t:Tr):Tr:=σ.k4 (if σ.marks%2=1 then t.text else t)
def k2(σ:St)(t:Tr):Tr:=if σ.fmt=2 then σ.k6 (t.crown.2.marked t.crown.1) else σ.k6 t
def Kat(n:Nat)(σ:St)(t:Tr):Tr:=
 match n with
 | 0=>σ.k2 ((t.isB (if σ.fmt=1 then 115 else 76)).isB (if σ.fmt=1 then 1 else 2))
 | 1=>σ.k2 (t.isB (if σ.fmt=1 then 1 else 2))
 | 2=>σ.k2 t
 | 3=>σ.k3 t
 | 4=>σ.k4 t
 | 5=>σ.k5 t
 | 6=>σ.fin (Tr.blocksFrom t)
 | 7=>σ.after (Tr.bytes t.plainRest.1 t.plainRest.2)
 | 8=>σ.after (Tr.bytes σ.left t)
 | 9=>σ.cont (Tr.own0 t)
 | 10=>σ.cont (Tr.own1 σ.nl t)
 | 11=>σ.cont (Tr.own2 σ.nl σ.nd t)
 | 12=>σ.cont (Tr.own3 σ.nl σ.nd (σ.told - σ.hl.length) σ.hl.length (hset σ.hl) t)
 | 13=>σ.cont (Tr.rowEnd σ.nl (Tr.row (rset σ.hs) (σ.nl+σ.nd) σ.row t))
 | 14=>σ.cont (Tr.rowEnd σ.nl (Tr.rowHelp (rset σ.hs) (σ.nl+σ.nd) σ.hk σ.row t))
 | 15=>σ.cab (t.put σ.lit)
 | 16=>σ.cab t
 | 17=>σ.cab (Tr.copyL (rset σ.lb) σ.least σ.bits t)
 | 18=>σ.cab (Tr.copyD (rset σ.lb) σ.left t)
 | 19=>σ.cab (Tr.copyF σ.left σ.least σ.bits t)
 | 20=>σ.cab (Tr.copyN σ.dist σ.left t)
 | 21=>σ.fin t
 | 22=>if σ.fmt=2 then Tr.long σ.mem t.sized else t.trail
 | _=>if σ.fmt=2 then Tr.long σ.mem t else t.trail
def K(σ:St)(t:Tr):Tr:=Kat σ.st σ t
theorem frz_fin(σ:St)(t:Tr):Tr.Frz t (σ.fin t):=by
 unfold fin;split
 ·exact Tr.frz_trail t
 ·split
  ·exact (Tr.frz_sum t).trans (Tr.frz_trail _)
  ·exact ((Tr.frz_sum t).trans (Tr.frz_sized _)).trans (Tr.frz_long _ _)
theorem frz_after(σ:St)(t:Tr):Tr.Frz t (σ.after t):=by
 unfold after;exact (Tr.Frz.ite (c:=σ.last=true) (Tr.Frz.ite (c:=t.ended=true) (Tr.Frz.refl t) (Tr.frz_skip t)) (Tr.frz_blocksFrom t)).trans (frz_fin σ _)
theorem frz_cont(σ:St)(x:RSet×RSet×Tr):Tr.Frz x.2.2 (σ.cont x):=(Tr.frz_content _ _ _).trans (frz_after σ _)
theorem frz_cab(σ:St)(t:Tr):Tr.Frz t (σ.cab t):=frz_cont σ (rset σ.la,rset σ.lb,t)
theorem frz_k6(σ:St)(t:Tr):Tr.Frz t (σ.k6 t):=(Tr.frz_blocks t).trans (frz_fin σ _)
theorem frz_k5(σ:St)(t:Tr):Tr.Frz t (σ.k5 t):=(Tr.Frz.ite (c:=σ.marks / 4=1) (Tr.frz_isB t _) (Tr.Frz.refl t)).trans (frz_k6 σ _)
theorem frz_k4(σ:St)(t:Tr):Tr.Frz t (σ.k4 t):=(Tr.Frz.ite (c:=σ.marks / 2%2=1) (Tr.frz_text t) (Tr.Frz.refl t)).trans (frz_k5 σ _)
theorem frz_k2(σ:St)(t:Tr):Tr.Frz t (σ.k2 t):=by
 unfold k2;split
 ·exact ((Tr.frz_crown t).trans (Tr.frz_marked _ _)).trans (frz_k6 σ _)
 ·exact frz_k6 σ t
structure Rel(σ:St)(t:Tr):Prop where
 going:t.ended=false
 hand:Tr.Hand t σ.held σ.count
 lim:t.limit=σ.lim
 fine:Tr.Fine t
 om:6<=σ.st->t.out.drop t.frm=σ.om
 head:σ.st<6->t.head=σ.hsum∧t.many=σ.hmany
 begun:σ.fmt=2->t.starts.length=σ.begun
 bytes:xeo t
def SimA(A:Act)(σ:St)(t:Tr):Prop:=
 match A with
 | .take=>t.inn+σ.count / 8=t.s.size->Tr.obs (σ.K t)=⟨t.out,t.ats,t.s.size,t.starts,0,decide (σ.st<23)⟩
 | .put b σ'=>∃ t',Rel σ' t'∧σ'.K t'=σ.K t∧t'.out=t.out++[b]∧t'.ats=t.ats++[t.inn+σ.count / 8]∧t'.inn+σ'.count / 8=t.inn+σ.count / 8∧t'.starts=t.starts∧t'.s=t.s
 | .tau σ'=>∃ t',Rel σ' t'∧σ'.K t'=σ.K t∧t'.out=t.out∧t'.ats=t.ats∧t'.inn+σ'.count / 8=t.inn+σ.count / 8∧t'.starts=(if σ.st=23 then t.starts++[t.inn] else t.starts)∧t'.s=t.s
 | .fail e=>Tr.obs (σ.K t)=⟨t.out,t.ats,t.inn+σ.count / 8,t.starts,e,false⟩
def Sim(σ:St)(t:Tr):Prop:=SimA σ.act σ t
end St
namespace Tr
structure Near(t t':Tr):Prop where
 out:t'.out=t.out
 ats:t'.ats=t.ats
 starts:t'.starts=t.starts
 s:t'.s=t.s
 frm:t'.frm=t.frm
 limit:t'.limit=t.limit
 ended:t'.ended=t.ended
theorem Near.refl(t:Tr):Near t t:=⟨rfl,rfl,rfl,rfl,rfl,rfl,rfl⟩
theorem Rd.near{a b:Tr}(h:Rd a b):Near a b:=by
 unfold Rd at h;rw [h];exact ⟨rfl,rfl,rfl,rfl,rfl,rfl,rfl⟩
theorem Rd.head{a b:Tr}(h:Rd a b):b.head=a.head∧b.many=a.many:=by
 unfold Rd at h;rw [h];exact ⟨rfl,rfl⟩
theorem obs_fail{t:Tr}(h:t.ended=false)(e:Nat):obs (t.fail e)=⟨t.out,t.ats,t.inn,t.starts,e,false⟩:=by
 rw [fail_going h];have:=((ended_iff t).1 h).2;unfold obs;simp only;rw [this]
theorem Near.obs_fail{a b:Tr}(h:Near a b)(hg:a.ended=false)(e:Nat):obs (b.fail e)=⟨a.out,a.ats,b.inn,a.starts,e,false⟩:=by
 rw [Tr.obs_fail (by rw [h.ended];exact hg),h.out,h.ats,h.starts]
theorem obs_end{t:Tr}{o a:List Nat}{i:Nat}{s:List Nat}{e:Nat}{n:Bool}(h:obs t=⟨o,a,i,s,e,n⟩)(he:e≠0∨n=true):t.ended=true:=by
 unfold obs at h;injection h with h1 h2 h3 h4 h5 h6
 unfold Tr.ended;rw [h5,h6];rcases he with he | he
 ·simp [he]
 ·simp [he]
theorem Frz.keep{a b:Tr}{o t:List Nat}{i:Nat}{s:List Nat}{e:Nat}{n:Bool}(h:Frz a b)(ho:obs a=⟨o,t,i,s,e,n⟩)(he:e≠0∨n=true):obs b=⟨o,t,i,s,e,n⟩:=(h (obs_end ho he)).trans ho
end Tr
namespace St
theorem Rel.near{σ σ':St}{t t':Tr}(R:Rel σ t)(N:Tr.Near t t')(F:Tr.Fine t')(H:Tr.Hand t' σ'.held σ'.count)(hl:σ'.lim=σ.lim)(ho:6<=σ'.st->t.out.drop t.frm=σ'.om)(hh:σ'.st<6->t'.head=σ'.hsum∧t'.many=σ'.hmany)(hb:σ'.fmt=2->t.starts.length=σ'.begun):Rel σ' t':=⟨N.ended.trans R.going,H,N.limit.trans (R.lim.trans hl.symm),F,fun h=>by rw [N.out,N.frm];exact ho h,hh,fun h=>by rw [N.starts];exact hb h,by unfold xeo;rw [N.out];exact R.bytes⟩
structure Crowned(σ:St)(t x:Tr):Prop where
 near:Tr.Near t x
 fine:Tr.Fine x
 hand:Tr.Hand x σ.crown.held σ.crown.count
 head:x.head=σ.crown.hsum∧x.many=σ.crown.hmany
 inn:x.inn+σ.crown.count / 8=t.inn+σ.count / 8
theorem crown_dry{σ:St}{t:Tr}(R:Rel σ t)(hc:σ.count=0)(hs:t.inn=t.s.size):Tr.obs t.crown.2=t.dry∧t.crown.1=0:=by
 have H:=R.hand;rw [hc] at H;have h1:=H.octet_dry R.going hs;exact ⟨(Tr.frz_crowned _ _).obs_eq h1 (Tr.dry_ended h1),by show t.octet.1=0;rw [Tr.octet_none R.going (by omega)]⟩
theorem crown_long{σ:St}{t:Tr}(R:Rel σ t)(hst:σ.st<6)(hc:σ.count=8)(hl:σ.lim<=σ.hmany):Tr.obs t.crown.2=⟨t.out,t.ats,t.inn+σ.count / 8,t.starts,5,false⟩:=by
 obtain ⟨h1,h2,h3,h4⟩:=R.hand.octet R.going (by omega) (by omega);have N:=h3.near;show Tr.obs (t.octet.2.crowned t.octet.1)=_;have e:Tr.obs (t.octet.2.crowned t.octet.1)=Tr.obs (if t.octet.2.limit<=t.octet.2.many then t.octet.2.fail 5 else t.octet.2):=rfl;rw [e,if_pos (by rw [N.limit,h3.head.2,R.lim,(R.head hst).2];exact hl),N.obs_fail R.going,← h4,hc];rfl
theorem crown_ok{σ:St}{t:Tr}(R:Rel σ t)(hst:σ.st<6)(hc:σ.count=8)(hl:¬ σ.lim<=σ.hmany):t.crown.1=σ.num 8∧Crowned σ t t.crown.2:=by
 obtain ⟨h1,h2,h3,h4⟩:=R.hand.octet R.going (by omega) (by omega);have N:=h3.near;refine ⟨h1,?_⟩;have e:t.crown.2={ t.octet.2 with many:=t.octet.2.many+1,head:=(t.octet.2.head+t.octet.1)%256 }:=by
  show t.octet.2.crowned t.octet.1=_;unfold Tr.crowned;rw [if_neg (by rw [N.limit,h3.head.2,R.lim,(R.head hst).2];exact hl)]
 rw [e];refine ⟨⟨N.out,N.ats,N.starts,N.s,N.frm,N.limit,N.ended⟩,?_,?_,?_,h4⟩
 ·have f:=R.fine.octet;exact ⟨f.left,f.cur,f.inn,f.frm,f.ats,f.err⟩
 ·exact ⟨h2.left,h2.cur,h2.inn,h2.val⟩
 ·refine ⟨?_,?_⟩
  ·show (t.octet.2.head+t.octet.1)%256=_;rw [h3.head.1,(R.head hst).1,h1];rfl
  ·show t.octet.2.many+1=_;rw [h3.head.2,(R.head hst).2];rfl
theorem isB_dry{σ:St}{t:Tr}(R:Rel σ t)(hc:σ.count=0)(hs:t.inn=t.s.size)(w:Nat):Tr.obs (t.isB w)=t.dry:=by
 have h1:=(crown_dry R hc hs).1;unfold Tr.isB;split
 ·exact h1
 ·exact (Tr.frz_fail _ _).obs_eq h1 (Tr.dry_ended h1)
theorem isB_long{σ:St}{t:Tr}(R:Rel σ t)(hst:σ.st<6)(hc:σ.count=8)(hl:σ.lim<=σ.hmany)(w:Nat):Tr.obs (t.isB w)=⟨t.out,t.ats,t.inn+σ.count / 8,t.starts,5,false⟩:=by
 have h1:=crown_long R hst hc hl;unfold Tr.isB;split
 ·exact h1
 ·exact (Tr.frz_fail _ _).keep h1 (Or.inl (by decide))
theorem isB_no{σ:St}{t:Tr}(R:Rel σ t)(hst:σ.st<6)(hc:σ.count=8)(hl:¬ σ.lim<=σ.hmany){w:Nat}(hw:σ.num 8≠w):Tr.obs (t.isB w)=⟨t.out,t.ats,t.inn+σ.count / 8,t.starts,4,false⟩:=by
 obtain ⟨h1,h2⟩:=crown_ok R hst hc hl;unfold Tr.isB;rw [if_neg (by rw [h1];exact hw),h2.near.obs_fail R.going,← h2.inn];have:σ.crown.count=σ.count - 8:=rfl;rw [this,hc];rfl
theorem isB_ok{σ:St}{t:Tr}(R:Rel σ t)(hst:σ.st<6)(hc:σ.count=8)(hl:¬ σ.lim<=σ.hmany){w:Nat}(hw:σ.num 8=w):Crowned σ t (t.isB w):=by
 obtain ⟨h1,h2⟩:=crown_ok R hst hc hl;unfold Tr.isB;rw [if_pos (by rw [h1];exact hw)];exact h2
theorem text_dry{σ:St}{t:Tr}(R:Rel σ t)(hc:σ.count=0)(hs:t.inn=t.s.size):Tr.obs t.text=t.dry:=by
 obtain ⟨h1,h2⟩:=crown_dry R hc hs;rw [Tr.text_stop R.going h2];exact h1
theorem text_long{σ:St}{t:Tr}(R:Rel σ t)(hst:σ.st<6)(hc:σ.count=8)(hl:σ.lim<=σ.hmany):Tr.obs t.text=⟨t.out,t.ats,t.inn+σ.count / 8,t.starts,5,false⟩:=by
 have h1:=crown_long R hst hc hl;by_cases h0:t.crown.1=0
 ·rw [Tr.text_stop R.going h0];exact h1
 ·rw [Tr.text_go R.going h0];exact (Tr.frz_text _).keep h1 (Or.inl (by decide))
theorem dry_sim{σ:St}{t x:Tr}(hf:Tr.Frz x (σ.K t))(hx:Tr.obs x=t.dry)(hst:σ.st<23):Tr.obs (σ.K t)=⟨t.out,t.ats,t.s.size,t.starts,0,decide (σ.st<23)⟩:=by
 rw [hf.obs_eq hx (Tr.dry_ended hx)];unfold Tr.dry;rw [decide_eq_true hst]
theorem head_count{σ:St}(hc:σ.count%8=0∧σ.count<=8):σ.count=0∨σ.count=8:=by omega
theorem Crowned.rel{σ σ':St}{t x:Tr}(C:Crowned σ t x)(R:Rel σ t)(hst':σ'.st<6)(h1:σ'.held=σ.crown.held)(h2:σ'.count=σ.crown.count)(h3:σ'.lim=σ.lim)(h4:σ'.hsum=σ.crown.hsum)(h5:σ'.hmany=σ.crown.hmany)(h6:σ'.fmt=σ.fmt)(h7:σ'.begun=σ.begun):Rel σ' x:=
 R.near C.near C.fine (by rw [h1,h2];exact C.hand) h3 (fun h=>by omega) (fun _=>by rw [h4,h5];exact C.head) (fun h=>by rw [h7];exact R.begun (h6 ▸ h))
theorem sim_fixed{σ:St}{t:Tr}(R:Rel σ t)(hst:σ.st<6)(hc:σ.count%8=0∧σ.count<=8)(w nx:Nat)(hnx:nx<6)(ha:σ.act=σ.need 8 (σ.headByte w nx))(F:Tr->Tr)(hF:∀ x,Tr.Frz x (F x))(hK:σ.K t=F (t.isB w))(hn:∀ x,({ σ.crown with st:=nx }:St).K x=F x):Sim σ t:=by
 unfold Sim SimA;rw [ha];unfold need;rcases head_count hc with c0 | c8
 ·rw [if_pos (by omega)];intro hs;exact dry_sim (x:=t.isB w) (by rw [hK];exact hF _) (isB_dry R c0 (by rw [← hs,c0];rfl) w) (by omega)
 ·rw [if_neg (by omega)];unfold headByte;by_cases hl:σ.lim<=σ.hmany
  ·rw [if_pos hl];show Tr.obs (σ.K t)=_;rw [hK];exact (hF _).keep (isB_long R hst c8 hl w) (Or.inl (by decide))
  ·rw [if_neg hl];by_cases hw:σ.num 8=w
   ·rw [if_pos hw];have C:=isB_ok R hst c8 hl hw;have N:=C.near;exact ⟨t.isB w,C.rel R hnx rfl rfl rfl rfl rfl rfl rfl,by rw [hn,hK],N.out,N.ats,C.inn,by rw [if_neg (by omega)];exact N.starts,N.s⟩
   ·rw [if_neg hw];show Tr.obs (σ.K t)=_;rw [hK];exact (hF _).keep (isB_no R hst c8 hl hw) (Or.inl (by decide))
theorem act_at{σ:St}{n:Nat}(h:σ.st=n):σ.act=actAt n σ:=by unfold act;rw [h]
theorem K_at{σ:St}{n:Nat}(h:σ.st=n)(t:Tr):σ.K t=Kat n σ t:=by unfold K;rw [h]
theorem sim_0{σ:St}{t:Tr}(R:Rel σ t)(hst:σ.st=0)(hc:σ.count%8=0∧σ.count<=8):Sim σ t:=
 sim_fixed R (by omega) hc (if σ.fmt=1 then 115 else 76) 1 (by decide) (act_at hst) (fun x=>σ.k2 (x.isB (if σ.fmt=1 then 1 else 2))) (fun x=>(Tr.frz_isB x _).trans (frz_k2 σ _)) (K_at hst t) (fun x=>rfl)
theorem sim_1{σ:St}{t:Tr}(R:Rel σ t)(hst:σ.st=1)(hc:σ.count%8=0∧σ.count<=8):Sim σ t:=
 sim_fixed R (by omega) hc (if σ.fmt=1 then 1 else 2) 2 (by decide) (act_at hst) (fun x=>σ.k2 x) (fun x=>frz_k2 σ x) (K_at hst t) (fun x=>rfl)
theorem sim_over{σ:St}{t:Tr}(R:Rel σ t)(hst:σ.st<6)(nx:Nat)(hnx:nx<6)(ha:σ.act= .tau { σ with st:=nx })(hK:σ.K t=({ σ with st:=nx }:St).K t):Sim σ t:=by
 unfold Sim SimA;rw [ha];exact ⟨t,⟨R.going,R.hand,R.lim,R.fine,fun h=>by have:6<=nx:=h;omega,fun _=>R.head hst,R.begun,R.bytes⟩,hK.symm,rfl,rfl,rfl,by rw [if_neg (by omega)],rfl⟩
theorem marked_few{t:Tr}{m:Nat}(hm:¬ 7<m)(σ:St):σ.k6 (t.marked m)=({ σ with marks:=m }:St).k3 t:=by
 unfold k3 k4 k5 Tr.marked;simp only [if_neg hm];rfl
theorem sim_2{σ:St}{t:Tr}(R:Rel σ t)(hst:σ.st=2)(hc:σ.count%8=0∧σ.count<=8)(hm:σ.fmt≠2->σ.marks=0):Sim σ t:=by
 by_cases hf:σ.fmt=2
 ·have ha:σ.act=σ.need 8 (if σ.lim<=σ.hmany then .fail 5 else if 7 < σ.num 8 then .fail 4 else .tau { σ.crown with marks:=σ.num 8,st:=3 }):=by
   rw [act_at hst];exact if_pos hf
  have hK:σ.K t=σ.k6 (t.crown.2.marked t.crown.1):=by rw [K_at hst];exact if_pos hf
  have hz:Tr.Frz t.crown.2 (σ.k6 (t.crown.2.marked t.crown.1)):=(Tr.frz_marked _ _).trans (frz_k6 σ _);unfold Sim SimA;rw [ha];unfold need;rcases head_count hc with c0 | c8
  ·rw [if_pos (by omega)];intro hs;exact dry_sim (x:=t.crown.2) (by rw [hK];exact hz) (crown_dry R c0 (by rw [← hs,c0];rfl)).1 (by omega)
  ·rw [if_neg (by omega)];by_cases hl:σ.lim<=σ.hmany
   ·rw [if_pos hl];show Tr.obs (σ.K t)=_;rw [hK];exact hz.keep (crown_long R (by omega) c8 hl) (Or.inl (by decide))
   ·rw [if_neg hl];obtain ⟨h1,C⟩:=crown_ok R (by omega) c8 hl;by_cases h7:7 < σ.num 8
    ·rw [if_pos h7];show Tr.obs (σ.K t)=_;have e:t.crown.2.marked t.crown.1=(t.crown.2.fail 4).marked t.crown.1:=by
      unfold Tr.marked;simp only [h1,if_pos h7];rw [Tr.fail_ended (Tr.ended_fail _ (by decide))]
     rw [hK,e];refine ((Tr.frz_marked _ _).trans (frz_k6 σ _)).keep (a:=t.crown.2.fail 4) ?_ (Or.inl (by decide));rw [C.near.obs_fail R.going,← C.inn];have:σ.crown.count=σ.count - 8:=rfl;rw [this,c8];rfl
    ·rw [if_neg h7];have N:=C.near;refine ⟨t.crown.2,C.rel R (by show 3<6;omega) rfl rfl rfl rfl rfl rfl rfl,?_,N.out,N.ats,C.inn,by rw [if_neg (by omega)];exact N.starts,N.s⟩;rw [hK,h1,marked_few h7];rfl
 ·have ha:σ.act= .tau { σ with st:=3 }:=by rw [act_at hst];exact if_neg hf
  refine sim_over R (by omega) 3 (by decide) ha ?_;rw [K_at hst];show σ.k2 t=σ.k3 t;unfold k2 k3 k4 k5;rw [if_neg hf,hm hf];rfl
theorem sim_text{σ:St}{t:Tr}(R:Rel σ t)(hst:σ.st<6)(hc:σ.count%8=0∧σ.count<=8)(nx:Nat)(hnx:nx<6)(ha:σ.act=σ.need 8 (σ.text nx))(F:Tr->Tr)(hF:∀ x,Tr.Frz x (F x))(hK:σ.K t=F t.text)(hs:∀ x,({ σ.crown with st:=σ.st }:St).K x=F x.text)(hn:∀ x,({ σ.crown with st:=nx }:St).K x=F x):Sim σ t:=by
 unfold Sim SimA;rw [ha];unfold need;rcases head_count hc with c0 | c8
 ·rw [if_pos (by omega)];intro hs;exact dry_sim (x:=t.text) (by rw [hK];exact hF _) (text_dry R c0 (by rw [← hs,c0];rfl)) (by omega)
 ·rw [if_neg (by omega)];unfold text;by_cases hl:σ.lim<=σ.hmany
  ·rw [if_pos hl];show Tr.obs (σ.K t)=_;rw [hK];exact (hF _).keep (text_long R hst c8 hl) (Or.inl (by decide))
  ·rw [if_neg hl];obtain ⟨h1,C⟩:=crown_ok R hst c8 hl;have N:=C.near;by_cases hw:σ.num 8=0
   ·rw [if_pos hw];exact ⟨t.crown.2,C.rel R hnx rfl rfl rfl rfl rfl rfl rfl,by rw [hn,hK,Tr.text_stop R.going (by rw [h1];exact hw)],N.out,N.ats,C.inn,by rw [if_neg (by omega)];exact N.starts,N.s⟩
   ·rw [if_neg hw];exact ⟨t.crown.2,C.rel R hst rfl rfl rfl rfl rfl rfl rfl,by rw [hs,hK,Tr.text_go R.going (by rw [h1];exact hw)],N.out,N.ats,C.inn,by rw [if_neg (by omega)];exact N.starts,N.s⟩
theorem sim_3{σ:St}{t:Tr}(R:Rel σ t)(hst:σ.st=3)(hc:σ.count%8=0∧σ.count<=8):Sim σ t:=by
 by_cases h:σ.marks%2=1
 ·refine sim_text R (by omega) hc 4 (by decide) (by rw [act_at hst];exact if_pos h) σ.k4 (frz_k4 σ) ?_ ?_ (fun x=>rfl)
  ·rw [K_at hst];show σ.k3 t=_;unfold k3;rw [if_pos h]
  ·intro x;refine (K_at (σ:={ σ.crown with st:=σ.st }) (n:=3) hst x).trans ?_;show ({ σ.crown with st:=σ.st }:St).k3 x=_;unfold k3;rw [if_pos (show ({ σ.crown with st:=σ.st }:St).marks%2=1 from h)];rfl
 ·refine sim_over R (by omega) 4 (by decide) (by rw [act_at hst];exact if_neg h) ?_;rw [K_at hst];show σ.k3 t=σ.k4 t;unfold k3;rw [if_neg h]
theorem sim_4{σ:St}{t:Tr}(R:Rel σ t)(hst:σ.st=4)(hc:σ.count%8=0∧σ.count<=8):Sim σ t:=by
 by_cases h:σ.marks / 2%2=1
 ·refine sim_text R (by omega) hc 5 (by decide) (by rw [act_at hst];exact if_pos h) σ.k5 (frz_k5 σ) ?_ ?_ (fun x=>rfl)
  ·rw [K_at hst];show σ.k4 t=_;unfold k4;rw [if_pos h]
  ·intro x;refine (K_at (σ:={ σ.crown with st:=σ.st }) (n:=4) hst x).trans ?_;show ({ σ.crown with st:=σ.st }:St).k4 x=_;unfold k4;rw [if_pos (show ({ σ.crown with st:=σ.st }:St).marks / 2%2=1 from h)];rfl
 ·refine sim_over R (by omega) 5 (by decide) (by rw [act_at hst];exact if_neg h) ?_;rw [K_at hst];show σ.k4 t=σ.k5 t;unfold k4;rw [if_neg h]
theorem Rel.blocks{σ σ':St}{t x:Tr}(R:Rel σ t)(N:Tr.Near t x)(F:Tr.Fine x)(H:Tr.Hand x σ'.held σ'.count)(h8:σ'.count%8=0)(hst:σ'.st=6)(hl:σ'.lim=σ.lim)(ho:σ'.om=[])(hf:σ'.fmt=σ.fmt)(hb:σ'.begun=σ.begun):Rel σ' { x with frm:=x.out.length,left:=0 }:=by
 refine ⟨N.ended.trans R.going,⟨?_,H.cur,H.inn,H.val⟩,N.limit.trans (R.lim.trans hl.symm),⟨Nat.zero_le _,F.cur,F.inn,Nat.le_refl _,F.ats,F.err⟩,fun _=>?_,fun h=>by omega,fun h=>by rw [hb];exact N.starts ▸ R.begun (hf ▸ h),?_⟩
 ·show 0=_;omega
 ·show x.out.drop x.out.length=_;rw [ho];simp
 ·unfold xeo;show ∀ y∈x.out,y<256;rw [N.out];exact R.bytes
theorem sim_5{σ:St}{t:Tr}(R:Rel σ t)(hst:σ.st=5)(hc:σ.count%8=0∧σ.count<=8)(ho:σ.om=[]):Sim σ t:=by
 by_cases h:σ.marks / 4=1
 ·have ha:σ.act=σ.need 8 (σ.headByte σ.hsum 6):=by rw [act_at hst];exact if_pos h
  have hK:σ.K t=σ.k6 (t.isB σ.hsum):=by rw [K_at hst];show σ.k5 t=_;unfold k5;rw [if_pos h,(R.head (by omega)).1]
  unfold Sim SimA;rw [ha];unfold need;rcases head_count hc with c0 | c8
  ·rw [if_pos (by omega)];intro hs;exact dry_sim (x:=t.isB σ.hsum) (by rw [hK];exact frz_k6 σ _) (isB_dry R c0 (by rw [← hs,c0];rfl) _) (by omega)
  ·rw [if_neg (by omega)];unfold headByte;by_cases hl:σ.lim<=σ.hmany
   ·rw [if_pos hl];show Tr.obs (σ.K t)=_;rw [hK];exact (frz_k6 σ _).keep (isB_long R (by omega) c8 hl _) (Or.inl (by decide))
   ·rw [if_neg hl];by_cases hw:σ.num 8=σ.hsum
    ·rw [if_pos hw];have C:=isB_ok R (by omega) c8 hl hw;have N:=C.near;refine ⟨{ t.isB σ.hsum with frm:=(t.isB σ.hsum).out.length,left:=0 },R.blocks N C.fine C.hand (by show (σ.count - 8)%8=0;omega) rfl rfl ho rfl rfl,?_,N.out,N.ats,C.inn,by rw [if_neg (by omega)];exact N.starts,N.s⟩;rw [hK];rfl
    ·rw [if_neg hw];show Tr.obs (σ.K t)=_;rw [hK];exact (frz_k6 σ _).keep (isB_no R (by omega) c8 hl hw) (Or.inl (by decide))
 ·have ha:σ.act= .tau { σ with st:=6 }:=by rw [act_at hst];exact if_neg h
  unfold Sim SimA;rw [ha];refine ⟨{ t with frm:=t.out.length,left:=0 },R.blocks (Tr.Near.refl t) R.fine R.hand hc.1 rfl rfl ho rfl rfl,?_,rfl,rfl,rfl,by rw [if_neg (by omega)],rfl⟩;rw [K_at hst];show _=σ.k5 t;unfold k5;rw [if_neg h];rfl
end St
namespace Tr
def octN:Nat->Tr->Tr
 | 0,t=>t
 | k+1,t=>(octN k t).octet.2
theorem Hand.octN{t:Tr}{h c:Nat}(H:Hand t h c)(hg:t.ended=false)(h0:c%8=0)(k:Nat)(hk:8*k<=c):Hand (Tr.octN k t) (h / 256^k) (c - 8*k)∧Rd t (Tr.octN k t)∧(Tr.octN k t).inn+(c - 8*k) / 8=t.inn+c / 8:=by
 induction k with
 | zero=>exact ⟨by simpa [Tr.octN] using H,Rd.refl t,by simp [Tr.octN]⟩
 | succ k ih=>
  obtain ⟨a,b,e⟩:=ih (by omega);obtain ⟨h1,h2,h3,h4⟩:=a.octet (by rw [b.ended];exact hg) (by omega) (by omega);refine ⟨?_,b.trans h3,?_⟩
  ·have e1:h / 256^(k+1)=h / 256^k / 256:=by rw [Nat.pow_succ,Nat.div_div_eq_div_mul]
   rw [e1,show c - 8*(k+1)=c - 8*k - 8 by omega];exact h2
  ·rw [show c - 8*(k+1)=c - 8*k - 8 by omega];show (Tr.octN k t).octet.2.inn+_=_;omega
theorem Hand.octV{t:Tr}{h c:Nat}(H:Hand t h c)(hg:t.ended=false)(h0:c%8=0)(k:Nat)(hk:8*(k+1)<=c):(Tr.octN k t).octet.1=h / 256^k%256:=by
 obtain ⟨a,b,e⟩:=H.octN hg h0 k (by omega);exact (a.octet (by rw [b.ended];exact hg) (by omega) (by omega)).1
theorem frz_octN(k:Nat)(t:Tr):Frz t (octN k t):=by
 induction k with
 | zero=>exact Frz.refl t
 | succ k ih=>exact ih.trans (frz_octet _)
theorem octN_add(k j:Nat)(t:Tr):octN (k+j) t=octN j (octN k t):=by
 induction j with
 | zero=>rfl
 | succ j ih=>show (octN (k+j) t).octet.2=_;rw [ih];rfl
theorem Hand.octN_dry{t:Tr}{h c:Nat}(H:Hand t h c)(hg:t.ended=false)(h0:c%8=0)(hs:t.inn+c / 8=t.s.size)(k:Nat)(hk:c<8*k):obs (Tr.octN k t)=dry t:=by
 obtain ⟨a,b,e⟩:=H.octN hg h0 (c / 8) (by omega);rw [show c - 8*(c / 8)=0 by omega] at a e;have hsz:(Tr.octN (c / 8) t).s=t.s:=b.near.s;have h1:=a.octet_dry (by rw [b.ended];exact hg) (by rw [hsz];omega);rw [show k=(c / 8+1)+(k - (c / 8+1)) by omega,octN_add];have h2:obs (Tr.octN (c / 8+1) t)=dry t:=by
  show obs (Tr.octN (c / 8) t).octet.2=_;rw [h1];unfold dry;rw [b.near.out,b.near.ats,b.near.s,b.near.starts]
 exact (frz_octN _ _).obs_eq h2 (dry_ended h2)
theorem four_octN(t:Tr)(k:Nat):(t.four k).2=octN k t:=by
 induction k with
 | zero=>rfl
 | succ k ih=>show (t.four k).2.octet.2=_;rw [ih];rfl
theorem four_val(t:Tr):(t.four 4).1=256*(256*(256*t.octet.1+(octN 1 t).octet.1)+(octN 2 t).octet.1)+(octN 3 t).octet.1:=by
 show 256*(256*(256*(256*0+(t.four 0).2.octet.1)+(t.four 1).2.octet.1)+(t.four 2).2.octet.1)+(t.four 3).2.octet.1=_;rw [four_octN,four_octN,four_octN,four_octN];show 256*(256*(256*(256*0+t.octet.1)+_)+_)+_=_;omega
theorem Hand.four{t:Tr}{h c:Nat}(H:Hand t h c)(hg:t.ended=false)(h0:c=32):(t.four 4).1=big4 h:=by
 rw [four_val];have a0:=H.octV hg (by omega) 0 (by omega);have a1:=H.octV hg (by omega) 1 (by omega);have a2:=H.octV hg (by omega) 2 (by omega);have a3:=H.octV hg (by omega) 3 (by omega);have e0:(Tr.octN 0 t).octet.1=t.octet.1:=rfl;rw [e0] at a0;rw [a0,a1,a2,a3];unfold big4;simp
theorem skip_go{t:Tr}{h c:Nat}(H:Hand t h c)(hc:c<8)(h0:h=0):t.skip={ t with left:=0 }∧Hand { t with left:=0 } 0 0:=by
 have e:c / 8=0:=by omega
 have e2:c%8=c:=by omega
 have hv:=H.val;rw [e,e2] at hv;have h1:le t.s t.inn 0=0:=rfl;rw [h1,Nat.mul_zero] at hv;have hcur:t.cur=0:=by omega
 refine ⟨?_,⟨rfl,by show t.cur<1;omega,by have:=H.inn;show t.inn+0<=t.s.size;omega,?_⟩⟩
 ·unfold skip;rw [if_neg (by rw [hcur];simp)]
 ·show 0=t.cur+2^0*0;omega
theorem skip_bad{t:Tr}{h c:Nat}(H:Hand t h c)(hg:t.ended=false)(hc:c<8)(h0:h≠0):obs t.skip=⟨t.out,t.ats,t.inn,t.starts,8,false⟩:=by
 have e:c / 8=0:=by omega
 have e2:c%8=c:=by omega
 have hv:=H.val;rw [e,e2] at hv;have h1:le t.s t.inn 0=0:=rfl;rw [h1,Nat.mul_zero] at hv;have hcur:t.cur≠0:=by omega
 have hl:=H.cur;rw [e2] at hl;have hleft:0<t.left:=by
  rw [H.left,e2];rcases Nat.eq_zero_or_pos c with h | h
  ·subst h;simp at hl;omega
  ·exact h
 unfold skip;rw [if_pos ⟨hleft,hcur⟩];exact obs_fail hg 8
end Tr
namespace St
theorem sim_end{σ τ:St}{t x:Tr}(R:Rel σ t)(h6:6<=σ.st)(h23:σ.st<23)(N:Tr.Near t x)(F:Tr.Fine x)(H:Tr.Hand x τ.held τ.count)(hc:τ.count<8)(hi:x.inn+τ.count / 8=t.inn+σ.count / 8)(h1:τ.lim=σ.lim)(h2:τ.fmt=σ.fmt)(h3:τ.om=σ.om)(h4:τ.begun=σ.begun)(hK:σ.K t=τ.after x):SimA τ.endBlock σ t:=by
 have hx:x.ended=false:=by rw [N.ended];exact R.going
 unfold SimA endBlock;by_cases hl:τ.last=true
 ·rw [if_pos hl];have e:τ.after x=τ.fin x.skip:=by unfold after;rw [if_pos hl,if_neg (by rw [hx];simp)]
  by_cases hh:τ.held≠0
  ·rw [if_pos hh];show Tr.obs (σ.K t)=_;rw [hK,e];refine (frz_fin τ _).keep (a:=x.skip) ?_ (Or.inl (by decide));rw [Tr.skip_bad H hx hc hh,N.out,N.ats,N.starts];congr 1
   omega
  ·rw [if_neg hh];obtain ⟨s1,s2⟩:=Tr.skip_go H hc (by omega);refine ⟨{ x with left:=0 },?_,?_,N.out,N.ats,?_,by rw [if_neg (by omega)];exact N.starts,N.s⟩
   ·refine R.near ⟨N.out,N.ats,N.starts,N.s,N.frm,N.limit,N.ended⟩ ⟨Nat.zero_le _,F.cur,F.inn,F.frm,F.ats,F.err⟩ s2 h1 (fun _=>by rw [R.om h6];exact h3.symm) (fun h=>by have:(21:Nat)<6:=h;omega) (fun h=>by show _=τ.begun;rw [h4];exact R.begun (h2 ▸ h))
   ·rw [hK,e,s1];rfl
   ·show x.inn+0 / 8=_;omega
 ·rw [if_neg hl];have e:τ.after x=τ.fin (Tr.blocksFrom x):=by unfold after;rw [if_neg hl]
  refine ⟨x,?_,?_,N.out,N.ats,hi,by rw [if_neg (by omega)];exact N.starts,N.s⟩
  ·exact R.near N F H h1 (fun _=>by rw [R.om h6];exact h3.symm) (fun h=>by have:(6:Nat)<6:=h;omega) (fun h=>by show _=τ.begun;rw [h4];exact R.begun (h2 ▸ h))
  ·rw [hK,e];rfl
theorem om_len{σ:St}{t:Tr}(R:Rel σ t)(h6:6<=σ.st):σ.om.length=t.out.length - t.frm:=by rw [← R.om h6];simp
theorem rel_rd{σ σ':St}{t t':Tr}(R:Rel σ t)(h6:6<=σ.st)(hd:Tr.Rd t t')(F:Tr.Fine t')(H:Tr.Hand t' σ'.held σ'.count)(hst:6<=σ'.st)(h1:σ'.lim=σ.lim)(h2:σ'.fmt=σ.fmt)(h3:σ'.om=σ.om)(h4:σ'.begun=σ.begun):Rel σ' t':=
 R.near hd.near F H h1 (fun _=>by rw [R.om h6];exact h3.symm) (fun h=>by omega) (fun h=>by rw [h4];exact R.begun (h2 ▸ h))
theorem sim_6{σ:St}{t:Tr}(R:Rel σ t)(hst:σ.st=6)(hc:σ.count<11):Sim σ t:=by
 have hg:=R.going;unfold Sim;rw [act_at hst];simp only [actAt,need];have hK:σ.K t=σ.fin (Tr.blocksFrom t):=K_at hst t;by_cases h3:σ.count<3
 ·rw [if_pos h3];unfold SimA;intro hs;have hd:Tr.obs (t.number 3).2=t.dry:=R.hand.starve hg hs 3 h3;have e:(t.number 3).2=(t.bit.2.number 2).2:=rfl;rw [e] at hd;refine dry_sim (x:=(t.bit.2.number 2).2) ?_ hd (by omega);rw [hK,Tr.blocks_short hg (Tr.dry_ended hd)];exact frz_fin σ _
 ·rw [if_neg h3];obtain ⟨b1,b2,b3,b4⟩:=R.hand.bit hg (by omega);have hg1:t.bit.2.ended=false:=by rw [b3.ended];exact hg
  obtain ⟨n1,n2,n3,n4⟩:=b2.number hg1 2 (by omega);have hg2:(t.bit.2.number 2).2.ended=false:=by rw [n3.ended];exact hg1
  have F2:Tr.Fine (t.bit.2.number 2).2:=R.fine.bit.number 2;have hd:=b3.trans n3;rw [show (2:Nat)^2=4 from rfl] at n1 n2;have hh:σ.held / 2 / 4=σ.held / 2^3:=by rw [Nat.div_div_eq_div_mul]
  have hi:(t.bit.2.number 2).2.inn+(σ.count - 3) / 8=t.inn+σ.count / 8:=by rw [show σ.count - 3=σ.count - 1 - 2 by omega];omega
  rw [hh,show σ.count - 1 - 2=σ.count - 3 by omega] at n2;have hb:σ.K t=({ σ.rd 3 with last:=σ.num 1==1 }:St).after (Tr.block (σ.held / 2%4) (t.bit.2.number 2).2):=by
   rw [hK,← n1];unfold after;show σ.fin _=σ.fin _;by_cases hl:t.bit.1=0
   ·rw [Tr.blocks_go hg hg2 hl,if_neg];show ¬ (σ.held%2^1==1)=true;rw [b1] at hl;simp;omega
   ·have hl1:(σ.num 1==1)=true:=by
     show (σ.held%2^1==1)=true;rw [b1] at hl;simp;omega
    rw [Tr.blocks_last hg hg2 hl,if_pos (show ({ σ.rd 3 with last:=σ.num 1==1 }:St).last=true from hl1)]
  generalize (t.bit.2.number 2).2=x at *;unfold kind;simp only;by_cases k0:σ.held / 2%4=0
  ·rw [if_pos k0];rw [k0] at hb;have e0:Tr.block 0 x=Tr.bytes x.skip.plainRest.1 x.skip.plainRest.2:=rfl;rw [e0] at hb;by_cases hz:(σ.rd 3).held≠0
   ·rw [if_pos hz];unfold SimA;show Tr.obs (σ.K t)=_;rw [hb];refine (((Tr.frz_plainRest _).trans (Tr.frz_bytes _ _)).trans (frz_after _ _)).keep (a:=x.skip) ?_ (Or.inl (by decide));rw [Tr.skip_bad n2 hg2 (by omega) hz,hd.near.out,hd.near.ats,hd.near.starts];congr 1
    omega
   ·rw [if_neg hz];have hz':σ.held / 2^3=0:=by
     have:(σ.rd 3).held=σ.held / 2^3:=rfl;omega
    obtain ⟨s1,s2⟩:=Tr.skip_go n2 (by omega) hz';unfold SimA;have N:=hd.near;refine ⟨{ x with left:=0 },?_,?_,N.out,N.ats,?_,by rw [if_neg (by omega)];exact N.starts,N.s⟩
    ·exact R.near ⟨N.out,N.ats,N.starts,N.s,N.frm,N.limit,N.ended⟩ ⟨Nat.zero_le _,F2.cur,F2.inn,F2.frm,F2.ats,F2.err⟩ s2 rfl (fun _=>R.om (by omega)) (fun h=>by have:(7:Nat)<6:=h;omega) (fun h=>R.begun h)
    ·rw [hb,s1];rfl
    ·show x.inn+0 / 8=_;omega
  ·rw [if_neg k0];by_cases k1:σ.held / 2%4=1
   ·rw [if_pos k1];unfold SimA;have N:=hd.near;refine ⟨x,rel_rd R (by omega) hd F2 n2 (by show 6<=16;omega) rfl rfl rfl rfl,?_,N.out,N.ats,hi,by rw [if_neg (by omega)];exact N.starts,N.s⟩;rw [hb,k1];rfl
   ·rw [if_neg k1];by_cases k2:σ.held / 2%4=2
    ·rw [if_pos k2];unfold SimA;have N:=hd.near;refine ⟨x,rel_rd R (by omega) hd F2 n2 (by show 6<=9;omega) rfl rfl rfl rfl,?_,N.out,N.ats,hi,by rw [if_neg (by omega)];exact N.starts,N.s⟩;rw [hb,k2];have e2:Tr.block 2 x=Tr.content x.own.1 x.own.2.1 x.own.2.2:=rfl;rw [e2,Tr.own_own0];rfl
    ·rw [if_neg k2];unfold SimA;show Tr.obs (σ.K t)=_;have e3:Tr.block (σ.held / 2%4) x=x.fail 7:=by unfold Tr.block;rw [if_neg k0,if_neg k1,if_neg k2]
     rw [hb,e3];refine (frz_after _ _).keep (a:=x.fail 7) ?_ (Or.inl (by decide));rw [hd.near.obs_fail hg];congr 1
     omega
theorem sim_7{σ:St}{t:Tr}(R:Rel σ t)(hst:σ.st=7)(hc:σ.count%8=0∧σ.count<=32):Sim σ t:=by
 have hg:=R.going;unfold Sim;rw [act_at hst];simp only [actAt,need];have hK:σ.K t=σ.after (Tr.bytes t.plainRest.1 t.plainRest.2):=K_at hst t;have ep:t.plainRest=(t.octet.1+256*(Tr.octN 1 t).octet.1,if (Tr.octN 2 t).octet.1+256*(Tr.octN 3 t).octet.1=65535 - (t.octet.1+256*(Tr.octN 1 t).octet.1) then Tr.octN 4 t else (Tr.octN 4 t).fail 9):=rfl;have hz:Tr.Frz (Tr.octN 4 t) (σ.K t):=by
  rw [hK];refine Tr.Frz.trans ?_ ((Tr.frz_bytes _ _).trans (frz_after σ _));rw [ep];exact Tr.frz_ite_fail' _ _ _
 by_cases h3:σ.count<32
 ·rw [if_pos h3];unfold SimA;intro hs;exact dry_sim (x:=Tr.octN 4 t) hz (R.hand.octN_dry hg hc.1 hs 4 (by omega)) (by omega)
 ·rw [if_neg h3];have c32:σ.count=32:=by omega
  have a0:=R.hand.octV hg (by omega) 0 (by omega);have a1:=R.hand.octV hg (by omega) 1 (by omega);have a2:=R.hand.octV hg (by omega) 2 (by omega);have a3:=R.hand.octV hg (by omega) 3 (by omega);obtain ⟨n2,hd,hi⟩:=R.hand.octN hg (by omega) 4 (by omega);have e0:(Tr.octN 0 t).octet.1=t.octet.1:=rfl;rw [e0] at a0;have hn:t.octet.1+256*(Tr.octN 1 t).octet.1=σ.num 16:=by
   rw [a0,a1];show _=σ.held%2^16;simp;omega
  have hn2:(Tr.octN 2 t).octet.1+256*(Tr.octN 3 t).octet.1=σ.held / 65536%65536:=by
   rw [a2,a3];simp;omega
  rw [hn,hn2] at ep;by_cases hk:σ.held / 65536%65536=65535 - σ.num 16
  ·rw [if_pos hk];rw [if_pos hk] at ep;unfold SimA;have N:=hd.near;refine ⟨Tr.octN 4 t,rel_rd R (by omega) hd ?_ ?_ (by show 6<=8;omega) rfl rfl rfl rfl,?_,N.out,N.ats,?_,by rw [if_neg (by omega)];exact N.starts,N.s⟩
   ·exact R.fine.octet.octet.octet.octet
   ·exact n2
   ·rw [hK,ep];rfl
   ·exact hi
  ·rw [if_neg hk];rw [if_neg hk] at ep;unfold SimA;show Tr.obs (σ.K t)=_;rw [hK,ep];refine ((Tr.frz_bytes _ _).trans (frz_after σ _)).keep (a:=(Tr.octN 4 t).fail 9) ?_ (Or.inl (by decide));rw [hd.near.obs_fail hg];congr 1
   omega
theorem sim_8{σ:St}{t:Tr}(R:Rel σ t)(hst:σ.st=8)(hc:σ.count%8=0∧σ.count<=8∧(σ.left=0->σ.count=0)):Sim σ t:=by
 have hg:=R.going;unfold Sim;rw [act_at hst];simp only [actAt,need];have hK:σ.K t=σ.after (Tr.bytes σ.left t):=K_at hst t;by_cases hl:σ.left=0
 ·rw [if_pos hl];exact sim_end R (by omega) (by omega) (Tr.Near.refl t) R.fine R.hand (by omega) rfl rfl rfl rfl rfl (by rw [hK,hl];rfl)
 ·rw [if_neg hl];obtain ⟨n,hn⟩:∃ n,σ.left=n+1:=⟨σ.left - 1,by omega⟩
  have eb:Tr.bytes σ.left t=Tr.bytes n (t.octet.2.put t.octet.1):=by
   rw [hn];show (if t.ended then t else _)=_;rw [if_neg (by rw [hg];simp)]
  rw [eb] at hK;by_cases h8:σ.count<8
  ·rw [if_pos h8];unfold SimA;intro hs;have c0:σ.count=0:=by omega
   have H:=R.hand;rw [c0] at H;refine dry_sim (x:=t.octet.2) ?_ (H.octet_dry hg (by rw [← hs,c0];rfl)) (by omega);rw [hK];exact ((Tr.frz_put _ _).trans (Tr.frz_bytes _ _)).trans (frz_after σ _)
  ·rw [if_neg h8];have c8:σ.count=8:=by omega
   obtain ⟨o1,o2,o3,o4⟩:=R.hand.octet hg (by omega) (by omega);have hg2:t.octet.2.ended=false:=by rw [o3.ended];exact hg
   unfold SimA;have N:=o3.near;have hb:σ.num 8=t.octet.1:=o1.symm;have hlt:=Tr.octet_lt t;refine ⟨t.octet.2.put t.octet.1,?_,?_,?_,?_,?_,?_,?_⟩
   ·have f:=R.fine.octet.put t.octet.1;rw [Tr.put_going hg2] at f ⊢;refine ⟨hg2,⟨o2.left,o2.cur,o2.inn,o2.val⟩,N.limit.trans R.lim,f,fun _=>?_,fun h=>by have:σ.st<6:=h;omega,fun h=>by show t.octet.2.starts.length=_;rw [N.starts];exact R.begun h,?_⟩
    ·show (t.octet.2.out++[t.octet.1]).drop t.octet.2.frm=σ.om++[σ.num 8];rw [N.out,N.frm,hb,List.drop_append_of_le_length R.fine.frm,R.om (by omega)]
    ·have:=Tr.put_bytesOk (t:=t.octet.2) (b:=t.octet.1) (by unfold xeo;rw [N.out];exact R.bytes) hlt;rw [Tr.put_going hg2] at this;exact this
   ·rw [hK,K_at (n:=8) (by exact hst)];show σ.after (Tr.bytes (σ.left - 1) _)=_;rw [show σ.left - 1=n by omega]
   ·rw [Tr.put_going hg2];show t.octet.2.out++_=_;rw [N.out,hb]
   ·rw [Tr.put_going hg2];show t.octet.2.ats++_=_;rw [N.ats,c8];congr 2;rw [c8] at o4;omega
   ·rw [Tr.put_going hg2];show t.octet.2.inn+(σ.count - 8) / 8=_;omega
   ·rw [Tr.put_going hg2];exact N.starts
   ·rw [Tr.put_going hg2];exact N.s
end St
namespace St
theorem sim_21{σ:St}{t:Tr}(R:Rel σ t)(hst:σ.st=21)(hf3:σ.fmt<3)(hc:σ.count%8=0∧σ.count<=32∧(σ.fmt=0->σ.count=0)):Sim σ t:=by
 have hg:=R.going;unfold Sim;rw [act_at hst];simp only [actAt,need];have hK:σ.K t=σ.fin t:=K_at hst t;by_cases hf:σ.fmt=0
 ·rw [if_pos hf];unfold SimA;refine ⟨t,⟨hg,R.hand,R.lim,R.fine,fun _=>R.om (by omega),fun h=>by have:(22:Nat)<6:=h;omega,R.begun,R.bytes⟩,?_,rfl,rfl,rfl,by rw [if_neg (by omega)],rfl⟩;rw [hK];show (if σ.fmt=2 then _ else _)=_;unfold fin;rw [if_neg (by omega),if_pos hf]
 ·rw [if_neg hf];have hK2:σ.K t=(if σ.fmt=2 then Tr.long σ.mem t.sum.sized else t.sum.trail):=by
   rw [hK];unfold fin;rw [if_neg hf];by_cases h1:σ.fmt=1
   ·rw [if_pos h1,if_neg (by omega)]
   ·rw [if_neg h1,if_pos (by omega)]
  have hz:Tr.Frz t.sum (σ.K t):=by
   rw [hK2];exact Tr.Frz.ite (c:=σ.fmt=2) ((Tr.frz_sized _).trans (Tr.frz_long _ _)) (Tr.frz_trail _)
  have es:t.sum=if ((t.four 4).1:Int)=Tr.sumL ((Tr.octN 4 t).out.drop (Tr.octN 4 t).frm) then Tr.octN 4 t else (Tr.octN 4 t).fail 12:=by
   unfold Tr.sum;rw [Tr.four_octN]
  by_cases h3:σ.count<32
  ·rw [if_pos h3];unfold SimA;intro hs;refine dry_sim (x:=Tr.octN 4 t) (Tr.Frz.trans ?_ hz) (R.hand.octN_dry hg hc.1 hs 4 (by omega)) (by omega);rw [es];exact Tr.frz_ite_fail' _ _ _
  ·rw [if_neg h3];have c32:σ.count=32:=by omega
   obtain ⟨n2,hd,hi⟩:=R.hand.octN hg (by omega) 4 (by omega);have hv:=R.hand.four hg c32;have N:=hd.near;rw [hv,N.out,N.frm,R.om (by omega)] at es;by_cases hk:(big4 σ.held:Int)=Tr.sumL σ.om
   ·rw [if_pos hk];rw [if_pos hk] at es;unfold SimA;refine ⟨Tr.octN 4 t,rel_rd R (by omega) hd R.fine.octet.octet.octet.octet n2 (by show 6<=22;omega) rfl rfl rfl rfl,?_,N.out,N.ats,hi,by rw [if_neg (by omega)];exact N.starts,N.s⟩;rw [hK2,es];rfl
   ·rw [if_neg hk];rw [if_neg hk] at es;unfold SimA;show Tr.obs (σ.K t)=_;refine hz.keep ?_ (Or.inl (by decide));rw [es,N.obs_fail hg];congr 1
    omega
theorem sim_22{σ:St}{t:Tr}(R:Rel σ t)(hst:σ.st=22)(hc:σ.count%8=0∧σ.count<=16∧(σ.fmt≠2->σ.count=0)):Sim σ t:=by
 have hg:=R.going;unfold Sim;rw [act_at hst];simp only [actAt,need];by_cases hf:σ.fmt=2
 ·rw [if_pos hf];have hK:σ.K t=Tr.long σ.mem t.sized:=by rw [K_at hst];show (if σ.fmt=2 then _ else _)=_;rw [if_pos hf]
  have hz:Tr.Frz t.sized (σ.K t):=by rw [hK];exact Tr.frz_long _ _
  have es:t.sized=if t.octet.1+256*(Tr.octN 1 t).octet.1=((Tr.octN 2 t).out.length - (Tr.octN 2 t).frm)%65536 then Tr.octN 2 t else (Tr.octN 2 t).fail 13:=rfl;by_cases h3:σ.count<16
  ·rw [if_pos h3];unfold SimA;intro hs;refine dry_sim (x:=Tr.octN 2 t) (Tr.Frz.trans ?_ hz) (R.hand.octN_dry hg hc.1 hs 2 (by omega)) (by omega);rw [es];exact Tr.frz_ite_fail' _ _ _
  ·rw [if_neg h3];have c16:σ.count=16:=by omega
   obtain ⟨n2,hd,hi⟩:=R.hand.octN hg (by omega) 2 (by omega);have a0:=R.hand.octV hg (by omega) 0 (by omega);have a1:=R.hand.octV hg (by omega) 1 (by omega);have e0:(Tr.octN 0 t).octet.1=t.octet.1:=rfl;rw [e0] at a0;have hn:t.octet.1+256*(Tr.octN 1 t).octet.1=σ.num 16:=by
    rw [a0,a1];show _=σ.held%2^16;simp;omega
   have N:=hd.near;rw [hn,N.out,N.frm,← om_len R (by omega)] at es;by_cases hk:σ.num 16=σ.om.length%65536
   ·rw [if_pos hk];rw [if_pos hk] at es;unfold SimA;refine ⟨Tr.octN 2 t,rel_rd R (by omega) hd R.fine.octet.octet n2 (by show 6<=23;omega) rfl rfl rfl rfl,?_,N.out,N.ats,hi,by rw [if_neg (by omega)];exact N.starts,N.s⟩;rw [hK,es];show (if σ.fmt=2 then _ else _)=_;rw [if_pos hf];rfl
   ·rw [if_neg hk];rw [if_neg hk] at es;unfold SimA;show Tr.obs (σ.K t)=_;refine hz.keep ?_ (Or.inl (by decide));rw [es,N.obs_fail hg];congr 1
    omega
 ·rw [if_neg hf];unfold SimA;refine ⟨t,⟨hg,R.hand,R.lim,R.fine,fun _=>R.om (by omega),fun h=>by have:(23:Nat)<6:=h;omega,R.begun,R.bytes⟩,?_,rfl,rfl,rfl,by rw [if_neg (by omega)],rfl⟩;rw [K_at hst];show (if σ.fmt=2 then _ else _)=(if σ.fmt=2 then _ else _);rw [if_neg hf,if_neg hf]
theorem sim_23{σ:St}{t:Tr}(R:Rel σ t)(hst:σ.st=23)(hc:σ.count%8=0∧σ.count<=8):Sim σ t:=by
 have hg:=R.going;obtain ⟨he,hn⟩:=(Tr.ended_iff t).1 hg;unfold Sim;rw [act_at hst];simp only [actAt,need];have hK:σ.K t=if σ.fmt=2 then Tr.long σ.mem t else t.trail:=K_at hst t;rcases head_count hc with c0 | c8
 ·rw [if_pos (by omega)];unfold SimA;intro hs;rw [c0] at hs;have hi:¬ (t.ended=false∧t.inn<t.s.size):=by omega
  have e:σ.K t=t:=by
   rw [hK];split
   ·exact Tr.long_stop hi
   ·unfold Tr.trail;rw [if_neg hi]
  rw [e,hst];show Tr.Ob.mk t.out t.ats t.inn t.starts t.err t.needs=_;rw [he,hn,show t.inn=t.s.size by omega];rfl
 ·rw [if_neg (by omega)];have hi:=R.hand.inn;rw [c8] at hi;have hlt:t.ended=false∧t.inn<t.s.size:=⟨hg,by omega⟩
  by_cases hf:σ.fmt=2
  ·rw [if_neg (by omega)];rw [if_pos hf] at hK;have hb:=R.begun hf;by_cases hm:σ.mem<=σ.begun
   ·rw [if_pos hm];unfold SimA;show Tr.obs (σ.K t)=_;rw [hK,Tr.long_many hlt (by omega),Tr.obs_fail (by exact hg),c8]
   ·rw [if_neg hm];unfold SimA;refine ⟨{ t with starts:=t.starts++[t.inn],head:=0,many:=0 },?_,?_,rfl,rfl,rfl,by rw [if_pos hst],rfl⟩
    ·have f:=R.fine;have h:=R.hand;exact ⟨hg,⟨h.left,h.cur,h.inn,h.val⟩,R.lim,⟨f.left,f.cur,f.inn,f.frm,f.ats,f.err⟩,fun h=>by have:6<=(0:Nat):=h;omega,fun _=>⟨rfl,rfl⟩,fun _=>by show (t.starts++[t.inn]).length=σ.begun+1;simp [hb],R.bytes⟩
    ·rw [hK,Tr.long_go R.fine hlt (by omega)];show ({ σ with st:=0,om:=[],hsum:=0,hmany:=0,marks:=0,begun:=σ.begun+1 }:St).k2 _=_;unfold k2 k6 fin;simp only [if_pos hf,if_neg (show ¬ σ.fmt=0 by omega),if_neg (show ¬ σ.fmt=1 by omega)];rfl
  ·rw [if_pos hf];rw [if_neg hf] at hK;unfold SimA;show Tr.obs (σ.K t)=_;rw [hK];unfold Tr.trail;rw [if_pos hlt,Tr.obs_fail (by exact hg),c8]
theorem rel_put{σ σ':St}{t:Tr}(R:Rel σ t)(h6:6<=σ.st)(b:Nat)(hb:b<256)(hst:6<=σ'.st)(hh:σ'.held=σ.held)(hc:σ'.count=σ.count)(h1:σ'.lim=σ.lim)(h2:σ'.fmt=σ.fmt)(h3:σ'.om=σ.om++[b])(h4:σ'.begun=σ.begun):Rel σ' (t.put b):=by
 have f:=R.fine.put b;have k:=Tr.put_bytesOk R.bytes hb;rw [Tr.put_going R.going] at f k ⊢;have h:=R.hand;refine ⟨R.going,by rw [hh,hc];exact ⟨h.left,h.cur,h.inn,h.val⟩,R.lim.trans h1.symm,f,fun _=>?_,fun h=>by omega,fun h=>by rw [h4];exact R.begun (h2 ▸ h),k⟩;show (t.out++[b]).drop t.frm=_;rw [h3,List.drop_append_of_le_length R.fine.frm,R.om h6]
theorem sim_15{σ:St}{t:Tr}(R:Rel σ t)(hst:σ.st=15)(hc:σ.count<8)(hl:σ.lit<256):Sim σ t:=by
 have hg:=R.going;unfold Sim;rw [act_at hst];simp only [actAt,SimA];refine ⟨t.put σ.lit,rel_put R (by omega) σ.lit hl (by show 6<=16;omega) rfl rfl rfl rfl rfl rfl,?_,?_,?_,?_,?_,?_⟩
 ·rw [K_at hst];rfl
 ·rw [Tr.put_going hg]
 ·rw [Tr.put_going hg,show σ.count / 8=0 by omega];rfl
 ·rw [Tr.put_going hg]
 ·rw [Tr.put_going hg]
 ·rw [Tr.put_going hg]
structure Full(l:List Int):Prop where
 range:inRange l=true
 whole:jwa gw l=2048
theorem Full.one{l:List Int}(h:Full l):ky9 l=false:=xze h.whole
theorem lng_11(l:List Int):lng l 12<=11:=y4h l 11
theorem symbol_hit{l:List Int}{t:Tr}{h c k m:Nat}(ho:ky9 l=true->lng l 12<=1)(e:jcs l h c= .hit k m)(H:Tr.Hand t h c)(hg:t.ended=false) :
  ∃ t',t.symbol (rset l)=((k:Int),t')∧Tr.Hand t' (h / 2^m) (c - m)∧Tr.Rd t t'∧t'.inn+(c - m) / 8=t.inn+c / 8:=by
 have:=sym_hit l (lng l 12) 11 1 0 h c k m t e H hg (lng_11 l) ho;rw [Nat.add_sub_cancel] at this;exact this
theorem symbol_dry{l:List Int}{t:Tr}{h c:Nat}(ho:ky9 l=true->lng l 12<=1)(e:jcs l h c= .more)(H:Tr.Hand t h c)(hg:t.ended=false)(hs:t.inn+c / 8=t.s.size):(t.symbol (rset l)).1= -1∧Tr.obs (t.symbol (rset l)).2=t.dry:=
 v3j l (lng l 12) 11 1 0 h c t e H hg hs (lng_11 l) ho
theorem sim_16{σ:St}{t:Tr}(R:Rel σ t)(hst:σ.st=16)(hc:y8i σ.la σ.held σ.count)(hA:Full σ.la)(hlen:σ.la.length<=269):Sim σ t:=by
 have hg:=R.going;have ho:ky9 σ.la=true->lng σ.la 12<=1:=fun h=>by rw [hA.one] at h;cases h
 unfold Sim;rw [act_at hst];simp only [actAt,symbol];have hK:σ.K t=σ.after (Tr.content (rset σ.la) (rset σ.lb) t):=K_at hst t;cases e:jcs σ.la σ.held σ.count with
 | none=>exact absurd e (zxu hA.range hA.whole _ _)
 | more=>
  unfold SimA;intro hs;obtain ⟨d1,d2⟩:=symbol_dry ho e R.hand hg hs;refine dry_sim (x:=(t.symbol (rset σ.la)).2) ?_ d2 (by omega);rw [hK,Tr.content_stop hg (Or.inl (Tr.dry_ended d2))];exact frz_after σ _
 | hit k m=>
  obtain ⟨t',d1,d2,d3,d4⟩:=symbol_hit ho e R.hand hg;have hk:=yyp σ.la _ _ _ _ _ _ _ e;have hcm:=hc.1 k m e;have N:=d3.near;have hg2:t'.ended=false:=by rw [N.ended];exact hg
  have F2:Tr.Fine t':=by have:=R.fine.symbol (rset σ.la);rw [d1] at this;exact this
  show SimA ((σ.rd m).literal k) σ t;unfold literal;by_cases k1:k<256
  ·rw [if_pos k1];unfold SimA;refine ⟨t',rel_rd R (by omega) d3 F2 d2 (by show 6<=15;omega) rfl rfl rfl rfl,?_,N.out,N.ats,d4,by rw [if_neg (by omega)];exact N.starts,N.s⟩;have e2:Tr.contentStep t (rset σ.la) (rset σ.lb)=t'.put k:=by
    unfold Tr.contentStep;rw [d1,if_pos (by show (k:Int)<256;omega)];show t'.put ((k:Int)%256).toNat=_;rw [show ((k:Int)%256).toNat=k by omega]
   rw [hK,Tr.content_go (by exact hlen) hg (by rw [d1];exact hg2) (by rw [d1];show (k:Int)≠256;omega),e2];rfl
  ·rw [if_neg k1];by_cases k2:k=256
   ·rw [if_pos k2];refine sim_end R (by omega) (by omega) N F2 d2 (by show σ.count - m<8;omega) d4 rfl rfl rfl rfl ?_;rw [hK,Tr.content_stop hg (Or.inr (by rw [d1];show (k:Int)=256;omega)),d1];rfl
   ·rw [if_neg k2];unfold SimA;refine ⟨t',rel_rd R (by omega) d3 F2 d2 (by show 6<=17;omega) rfl rfl rfl rfl,?_,N.out,N.ats,d4,by rw [if_neg (by omega)];exact N.starts,N.s⟩;have e2:Tr.contentStep t (rset σ.la) (rset σ.lb)=t'.copies (rset σ.lb) (k - 257):=by
     unfold Tr.contentStep;rw [d1,if_neg (by show ¬ (k:Int)<256;omega)];show t'.copies (rset σ.lb) ((k:Int) - 257).toNat=_;rw [show ((k:Int) - 257).toNat=k - 257 by omega]
    rw [hK,Tr.content_go (by exact hlen) hg (by rw [d1];exact hg2) (by rw [d1];show (k:Int)≠256;omega),e2,Tr.copies_copyL];generalize k - 257=j;rfl
theorem sim_17{σ:St}{t:Tr}(R:Rel σ t)(hst:σ.st=17):Sim σ t:=by
 have hg:=R.going;unfold Sim;rw [act_at hst];simp only [actAt,need];have hK:σ.K t=σ.cab (Tr.copyL (rset σ.lb) σ.least σ.bits t):=K_at hst t;by_cases h3:σ.count < σ.bits
 ·rw [if_pos h3];unfold SimA;intro hs;refine dry_sim (x:=(t.number σ.bits).2) ?_ (R.hand.starve hg hs σ.bits h3) (by omega);rw [hK];exact (Tr.frz_copyD _ _ _).trans (frz_cab σ _)
 ·rw [if_neg h3];obtain ⟨n1,n2,n3,n4⟩:=R.hand.number hg σ.bits (by omega);have N:=n3.near;unfold SimA;refine ⟨(t.number σ.bits).2,rel_rd R (by omega) n3 (R.fine.number _) n2 (by show 6<=18;omega) rfl rfl rfl rfl,?_,N.out,N.ats,n4,by rw [if_neg (by omega)];exact N.starts,N.s⟩;rw [hK];unfold Tr.copyL;rw [n1];rfl
theorem sim_18{σ:St}{t:Tr}(R:Rel σ t)(hst:σ.st=18)(hc:y8i σ.lb σ.held σ.count)(hr:inRange σ.lb=true)(hB:okDists σ.lb):Sim σ t:=by
 have hg:=R.going;have ho:ky9 σ.lb=true->lng σ.lb 12<=1:=fun h=>by rw [x8u hr h];omega
 unfold Sim;rw [act_at hst];simp only [actAt,symbol];have hK:σ.K t=σ.cab (Tr.copyD (rset σ.lb) σ.left t):=K_at hst t;by_cases hz:jwa (fun _=>1) σ.lb=0
 ·have e:jcs σ.lb σ.held σ.count= .none:=by unfold jcs;rw [vga hz];rfl
  have hc8:=hc.2 e;rw [vga hz] at hc8;rw [e];unfold SimA;show Tr.obs (σ.K t)=_;have hk:Tr.Frz (t.fail 11) (σ.K t):=by
   rw [hK];refine Tr.Frz.trans ?_ (frz_cab σ _);unfold Tr.copyD;rw [if_pos (show (rset σ.lb).many=0 from hz)];refine (Tr.frz_symbol _ (rset σ.lb)).trans ?_;exact Tr.Frz.ite (Tr.frz_fail _ _) (Tr.frz_copyF _ _ _ _)
  refine hk.keep ?_ (Or.inl (by decide));rw [Tr.obs_fail hg,show σ.count / 8=0 by omega];rfl
 ·have em:(if (rset σ.lb).many=0 then t.fail 11 else t)=t:=by rw [if_neg (show ¬ (rset σ.lb).many=0 from hz)]
  have hK2:σ.K t=σ.cab (if (t.symbol (rset σ.lb)).1<0 then (t.symbol (rset σ.lb)).2.fail 11 else Tr.copyF σ.left (Tr.spanLeast 1 (t.symbol (rset σ.lb)).1.toNat) (Tr.spanBits (t.symbol (rset σ.lb)).1.toNat) (t.symbol (rset σ.lb)).2):=by
   rw [hK];unfold Tr.copyD;rw [em]
  cases e:jcs σ.lb σ.held σ.count with
  | more=>
   unfold SimA;intro hs;obtain ⟨d1,d2⟩:=symbol_dry ho e R.hand hg hs;refine dry_sim (x:=(t.symbol (rset σ.lb)).2) ?_ d2 (by omega);rw [hK2,if_pos (by omega)];exact (Tr.frz_fail _ _).trans (frz_cab σ _)
  | hit k m=>
   obtain ⟨t',d1,d2,d3,d4⟩:=symbol_hit ho e R.hand hg;have N:=d3.near;have F2:Tr.Fine t':=by have:=R.fine.symbol (rset σ.lb);rw [d1] at this;exact this
   unfold SimA;refine ⟨t',rel_rd R (by omega) d3 F2 d2 (by show 6<=19;omega) rfl rfl rfl rfl,?_,N.out,N.ats,d4,by rw [if_neg (by omega)];exact N.starts,N.s⟩;rw [hK2,d1,if_neg (by show ¬ (k:Int)<0;omega)];rfl
  | none=>
   have hone:ky9 σ.lb=true:=by
    rcases hB with h | h | h
    ·exact absurd e (zxu hr h _ _)
    ·exact h
    ·exact absurd h hz
   have hl1:=x8u hr hone;have hc9:=hc.2 e;have e2:=e;unfold jcs at e2;rw [hl1,scan] at e2;by_cases h0:σ.count=0
   ·rw [if_pos h0] at e2;cases e2
   ·rw [if_neg h0] at e2;obtain ⟨b1,b2,b3,b4⟩:=R.hand.bit hg (by omega);have hg2:t.bit.2.ended=false:=by rw [b3.ended];exact hg
    have es:t.symbol (rset σ.lb)=(-1,t.bit.2):=by
     unfold Tr.symbol Tr.sym;rw [if_neg (by rw [hg2];simp),b1];split at e2
     ·cases e2
     ·rename_i hf
      rw [if_neg hf,if_pos (show (rset σ.lb).one=true from hone)]
    unfold SimA;show Tr.obs (σ.K t)=_;rw [hK2,es,if_pos (by show (-1:Int)<0;omega)];refine (frz_cab σ _).keep (a:=t.bit.2.fail 11) ?_ (Or.inl (by decide));rw [b3.near.obs_fail hg];congr 1
    omega
theorem sim_19{σ:St}{t:Tr}(R:Rel σ t)(hst:σ.st=19)(hc:σ.count<8+σ.bits):Sim σ t:=by
 have hg:=R.going;unfold Sim;rw [act_at hst];simp only [actAt,need];have hK:σ.K t=σ.cab (Tr.copyF σ.left σ.least σ.bits t):=K_at hst t;by_cases h3:σ.count < σ.bits
 ·rw [if_pos h3];unfold SimA;intro hs;refine dry_sim (x:=(t.number σ.bits).2) ?_ (R.hand.starve hg hs σ.bits h3) (by omega);rw [hK];exact ((Tr.frz_ite_fail _ _ _).trans (Tr.frz_copyN _ _ _)).trans (frz_cab σ _)
 ·rw [if_neg h3];obtain ⟨n1,n2,n3,n4⟩:=R.hand.number hg σ.bits (by omega);have N:=n3.near;have e:Tr.copyF σ.left σ.least σ.bits t=Tr.copyN (σ.least+σ.num σ.bits) σ.left (if σ.om.length < σ.least+σ.num σ.bits then (t.number σ.bits).2.fail 11 else (t.number σ.bits).2):=by
   unfold Tr.copyF;rw [n1,N.out,N.frm,← om_len R (by omega)];rfl
  rw [e] at hK;by_cases hk:σ.om.length < σ.least+σ.num σ.bits
  ·rw [if_pos hk];rw [if_pos hk] at hK;unfold SimA;show Tr.obs (σ.K t)=_;rw [hK];refine ((Tr.frz_copyN _ _ _).trans (frz_cab σ _)).keep (a:=(t.number σ.bits).2.fail 11) ?_ (Or.inl (by decide));rw [N.obs_fail hg];congr 1
   omega
  ·rw [if_neg hk];rw [if_neg hk] at hK;unfold SimA;refine ⟨(t.number σ.bits).2,rel_rd R (by omega) n3 (R.fine.number _) n2 (by show 6<=20;omega) rfl rfl rfl rfl,?_,N.out,N.ats,n4,by rw [if_neg (by omega)];exact N.starts,N.s⟩;rw [hK];rfl
theorem sim_20{σ:St}{t:Tr}(R:Rel σ t)(hst:σ.st=20)(hc:σ.count<8)(hd:1<=σ.dist∧σ.dist<=σ.om.length):Sim σ t:=by
 have hg:=R.going;unfold Sim;rw [act_at hst];simp only [actAt];have hK:σ.K t=σ.cab (Tr.copyN σ.dist σ.left t):=K_at hst t;by_cases hl:σ.left=0
 ·rw [if_pos hl];unfold SimA;refine ⟨t,⟨hg,R.hand,R.lim,R.fine,fun _=>R.om (by omega),fun h=>by have:(16:Nat)<6:=h;omega,R.begun,R.bytes⟩,?_,rfl,rfl,rfl,by rw [if_neg (by omega)],rfl⟩;rw [hK,hl];rfl
 ·rw [if_neg hl];have hm:=om_len R (by omega);have hget:σ.om.getD (σ.om.length - σ.dist) 0=t.out.getD (t.out.length - σ.dist) 0:=by
   have:=R.fine.frm;rw [← R.om (by omega)];simp only [List.getD_eq_getElem?_getD,List.getElem?_drop,List.length_drop];congr 2
   omega
  have hb:σ.om.getD (σ.om.length - σ.dist) 0<256:=by rw [hget];exact Tr.getD_lt R.bytes _
  obtain ⟨n,hn⟩:∃ n,σ.left=n+1:=⟨σ.left - 1,by omega⟩
  unfold SimA;refine ⟨t.put (σ.om.getD (σ.om.length - σ.dist) 0),rel_put R (by omega) _ hb (by show 6<=σ.st;omega) rfl rfl rfl rfl rfl rfl,?_,?_,?_,?_,?_,?_⟩
  ·rw [hK,hn];have e:Tr.copyN σ.dist (n+1) t=Tr.copyN σ.dist n (t.put (t.out.getD (t.out.length - σ.dist) 0)):=by
    show (if t.ended then t else _)=_;rw [if_neg (by rw [hg];simp)]
   rw [e,← hget,K_at (n:=20) (by exact hst)];show σ.cab (Tr.copyN σ.dist (n+1 - 1) _)=_;rfl
  ·rw [Tr.put_going hg]
  ·rw [Tr.put_going hg,show σ.count / 8=0 by omega];rfl
  ·rw [Tr.put_going hg]
  ·rw [Tr.put_going hg]
  ·rw [Tr.put_going hg]
end St
theorem kvs(x:Int):∀ (hl:List Int) (i:Nat) (l:List Int),xhc (hl++[x]) i l=(xhc hl i l).set (Tr.order.getD (i+hl.length) 0) x
 | [],i,l=>rfl
 | y :: ys,i,l=>by
  show xhc (ys++[x]) (i+1) _=(xhc ys (i+1) _).set _ x;rw [kvs x ys (i+1),show i+1+ys.length=i+(y :: ys).length by simp;omega]
theorem ycx(hl:List Int)(x:Int):hset (hl++[x])=(hset hl).set (Tr.order.getD hl.length 0) x:=by
 have:=kvs x hl 0 (List.replicate 15 0);rw [Nat.zero_add] at this;exact this
namespace St
theorem fin_eq{σ σ':St}(h:σ'.fmt=σ.fmt)(hm:σ'.mem=σ.mem)(t:Tr):σ'.fin t=σ.fin t:=by unfold fin;rw [h,hm]
theorem after_eq{σ σ':St}(h:σ'.fmt=σ.fmt)(hm:σ'.mem=σ.mem)(hl:σ'.last=σ.last)(t:Tr):σ'.after t=σ.after t:=by unfold after;rw [hl,fin_eq h hm]
theorem cont_eq{σ σ':St}(h:σ'.fmt=σ.fmt)(hm:σ'.mem=σ.mem)(hl:σ'.last=σ.last)(x:RSet×RSet×Tr):σ'.cont x=σ.cont x:=by unfold cont;rw [after_eq h hm hl]
theorem K10{σ:St}(h:σ.st=10)(t:Tr):σ.K t=σ.cont (Tr.own1 σ.nl t):=K_at h t
theorem sim_9{σ:St}{t:Tr}(R:Rel σ t)(hst:σ.st=9)(hc:σ.count<12):Sim σ t:=by
 have hg:=R.going;unfold Sim;rw [act_at hst];simp only [actAt,need];have hK:σ.K t=σ.cont (Tr.own1 (257+(t.number 4).1) (if 12<(t.number 4).1 then (t.number 4).2.fail 10 else (t.number 4).2)):=K_at hst t;by_cases h3:σ.count<4
 ·rw [if_pos h3];unfold SimA;intro hs;refine dry_sim (x:=(t.number 4).2) ?_ (R.hand.starve hg hs 4 h3) (by omega);rw [hK];exact ((Tr.frz_ite_fail _ _ _).trans (Tr.frz_own1 _ _)).trans (frz_cont σ _)
 ·rw [if_neg h3];obtain ⟨n1,n2,n3,n4⟩:=R.hand.number hg 4 (by omega);have N:=n3.near;have e:σ.num 4=(t.number 4).1:=n1.symm;rw [e];have F2:=R.fine.number 4;generalize (t.number 4).2=x at *;generalize (t.number 4).1=v at *;by_cases hk:12<v
  ·rw [if_pos hk];rw [if_pos hk] at hK;unfold SimA;show Tr.obs (σ.K t)=_;rw [hK];refine ((Tr.frz_own1 _ _).trans (frz_cont σ _)).keep (a:=x.fail 10) ?_ (Or.inl (by decide));rw [N.obs_fail hg];congr 1
   omega
  ·rw [if_neg hk];rw [if_neg hk] at hK;unfold SimA;refine ⟨x,rel_rd R (by omega) n3 F2 n2 (by show 6<=10;omega) rfl rfl rfl rfl,?_,N.out,N.ats,n4,by rw [if_neg (by omega)];exact N.starts,N.s⟩;rw [hK,K10 rfl];exact cont_eq (σ:=σ) rfl rfl rfl _
theorem sim_10{σ:St}{t:Tr}(R:Rel σ t)(hst:σ.st=10):Sim σ t:=by
 have hg:=R.going;unfold Sim;rw [act_at hst];simp only [actAt,need];have hK:σ.K t=σ.cont (Tr.own2 σ.nl (1+(t.number 4).1) (t.number 4).2):=K_at hst t;by_cases h3:σ.count<4
 ·rw [if_pos h3];unfold SimA;intro hs;refine dry_sim (x:=(t.number 4).2) ?_ (R.hand.starve hg hs 4 h3) (by omega);rw [hK];exact (Tr.frz_own2 _ _ _).trans (frz_cont σ _)
 ·rw [if_neg h3];obtain ⟨n1,n2,n3,n4⟩:=R.hand.number hg 4 (by omega);have N:=n3.near;have e:σ.num 4=(t.number 4).1:=n1.symm;rw [e];have F2:=R.fine.number 4;generalize (t.number 4).2=x at *;generalize (t.number 4).1=v at *;unfold SimA;refine ⟨x,rel_rd R (by omega) n3 F2 n2 (by show 6<=11;omega) rfl rfl rfl rfl,?_,N.out,N.ats,n4,by rw [if_neg (by omega)];exact N.starts,N.s⟩;rw [hK];rfl
theorem sim_11{σ:St}{t:Tr}(R:Rel σ t)(hst:σ.st=11)(hc:σ.count<12)(hl:σ.hl=[]):Sim σ t:=by
 have hg:=R.going;unfold Sim;rw [act_at hst];simp only [actAt,need];have hK:σ.K t=σ.cont (Tr.own3 σ.nl σ.nd (4+(t.number 4).1) 0 (List.replicate 15 0) (if 11<(t.number 4).1 then (t.number 4).2.fail 10 else (t.number 4).2)):=K_at hst t;by_cases h3:σ.count<4
 ·rw [if_pos h3];unfold SimA;intro hs;refine dry_sim (x:=(t.number 4).2) ?_ (R.hand.starve hg hs 4 h3) (by omega);rw [hK];exact ((Tr.frz_ite_fail _ _ _).trans (Tr.frz_own3 _ _ _ _ _ _)).trans (frz_cont σ _)
 ·rw [if_neg h3];obtain ⟨n1,n2,n3,n4⟩:=R.hand.number hg 4 (by omega);have N:=n3.near;have e:σ.num 4=(t.number 4).1:=n1.symm;rw [e];have F2:=R.fine.number 4;generalize (t.number 4).2=x at *;generalize (t.number 4).1=v at *;by_cases hk:11<v
  ·rw [if_pos hk];rw [if_pos hk] at hK;unfold SimA;show Tr.obs (σ.K t)=_;rw [hK];refine ((Tr.frz_own3 _ _ _ _ _ _).trans (frz_cont σ _)).keep (a:=x.fail 10) ?_ (Or.inl (by decide));rw [N.obs_fail hg];congr 1
   omega
  ·rw [if_neg hk];rw [if_neg hk] at hK;unfold SimA;refine ⟨x,rel_rd R (by omega) n3 F2 n2 (by show 6<=12;omega) rfl rfl rfl rfl,?_,N.out,N.ats,n4,by rw [if_neg (by omega)];exact N.starts,N.s⟩;rw [hK];show σ.cont (Tr.own3 σ.nl σ.nd (4+v - σ.hl.length) σ.hl.length (hset σ.hl) _)=_;rw [hl];rfl
theorem sim_12{σ:St}{t:Tr}(R:Rel σ t)(hst:σ.st=12)(hc:σ.count<11∧(σ.hl.length=σ.told->σ.count<8))(hle:σ.hl.length<=σ.told)(hrow:σ.row=[]):Sim σ t:=by
 have hg:=R.going;unfold Sim;rw [act_at hst];simp only [actAt,need];have hK:σ.K t=σ.cont (Tr.own3 σ.nl σ.nd (σ.told - σ.hl.length) σ.hl.length (hset σ.hl) t):=K_at hst t;by_cases hl:σ.hl.length < σ.told
 ·rw [if_pos hl];obtain ⟨r,hr⟩:∃ r,σ.told - σ.hl.length=r+1:=⟨σ.told - σ.hl.length - 1,by omega⟩
  have e1:Tr.own3 σ.nl σ.nd (σ.told - σ.hl.length) σ.hl.length (hset σ.hl) t=Tr.own3 σ.nl σ.nd r (σ.hl.length+1) ((hset σ.hl).set (Tr.order.getD σ.hl.length 0) (t.number 3).1) (t.number 3).2:=by
   unfold Tr.own3;rw [hr];show Tr.helpEnd _ _ (if t.ended then _ else _)=_;rw [if_neg (by rw [hg];simp)]
  rw [e1] at hK;by_cases h3:σ.count<3
  ·rw [if_pos h3];unfold SimA;intro hs;refine dry_sim (x:=(t.number 3).2) ?_ (R.hand.starve hg hs 3 h3) (by omega);rw [hK];exact (Tr.frz_own3 _ _ _ _ _ _).trans (frz_cont σ _)
  ·rw [if_neg h3];obtain ⟨n1,n2,n3,n4⟩:=R.hand.number hg 3 (by omega);have N:=n3.near;have e:σ.num 3=(t.number 3).1:=n1.symm;rw [e];unfold SimA;refine ⟨(t.number 3).2,rel_rd R (by omega) n3 (R.fine.number _) n2 (by show 6<=σ.st;omega) rfl rfl rfl rfl,?_,N.out,N.ats,n4,by rw [if_neg (by omega)];exact N.starts,N.s⟩;rw [hK,K_at (n:=12) (by exact hst)];show σ.cont (Tr.own3 σ.nl σ.nd (σ.told - (σ.hl++[((t.number 3).1:Int)]).length) (σ.hl++[((t.number 3).1:Int)]).length (hset (σ.hl++[((t.number 3).1:Int)])) _)=_;rw [ycx,List.length_append,List.length_singleton,show σ.told - (σ.hl.length+1)=r by omega]
 ·rw [if_neg hl];have e0:σ.told - σ.hl.length=0:=by omega
  have e1:Tr.own3 σ.nl σ.nd (σ.told - σ.hl.length) σ.hl.length (hset σ.hl) t=Tr.helpEnd σ.nl σ.nd (hset σ.hl,t):=by
   unfold Tr.own3;rw [e0];rfl
  rw [e1] at hK;by_cases hk:jwa gw (hset σ.hl)=2048
  ·rw [if_pos hk];unfold SimA;refine ⟨t,⟨hg,R.hand,R.lim,R.fine,fun _=>R.om (by omega),fun h=>by have:(13:Nat)<6:=h;omega,R.begun,R.bytes⟩,?_,rfl,rfl,rfl,by rw [if_neg (by omega)],rfl⟩;rw [hK];unfold Tr.helpEnd;simp only [if_pos hk];rw [if_neg (by rw [hg];simp)];show σ.cont (Tr.rowEnd σ.nl (Tr.row (rset (hset σ.hl)) (σ.nl+σ.nd) σ.row t))=_;rw [hrow]
  ·rw [if_neg hk];unfold SimA;show Tr.obs (σ.K t)=_;rw [hK];refine (Tr.Frz.trans ?_ (frz_cont σ _)).keep (a:=t.fail 10) ?_ (Or.inl (by decide))
   ·unfold Tr.helpEnd;simp only [if_neg hk];rw [if_pos (Tr.ended_fail t (by decide))];exact Tr.Frz.refl _
   ·rw [Tr.obs_fail hg];congr 1
    have:=hc.2 (by omega);omega
theorem sim_13{σ:St}{t:Tr}(R:Rel σ t)(hst:σ.st=13)(hH:Full σ.hs)(hrow:σ.row.length < σ.nl+σ.nd):Sim σ t:=by
 have hg:=R.going;have ho:ky9 σ.hs=true->lng σ.hs 12<=1:=fun h=>by rw [hH.one] at h;cases h
 unfold Sim;rw [act_at hst];simp only [actAt,symbol];have hK:σ.K t=σ.cont (Tr.rowEnd σ.nl (Tr.row (rset σ.hs) (σ.nl+σ.nd) σ.row t)):=K_at hst t;rw [Tr.row_go hrow hg,Tr.rowStep_eq] at hK;cases e:jcs σ.hs σ.held σ.count with
 | none=>exact absurd e (zxu hH.range hH.whole _ _)
 | more=>
  unfold SimA;intro hs;obtain ⟨d1,d2⟩:=symbol_dry ho e R.hand hg hs;refine dry_sim (x:=(t.symbol (rset σ.hs)).2) ?_ d2 (by omega);rw [hK];exact ((((Tr.frz_helped _ _ _).trans (Tr.frz_rowT _ _ _)).trans (Tr.frz_row _ _ _ _)).trans (Tr.frz_rowEnd _ _)).trans (frz_cont σ _)
 | hit k m=>
  obtain ⟨t',d1,d2,d3,d4⟩:=symbol_hit ho e R.hand hg;have N:=d3.near;have F2:Tr.Fine t':=by have:=R.fine.symbol (rset σ.hs);rw [d1] at this;exact this
  unfold SimA;refine ⟨t',rel_rd R (by omega) d3 F2 d2 (by show 6<=14;omega) rfl rfl rfl rfl,?_,N.out,N.ats,d4,by rw [if_neg (by omega)];exact N.starts,N.s⟩;rw [hK,d1];rfl
theorem helped_eq{t:Tr}{k:Nat}{l:List Int}(hk:k<15):Tr.helped t k l=(if k=12∧l.length=0 then 0 else hval k l,hleast k+(t.number (hbits k)).1,if k=12∧l.length=0 then (t.number (hbits k)).2.fail 10 else (t.number (hbits k)).2):=by
 have hn:t.number 0=(0,t):=rfl;have:k=12∨k=13∨k=14∨k<12:=by omega
 rcases this with h | h | h | h
 ·subst h;unfold Tr.helped hval hleast hbits;by_cases hl:l.length=0
  ·simp [hl]
  ·simp [hl]
 ·subst h;rfl
 ·subst h;rfl
 ·unfold Tr.helped hval hleast hbits;have i1:¬ (k:Int)=12:=by omega
  have i2:¬ (k:Int)=13:=by omega
  have i3:¬ (k:Int)=14:=by omega
  have j1:¬ k=12:=by omega
  have j2:¬ k=13:=by omega
  have j3:¬ k=14:=by omega
  simp only [if_neg i1,if_neg i2,if_neg i3,if_neg j1,if_neg j2,if_neg j3,hn];simp [j1]
theorem sim_14{σ:St}{t:Tr}(R:Rel σ t)(hst:σ.st=14)(hc:σ.count<8+hbits σ.hk)(hk:σ.hk<15):Sim σ t:=by
 have hg:=R.going;unfold Sim;rw [act_at hst];simp only [actAt,need];have hK:σ.K t=σ.cont (Tr.rowEnd σ.nl (Tr.rowHelp (rset σ.hs) (σ.nl+σ.nd) σ.hk σ.row t)):=K_at hst t;have eh:=helped_eq (t:=t) (l:=σ.row) hk;have hz0:Tr.Frz (Tr.helped t σ.hk σ.row).2.2 (σ.K t):=by
  rw [hK];exact (((Tr.frz_rowT _ _ _).trans (Tr.frz_row _ _ _ _)).trans (Tr.frz_rowEnd _ _)).trans (frz_cont σ _)
 by_cases h3:σ.count<hbits σ.hk
 ·rw [if_pos h3];unfold SimA;intro hs;refine dry_sim (x:=(t.number (hbits σ.hk)).2) (Tr.Frz.trans ?_ hz0) (R.hand.starve hg hs _ h3) (by omega);rw [eh];exact Tr.Frz.ite (Tr.frz_fail _ _) (Tr.Frz.refl _)
 ·rw [if_neg h3];obtain ⟨n1,n2,n3,n4⟩:=R.hand.number hg (hbits σ.hk) (by omega);have N:=n3.near;have hg2:(t.number (hbits σ.hk)).2.ended=false:=by rw [N.ended];exact hg
  have F2:=R.fine.number (hbits σ.hk);have e:σ.num (hbits σ.hk)=(t.number (hbits σ.hk)).1:=n1.symm;unfold rowNumber;simp only;rw [e];generalize (t.number (hbits σ.hk)).2=x at *;generalize (t.number (hbits σ.hk)).1=v at *;have hfail:∀ o,o=x.inn->Tr.Ob.mk t.out t.ats o t.starts 10 false=⟨t.out,t.ats,t.inn+σ.count / 8,t.starts,10,false⟩:=by
   intro o ho;congr 1
   omega
  by_cases h12:σ.hk=12∧σ.row.length=0
  ·rw [if_pos h12];unfold SimA;show Tr.obs (σ.K t)=_;refine hz0.keep ?_ (Or.inl (by decide));rw [eh];simp only [if_pos h12];rw [N.obs_fail hg];exact hfail _ rfl
  ·rw [if_neg h12];simp only [if_neg h12] at eh;have eT:Tr.rowT (σ.nl+σ.nd) σ.row.length (Tr.helped t σ.hk σ.row)=if σ.nl+σ.nd < σ.row.length+(hleast σ.hk+v) then x.fail 10 else x:=by
    rw [eh];rfl
   by_cases hlong:σ.nl+σ.nd < σ.row.length+(hleast σ.hk+v)
   ·rw [if_pos hlong];rw [if_pos hlong] at eT;unfold SimA;show Tr.obs (σ.K t)=_;have hz1:Tr.Frz (x.fail 10) (σ.K t):=by
     rw [← eT,hK];exact ((Tr.frz_row _ _ _ _).trans (Tr.frz_rowEnd _ _)).trans (frz_cont σ _)
    refine hz1.keep ?_ (Or.inl (by decide));rw [N.obs_fail hg];exact hfail _ rfl
   ·rw [if_neg hlong];rw [if_neg hlong] at eT;have eR:Tr.rowHelp (rset σ.hs) (σ.nl+σ.nd) σ.hk σ.row t=Tr.row (rset σ.hs) (σ.nl+σ.nd) (σ.row++List.replicate (hleast σ.hk+v) (hval σ.hk σ.row)) x:=by
     unfold Tr.rowHelp;rw [eT,if_neg (by rw [hg2];simp),eh]
    rw [eR] at hK;generalize hrow:σ.row++List.replicate (hleast σ.hk+v) (hval σ.hk σ.row)=row' at *;by_cases hw:row'.length=σ.nl+σ.nd
    ·rw [if_pos hw];rw [Tr.row_stop (by omega)] at hK;unfold Tr.rowEnd at hK;simp only at hK;rw [if_neg (by rw [hg2];simp)] at hK;unfold endRow;show SimA (if jcj (row'.take σ.nl) (row'.drop σ.nl) then _ else _) σ t;by_cases hb:jcj (row'.take σ.nl) (row'.drop σ.nl)
     ·rw [if_pos hb];rw [if_pos hb] at hK;unfold SimA;show Tr.obs (σ.K t)=_;rw [hK];refine (frz_cont σ _).keep ?_ (Or.inl (by decide));show Tr.obs (x.fail 10)=_;rw [N.obs_fail hg];exact hfail _ rfl
     ·rw [if_neg hb];rw [if_neg hb] at hK;unfold SimA;refine ⟨x,rel_rd R (by omega) n3 F2 n2 (by show 6<=16;omega) rfl rfl rfl rfl,?_,N.out,N.ats,n4,by rw [if_neg (by omega)];exact N.starts,N.s⟩;rw [hK];rfl
    ·rw [if_neg hw];unfold SimA;refine ⟨x,rel_rd R (by omega) n3 F2 n2 (by show 6<=13;omega) rfl rfl rfl rfl,?_,N.out,N.ats,n4,by rw [if_neg (by omega)];exact N.starts,N.s⟩;rw [hK];rfl
end St
namespace St
theorem cases24{n:Nat}(h:n<24):n=0∨n=1∨n=2∨n=3∨n=4∨n=5∨n=6∨n=7∨n=8∨n=9∨n=10∨n=11∨n=12∨n=13∨n=14∨n=15∨n=16∨n=17∨n=18∨n=19∨n=20∨n=21∨n=22∨n=23:=by omega
theorem sim{σ:St}{t:Tr}(W:Wf σ)(R:Rel σ t):Sim σ t:=by
 have few:=W.few;have at_:=W.at_;rcases cases24 W.st with h | h | h | h | h | h | h | h | h | h | h | h | h | h | h | h | h | h | h | h | h | h | h | h <;> rw [h] at few at_
 ·exact sim_0 R h few
 ·exact sim_1 R h few
 ·exact sim_2 R h few W.marks.2
 ·exact sim_3 R h few
 ·exact sim_4 R h few
 ·exact sim_5 R h few at_
 ·exact sim_6 R h few
 ·exact sim_7 R h few
 ·exact sim_8 R h few
 ·exact sim_9 R h few
 ·exact sim_10 R h
 ·exact sim_11 R h few (W.own (by omega)).1
 ·exact sim_12 R h few at_.2.2.2.1 at_.2.2.2.2.2
 ·exact sim_13 R h ⟨at_.2.2.1.1,at_.2.2.1.2.1⟩ at_.2.2.2.2
 ·exact sim_14 R h few at_.2
 ·exact sim_15 R h few at_.2
 ·exact sim_16 R h few ⟨at_.ra,at_.wa⟩ at_.na.2
 ·exact sim_17 R h
 ·exact sim_18 R h few at_.1.rb at_.1.wb
 ·exact sim_19 R h few
 ·exact sim_20 R h few ⟨at_.2.1,at_.2.2.1⟩
 ·exact sim_21 R h W.fmt few
 ·exact sim_22 R h few
 ·exact sim_23 R h few
def loc(n:Nat)(σ:St):Nat:=
 match n with
 | 0=>11
 | 1=>10
 | 2=>9
 | 3=>8
 | 4=>7
 | 5=>6
 | 6=>5
 | 7=>21
 | 8=>20
 | 9=>4
 | 10=>3
 | 11=>2
 | 12=>30
 | 13=>29
 | 14=>31
 | 15=>17
 | 16=>16
 | 17=>86
 | 18=>85
 | 19=>84
 | 20=>17+σ.left
 | 21=>14
 | 22=>13
 | _=>12
def phi(σ:St):Nat:=100*σ.count+loc σ.st σ
theorem loc_lt{σ:St}(W:Wf σ):loc σ.st σ<100:=by
 have at_:=W.at_;by_cases h:σ.st=20
 ·rw [h] at at_ ⊢;have:(Sets σ∧σ.left<=66)∧_:=at_;show 17+σ.left<100;omega
 ·unfold loc;split <;> omega
def NextA(A:Act)(σ:St):Prop:=
 match A with
 | .take=>∀ b,b<256->Wf (σ.add b)
 | .put b σ'=>Wf σ'∧b<256∧phi σ'<phi σ∧σ'.fmt=σ.fmt∧σ'.mem=σ.mem∧σ'.lim=σ.lim
 | .tau σ'=>Wf σ'∧phi σ'<phi σ∧σ'.fmt=σ.fmt∧σ'.mem=σ.mem∧σ'.lim=σ.lim∧(σ'.st=23->σ'.count=0)
 | .fail e=>4<=e∧e<=14
theorem held_rd{σ:St}(W:Wf σ){k:Nat}(hk:k<=σ.count):σ.held / 2^k<2^(σ.count - k):=by
 have h:=W.held;rw [show σ.count=k+(σ.count - k) by omega,Nat.pow_add] at h;exact Nat.div_lt_of_lt_mul h
theorem held_add{σ:St}(W:Wf σ){b:Nat}(hb:b<256):(σ.add b).held<2^(σ.add b).count:=by
 have h:=W.held;show σ.held+2^σ.count*b<2^(σ.count+8);rw [Nat.pow_add];have:2^σ.count*(b+1)<=2^σ.count*2^8:=Nat.mul_le_mul_left _ (by omega);rw [Nat.mul_add] at this;omega
theorem Wf.take{σ:St}(W:Wf σ){b:Nat}(hb:b<256)(hf:Few σ.st (σ.add b))(ha:At σ.st (σ.add b)):Wf (σ.add b):=⟨W.fmt,W.st,W.raw,held_add W hb,hf,ha,W.own,W.om,W.marks,W.hsum⟩
end St
namespace St
theorem fmt_pos{σ:St}(W:Wf σ)(h:σ.st<6):σ.fmt≠0:=fun h0=>by have:=W.raw h0;omega
theorem six{n:Nat}(h:n<6):n=0∨n=1∨n=2∨n=3∨n=4∨n=5:=by omega
theorem few_head{σ:St}{n:Nat}(h:n<6)(hc:σ.count%8=0∧σ.count<=8):Few n σ:=by
 rcases six h with rfl | rfl | rfl | rfl | rfl | rfl <;> exact hc
theorem few_of{σ:St}{n:Nat}(h:n<6)(hf:Few n σ):σ.count%8=0∧σ.count<=8:=by
 rcases six h with rfl | rfl | rfl | rfl | rfl | rfl <;> exact hf
theorem at_head{σ:St}{n:Nat}(h:n<6)(hc:σ.om=[]):At n σ:=by
 rcases six h with rfl | rfl | rfl | rfl | rfl | rfl <;> exact hc
theorem at_of{σ:St}{n:Nat}(h:n<6)(ha:At n σ):σ.om=[]:=by
 rcases six h with rfl | rfl | rfl | rfl | rfl | rfl <;> exact ha
theorem loc_head{σ:St}{n:Nat}(h:n<6):loc n σ=11 - n:=by
 rcases six h with rfl | rfl | rfl | rfl | rfl | rfl <;> rfl
theorem take_head{σ:St}(W:Wf σ)(hst:σ.st<6)(h8:σ.count<8)(b:Nat)(hb:b<256):Wf (σ.add b):=by
 have hc:=few_of hst W.few;exact W.take hb (few_head hst ⟨by show (σ.count+8)%8=0;omega,by show σ.count+8<=8;omega⟩) (at_head hst (show σ.om=[] from at_of hst W.at_))
theorem wf_crown{σ σ':St}(W:Wf σ)(hst:σ.st<6)(h8:¬ σ.count<8)(hn:σ'.st<=6)(h1:σ'.fmt=σ.fmt)(h2:σ'.held=σ.held / 2^8)(h3:σ'.count=σ.count - 8)(h4:σ'.hl=σ.hl)(h5:σ'.row=σ.row)(h6:σ'.om=σ.om)(h7:σ'.marks<=7∧(σ.fmt≠2->σ'.marks=0))(h9:σ'.hsum=(σ.hsum+σ.num 8)%256)(h10:σ'.mem=σ.mem)(h11:σ'.lim=σ.lim):NextA (.tau σ') σ:=by
 have hc:=few_of hst W.few;have ho:=at_of hst W.at_;have hf:=fmt_pos W hst;refine ⟨⟨by rw [h1];exact W.fmt,by omega,fun h0=>absurd (h1 ▸ h0) hf,by rw [h2,h3];exact held_rd W (by omega),?_,?_,fun _=>by rw [h4,h5];exact W.own (by omega),by rw [h6];exact W.om,by rw [h1];exact h7,by rw [h9];omega⟩,?_,h1,h10,h11,fun h=>by omega⟩
 ·by_cases e:σ'.st=6
  ·rw [e];show σ'.count<11;omega
  ·exact few_head (by omega) ⟨by omega,by omega⟩
 ·by_cases e:σ'.st=6
  ·rw [e];exact trivial
  ·exact at_head (by omega) (by rw [h6];exact ho)
 ·unfold phi;rw [loc_head hst];by_cases e:σ'.st=6
  ·rw [e];show 100*σ'.count+5<_;omega
  ·rw [loc_head (by omega)];omega
theorem wf_over{σ:St}(W:Wf σ)(hst:σ.st<6):NextA (.tau { σ with st:=σ.st+1 }) σ:=by
 have hc:=few_of hst W.few;have ho:=at_of hst W.at_;have hf:=fmt_pos W hst;refine ⟨⟨W.fmt,by show σ.st+1<24;omega,fun h0=>absurd h0 hf,W.held,?_,?_,fun _=>W.own (by omega),W.om,W.marks,W.hsum⟩,?_,rfl,rfl,rfl,fun h=>by have:σ.st+1=23:=h;omega⟩
 ·show Few (σ.st+1) _;by_cases e:σ.st=5
  ·rw [e];show σ.count<11;omega
  ·exact few_head (by omega) hc
 ·show At (σ.st+1) _;by_cases e:σ.st=5
  ·rw [e];exact trivial
  ·exact at_head (by omega) ho
 ·unfold phi;rw [loc_head hst];show 100*σ.count+loc (σ.st+1) _<_;by_cases e:σ.st=5
  ·rw [e];show 100*σ.count+5<_;omega
  ·rw [loc_head (by omega)];omega
theorem next_byte{σ:St}(W:Wf σ)(hst:σ.st<6)(w:Nat):NextA (σ.need 8 (σ.headByte w (σ.st+1))) σ:=by
 unfold need headByte;by_cases h8:σ.count<8
 ·rw [if_pos h8];exact fun b hb=>take_head W hst h8 b hb
 ·rw [if_neg h8];split
  ·exact ⟨by decide,by decide⟩
  ·split
   ·exact wf_crown W hst h8 (by show σ.st+1<=6;omega) rfl rfl rfl rfl rfl rfl W.marks rfl rfl rfl
   ·exact ⟨by decide,by decide⟩
theorem next_text{σ:St}(W:Wf σ)(hst:σ.st<6):NextA (σ.need 8 (σ.text (σ.st+1))) σ:=by
 unfold need text;by_cases h8:σ.count<8
 ·rw [if_pos h8];exact fun b hb=>take_head W hst h8 b hb
 ·rw [if_neg h8];split
  ·exact ⟨by decide,by decide⟩
  ·refine wf_crown W hst h8 ?_ rfl rfl rfl rfl rfl rfl W.marks rfl rfl rfl;show (if σ.num 8=0 then σ.st+1 else σ.st)<=6;split <;> omega
theorem next_0{σ:St}(W:Wf σ)(h:σ.st=0):NextA σ.act σ:=by
 have:=next_byte W (by omega) (if σ.fmt=1 then 115 else 76);rw [act_at h];rw [h] at this;exact this
theorem next_1{σ:St}(W:Wf σ)(h:σ.st=1):NextA σ.act σ:=by
 have:=next_byte W (by omega) (if σ.fmt=1 then 1 else 2);rw [act_at h];rw [h] at this;exact this
theorem next_2{σ:St}(W:Wf σ)(h:σ.st=2):NextA σ.act σ:=by
 rw [act_at h];simp only [actAt,need];split
 ·rename_i hf
  by_cases h8:σ.count<8
  ·rw [if_pos h8];exact fun b hb=>take_head W (by omega) h8 b hb
  ·rw [if_neg h8];split
   ·exact ⟨by decide,by decide⟩
   ·split
    ·exact ⟨by decide,by decide⟩
    ·rename_i h7
     exact wf_crown W (by omega) h8 (by show 3<=6;omega) rfl rfl rfl rfl rfl rfl ⟨by show σ.num 8<=7;omega,fun h=>absurd hf h⟩ rfl rfl rfl
 ·have:=wf_over W (by omega);rw [h] at this;exact this
theorem next_3{σ:St}(W:Wf σ)(h:σ.st=3):NextA σ.act σ:=by
 rw [act_at h];simp only [actAt];split
 ·have:=next_text W (by omega);rw [h] at this;exact this
 ·have:=wf_over W (by omega);rw [h] at this;exact this
theorem next_4{σ:St}(W:Wf σ)(h:σ.st=4):NextA σ.act σ:=by
 rw [act_at h];simp only [actAt];split
 ·have:=next_text W (by omega);rw [h] at this;exact this
 ·have:=wf_over W (by omega);rw [h] at this;exact this
theorem next_5{σ:St}(W:Wf σ)(h:σ.st=5):NextA σ.act σ:=by
 rw [act_at h];simp only [actAt];split
 ·have:=next_byte W (by omega) σ.hsum;rw [h] at this;exact this
 ·have:=wf_over W (by omega);rw [h] at this;exact this
theorem next_end{σ τ:St}(W:Wf σ)(hs:6<=σ.st)(hb:τ.held<2^τ.count)(hc:τ.count<8)(hp:100*τ.count+14<phi σ)(h1:τ.fmt=σ.fmt)(h2:τ.hl=[]∧τ.row=[])(h6:τ.om=σ.om)(h7:τ.marks=σ.marks)(h9:τ.hsum=σ.hsum)(h10:τ.mem=σ.mem)(h11:τ.lim=σ.lim):NextA τ.endBlock σ:=by
 unfold endBlock;split
 ·split
  ·exact ⟨by decide,by decide⟩
  ·refine ⟨⟨by show τ.fmt<3;rw [h1];exact W.fmt,by show 21<24;omega,fun _=>by show 6<=21;omega,by show 0<2^0;omega,⟨rfl,by show 0<=32;omega,fun _=>rfl⟩,trivial,fun _=>h2,by show ∀ x∈τ.om,x<256;rw [h6];exact W.om,by show τ.marks<=7∧(τ.fmt≠2->τ.marks=0);rw [h1,h7];exact W.marks,by show τ.hsum<256;rw [h9];exact W.hsum⟩,?_,h1,h10,h11,fun h=>by have:(21:Nat)=23:=h;omega⟩;show 100*0+14<_;omega
 ·refine ⟨⟨by show τ.fmt<3;rw [h1];exact W.fmt,by show 6<24;omega,fun _=>by show 6<=6;omega,hb,by show τ.count<11;omega,trivial,fun _=>h2,by show ∀ x∈τ.om,x<256;rw [h6];exact W.om,by show τ.marks<=7∧(τ.fmt≠2->τ.marks=0);rw [h1,h7];exact W.marks,by show τ.hsum<256;rw [h9];exact W.hsum⟩,?_,h1,h10,h11,fun h=>by have:(6:Nat)=23:=h;omega⟩;show 100*τ.count+5<_;omega
theorem fixed_sets:inRange Tr.fixedA=true∧jwa gw Tr.fixedA=2048∧Tr.fixedA.length=269∧inRange Tr.fixedB=true∧jwa gw Tr.fixedB=2048∧Tr.fixedB.length=16:=by decide
theorem next_6{σ:St}(W:Wf σ)(h:σ.st=6):NextA σ.act σ:=by
 have few:=W.few;rw [h] at few;have hc:σ.count<11:=few;rw [act_at h];simp only [actAt,need];have hphi:phi σ=100*σ.count+5:=by unfold phi;rw [h];rfl
 by_cases h3:σ.count<3
 ·rw [if_pos h3];exact fun b hb=>W.take hb (by rw [h];show σ.count+8<11;omega) (by rw [h];trivial)
 ·rw [if_neg h3];have hh:=held_rd W (k:=3) (by omega);have hown:=W.own (by omega);unfold kind;simp only;split
  ·split
   ·exact ⟨by decide,by decide⟩
   ·refine ⟨⟨W.fmt,by show 7<24;omega,fun _=>by show 6<=7;omega,by show 0<2^0;omega,⟨rfl,by show 0<=32;omega⟩,trivial,fun _=>hown,W.om,W.marks,W.hsum⟩,?_,rfl,rfl,rfl,fun h=>by have:(7:Nat)=23:=h;omega⟩;rw [hphi];show 100*0+21<_;omega
  ·split
   ·obtain ⟨f1,f2,f3,f4,f5,f6⟩:=fixed_sets;refine ⟨⟨W.fmt,by show 16<24;omega,fun _=>by show 6<=16;omega,hh,y8i.of_lt (by show σ.count - 3<8;omega),⟨f1,f2,by show 257<=Tr.fixedA.length∧Tr.fixedA.length<=269;omega,f4,Or.inl f5,by show Tr.fixedB.length<=16;omega⟩,fun _=>hown,W.om,W.marks,W.hsum⟩,?_,rfl,rfl,rfl,fun h=>by have:(16:Nat)=23:=h;omega⟩;rw [hphi];show 100*(σ.count - 3)+16<_;omega
   ·split
    ·refine ⟨⟨W.fmt,by show 9<24;omega,fun _=>by show 6<=9;omega,hh,by show σ.count - 3<12;omega,trivial,fun _=>hown,W.om,W.marks,W.hsum⟩,?_,rfl,rfl,rfl,fun h=>by have:(9:Nat)=23:=h;omega⟩;rw [hphi];show 100*(σ.count - 3)+4<_;omega
    ·exact ⟨by decide,by decide⟩
theorem next_7{σ:St}(W:Wf σ)(h:σ.st=7):NextA σ.act σ:=by
 have few:=W.few;rw [h] at few;have hc:σ.count%8=0∧σ.count<=32:=few;rw [act_at h];simp only [actAt,need];have hphi:phi σ=100*σ.count+21:=by unfold phi;rw [h];rfl
 by_cases h3:σ.count<32
 ·rw [if_pos h3];exact fun b hb=>W.take hb (by rw [h];show (σ.count+8)%8=0∧σ.count+8<=32;omega) (by rw [h];trivial)
 ·rw [if_neg h3];have hh:=held_rd W (k:=32) (by omega);split
  ·refine ⟨⟨W.fmt,by show 8<24;omega,fun _=>by show 6<=8;omega,hh,⟨by show (σ.count - 32)%8=0;omega,by show σ.count - 32<=8;omega,fun _=>by show σ.count - 32=0;omega⟩,?_,fun _=>W.own (by omega),W.om,W.marks,W.hsum⟩,?_,rfl,rfl,rfl,fun h=>by have:(8:Nat)=23:=h;omega⟩
   ·show σ.num 16<=65535;have:σ.num 16<2^16:=Nat.mod_lt _ (by decide);omega
   ·rw [hphi];show 100*(σ.count - 32)+20<_;omega
  ·exact ⟨by decide,by decide⟩
theorem num_lt(σ:St)(k:Nat):σ.num k<2^k:=Nat.mod_lt _ (Nat.pow_pos (by decide))
theorem om_snoc{l:List Nat}(h:∀ x∈l,x<256){b:Nat}(hb:b<256):∀ x∈l++[b],x<256:=fun x hx=>by
 rcases List.mem_append.1 hx with hx | hx
 ·exact h x hx
 ·simp at hx;omega
theorem next_8{σ:St}(W:Wf σ)(h:σ.st=8):NextA σ.act σ:=by
 have few:=W.few;have at_:=W.at_;rw [h] at few at_;have hc:σ.count%8=0∧σ.count<=8∧(σ.left=0->σ.count=0):=few;have ha:σ.left<=65535:=at_;rw [act_at h];simp only [actAt,need];have hphi:phi σ=100*σ.count+20:=by unfold phi;rw [h];rfl
 split
 ·exact next_end W (by omega) W.held (by omega) (by omega) rfl (W.own (by omega)) rfl rfl rfl rfl rfl
 ·rename_i hl
  by_cases h3:σ.count<8
  ·rw [if_pos h3];exact fun b hb=>W.take hb (by rw [h];show (σ.count+8)%8=0∧σ.count+8<=8∧(σ.left=0->σ.count+8=0);omega) (by rw [h];exact ha)
  ·rw [if_neg h3];have hh:=held_rd W (k:=8) (by omega);have hn:=num_lt σ 8;refine ⟨⟨W.fmt,W.st,W.raw,hh,?_,?_,fun _=>W.own (by omega),om_snoc W.om hn,W.marks,W.hsum⟩,hn,?_,rfl,rfl,rfl⟩
   ·show Few σ.st _;rw [h];show (σ.count - 8)%8=0∧σ.count - 8<=8∧(σ.left - 1=0->σ.count - 8=0);omega
   ·show At σ.st _;rw [h];show σ.left - 1<=65535;omega
   ·rw [hphi];show 100*(σ.count - 8)+loc σ.st _<_;rw [h];show 100*(σ.count - 8)+20<_;omega
theorem next_21{σ:St}(W:Wf σ)(h:σ.st=21):NextA σ.act σ:=by
 have few:=W.few;rw [h] at few;have hc:σ.count%8=0∧σ.count<=32∧(σ.fmt=0->σ.count=0):=few;rw [act_at h];simp only [actAt,need];have hphi:phi σ=100*σ.count+14:=by unfold phi;rw [h];rfl
 split
 ·rename_i hf
  refine ⟨⟨W.fmt,by show 22<24;omega,fun _=>by show 6<=22;omega,W.held,⟨by show σ.count%8=0;omega,by show σ.count<=16;omega,fun _=>by show σ.count=0;omega⟩,trivial,fun _=>W.own (by omega),W.om,W.marks,W.hsum⟩,?_,rfl,rfl,rfl,fun h=>by have:(22:Nat)=23:=h;omega⟩;rw [hphi];show 100*σ.count+13<_;omega
 ·rename_i hf
  by_cases h3:σ.count<32
  ·rw [if_pos h3];exact fun b hb=>W.take hb (by rw [h];show (σ.count+8)%8=0∧σ.count+8<=32∧(σ.fmt=0->σ.count+8=0);omega) (by rw [h];trivial)
  ·rw [if_neg h3];have hh:=held_rd W (k:=32) (by omega);split
   ·refine ⟨⟨W.fmt,by show 22<24;omega,fun _=>by show 6<=22;omega,hh,⟨by show (σ.count - 32)%8=0;omega,by show σ.count - 32<=16;omega,fun _=>by show σ.count - 32=0;omega⟩,trivial,fun _=>W.own (by omega),W.om,W.marks,W.hsum⟩,?_,rfl,rfl,rfl,fun h=>by have:(22:Nat)=23:=h;omega⟩;rw [hphi];show 100*(σ.count - 32)+13<_;omega
   ·exact ⟨by decide,by decide⟩
theorem next_22{σ:St}(W:Wf σ)(h:σ.st=22):NextA σ.act σ:=by
 have few:=W.few;rw [h] at few;have hc:σ.count%8=0∧σ.count<=16∧(σ.fmt≠2->σ.count=0):=few;rw [act_at h];simp only [actAt,need];have hphi:phi σ=100*σ.count+13:=by unfold phi;rw [h];rfl
 split
 ·rename_i hf
  by_cases h3:σ.count<16
  ·rw [if_pos h3];exact fun b hb=>W.take hb (by rw [h];show (σ.count+8)%8=0∧σ.count+8<=16∧(σ.fmt≠2->σ.count+8=0);omega) (by rw [h];trivial)
  ·rw [if_neg h3];have hh:=held_rd W (k:=16) (by omega);split
   ·refine ⟨⟨W.fmt,by show 23<24;omega,fun _=>by show 6<=23;omega,hh,⟨by show (σ.count - 16)%8=0;omega,by show σ.count - 16<=8;omega⟩,trivial,fun _=>W.own (by omega),W.om,W.marks,W.hsum⟩,?_,rfl,rfl,rfl,fun _=>by show σ.count - 16=0;omega⟩;rw [hphi];show 100*(σ.count - 16)+12<_;omega
   ·exact ⟨by decide,by decide⟩
 ·rename_i hf
  refine ⟨⟨W.fmt,by show 23<24;omega,fun _=>by show 6<=23;omega,W.held,⟨by show σ.count%8=0;omega,by show σ.count<=8;omega⟩,trivial,fun _=>W.own (by omega),W.om,W.marks,W.hsum⟩,?_,rfl,rfl,rfl,fun _=>by show σ.count=0;omega⟩;rw [hphi];show 100*σ.count+12<_;omega
theorem next_23{σ:St}(W:Wf σ)(h:σ.st=23):NextA σ.act σ:=by
 have few:=W.few;rw [h] at few;have hc:σ.count%8=0∧σ.count<=8:=few;rw [act_at h];simp only [actAt,need];have hphi:phi σ=100*σ.count+12:=by unfold phi;rw [h];rfl
 by_cases h3:σ.count<8
 ·rw [if_pos h3];exact fun b hb=>W.take hb (by rw [h];show (σ.count+8)%8=0∧σ.count+8<=8;omega) (by rw [h];trivial)
 ·rw [if_neg h3];split
  ·exact ⟨by decide,by decide⟩
  ·rename_i hf
   split
   ·exact ⟨by decide,by decide⟩
   ·refine ⟨⟨W.fmt,by show 0<24;omega,fun h0=>absurd (show σ.fmt=0 from h0) (by omega),W.held,hc,rfl,fun _=>W.own (by omega),fun x hx=>(by cases hx),⟨Nat.zero_le _,fun _=>rfl⟩,by show 0<256;omega⟩,?_,rfl,rfl,rfl,fun h=>by have:(0:Nat)=23:=h;omega⟩;rw [hphi];show 100*σ.count+11<_;omega
end St
end Go.Proofs.YtbcjmakpempkiaaGreatDoor
