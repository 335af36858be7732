import Derived.Test.YtbcjmakpempkiaaGreatDoorX08
set_option maxRecDepth 100000
set_option maxHeartbeats 8000000
set_option linter.all false
namespace Go.Proofs.YtbcjmakpempkiaaGreatDoor
open Go.RowKit
theorem kw7(n lo hi:Int)(w:World):Calls Tryz.prog 73 #[.int .i64 lo, .int .i64 n, .int .i64 hi] w fun e w'=>e= .returned (.bool (wi n lo hi))∧w=w':=by
 by_cases h1:lo<=n
 ·by_cases h2:n<=hi
  ·have HR:Hid (wi n lo hi=true):=by show _=_;simp [wi,h1,h2]
   go_enter Tryz.func73,Tryz.ntmps73
   go_wp2_with fail
   go_ret
   exact ⟨by rw [HR.out];rfl,rfl⟩
  ·have HR:Hid (wi n lo hi=false):=by show _=_;simp [wi,h2]
   go_enter Tryz.func73,Tryz.ntmps73
   go_wp2_with fail
   go_ret
   exact ⟨by rw [HR.out];rfl,rfl⟩
 ·have HR:Hid (wi n lo hi=false):=by show _=_;simp [wi,h1]
  go_enter Tryz.func73,Tryz.ntmps73
  go_wp2_with fail
  go_ret
  exact ⟨by rw [HR.out];rfl,rfl⟩
theorem ykv(n:Int)(w:World):Calls Tryz.prog 48 #[.int .i64 n] w fun e w'=>e= .returned (.bool (wi n 0 2))∧w=w':=by
 have HR:Hid ((n==0 || n==1 || n==2)=wi n 0 2):=by
  show _=_;unfold wi;rw [Bool.eq_iff_iff];simp;omega
 by_cases h0:n=0
 ·subst h0;go_enter Tryz.func48,Tryz.ntmps48
  go_wp2_with fail
  go_ret
  exact ⟨rfl,rfl⟩
 ·by_cases h1:n=1
  ·subst h1;go_enter Tryz.func48,Tryz.ntmps48
   go_wp2_with fail
   go_ret
   exact ⟨rfl,rfl⟩
  ·by_cases h2:n=2
   ·subst h2;go_enter Tryz.func48,Tryz.ntmps48
    go_wp2_with fail
    go_ret
    exact ⟨rfl,rfl⟩
   ·skip
    go_enter Tryz.func48,Tryz.ntmps48
    go_wp2_with fail
    go_ret
    exact ⟨by rw [← HR.out];rfl,rfl⟩
theorem z8l(c:Cfg)(w:World):Calls Tryz.prog 45 #[c.val] w fun e w'=>e= .returned (.bool c.right)∧Below w.heap.size w w':=by
 unfold Cfg.val;have HR:Hid (c.right=(wi c.fm 0 2 && wi c.out 0 100000 && wi c.ratio 0 1000 && wi c.slack 0 100000 && (wi c.mem 1 100 && wi c.lim 0 100 && wi c.steps 0 1000000))):=rfl;generalize c.right=res at *;obtain ⟨fm,out,ratio,slack,mem,lim,steps⟩:=c;simp only at HR ⊢;cases h1:wi fm 0 2
 ·skip
  rw [h1] at HR;have HR2:Hid (res=false):=by show _=_;rw [HR.out];rfl
  clear HR;go_enter Tryz.func45,Tryz.ntmps45
  go_wp2_with (first | (go_at_call 48;refine (ykv _ _).mono ?_;rintro e w' ⟨rfl,rfl⟩) | (go_at_call 73;refine (kw7 _ _ _ _).mono ?_;rintro e w' ⟨rfl,rfl⟩))
  go_ret
  exact ⟨by rw [HR2.out];rfl,(Below.refl _ _).alloc (Nat.le_refl _) _⟩
 ·skip
  cases h2:wi out 0 100000
  ·skip
   rw [h1,h2] at HR;have HR2:Hid (res=false):=by show _=_;rw [HR.out];rfl
   clear HR;go_enter Tryz.func45,Tryz.ntmps45
   go_wp2_with (first | (go_at_call 48;refine (ykv _ _).mono ?_;rintro e w' ⟨rfl,rfl⟩) | (go_at_call 73;refine (kw7 _ _ _ _).mono ?_;rintro e w' ⟨rfl,rfl⟩))
   go_ret
   exact ⟨by rw [HR2.out];rfl,(Below.refl _ _).alloc (Nat.le_refl _) _⟩
  ·skip
   cases h3:wi ratio 0 1000
   ·skip
    rw [h1,h2,h3] at HR;have HR2:Hid (res=false):=by show _=_;rw [HR.out];rfl
    clear HR;go_enter Tryz.func45,Tryz.ntmps45
    go_wp2_with (first | (go_at_call 48;refine (ykv _ _).mono ?_;rintro e w' ⟨rfl,rfl⟩) | (go_at_call 73;refine (kw7 _ _ _ _).mono ?_;rintro e w' ⟨rfl,rfl⟩))
    go_ret
    exact ⟨by rw [HR2.out];rfl,(Below.refl _ _).alloc (Nat.le_refl _) _⟩
   ·skip
    cases h4:wi slack 0 100000
    ·skip
     rw [h1,h2,h3,h4] at HR;have HR2:Hid (res=false):=by show _=_;rw [HR.out];rfl
     clear HR;go_enter Tryz.func45,Tryz.ntmps45
     go_wp2_with (first | (go_at_call 48;refine (ykv _ _).mono ?_;rintro e w' ⟨rfl,rfl⟩) | (go_at_call 73;refine (kw7 _ _ _ _).mono ?_;rintro e w' ⟨rfl,rfl⟩))
     go_ret
     exact ⟨by rw [HR2.out];rfl,(Below.refl _ _).alloc (Nat.le_refl _) _⟩
    ·skip
     cases h5:wi mem 1 100
     ·skip
      rw [h1,h2,h3,h4,h5] at HR;have HR2:Hid (res=false):=by show _=_;rw [HR.out];rfl
      clear HR;go_enter Tryz.func45,Tryz.ntmps45
      go_wp2_with (first | (go_at_call 48;refine (ykv _ _).mono ?_;rintro e w' ⟨rfl,rfl⟩) | (go_at_call 73;refine (kw7 _ _ _ _).mono ?_;rintro e w' ⟨rfl,rfl⟩))
      go_ret
      exact ⟨by rw [HR2.out];rfl,(Below.refl _ _).alloc (Nat.le_refl _) _⟩
     ·skip
      cases h6:wi lim 0 100
      ·skip
       rw [h1,h2,h3,h4,h5,h6] at HR;have HR2:Hid (res=false):=by show _=_;rw [HR.out];rfl
       clear HR;go_enter Tryz.func45,Tryz.ntmps45
       go_wp2_with (first | (go_at_call 48;refine (ykv _ _).mono ?_;rintro e w' ⟨rfl,rfl⟩) | (go_at_call 73;refine (kw7 _ _ _ _).mono ?_;rintro e w' ⟨rfl,rfl⟩))
       go_ret
       exact ⟨by rw [HR2.out];rfl,(Below.refl _ _).alloc (Nat.le_refl _) _⟩
      ·skip
       cases h7:wi steps 0 1000000
       ·skip
        rw [h1,h2,h3,h4,h5,h6,h7] at HR;have HR2:Hid (res=false):=by show _=_;rw [HR.out];rfl
        clear HR;go_enter Tryz.func45,Tryz.ntmps45
        go_wp2_with (first | (go_at_call 48;refine (ykv _ _).mono ?_;rintro e w' ⟨rfl,rfl⟩) | (go_at_call 73;refine (kw7 _ _ _ _).mono ?_;rintro e w' ⟨rfl,rfl⟩))
        go_ret
        exact ⟨by rw [HR2.out];rfl,(Below.refl _ _).alloc (Nat.le_refl _) _⟩
       ·skip
        rw [h1,h2,h3,h4,h5,h6,h7] at HR;have HR2:Hid (res=true):=by show _=_;rw [HR.out];rfl
        clear HR;go_enter Tryz.func45,Tryz.ntmps45
        go_wp2_with (first | (go_at_call 48;refine (ykv _ _).mono ?_;rintro e w' ⟨rfl,rfl⟩) | (go_at_call 73;refine (kw7 _ _ _ _).mono ?_;rintro e w' ⟨rfl,rfl⟩))
        go_ret
        exact ⟨by rw [HR2.out];rfl,(Below.refl _ _).alloc (Nat.le_refl _) _⟩
def jlo(s:ByteArray)(i:Nat):List Nat:=(strN s).drop i
theorem ksn(s:ByteArray):(strN s).length=s.size:=by unfold strN;rw [List.length_map];rfl
theorem xul(s:ByteArray)(i:Nat)(h:i<s.size):(strN s)[i]?=some (k0w s i):=by
 have h':i<s.data.size:=h;simp [strN,k0w,List.getD_eq_getElem?_getD];exact ⟨s.data[i],by simp [h'],by rw [Array.getElem?_eq_getElem h'];rfl⟩
theorem ypz{s:ByteArray}{i:Nat}(h:i<s.size):jlo s i=k0w s i :: jlo s (i+1):=by
 unfold jlo;have hl:i<(strN s).length:=by rw [ksn];exact h
 rw [List.drop_eq_getElem_cons hl];congr 1
 have:=xul s i h;rw [List.getElem?_eq_getElem hl] at this;exact Option.some.inj this
theorem vq8{s:ByteArray}{i:Nat}(h:s.size<=i):jlo s i=[]:=List.drop_eq_nil_of_le (by rw [ksn];exact h)
theorem zli(s:ByteArray)(i:Nat):(jlo s i).length=s.size - i:=by unfold jlo;rw [List.length_drop,ksn]
def sums:List Nat->Nat×Nat
 | l=>l.foldl (fun z b=>((z.1+b)%65521,(z.2+(z.1+b)%65521)%65521)) (1,0)
structure Sm(q:Quo)(D:Nat)(s:ByteArray)(x:MS)(c:Cf):Prop where
 wf:St.Wf c.σ
 fm:x.fm=c.σ.fmt
 me:x.me=c.σ.mem
 he:x.he=c.σ.lim
 ou:x.ou=q.out
 ra:x.ra=q.ratio
 sl:x.sl=q.slack
 sp:x.sp=q.steps
 er:x.er=0
 tk:x.tk=c.pre.length
 pu:x.pu=c.outs.length
 rest:x.rest=jlo s c.pre.length
 le:c.pre.length<=s.size
 held:x.held=c.σ.held
 count:x.count=c.σ.count
 qa:x.qa=c.outs.drop D
 dle:D<=c.outs.length∧c.outs.length<=D+64
 qc:x.qc=c.σ.om.drop (c.σ.om.length - 256)
 marks:x.marks=c.σ.marks
 head:x.head=c.σ.hmany∧c.σ.hmany<=c.σ.lim
 hsum:x.hsum=c.σ.hsum
 sum:x.st≠0->(x.sx,x.sy)=sums c.σ.om
 sumle:x.sx<=65520∧x.sy<=65520
 stp:c.pre.length+c.outs.length<=q.steps
 size:x.size=c.σ.om.length%65536
 last:x.last=c.σ.last
 left:x.left=c.σ.left
 nl:10<=c.σ.st∧c.σ.st<=14->x.nl=c.σ.nl
 nd:11<=c.σ.st∧c.σ.st<=14->x.nd=c.σ.nd
 told:12<=c.σ.st∧c.σ.st<=14->x.told=c.σ.told
 hl:x.hl=c.σ.hl
 row:x.row=c.σ.row
 hs:13<=c.σ.st∧c.σ.st<=14->x.hs=c.σ.hs
 hk:c.σ.st=14->x.hlen=(if c.σ.hk=12∨c.σ.hk=13∨c.σ.hk=14 then 0 else c.σ.hk)∧x.hbef=decide (c.σ.hk=12)∧x.hleast=hleast c.σ.hk∧x.hbits=hbits c.σ.hk
 la:15<=c.σ.st∧c.σ.st<=20->x.la=c.σ.la∧x.lb=c.σ.lb
 lit:x.lit=c.σ.lit
 span:x.least=c.σ.least∧x.bits=c.σ.bits
 dist:x.dist=c.σ.dist
 mb:c.σ.begun=c.starts.length∧c.starts.length<=c.σ.mem
structure Sn(q:Quo)(D:Nat)(s:ByteArray)(x:MS)(c:Cf):Prop where
 sm:Sm q D s x c
 st:x.st=c.σ.st+1
 mb:x.mb=c.starts.length
 pre:0<c.pre.length
structure Dead(q:Quo)(x:MS)(c:Cf)(e:Nat):Prop where
 er:x.er=e
 ne:e≠0
 tk:x.tk=c.pre.length
 pu:x.pu=c.outs.length
 qa:x.qa=[]
 mb:x.mb=if c.pre.length=0 then 0 else c.starts.length
def muC(s:ByteArray)(c:Cf):Nat:=1000*(s.size - c.pre.length)+St.phi c.σ
theorem j3w.mu{q:Quo}{D:Nat}{s:ByteArray}{a b:Cf}(W:St.Wf a.σ)(h:j3w q D s a b):St.Wf b.σ∧muC s b<muC s a:=by
 have N:=St.next W;cases h with
 | take h1 h2 h3=>
  rw [h1] at N;have W':=N _ (z5g s a.pre.length);refine ⟨W',?_⟩;unfold muC;show 1000*(s.size - (a.pre++[_]).length)+St.phi (a.σ.add _)<_;rw [List.length_append,List.length_singleton];have h4:=St.loc_lt W';unfold St.phi;show _+(100*(a.σ.count+8)+St.loc (a.σ.add _).st (a.σ.add _))<_;omega
 | put y σ' h1 h2 h3=>rw [h1] at N;exact ⟨N.1,by unfold muC;have:=N.2.2.1;show 1000*(s.size - a.pre.length)+St.phi σ'<_;omega⟩
 | tau σ' h1=>rw [h1] at N;exact ⟨N.1,by unfold muC;have:=N.2.1;show 1000*(s.size - a.pre.length)+St.phi σ'<_;omega⟩
theorem v44.mu{q:Quo}{D:Nat}{s:ByteArray}{a b:Cf}(h:v44 q D s a b):St.Wf a.σ->St.Wf b.σ∧muC s b<=muC s a:=by
 induction h with
 | refl=>exact fun W=>⟨W,Nat.le_refl _⟩
 | step a b c h1 _ ih=>
  intro W;obtain ⟨W1,l1⟩:=h1.mu W;obtain ⟨W2,l2⟩:=ih W1;exact ⟨W2,by omega⟩
def Stop(q:Quo)(D:Nat)(s:ByteArray)(c:Cf)(e:Nat):Prop:=∀ cl,Halt q D s cl c e none
inductive Out(q:Quo)(D:Nat)(s:ByteArray)(c:Cf)(r:MS×Nat):Prop
 | go (c':Cf):v44 q D s c c'->r.2=0->Sn q D s r.1 c'->muC s c'<muC s c->Out q D s c r
 | between (c':Cf):v44 q D s c c'->r.2=0->Sm q D s r.1 c'->r.1.st=0->r.1.mb=c'.starts.length->c'.σ.st=23->c'.σ.fmt=2->c'.σ.count=8->0<c'.pre.length->Out q D s c r
 | hungry (c':Cf):v44 q D s c c'->r.2=1->Sn q D s r.1 c'->c'.σ.act= .take->s.size<=c'.pre.length->Out q D s c r
 | full (c':Cf) (b:Nat) (σ':St):v44 q D s c c'->r.2=2->Sn q D s r.1 c'->c'.σ.act= .put b σ'->D+64<=c'.outs.length->Out q D s c r
 | dead (c':Cf) (e:Nat):v44 q D s c c'->r.2=3->Dead q r.1 c' e->Stop q D s c' e->Out q D s c r
theorem Out.after{q:Quo}{D:Nat}{s:ByteArray}{c c1:Cf}{r:MS×Nat}(h:Out q D s c1 r)(st:v44 q D s c c1)(W:St.Wf c.σ):Out q D s c r:=by
 have l:=(st.mu W).2;cases h with
 | go c' h1 h2 h3 h4=>exact .go c' (st.trans h1) h2 h3 (by omega)
 | between c' h1 h2 h3 h4 h5 h6 h7 h8 h9=>exact .between c' (st.trans h1) h2 h3 h4 h5 h6 h7 h8 h9
 | hungry c' h1 h2 h3 h4 h5=>exact .hungry c' (st.trans h1) h2 h3 h4 h5
 | full c' b σ' h1 h2 h3 h4 h5=>exact .full c' b σ' (st.trans h1) h2 h3 h4 h5
 | dead c' e h1 h2 h3 h4=>exact .dead c' e (st.trans h1) h2 h3 h4
def xkr(k:Nat)(σ:St):Prop:=∀ h c,σ.count<=c->h%2^σ.count=σ.held->h<2^c->c<k->({ σ with held:=h,count:=c }:St).act= .take
structure Fed(c c':Cf):Prop where
 σ:c'.σ={ c.σ with held:=c'.σ.held,count:=c'.σ.count }
 outs:c'.outs=c.outs
 ats:c'.ats=c.ats
 starts:c'.starts=c.starts
 cnt:c.σ.count<=c'.σ.count
 mod:c'.σ.held%2^c.σ.count=c.σ.held
 pre:c.pre.length<=c'.pre.length
 tot:8*c'.pre.length+c.σ.count=8*c.pre.length+c'.σ.count
theorem Fed.refl{c:Cf}(W:St.Wf c.σ):Fed c c:=⟨rfl,rfl,rfl,rfl,Nat.le_refl _,Nat.mod_eq_of_lt W.held,Nat.le_refl _,rfl⟩
theorem Sm.fed{q:Quo}{D:Nat}{s:ByteArray}{x:MS}{c:Cf}(S:Sm q D s x c)(ha:c.σ.act= .take)(hl:c.pre.length<s.size)(hs:¬ q.steps<=c.pre.length+c.outs.length):Sm q D s (x.fed (k0w s c.pre.length) (jlo s (c.pre.length+1))) { c with σ:=c.σ.add (k0w s c.pre.length),pre:=c.pre++[k0w s c.pre.length] }:=by
 have N:=St.next S.wf;rw [ha] at N;have e:(c.pre++[k0w s c.pre.length]).length=c.pre.length+1:=by simp
 exact { S with
  wf:=N _ (z5g _ _)
  tk:=by show x.tk+1=(c.pre++[_]).length;rw [e,S.tk]
  rest:=by show jlo s (c.pre.length+1)=jlo s (c.pre++[_]).length;rw [e]
  le:=by show (c.pre++[_]).length<=s.size;rw [e];omega
  stp:=by show (c.pre++[_]).length+c.outs.length<=q.steps;rw [e];omega
  held:=by show x.held+2^x.count*_=c.σ.held+2^c.σ.count*_;rw [S.held,S.count]
  count:=by show x.count+8=c.σ.count+8;rw [S.count] }
theorem Sm.dead{q:Quo}{D:Nat}{s:ByteArray}{x:MS}{c:Cf}(S:Sm q D s x c){e:Nat}(he:e≠0)(hm:x.mb=if c.pre.length=0 then 0 else c.starts.length):Dead q (x.refuse e).1 c e:=⟨rfl,he,S.tk,S.pu,rfl,hm⟩
structure ylw(q:Quo)(D:Nat)(s:ByteArray)(k:Nat)(x:MS)(c:Cf)(y:MS)(c':Cf):Prop where
 steps:v44 q D s c c'
 fed:Fed c c'
 sm:Sm q D s y c'
 st:y.st=x.st
 mb:y.mb=x.mb
 res:(MS.need k x=(y,0)∧k<=c'.σ.count∧(c.σ.count<k->c.pre.length<c'.pre.length)∧(k<=c.σ.count->c'=c))∨(MS.need k x=(y,1)∧c'.σ.act= .take∧s.size<=c'.pre.length)∨(MS.need k x=y.refuse 16∧Stop q D s c' 16)
theorem va4{h a b c:Nat}(hh:h%2^(c+8)=a+2^c*b)(ha:a<2^c):h%2^c=a:=by
 have h1:h%2^(c+8)%2^c=h%2^c:=Nat.mod_mod_of_dvd h (Nat.pow_dvd_pow 2 (by omega));rw [← h1,hh,Nat.add_mul_mod_self_left,Nat.mod_eq_of_lt ha]
theorem xkr.add{k:Nat}{σ:St}(h:xkr k σ)(W:St.Wf σ)(b:Nat):xkr k (σ.add b):=fun H C hc hm hl hk=>
 h H C (by have:σ.count+8<=C:=hc;omega) (va4 (show H%2^(σ.count+8)=σ.held+2^σ.count*b from hm) W.held) hl hk
theorem Fed.step{a b c:Cf}{s:ByteArray}(h:Fed { a with σ:=a.σ.add (k0w s a.pre.length),pre:=a.pre++[k0w s a.pre.length] } c)(W:St.Wf a.σ):Fed a c:=by
 obtain ⟨h1,h2,h3,h4,h5,h6,h7,h8⟩:=h;refine ⟨by rw [h1];rfl,h2,h3,h4,?_,?_,?_,?_⟩
 ·have:a.σ.count+8<=c.σ.count:=h5;omega
 ·exact va4 h6 W.held
 ·have:(a.pre++[k0w s a.pre.length]).length<=c.pre.length:=h7;simp at this;omega
 ·have h9:8*c.pre.length+(a.σ.count+8)=8*(a.pre++[k0w s a.pre.length]).length+c.σ.count:=h8;simp at h9;omega
theorem MS.need_done'{k:Nat}{x:MS}(h:k<=x.count):MS.need k x=(x,0):=by
 unfold MS.need;cases x.rest with
 | nil=>unfold MS.needL;rw [if_pos h]
 | cons b l=>unfold MS.needL;rw [if_pos h]
theorem MS.need_nil'{k:Nat}{x:MS}(h:¬ k<=x.count)(e:x.rest=[]):MS.need k x=(x,1):=by
 unfold MS.need;rw [e];show (if k<=x.count then _ else _)=_;rw [if_neg h]
theorem MS.need_cons'{k:Nat}{x:MS}{b:Nat}{l:List Nat}(h:¬ k<=x.count)(e:x.rest=b :: l):MS.need k x=if x.sp<=x.tk+x.pu then x.refuse 16 else MS.need k (x.fed b l):=by
 unfold MS.need;rw [e];show (if k<=x.count then _ else _)=_;rw [if_neg h];rfl
theorem yc2{q:Quo}{D:Nat}{s:ByteArray}{k:Nat}(n:Nat):∀ {x:MS} {c:Cf},s.size - c.pre.length<=n->Sm q D s x c->xkr k c.σ->∃ y c',ylw q D s k x c y c':=by
 induction n with
 | zero=>
  intro x c hn S A;by_cases h:k<=x.count
  ·exact ⟨x,c, .refl c,Fed.refl S.wf,S,rfl,rfl,Or.inl ⟨MS.need_done' h,by rw [← S.count];exact h,fun hc=>by have:=S.count;omega,fun _=>rfl⟩⟩
  ·have ha:c.σ.act= .take:=A c.σ.held c.σ.count (Nat.le_refl _) (Nat.mod_eq_of_lt S.wf.held) S.wf.held (by have:=S.count;omega);have hle:=S.le;exact ⟨x,c, .refl c,Fed.refl S.wf,S,rfl,rfl,Or.inr (Or.inl ⟨MS.need_nil' h (by rw [S.rest];exact vq8 (by omega)),ha,by omega⟩)⟩
 | succ n ih=>
  intro x c hn S A;by_cases h:k<=x.count
  ·exact ⟨x,c, .refl c,Fed.refl S.wf,S,rfl,rfl,Or.inl ⟨MS.need_done' h,by rw [← S.count];exact h,fun hc=>by have:=S.count;omega,fun _=>rfl⟩⟩
  ·have ha:c.σ.act= .take:=A c.σ.held c.σ.count (Nat.le_refl _) (Nat.mod_eq_of_lt S.wf.held) S.wf.held (by have:=S.count;omega);by_cases hl:c.pre.length<s.size
   ·have e:x.rest=k0w s c.pre.length :: jlo s (c.pre.length+1):=by rw [S.rest];exact ypz hl
    by_cases hs:x.sp<=x.tk+x.pu
    ·refine ⟨x,c, .refl c,Fed.refl S.wf,S,rfl,rfl,Or.inr (Or.inr ⟨by rw [MS.need_cons' h e,if_pos hs],fun cl=>?_⟩)⟩;exact Halt.steps ha hl (by rw [← S.tk,← S.pu,← S.sp];exact hs)
    ·have S1:=S.fed ha hl (by rw [← S.tk,← S.pu,← S.sp];exact hs);obtain ⟨y,c',N⟩:=ih (x:=x.fed (k0w s c.pre.length) (jlo s (c.pre.length+1))) (c:={ c with σ:=c.σ.add (k0w s c.pre.length),pre:=c.pre++[k0w s c.pre.length] }) (by show s.size - (c.pre++[_]).length<=n;simp;omega) S1 (A.add S.wf _);have st1:j3w q D s c { c with σ:=c.σ.add (k0w s c.pre.length),pre:=c.pre++[k0w s c.pre.length] }:=j3w.take c ha hl (by rw [← S.tk,← S.pu,← S.sp];exact hs);have eN:MS.need k x=MS.need k (x.fed (k0w s c.pre.length) (jlo s (c.pre.length+1))):=by rw [MS.need_cons' h e,if_neg hs]
     have hp:c.pre.length<c'.pre.length:=by have:=N.fed.pre;have:(c.pre++[k0w s c.pre.length]).length<=c'.pre.length:=this;simp at this;omega
     refine ⟨y,c',(v44.one st1).trans N.steps,Fed.step (b:=c') N.fed S.wf,N.sm,N.st,N.mb,?_⟩;rcases N.res with r | r | r
     ·exact Or.inl ⟨eN.trans r.1,r.2.1,fun _=>hp,fun hk=>absurd hk (by have:=S.count;omega)⟩
     ·exact Or.inr (Or.inl ⟨eN.trans r.1,r.2⟩)
     ·exact Or.inr (Or.inr ⟨eN.trans r.1,r.2⟩)
   ·have hle:=S.le;exact ⟨x,c, .refl c,Fed.refl S.wf,S,rfl,rfl,Or.inr (Or.inl ⟨MS.need_nil' h (by rw [S.rest];exact vq8 (by omega)),ha,by omega⟩)⟩
theorem Sm.need{q:Quo}{D:Nat}{s:ByteArray}{x:MS}{c:Cf}(S:Sm q D s x c){k:Nat}(A:xkr k c.σ):∃ y c',ylw q D s k x c y c':=yc2 _ (Nat.le_refl _) S A
theorem Sn.fed{q:Quo}{D:Nat}{s:ByteArray}{k:Nat}{x y:MS}{c c':Cf}(N:Sn q D s x c)(O:ylw q D s k x c y c'):Sn q D s y c':=⟨O.sm,by rw [O.st,N.st,O.fed.σ],by rw [O.mb,N.mb,O.fed.starts],Nat.lt_of_lt_of_le N.pre O.fed.pre⟩
theorem Sn.mbd{q:Quo}{D:Nat}{s:ByteArray}{x:MS}{c:Cf}(N:Sn q D s x c):x.mb=if c.pre.length=0 then 0 else c.starts.length:=by
 rw [if_neg (by have:=N.pre;omega)];exact N.mb
theorem j18{q:Quo}{D:Nat}{s:ByteArray}{x:MS}{c:Cf}{k:Nat}(N:Sn q D s x c)(A:xkr k c.σ)(f:MS->MS×Nat)
  (hf:∀ y c',Sn q D s y c'->Fed c c'->k<=c'.σ.count->Out q D s c' (f y)):Out q D s c (MS.andThen (MS.need k x) f):=by
 obtain ⟨y,c',O⟩:=N.sm.need A;have Y:=N.fed O;rcases O.res with ⟨e,hk,_⟩ | ⟨e,h1,h2⟩ | ⟨e,h1⟩
 ·rw [e];exact (hf y c' Y O.fed hk).after O.steps N.sm.wf
 ·rw [e];exact .hungry c' O.steps rfl Y h1 h2
 ·rw [e];exact .dead c' 16 O.steps rfl (O.sm.dead (by decide) Y.mbd) h1
theorem zyc{q:Quo}{D:Nat}{s:ByteArray}{x:MS}{c:Cf}{k:Nat}(least:Nat)(N:Sn q D s x c)(A:xkr k c.σ)(f:MS->Nat->MS×Nat)
  (hf:∀ y c',Sn q D s y c'->Fed c c'->k<=c'.σ.count->Out q D s c' (f (y.rd k) (least+y.num k))):Out q D s c (MS.symThen (x.spanR least k) f):=by
 obtain ⟨y,c',O⟩:=N.sm.need A;have Y:=N.fed O;unfold MS.spanR;rcases O.res with ⟨e,hk,_⟩ | ⟨e,h1,h2⟩ | ⟨e,h1⟩
 ·rw [e];exact (hf y c' Y O.fed hk).after O.steps N.sm.wf
 ·rw [e];exact .hungry c' O.steps rfl Y h1 h2
 ·rw [e];exact .dead c' 16 O.steps rfl (O.sm.dead (by decide) Y.mbd) h1
theorem xgk{q:Quo}{D:Nat}{s:ByteArray}{x:MS}{c:Cf}(N:Sn q D s x c)(A:xkr 8 c.σ)(f:MS->Nat->MS×Nat)
  (hf:∀ y c',Sn q D s y c'->Fed c c'->8<=c'.σ.count->(c.σ.count<8->c.pre.length<c'.pre.length)->Out q D s c' (if y.head=y.he then y.refuse 5 else f y.headRead (y.num 8))):Out q D s c (MS.symThen x.takeHead f):=by
 obtain ⟨y,c',O⟩:=N.sm.need A;have Y:=N.fed O;unfold MS.takeHead;rcases O.res with ⟨e,hk,hp,_⟩ | ⟨e,h1,h2⟩ | ⟨e,h1⟩
 ·rw [e];have H:=(hf y c' Y O.fed hk hp).after O.steps N.sm.wf;rw [if_neg (by simp)];by_cases h5:y.head=y.he
  ·rw [if_pos h5] at H;rw [if_pos h5];exact H
  ·rw [if_neg h5] at H;rw [if_neg h5];exact H
 ·rw [e,if_pos (by simp)];exact .hungry c' O.steps rfl Y h1 h2
 ·rw [e,if_pos (by simp [MS.refuse])];exact .dead c' 16 O.steps rfl (O.sm.dead (by decide) Y.mbd) h1
theorem vmk{q:Quo}{D:Nat}{s:ByteArray}{c:Cf}{σ':St}(ha:c.σ.act= .tau σ')(h:c.σ.st≠23):j3w q D s c { c with σ:=σ' }:=by
 have:=j3w.tau (q:=q) (D:=D) (s:=s) c σ' ha;rw [if_neg h] at this;exact this
theorem xuc{q:Quo}{D:Nat}{s:ByteArray}{c:Cf}{σ':St}{r:MS×Nat}(W:St.Wf c.σ)(ha:c.σ.act= .tau σ')(h:c.σ.st≠23)(O:Out q D s { c with σ:=σ' } r):Out q D s c r:=O.after (v44.one (vmk ha h)) W
theorem jyp{q:Quo}{D:Nat}{s:ByteArray}{c:Cf}{σ':St}{z:MS}(W:St.Wf c.σ)(ha:c.σ.act= .tau σ')(h:c.σ.st≠23)(N:Sn q D s z { c with σ:=σ' }):Out q D s c (z,0):=
 .go _ (v44.one (vmk ha h)) rfl N ((vmk (q:=q) (D:=D) (s:=s) ha h).mu W).2
theorem ja5{q:Quo}{D:Nat}{s:ByteArray}{c:Cf}{x z:MS}{e:Nat}(N:Sn q D s x c)(ha:c.σ.act= .fail e)(he:e≠0)(h1:z.tk=x.tk)(h2:z.pu=x.pu)(h3:z.mb=x.mb):Out q D s c (z.refuse e):=
 .dead c e (.refl c) rfl ⟨rfl,he,h1.trans N.sm.tk,h2.trans N.sm.pu,rfl,h3.trans N.mbd⟩ (fun _=>Halt.fail e ha)
theorem jod(l:List Nat)(b:Nat):sums (l++[b])=(((sums l).1+b)%65521,((sums l).2+((sums l).1+b)%65521)%65521):=by
 unfold sums;rw [List.foldl_append];rfl
theorem zuc{l:List Nat}{b:Nat}:MS.pushed (l.drop (l.length - 256)) b=(l++[b]).drop ((l++[b]).length - 256):=by
 unfold MS.pushed;rw [List.length_drop,List.length_append,List.length_singleton];by_cases h:256<=l.length
 ·rw [if_pos (by omega),List.tail_drop,List.drop_append_of_le_length (by omega)];rw [show l.length - 256+1=l.length+1 - 256 by omega]
 ·rw [if_neg (by omega),show l.length - 256=0 by omega,show l.length+1 - 256=0 by omega];simp
structure PutF(x:MS)(b:Nat)(q:Quo)(D:Nat)(c:Cf):Prop where
 qa:(x.putted b).qa=(c.outs++[b]).drop D
 dle:D<=(c.outs++[b]).length∧(c.outs++[b]).length<=D+64
 qc:(x.putted b).qc=(c.σ.om++[b]).drop ((c.σ.om++[b]).length - 256)
 sum:((x.putted b).sx,(x.putted b).sy)=sums (c.σ.om++[b])
 sumle:(x.putted b).sx<=65520∧(x.putted b).sy<=65520
 size:(x.putted b).size=(c.σ.om++[b]).length%65536
 pu:(x.putted b).pu=(c.outs++[b]).length
 stp:c.pre.length+(c.outs++[b]).length<=q.steps
theorem z9q{q:Quo}{D:Nat}{s:ByteArray}{x:MS}{c:Cf}{b:Nat}{σ':St}(N:Sn q D s x c)(ha:c.σ.act= .put b σ')(f:MS->MS×Nat)
  (hf:PutF x b q D c->Out q D s { c with σ:=σ',outs:=c.outs++[b],ats:=c.ats++[c.pre.length] } (f (x.putted b))):Out q D s c (MS.andThen (x.put b) f):=by
 have S:=N.sm;have hql:x.qa.length=c.outs.length - D:=by rw [S.qa,List.length_drop]
 have hpe:x.putE=vcn q c.pre.length c.outs.length:=by unfold MS.putE vcn;rw [S.tk,S.pu,S.sp,S.ou,S.ra,S.sl]
 have hd:=S.dle;unfold MS.put;by_cases h1:x.qa.length=64
 ·rw [if_pos h1];exact .full c b σ' (.refl c) rfl N ha (by omega)
 ·rw [if_neg h1];by_cases h2:x.putE=0
  ·rw [if_neg (by omega)];have h3:vcn q c.pre.length c.outs.length=0:=by rw [← hpe];exact h2
   have st:j3w q D s c { c with σ:=σ',outs:=c.outs++[b],ats:=c.ats++[c.pre.length] }:=j3w.put c b σ' ha (by omega) h3;refine (hf ?_).after (v44.one st) S.wf;have hst0:x.st≠0:=by rw [N.st];omega
   have hsm:=S.sum hst0;have hs1:x.sx=(sums c.σ.om).1:=by rw [← hsm]
   have hs2:x.sy=(sums c.σ.om).2:=by rw [← hsm]
   refine ⟨?_,?_,?_,?_,?_,?_,?_,?_⟩
   ·show x.qa++[b]=_;rw [S.qa,List.drop_append_of_le_length hd.1]
   ·rw [List.length_append,List.length_singleton];omega
   ·show MS.pushed x.qc b=_;rw [S.qc,zuc]
   ·rw [jod,← hs1,← hs2];rfl
   ·refine ⟨?_,?_⟩
    ·show (x.sx+b)%65521<=65520;omega
    ·show (x.sy+(x.sx+b)%65521)%65521<=65520;omega
   ·show (x.size+1)%65536=_;rw [S.size,List.length_append,List.length_singleton];omega
   ·show x.pu+1=_;rw [S.pu,List.length_append,List.length_singleton]
   ·rw [List.length_append,List.length_singleton];unfold vcn at h3;by_cases h4:q.steps<=c.pre.length+c.outs.length
    ·rw [if_pos h4] at h3;omega
    ·omega
  ·rw [if_pos h2];have h3:vcn q c.pre.length c.outs.length≠0:=by rw [← hpe];exact h2
   refine .dead c _ (.refl c) rfl (S.dead h2 N.mbd) (fun cl=>?_);rw [hpe];exact Halt.quota b σ' ha (by omega) h3
def ScI(l:List Int)(σ:St)(r n code:Nat):Prop:=n<=σ.count+1∧1<=n∧∀ h C,σ.count<=C->h%2^σ.count=σ.held->h<2^C->jcs l h C=scan l r n code (h / 2^(n - 1)) (C - (n - 1))
theorem ScI.start(l:List Int)(σ:St):ScI l σ (lng l 12) 1 0:=⟨by omega,Nat.le_refl _,fun h C _ _ _=>by show scan l (lng l 12) 1 0 h C=_;simp⟩
theorem kx6{h H c n:Nat}(hm:h%2^c=H)(hn:1<=n∧n<=c):h / 2^(n - 1)%2=H / 2^(n - 1)%2:=by
 subst hm;have e:2^c=2^(n - 1)*2^(c - (n - 1)):=by rw [← Nat.pow_add];congr 1;omega
 rw [e,Nat.mod_mul_right_div_self];have e2:2 ∣ 2^(c - (n - 1)):=by
  rw [show c - (n - 1)=(c - n)+1 by omega,Nat.pow_succ];exact Nat.dvd_mul_left _ _
 rw [Nat.mod_mod_of_dvd _ e2]
theorem ScI.next{l:List Int}{σ τ:St}{r n code:Nat}(I:ScI l σ (r+1) n code)(hc:σ.count<=τ.count)(hm:τ.held%2^σ.count=σ.held)(hn:n<=τ.count)(hf:¬ 0<=find (rset l) n ((2*code+τ.held / 2^(n - 1)%2:Nat):Int)) :
  ScI l τ r (n+1) (2*code+τ.held / 2^(n - 1)%2):=by
 obtain ⟨i1,i2,i3⟩:=I;refine ⟨by omega,by omega,fun h C h1 h2 h3=>?_⟩;have hmod:h%2^σ.count=σ.held:=by
  rw [← hm,← h2,Nat.mod_mod_of_dvd _ (Nat.pow_dvd_pow 2 hc)]
 rw [i3 h C (by omega) hmod h3,scan,if_neg (by omega),kx6 h2 ⟨i2,hn⟩,if_neg hf];congr 1
 ·rw [Nat.div_div_eq_div_mul];congr 1
  rw [← Nat.pow_succ];congr 1;omega
 ·omega
theorem kgv{q:Quo}{D:Nat}{s:ByteArray}{l:List Int}{g:St->Nat->Act}(f:MS->Nat->MS×Nat){c0:Cf}(r:Nat):∀ (n code:Nat) (x:MS) (c:Cf),Sn q D s x c->Fed c0 c->ScI l c.σ r n code->(∀ h C,({ c.σ with held:=h,count:=C }:St).act=({ c.σ with held:=h,count:=C }:St).symbol l g)->
  (∀ y c' k m,Sn q D s y c'->Fed c0 c'->jcs l c'.σ.held c'.σ.count= .hit k m->Out q D s c' (f (y.rd m) k))->Out q D s c (MS.symThen (MS.symL l r n code x) f):=by
 induction r with
 | zero=>
  intro n code x c N F I hA hf;have ha:c.σ.act= .fail 11:=by
   have h1:=hA c.σ.held c.σ.count;have h2:({ c.σ with held:=c.σ.held,count:=c.σ.count }:St)=c.σ:=rfl;rw [h2] at h1;rw [h1];unfold St.symbol;rw [I.2.2 c.σ.held c.σ.count (Nat.le_refl _) (Nat.mod_eq_of_lt N.sm.wf.held) N.sm.wf.held];rfl
  show Out q D s c ((x.refuse 11).1,3);exact ja5 (z:=x) N ha (by decide) rfl rfl rfl
 | succ r ih=>
  intro n code x c N F I hA hf;have A:xkr n c.σ:=fun h C h1 h2 h3 h4=>by
   rw [hA h C];show (match jcs l h C with | .hit k m=>_ | .more=>Act.take | .none=>_)=Act.take;rw [I.2.2 h C h1 h2 h3,scan,if_pos (by omega)]
  obtain ⟨y,c',O⟩:=N.sm.need A;have Y:=N.fed O;have eσ:=O.fed.σ;rw [MS.symL];rcases O.res with ⟨e,hk,_⟩ | ⟨e,h1,h2⟩ | ⟨e,h1⟩
  ·rw [e];have F':Fed c0 c':=⟨by rw [O.fed.σ,F.σ],O.fed.outs.trans F.outs,O.fed.ats.trans F.ats,O.fed.starts.trans F.starts,Nat.le_trans F.cnt O.fed.cnt,by rw [← F.mod,← O.fed.mod,Nat.mod_mod_of_dvd _ (Nat.pow_dvd_pow 2 F.cnt)],Nat.le_trans F.pre O.fed.pre,by have a:=F.tot;have b:=O.fed.tot;omega⟩
   rw [if_neg (by simp)];have hh:y.held=c'.σ.held:=O.sm.held;have hsc:=I.2.2 c'.σ.held c'.σ.count O.fed.cnt O.fed.mod O.sm.wf.held;have hn1:=I.2.1;rw [scan,if_neg (by omega)] at hsc;show Out q D s c (MS.symThen (if 0<=find (rset l) n ((2*code+y.held / 2^(n - 1)%2:Nat):Int) then _ else _) f);rw [hh];by_cases hfd:0<=find (rset l) n ((2*code+c'.σ.held / 2^(n - 1)%2:Nat):Int)
   ·rw [if_pos hfd] at hsc ⊢;exact (hf y c' _ _ Y F' hsc).after O.steps N.sm.wf
   ·rw [if_neg hfd];have hA':∀ h C,({ c'.σ with held:=h,count:=C }:St).act=({ c'.σ with held:=h,count:=C }:St).symbol l g:=fun h C=>by rw [eσ];exact hA h C
    exact (ih (n+1) _ y c' Y F' (I.next O.fed.cnt O.fed.mod hk hfd) hA' hf).after O.steps N.sm.wf
  ·rw [e,if_pos (by simp)];exact .hungry c' O.steps rfl Y h1 h2
  ·rw [e,if_pos (by simp [MS.refuse])];exact .dead c' 16 O.steps rfl (O.sm.dead (by decide) Y.mbd) h1
theorem y82{q:Quo}{D:Nat}{s:ByteArray}{l:List Int}{g:St->Nat->Act}{x:MS}{c:Cf}(N:Sn q D s x c)(hA:∀ h C,({ c.σ with held:=h,count:=C }:St).act=({ c.σ with held:=h,count:=C }:St).symbol l g)(f:MS->Nat->MS×Nat)
  (hf:∀ y c' k m,Sn q D s y c'->Fed c c'->jcs l c'.σ.held c'.σ.count= .hit k m->Out q D s c' (f (y.rd m) k)):Out q D s c (MS.symThen (x.sym l) f):=by
 unfold MS.sym;rw [vux];exact kgv f _ 1 0 x c N (Fed.refl N.sm.wf) (ScI.start l c.σ) hA hf
theorem xa2(r:MS×Nat)(f g:MS->MS×Nat):MS.andThen (MS.andThen r f) g=MS.andThen r (fun y=>MS.andThen (f y) g):=by
 unfold MS.andThen;by_cases h:r.2=0
 ·rw [if_pos h,if_pos h]
 ·rw [if_neg h,if_neg h,if_neg h]
theorem y9c(r:MS×Nat×Nat)(f:MS->Nat->MS×Nat)(g:MS->MS×Nat):MS.andThen (MS.symThen r f) g=MS.symThen r (fun y k=>MS.andThen (f y k) g):=by
 unfold MS.andThen MS.symThen;by_cases h:r.2.1=0
 ·rw [if_pos h,if_pos h]
 ·rw [if_neg h,if_neg h,if_neg h]
theorem xd7(x:MS)(g:MS->MS×Nat):MS.andThen (x,0) g=g x:=rfl
theorem zj4(x:MS)(e:Nat)(g:MS->MS×Nat):MS.andThen (x.refuse e) g=x.refuse e:=rfl
theorem Fed.st{c c':Cf}(F:Fed c c'):c'.σ.st=c.σ.st:=by rw [F.σ]
theorem Fed.fmt{c c':Cf}(F:Fed c c'):c'.σ.fmt=c.σ.fmt:=by rw [F.σ]
theorem yij{k n:Nat}{σ:St}(hst:σ.st=n)(h:∀ h c,c<k->St.actAt n { σ with held:=h,count:=c }= .take):xkr k σ:=fun H C _ _ _ hk=>by
 rw [St.act_at (show ({ σ with held:=H,count:=C }:St).st=n from hst)];exact h H C hk
theorem veo{σ σ':St}(W:St.Wf σ)(ha:σ.act= .tau σ'):St.Wf σ':=by
 have N:=St.next W;rw [ha] at N;exact N.1
theorem v1u{q:Quo}{D:Nat}{s:ByteArray}{x:MS}{c:Cf}(N:Sn q D s x c)(hst:c.σ.st=23):Out q D s c x.e24:=by
 refine j18 N (yij hst fun h C hk=>if_pos hk) _ fun y c' Y F hk=>?_
 have hst':c'.σ.st=23:=F.st.trans hst;have hc:c'.σ.count=8:=by
  have few:=Y.sm.wf.few;rw [hst'] at few;have few':c'.σ.count%8=0∧c'.σ.count<=8:=few;omega
 by_cases h2:y.fm=2
 ·rw [if_pos h2];exact .between c' (.refl c') rfl { Y.sm with sum:=fun h=>absurd rfl h } rfl Y.mb hst' (by rw [← Y.sm.fm];exact h2) hc Y.pre
 ·rw [if_neg h2];refine ja5 Y ?_ (by decide) rfl rfl rfl;rw [St.act_at hst'];show St.need c'.σ 8 _=_;unfold St.need;rw [if_neg (by omega),if_pos (by rw [← Y.sm.fm];exact h2)]
theorem kt5{q:Quo}{D:Nat}{s:ByteArray}{x:MS}{c:Cf}(N:Sn q D s x c)(hst:c.σ.st=22):Out q D s c x.e23:=by
 unfold MS.e23 MS.passSize;by_cases h2:x.fm=2
 ·have hf2:c.σ.fmt=2:=by rw [← N.sm.fm];exact h2
  rw [if_pos h2,xa2];refine j18 N (yij hst fun h C hk=>by simp only [St.actAt];rw [if_pos hf2];exact if_pos hk) _ fun y c' Y F hk=>?_
  have hst':c'.σ.st=22:=F.st.trans hst;have hact:c'.σ.act=if c'.σ.num 16=c'.σ.om.length%65536 then .tau { c'.σ.rd 16 with st:=23 } else .fail 13:=by
   rw [St.act_at hst'];simp only [St.actAt,St.need];rw [if_pos (F.fmt.trans hf2),if_neg (by omega)]
  have en:y.num 16=c'.σ.num 16:=by unfold MS.num St.num;rw [Y.sm.held]
  by_cases h3:y.num 16=y.size
  ·rw [if_pos h3,xd7];rw [if_pos (by rw [← en,h3,Y.sm.size])] at hact;refine xuc Y.sm.wf hact (by omega) (v1u ?_ rfl);exact ⟨{ Y.sm with
    wf:=veo Y.sm.wf hact
    sum:=fun _=>Y.sm.sum (by rw [Y.st];omega)
    held:=by show y.held / 2^16=c'.σ.held / 2^16;rw [Y.sm.held]
    count:=by show y.count - 16=c'.σ.count - 16;rw [Y.sm.count]
    nl:=fun h=>absurd h (show ¬ (10<=23∧23<=14) by decide)
    nd:=fun h=>absurd h (show ¬ (11<=23∧23<=14) by decide)
    told:=fun h=>absurd h (show ¬ (12<=23∧23<=14) by decide)
    hs:=fun h=>absurd h (show ¬ (13<=23∧23<=14) by decide)
    hk:=fun h=>absurd h (show ¬ (23=14) by decide)
    la:=fun h=>absurd h (show ¬ (15<=23∧23<=20) by decide) },rfl,Y.mb,Y.pre⟩
  ·rw [if_neg h3,zj4];rw [if_neg (by rw [← en,← Y.sm.size];exact h3)] at hact;exact ja5 Y hact (by decide) rfl rfl rfl
 ·rw [if_neg h2,xd7];have hact:c.σ.act= .tau { c.σ with st:=23 }:=by
   rw [St.act_at hst];simp only [St.actAt];rw [if_neg (by rw [← N.sm.fm];exact h2)]
  refine xuc N.sm.wf hact (by omega) (v1u ?_ rfl);exact ⟨{ N.sm with
   wf:=veo N.sm.wf hact
   sum:=fun _=>N.sm.sum (by rw [N.st];omega)
   nl:=fun h=>absurd h (show ¬ (10<=23∧23<=14) by decide)
   nd:=fun h=>absurd h (show ¬ (11<=23∧23<=14) by decide)
   told:=fun h=>absurd h (show ¬ (12<=23∧23<=14) by decide)
   hs:=fun h=>absurd h (show ¬ (13<=23∧23<=14) by decide)
   hk:=fun h=>absurd h (show ¬ (23=14) by decide)
   la:=fun h=>absurd h (show ¬ (15<=23∧23<=20) by decide) },rfl,N.mb,N.pre⟩
theorem jct(l:List Nat):∀ k,k<=l.length->sxy (fun k=>((l.getD k 0:Nat):Int)) k=(((sums (l.take k)).1:Int),((sums (l.take k)).2:Int)):=by
 intro k;induction k with
 | zero=>intro _;rfl
 | succ k ih=>
  intro hk;have e:l.take (k+1)=l.take k++[l.getD k 0]:=by
   rw [List.take_succ,List.getD_eq_getElem?_getD,List.getElem?_eq_getElem (by omega)];rfl
  rw [e,jod,sxy,ih (by omega)];simp
theorem khr(om:List Nat):Tr.sumL om=65536*((sums om).2:Int)+(sums om).1:=by
 unfold Tr.sumL;rw [jct om om.length (Nat.le_refl _),List.take_length]
theorem xwk{q:Quo}{D:Nat}{s:ByteArray}{x:MS}{c:Cf}(N:Sn q D s x c)(hst:c.σ.st=21):Out q D s c x.e22:=by
 unfold MS.e22 MS.passSum;by_cases h2:x.fm=0
 ·rw [if_pos h2,xd7];have hact:c.σ.act= .tau { c.σ with st:=22 }:=by
   rw [St.act_at hst];simp only [St.actAt];rw [if_pos (by rw [← N.sm.fm];exact h2)]
  refine xuc N.sm.wf hact (by omega) (kt5 ?_ rfl);exact ⟨{ N.sm with
   wf:=veo N.sm.wf hact
   sum:=fun _=>N.sm.sum (by rw [N.st];omega)
   nl:=fun h=>absurd h (show ¬ (10<=22∧22<=14) by decide)
   nd:=fun h=>absurd h (show ¬ (11<=22∧22<=14) by decide)
   told:=fun h=>absurd h (show ¬ (12<=22∧22<=14) by decide)
   hs:=fun h=>absurd h (show ¬ (13<=22∧22<=14) by decide)
   hk:=fun h=>absurd h (show ¬ (22=14) by decide)
   la:=fun h=>absurd h (show ¬ (15<=22∧22<=20) by decide) },rfl,N.mb,N.pre⟩
 ·have hf2:¬ c.σ.fmt=0:=by rw [← N.sm.fm];exact h2
  rw [if_neg h2,xa2];refine j18 N (yij hst fun h C hk=>by simp only [St.actAt];rw [if_neg hf2];exact if_pos hk) _ fun y c' Y F hk=>?_
  have hst':c'.σ.st=21:=F.st.trans hst;have hact:c'.σ.act=if (big4 c'.σ.held:Int)=Tr.sumL c'.σ.om then .tau { c'.σ.rd 32 with st:=22 } else .fail 12:=by
   rw [St.act_at hst'];simp only [St.actAt,St.need];rw [if_neg (by rw [F.fmt];exact hf2),if_neg (by omega)]
  have hsm:=Y.sm.sum (by rw [Y.st];omega);have hs1:y.sx=(sums c'.σ.om).1:=by rw [← hsm]
  have hs2:y.sy=(sums c'.σ.om).2:=by rw [← hsm]
  have en:big4 y.held=65536*y.sy+y.sx↔(big4 c'.σ.held:Int)=Tr.sumL c'.σ.om:=by
   rw [khr,Y.sm.held,hs1,hs2];omega
  by_cases h3:big4 y.held=65536*y.sy+y.sx
  ·rw [if_pos h3,xd7];rw [if_pos (en.1 h3)] at hact;refine xuc Y.sm.wf hact (by omega) (kt5 ?_ rfl);exact ⟨{ Y.sm with
    wf:=veo Y.sm.wf hact
    sum:=fun _=>Y.sm.sum (by rw [Y.st];omega)
    held:=by show y.held / 2^32=c'.σ.held / 2^32;rw [Y.sm.held]
    count:=by show y.count - 32=c'.σ.count - 32;rw [Y.sm.count]
    nl:=fun h=>absurd h (show ¬ (10<=22∧22<=14) by decide)
    nd:=fun h=>absurd h (show ¬ (11<=22∧22<=14) by decide)
    told:=fun h=>absurd h (show ¬ (12<=22∧22<=14) by decide)
    hs:=fun h=>absurd h (show ¬ (13<=22∧22<=14) by decide)
    hk:=fun h=>absurd h (show ¬ (22=14) by decide)
    la:=fun h=>absurd h (show ¬ (15<=22∧22<=20) by decide) },rfl,Y.mb,Y.pre⟩
  ·rw [if_neg h3,zj4];rw [if_neg (fun h=>h3 (en.2 h))] at hact;exact ja5 Y hact (by decide) rfl rfl rfl
theorem sim_end{q:Quo}{D:Nat}{s:ByteArray}{x:MS}{c:Cf}(N:Sn q D s x c)(σ0:St)(y:MS)(h0:σ0={ c.σ with held:=σ0.held,count:=σ0.count })(hy:y={ x with held:=σ0.held,count:=σ0.count })(hact:c.σ.act=σ0.endBlock)(h23:c.σ.st≠23)(hh:σ0.held<2^σ0.count):Out q D s c y.endBlock:=by
 have hl:y.last=σ0.last:=by rw [hy,h0];exact N.sm.last
 unfold MS.endBlock;unfold St.endBlock at hact;by_cases h1:y.last=true
 ·rw [if_pos h1];rw [if_pos (by rw [← hl];exact h1)] at hact;unfold MS.skipBits;have en:({ y with st:=22 }:MS).num ({ y with st:=22 }:MS).count=σ0.held:=by
   show y.held%2^y.count=σ0.held;rw [hy];exact Nat.mod_eq_of_lt hh
  rw [en];by_cases h2:σ0.held=0
  ·rw [if_neg (by simp [h2])] at hact;rw [if_pos h2];refine jyp N.sm.wf hact h23 ?_
   have e1:({ y with st:=22 }:MS).rd ({ y with st:=22 }:MS).count={ x with held:=0,count:=0,st:=22 }:=by
    unfold MS.rd;rw [hy];simp [h2]
   rw [e1];rw [h0] at hact ⊢;exact ⟨{ N.sm with
    wf:=veo N.sm.wf hact
    sum:=fun _=>N.sm.sum (by rw [N.st];omega)
    held:=rfl
    count:=rfl
    nl:=fun h=>absurd h (show ¬ (10<=21∧21<=14) by decide)
    nd:=fun h=>absurd h (show ¬ (11<=21∧21<=14) by decide)
    told:=fun h=>absurd h (show ¬ (12<=21∧21<=14) by decide)
    hs:=fun h=>absurd h (show ¬ (13<=21∧21<=14) by decide)
    hk:=fun h=>absurd h (show ¬ (21=14) by decide)
    la:=fun h=>absurd h (show ¬ (15<=21∧21<=20) by decide) },rfl,N.mb,N.pre⟩
  ·rw [if_pos h2] at hact;rw [if_neg h2];exact ja5 N hact (by decide) (by rw [hy];rfl) (by rw [hy];rfl) (by rw [hy];rfl)
 ·rw [if_neg h1];rw [if_neg (by rw [← hl];exact h1)] at hact;refine jyp N.sm.wf hact h23 ?_
  rw [hy];rw [h0] at hact ⊢;exact ⟨{ N.sm with
   wf:=veo N.sm.wf hact
   sum:=fun _=>N.sm.sum (by rw [N.st];omega)
   held:=rfl
   count:=rfl
   nl:=fun h=>absurd h (show ¬ (10<=6∧6<=14) by decide)
   nd:=fun h=>absurd h (show ¬ (11<=6∧6<=14) by decide)
   told:=fun h=>absurd h (show ¬ (12<=6∧6<=14) by decide)
   hs:=fun h=>absurd h (show ¬ (13<=6∧6<=14) by decide)
   hk:=fun h=>absurd h (show ¬ (6=14) by decide)
   la:=fun h=>absurd h (show ¬ (15<=6∧6<=20) by decide) },rfl,N.mb,N.pre⟩
theorem j6i{σ σ':St}{b:Nat}(W:St.Wf σ)(ha:σ.act= .put b σ'):St.Wf σ':=by
 have N:=St.next W;rw [ha] at N;exact N.1
theorem kjh{q:Quo}{D:Nat}{s:ByteArray}{x:MS}{c:Cf}(N:Sn q D s x c):x={ x with held:=c.σ.held,count:=c.σ.count }:=by rw [← N.sm.held,← N.sm.count]
theorem Fed.left{c c':Cf}(F:Fed c c'):c'.σ.left=c.σ.left:=by rw [F.σ]
theorem y6a{q:Quo}{D:Nat}{s:ByteArray}(n:Nat):∀ {x:MS} {c:Cf},Sn q D s x c->c.σ.st=8->x.left=n->Out q D s c (MS.plainL n x):=by
 induction n with
 | zero=>
  intro x c N hst hl;have hl':c.σ.left=0:=by rw [← N.sm.left];exact hl
  refine sim_end N c.σ x rfl (kjh N) ?_ (by omega) N.sm.wf.held;rw [St.act_at hst];exact if_pos hl'
 | succ n ih=>
  intro x c N hst hl;have hl':c.σ.left=n+1:=by rw [← N.sm.left];exact hl
  refine j18 N (yij hst fun h C hk=>by simp only [St.actAt];rw [if_neg (by rw [hl'];omega)];exact if_pos hk) _ fun y c' Y F hk=>?_
  have hst':c'.σ.st=8:=F.st.trans hst;have hl2:c'.σ.left=n+1:=F.left.trans hl';have en:y.num 8=c'.σ.num 8:=by unfold MS.num St.num;rw [Y.sm.held]
  have hact:c'.σ.act= .put (y.num 8) { c'.σ.rd 8 with left:=c'.σ.left - 1,om:=c'.σ.om++[y.num 8] }:=by
   rw [St.act_at hst'];simp only [St.actAt,St.need];rw [if_neg (by omega),if_neg (by omega),en]
  refine z9q Y hact _ fun P=>ih ?_ hst' rfl
  exact ⟨{ Y.sm with
   wf:=j6i Y.sm.wf hact
   sum:=fun _=>P.sum
   held:=by show y.held / 2^8=c'.σ.held / 2^8;rw [Y.sm.held]
   count:=by show y.count - 8=c'.σ.count - 8;rw [Y.sm.count]
   pu:=P.pu
   qa:=P.qa
   dle:=P.dle
   qc:=P.qc
   sumle:=P.sumle
   size:=P.size
   stp:=P.stp
   left:=by show n=c'.σ.left - 1;omega
   nl:=fun h=>absurd h (show ¬ (10<=c'.σ.st∧c'.σ.st<=14) by omega)
   nd:=fun h=>absurd h (show ¬ (11<=c'.σ.st∧c'.σ.st<=14) by omega)
   told:=fun h=>absurd h (show ¬ (12<=c'.σ.st∧c'.σ.st<=14) by omega)
   hs:=fun h=>absurd h (show ¬ (13<=c'.σ.st∧c'.σ.st<=14) by omega)
   hk:=fun h=>absurd h (show ¬ (c'.σ.st=14) by omega)
   la:=fun h=>absurd h (show ¬ (15<=c'.σ.st∧c'.σ.st<=20) by omega) },Y.st,Y.mb,Y.pre⟩
theorem x0v{q:Quo}{D:Nat}{s:ByteArray}{x:MS}{c:Cf}(N:Sn q D s x c)(hst:c.σ.st=8):Out q D s c x.b9:=y6a x.left N hst rfl
theorem xr3{q:Quo}{D:Nat}{s:ByteArray}{x:MS}{c:Cf}(N:Sn q D s x c)(hst:c.σ.st=7):Out q D s c x.b8:=by
 refine j18 N (yij hst fun h C hk=>if_pos hk) _ fun y c' Y F hk=>?_
 have hst':c'.σ.st=7:=F.st.trans hst;have en:y.num 16=c'.σ.num 16:=by unfold MS.num St.num;rw [Y.sm.held]
 have hact:c'.σ.act=if c'.σ.held / 65536%65536=65535 - c'.σ.num 16 then .tau { c'.σ.rd 32 with left:=c'.σ.num 16,st:=8 } else .fail 9:=by
  rw [St.act_at hst'];simp only [St.actAt,St.need];rw [if_neg (by omega)]
 rw [Y.sm.held,en];by_cases h3:c'.σ.held / 65536%65536=65535 - c'.σ.num 16
 ·rw [if_pos h3] at hact ⊢;refine xuc Y.sm.wf hact (by omega) (x0v ?_ rfl);exact ⟨{ Y.sm with
   wf:=veo Y.sm.wf hact
   sum:=fun _=>Y.sm.sum (by rw [Y.st];omega)
   held:=by show y.held / 2^32=c'.σ.held / 2^32;rw [Y.sm.held]
   count:=by show y.count - 32=c'.σ.count - 32;rw [Y.sm.count]
   left:=rfl
   nl:=fun h=>absurd h (show ¬ (10<=8∧8<=14) by decide)
   nd:=fun h=>absurd h (show ¬ (11<=8∧8<=14) by decide)
   told:=fun h=>absurd h (show ¬ (12<=8∧8<=14) by decide)
   hs:=fun h=>absurd h (show ¬ (13<=8∧8<=14) by decide)
   hk:=fun h=>absurd h (show ¬ (8=14) by decide)
   la:=fun h=>absurd h (show ¬ (15<=8∧8<=20) by decide) },rfl,Y.mb,Y.pre⟩
 ·rw [if_neg h3] at hact ⊢;exact ja5 Y hact (by decide) rfl rfl rfl
theorem j1k{q:Quo}{D:Nat}{s:ByteArray}{x:MS}{c:Cf}(N:Sn q D s x c)(hst:c.σ.st=6):Out q D s c x.b7:=by
 refine j18 N (yij hst fun h C hk=>if_pos hk) _ fun y c' Y F hk=>?_
 have hst':c'.σ.st=6:=F.st.trans hst;have e1:y.num 1=c'.σ.num 1:=by unfold MS.num St.num;rw [Y.sm.held]
 have hact:c'.σ.act=c'.σ.kind:=by
  rw [St.act_at hst'];simp only [St.actAt,St.need];rw [if_neg (by omega)]
 unfold MS.kind;unfold St.kind at hact;rw [Y.sm.held];have hhd:=Y.sm.wf.held;by_cases h0:c'.σ.held / 2%4=0
 ·rw [if_pos h0] at hact ⊢;unfold MS.skipBits;have en:({ y.rd 3 with last:=y.num 1==1,st:=8 }:MS).num ({ y.rd 3 with last:=y.num 1==1,st:=8 }:MS).count=c'.σ.held / 2^3:=by
   show y.held / 2^3%2^(y.count - 3)=c'.σ.held / 2^3;rw [Y.sm.held,Y.sm.count];exact Nat.mod_eq_of_lt (St.held_rd Y.sm.wf hk)
  rw [en];by_cases h2:c'.σ.held / 2^3=0
  ·rw [if_neg (by show ¬ c'.σ.held / 2^3≠0;simp [h2])] at hact;rw [if_pos h2];refine jyp Y.sm.wf hact (by omega) ?_
   have e3:({ y.rd 3 with last:=y.num 1==1,st:=8 }:MS).rd ({ y.rd 3 with last:=y.num 1==1,st:=8 }:MS).count={ y with held:=0,count:=0,last:=y.num 1==1,st:=8 }:=by
    unfold MS.rd;simp [Y.sm.held,h2]
   rw [e3,e1];exact ⟨{ Y.sm with
    wf:=veo Y.sm.wf hact
    sum:=fun _=>Y.sm.sum (by rw [Y.st];omega)
    held:=rfl
    count:=rfl
    last:=rfl
    nl:=fun h=>absurd h (show ¬ (10<=7∧7<=14) by decide)
    nd:=fun h=>absurd h (show ¬ (11<=7∧7<=14) by decide)
    told:=fun h=>absurd h (show ¬ (12<=7∧7<=14) by decide)
    hs:=fun h=>absurd h (show ¬ (13<=7∧7<=14) by decide)
    hk:=fun h=>absurd h (show ¬ (7=14) by decide)
    la:=fun h=>absurd h (show ¬ (15<=7∧7<=20) by decide) },rfl,Y.mb,Y.pre⟩
  ·have hact2:c'.σ.act= .fail 8:=by rw [hact];exact if_pos h2
   rw [if_neg h2];exact ja5 Y hact2 (by decide) rfl rfl rfl
 ·rw [if_neg h0] at hact ⊢;by_cases h1:c'.σ.held / 2%4=1
  ·rw [if_pos h1] at hact ⊢;refine jyp Y.sm.wf hact (by omega) ?_
   rw [e1];exact ⟨{ Y.sm with
    wf:=veo Y.sm.wf hact
    sum:=fun _=>Y.sm.sum (by rw [Y.st];omega)
    held:=by show y.held / 2^3=c'.σ.held / 2^3;rw [Y.sm.held]
    count:=by show y.count - 3=c'.σ.count - 3;rw [Y.sm.count]
    last:=rfl
    nl:=fun h=>absurd h (show ¬ (10<=16∧16<=14) by decide)
    nd:=fun h=>absurd h (show ¬ (11<=16∧16<=14) by decide)
    told:=fun h=>absurd h (show ¬ (12<=16∧16<=14) by decide)
    hs:=fun h=>absurd h (show ¬ (13<=16∧16<=14) by decide)
    hk:=fun h=>absurd h (show ¬ (16=14) by decide)
    la:=fun _=>⟨rfl,rfl⟩ },rfl,Y.mb,Y.pre⟩
  ·rw [if_neg h1] at hact ⊢;by_cases h2:c'.σ.held / 2%4=2
   ·rw [if_pos h2] at hact ⊢;refine jyp Y.sm.wf hact (by omega) ?_
    rw [e1];exact ⟨{ Y.sm with
     wf:=veo Y.sm.wf hact
     sum:=fun _=>Y.sm.sum (by rw [Y.st];omega)
     held:=by show y.held / 2^3=c'.σ.held / 2^3;rw [Y.sm.held]
     count:=by show y.count - 3=c'.σ.count - 3;rw [Y.sm.count]
     last:=rfl
     nl:=fun h=>absurd h (show ¬ (10<=9∧9<=14) by decide)
     nd:=fun h=>absurd h (show ¬ (11<=9∧9<=14) by decide)
     told:=fun h=>absurd h (show ¬ (12<=9∧9<=14) by decide)
     hs:=fun h=>absurd h (show ¬ (13<=9∧9<=14) by decide)
     hk:=fun h=>absurd h (show ¬ (9=14) by decide)
     la:=fun h=>absurd h (show ¬ (15<=9∧9<=20) by decide) },rfl,Y.mb,Y.pre⟩
   ·rw [if_neg h2] at hact ⊢;exact ja5 Y hact (by decide) rfl rfl rfl
theorem Fed.told{c c':Cf}(F:Fed c c'):c'.σ.told=c.σ.told:=by rw [F.σ]
theorem Fed.hl{c c':Cf}(F:Fed c c'):c'.σ.hl=c.σ.hl:=by rw [F.σ]
theorem yr0{q:Quo}{D:Nat}{s:ByteArray}(n:Nat):∀ {x:MS} {c:Cf},Sn q D s x c->c.σ.st=12->x.told - x.hl.length=n->Out q D s c (MS.hlL n x):=by
 induction n with
 | zero=>
  intro x c N hst hl;have ht:=N.sm.told (by rw [hst];decide);rw [ht,N.sm.hl] at hl;have hact:c.σ.act=if jwa gw (hset c.σ.hl)=2048 then .tau { c.σ with hs:=hset c.σ.hl,st:=13 } else .fail 10:=by
   rw [St.act_at hst];simp only [St.actAt];rw [if_neg (by omega)]
  show Out q D s c (MS.helpersMade x);unfold MS.helpersMade;rw [N.sm.hl];by_cases h1:jwa gw (hset c.σ.hl)=2048
  ·rw [if_pos h1] at hact ⊢;refine jyp N.sm.wf hact (by omega) ?_
   exact ⟨{ N.sm with
    wf:=veo N.sm.wf hact
    sum:=fun _=>N.sm.sum (by rw [N.st];omega)
    hl:=rfl
    nl:=fun _=>N.sm.nl (by rw [hst];decide)
    nd:=fun _=>N.sm.nd (by rw [hst];decide)
    told:=fun _=>N.sm.told (by rw [hst];decide)
    hs:=fun _=>rfl
    hk:=fun h=>absurd h (show ¬ (13=14) by decide)
    la:=fun h=>absurd h (show ¬ (15<=13∧13<=20) by decide) },rfl,N.mb,N.pre⟩
  ·rw [if_neg h1] at hact ⊢;exact ja5 N hact (by decide) rfl rfl rfl
 | succ n ih=>
  intro x c N hst hl;have ht:=N.sm.told (by rw [hst];decide);rw [ht,N.sm.hl] at hl;refine j18 N (yij hst fun h C hk=>by simp only [St.actAt];rw [if_pos (by omega)];exact if_pos hk) _ fun y c' Y F hk=>?_
  have hst':c'.σ.st=12:=F.st.trans hst;have en:y.num 3=c'.σ.num 3:=by unfold MS.num St.num;rw [Y.sm.held]
  have hact:c'.σ.act= .tau { c'.σ.rd 3 with hl:=c'.σ.hl++[(c'.σ.num 3:Int)] }:=by
   rw [St.act_at hst'];simp only [St.actAt,St.need];rw [if_pos (by rw [F.hl,F.told];omega),if_neg (by omega)]
  have ht2:=Y.sm.told (by rw [hst'];decide);refine xuc Y.sm.wf hact (by omega) (ih ?_ hst' ?_)
  ·rw [en];exact ⟨{ Y.sm with
    wf:=veo Y.sm.wf hact
    sum:=fun _=>Y.sm.sum (by rw [Y.st];omega)
    held:=by show y.held / 2^3=c'.σ.held / 2^3;rw [Y.sm.held]
    count:=by show y.count - 3=c'.σ.count - 3;rw [Y.sm.count]
    hl:=by show y.hl++[_]=c'.σ.hl++[_];rw [Y.sm.hl]
    nl:=fun _=>Y.sm.nl (by rw [hst'];decide)
    nd:=fun _=>Y.sm.nd (by rw [hst'];decide)
    told:=fun _=>Y.sm.told (by rw [hst'];decide)
    hs:=fun h=>absurd h (show ¬ (13<=c'.σ.st∧c'.σ.st<=14) by omega)
    hk:=fun h=>absurd h (show ¬ (c'.σ.st=14) by omega)
    la:=fun h=>absurd h (show ¬ (15<=c'.σ.st∧c'.σ.st<=20) by omega) },Y.st,Y.mb,Y.pre⟩
  ·show y.told - (y.hl++[_]).length=n;rw [ht2,Y.sm.hl,F.told,F.hl,List.length_append,List.length_singleton];omega
theorem z6i{q:Quo}{D:Nat}{s:ByteArray}{x:MS}{c:Cf}(N:Sn q D s x c)(hst:c.σ.st=12):Out q D s c x.o13:=yr0 _ N hst rfl
theorem y7i{q:Quo}{D:Nat}{s:ByteArray}{x:MS}{c:Cf}(N:Sn q D s x c)(hst:c.σ.st=11):Out q D s c x.o12:=by
 refine j18 N (yij hst fun h C hk=>if_pos hk) _ fun y c' Y F hk=>?_
 have hst':c'.σ.st=11:=F.st.trans hst;have en:y.num 4=c'.σ.num 4:=by unfold MS.num St.num;rw [Y.sm.held]
 have hact:c'.σ.act=if 11<c'.σ.num 4 then .fail 10 else .tau { c'.σ.rd 4 with told:=4+c'.σ.num 4,st:=12 }:=by
  rw [St.act_at hst'];simp only [St.actAt,St.need];rw [if_neg (by omega)]
 rw [en];by_cases h1:11<c'.σ.num 4
 ·rw [if_pos h1] at hact ⊢;exact ja5 Y hact (by decide) rfl rfl rfl
 ·rw [if_neg h1] at hact ⊢;refine xuc Y.sm.wf hact (by omega) (z6i ?_ rfl);exact ⟨{ Y.sm with
   wf:=veo Y.sm.wf hact
   sum:=fun _=>Y.sm.sum (by rw [Y.st];omega)
   held:=by show y.held / 2^4=c'.σ.held / 2^4;rw [Y.sm.held]
   count:=by show y.count - 4=c'.σ.count - 4;rw [Y.sm.count]
   nl:=fun _=>Y.sm.nl (by rw [hst'];decide)
   nd:=fun _=>Y.sm.nd (by rw [hst'];decide)
   told:=fun _=>rfl
   hs:=fun h=>absurd h (show ¬ (13<=12∧12<=14) by decide)
   hk:=fun h=>absurd h (show ¬ (12=14) by decide)
   la:=fun h=>absurd h (show ¬ (15<=12∧12<=20) by decide) },rfl,Y.mb,Y.pre⟩
theorem jjs{q:Quo}{D:Nat}{s:ByteArray}{x:MS}{c:Cf}(N:Sn q D s x c)(hst:c.σ.st=10):Out q D s c x.o11:=by
 refine j18 N (yij hst fun h C hk=>if_pos hk) _ fun y c' Y F hk=>?_
 have hst':c'.σ.st=10:=F.st.trans hst;have en:y.num 4=c'.σ.num 4:=by unfold MS.num St.num;rw [Y.sm.held]
 have hact:c'.σ.act= .tau { c'.σ.rd 4 with nd:=1+c'.σ.num 4,st:=11 }:=by
  rw [St.act_at hst'];simp only [St.actAt,St.need];rw [if_neg (by omega)]
 rw [en];refine xuc Y.sm.wf hact (by omega) (y7i ?_ rfl);exact ⟨{ Y.sm with
  wf:=veo Y.sm.wf hact
  sum:=fun _=>Y.sm.sum (by rw [Y.st];omega)
  held:=by show y.held / 2^4=c'.σ.held / 2^4;rw [Y.sm.held]
  count:=by show y.count - 4=c'.σ.count - 4;rw [Y.sm.count]
  nl:=fun _=>Y.sm.nl (by rw [hst'];decide)
  nd:=fun _=>rfl
  told:=fun h=>absurd h (show ¬ (12<=11∧11<=14) by decide)
  hs:=fun h=>absurd h (show ¬ (13<=11∧11<=14) by decide)
  hk:=fun h=>absurd h (show ¬ (11=14) by decide)
  la:=fun h=>absurd h (show ¬ (15<=11∧11<=20) by decide) },rfl,Y.mb,Y.pre⟩
theorem ken{q:Quo}{D:Nat}{s:ByteArray}{x:MS}{c:Cf}(N:Sn q D s x c)(hst:c.σ.st=9):Out q D s c x.o10:=by
 refine j18 N (yij hst fun h C hk=>if_pos hk) _ fun y c' Y F hk=>?_
 have hst':c'.σ.st=9:=F.st.trans hst;have en:y.num 4=c'.σ.num 4:=by unfold MS.num St.num;rw [Y.sm.held]
 have hact:c'.σ.act=if 12<c'.σ.num 4 then .fail 10 else .tau { c'.σ.rd 4 with nl:=257+c'.σ.num 4,st:=10 }:=by
  rw [St.act_at hst'];simp only [St.actAt,St.need];rw [if_neg (by omega)]
 rw [en];by_cases h1:12<c'.σ.num 4
 ·rw [if_pos h1] at hact ⊢;exact ja5 Y hact (by decide) rfl rfl rfl
 ·rw [if_neg h1] at hact ⊢;refine xuc Y.sm.wf hact (by omega) (jjs ?_ rfl);exact ⟨{ Y.sm with
   wf:=veo Y.sm.wf hact
   sum:=fun _=>Y.sm.sum (by rw [Y.st];omega)
   held:=by show y.held / 2^4=c'.σ.held / 2^4;rw [Y.sm.held]
   count:=by show y.count - 4=c'.σ.count - 4;rw [Y.sm.count]
   nl:=fun _=>rfl
   nd:=fun h=>absurd h (show ¬ (11<=10∧10<=14) by decide)
   told:=fun h=>absurd h (show ¬ (12<=10∧10<=14) by decide)
   hs:=fun h=>absurd h (show ¬ (13<=10∧10<=14) by decide)
   hk:=fun h=>absurd h (show ¬ (10=14) by decide)
   la:=fun h=>absurd h (show ¬ (15<=10∧10<=20) by decide) },rfl,Y.mb,Y.pre⟩
theorem vqi{q:Quo}{D:Nat}{s:ByteArray}{x:MS}{c:Cf}(N:Sn q D s x c)(hst:c.σ.st=14):Out q D s c x.r15:=by
 obtain ⟨k1,k2,k3,k4⟩:=N.sm.hk hst;unfold MS.r15;rw [k3,k4];refine zyc (k:=hbits c.σ.hk) _ N (yij hst fun h C hk=>if_pos hk) _ fun y c' Y F hk=>?_
 have hst':c'.σ.st=14:=F.st.trans hst;have ehk:c'.σ.hk=c.σ.hk:=by rw [F.σ]
 rw [← ehk] at hk ⊢;obtain ⟨j1,j2,j3,j4⟩:=Y.sm.hk hst';have W:=Y.sm.wf;have en:∀ k,y.num k=c'.σ.num k:=fun k=>by unfold MS.num St.num;rw [Y.sm.held]
 have hnl:y.nl=c'.σ.nl:=Y.sm.nl (by rw [hst'];decide);have hnd:y.nd=c'.σ.nd:=Y.sm.nd (by rw [hst'];decide);have hact:c'.σ.act=c'.σ.rowNumber:=by
  rw [St.act_at hst'];simp only [St.actAt,St.need];rw [if_neg (by omega)]
 obtain ⟨T,hT⟩:∃ T,T=hleast c'.σ.hk+c'.σ.num (hbits c'.σ.hk):=⟨_,rfl⟩
 unfold St.rowNumber at hact;rw [en];simp only [← hT] at hact ⊢;have hrl:(y.rd (hbits c'.σ.hk)).rowLen=hval c'.σ.hk c'.σ.row:=by
  unfold MS.rowLen hval;show (if y.hbef=true then y.row.getD (y.row.length - 1) 0 else (y.hlen:Int))=_;rw [j2,Y.sm.row,j1];by_cases q12:c'.σ.hk=12
  ·simp [q12]
  ·by_cases q13:c'.σ.hk=13
   ·simp [q13]
   ·by_cases q14:c'.σ.hk=14
    ·simp [q14]
    ·simp [q12,q13,q14]
 have hb:((y.rd (hbits c'.σ.hk)).hbef=true∧(y.rd (hbits c'.σ.hk)).row.length=0)↔(c'.σ.hk=12∧c'.σ.row.length=0):=by
  show (y.hbef=true∧y.row.length=0)↔_;rw [j2,Y.sm.row];simp
 have hn2:((y.rd (hbits c'.σ.hk)).nl+(y.rd (hbits c'.σ.hk)).nd<(y.rd (hbits c'.σ.hk)).row.length+T)↔(c'.σ.nl+c'.σ.nd<c'.σ.row.length+T):=by
  show (y.nl+y.nd<y.row.length+T)↔_;rw [hnl,hnd,Y.sm.row]
 by_cases h1:c'.σ.hk=12∧c'.σ.row.length=0
 ·rw [if_pos h1] at hact;rw [if_pos (Or.inl (hb.2 h1))];exact ja5 Y hact (by decide) rfl rfl rfl
 ·rw [if_neg h1] at hact;by_cases h2:c'.σ.nl+c'.σ.nd<c'.σ.row.length+T
  ·rw [if_pos h2] at hact;rw [if_pos (Or.inr (hn2.2 h2))];exact ja5 Y hact (by decide) rfl rfl rfl
  ·rw [if_neg h2] at hact;rw [if_neg (fun h=>h.elim (fun h=>h1 (hb.1 h)) (fun h=>h2 (hn2.1 h))),hrl];have hrow:(y.rd (hbits c'.σ.hk)).row=c'.σ.row:=Y.sm.row;rw [hrow];obtain ⟨R,hR⟩:∃ R,R=c'.σ.row++List.replicate T (hval c'.σ.hk c'.σ.row):=⟨_,rfl⟩
   rw [← hR] at hact ⊢;show Out q D s c' (if R.length=y.nl+y.nd then MS.endRow { y.rd (hbits c'.σ.hk) with row:=R,st:=14 } else ({ y.rd (hbits c'.σ.hk) with row:=R,st:=14 },0));by_cases h3:R.length=c'.σ.nl+c'.σ.nd
   ·have hact2:c'.σ.act=({ c'.σ.rd (hbits c'.σ.hk) with row:=R,st:=13 }:St).endRow:=by rw [hact];exact if_pos h3
    rw [if_pos (by rw [hnl,hnd];exact h3)];unfold St.endRow at hact2;rw [show MS.endRow { y.rd (hbits c'.σ.hk) with row:=R,st:=14 }=if jcj (R.take y.nl) (R.drop y.nl) then ({ y.rd (hbits c'.σ.hk) with row:=R,st:=14 }:MS).refuse 10 else ({ y.rd (hbits c'.σ.hk) with la:=R.take y.nl,lb:=R.drop y.nl,nl:=0,nd:=0,told:=0,hl:=[],hs:=[],hlen:=0,hbef:=false,hleast:=0,hbits:=0,row:=[],st:=17 },0) from rfl];have hbs:jcj (R.take y.nl) (R.drop y.nl)↔jcj (R.take c'.σ.nl) (R.drop c'.σ.nl):=by rw [hnl]
    by_cases h4:jcj (R.take c'.σ.nl) (R.drop c'.σ.nl)
    ·have hact3:c'.σ.act= .fail 10:=by rw [hact2];exact if_pos h4
     rw [if_pos (hbs.2 h4)];exact ja5 Y hact3 (by decide) rfl rfl rfl
    ·have hact3:c'.σ.act= .tau { c'.σ.rd (hbits c'.σ.hk) with la:=R.take c'.σ.nl,lb:=R.drop c'.σ.nl,hl:=[],hs:=[],row:=[],st:=16 }:=by rw [hact2];exact if_neg h4
     rw [if_neg (fun h=>h4 (hbs.1 h))];refine jyp W hact3 (by omega) ?_
     exact ⟨{ Y.sm with
      wf:=veo Y.sm.wf hact3
      sum:=fun _=>Y.sm.sum (by rw [Y.st];omega)
      held:=by show y.held / 2^(hbits c'.σ.hk)=c'.σ.held / 2^(hbits c'.σ.hk);rw [Y.sm.held]
      count:=by show y.count - (hbits c'.σ.hk)=c'.σ.count - (hbits c'.σ.hk);rw [Y.sm.count]
      hl:=rfl
      row:=rfl
      nl:=fun h=>absurd h (show ¬ (10<=16∧16<=14) by decide)
      nd:=fun h=>absurd h (show ¬ (11<=16∧16<=14) by decide)
      told:=fun h=>absurd h (show ¬ (12<=16∧16<=14) by decide)
      hs:=fun h=>absurd h (show ¬ (13<=16∧16<=14) by decide)
      hk:=fun h=>absurd h (show ¬ (16=14) by decide)
      la:=fun _=>⟨by show R.take y.nl=R.take c'.σ.nl;rw [hnl],by show R.drop y.nl=R.drop c'.σ.nl;rw [hnl]⟩ },rfl,Y.mb,Y.pre⟩
   ·have hact2:c'.σ.act= .tau { c'.σ.rd (hbits c'.σ.hk) with row:=R,st:=13 }:=by rw [hact];exact if_neg h3
    rw [if_neg (by rw [hnl,hnd];exact h3)];refine jyp W hact2 (by omega) ?_
    exact ⟨{ Y.sm with
     wf:=veo Y.sm.wf hact2
     sum:=fun _=>Y.sm.sum (by rw [Y.st];omega)
     held:=by show y.held / 2^(hbits c'.σ.hk)=c'.σ.held / 2^(hbits c'.σ.hk);rw [Y.sm.held]
     count:=by show y.count - (hbits c'.σ.hk)=c'.σ.count - (hbits c'.σ.hk);rw [Y.sm.count]
     row:=rfl
     nl:=fun _=>Y.sm.nl (by rw [hst'];decide)
     nd:=fun _=>Y.sm.nd (by rw [hst'];decide)
     told:=fun _=>Y.sm.told (by rw [hst'];decide)
     hs:=fun _=>Y.sm.hs (by rw [hst'];decide)
     hk:=fun h=>absurd h (show ¬ (13=14) by decide)
     la:=fun h=>absurd h (show ¬ (15<=13∧13<=20) by decide) },rfl,Y.mb,Y.pre⟩
theorem x0r{σ:St}{l:List Int}{g:St->Nat->Act}{k m:Nat}(h:jcs l σ.held σ.count= .hit k m):σ.symbol l g=g (σ.rd m) k:=by
 unfold St.symbol;rw [h]
theorem ke9{q:Quo}{D:Nat}{s:ByteArray}{x:MS}{c:Cf}(N:Sn q D s x c)(hst:c.σ.st=13):Out q D s c x.r14:=by
 have hhs:=N.sm.hs (by rw [hst];decide);unfold MS.r14;rw [hhs];refine y82 (g:=fun τ k=> .tau { τ with hk:=k,st:=14 }) N (fun h C=>by rw [St.act_at (show ({ c.σ with held:=h,count:=C }:St).st=13 from hst)];rfl) _ fun y c' k m Y F hk=>?_
 have hst':c'.σ.st=13:=F.st.trans hst;have ehs:c'.σ.hs=c.σ.hs:=by rw [F.σ]
 have hact:c'.σ.act= .tau { c'.σ.rd m with hk:=k,st:=14 }:=by
  rw [St.act_at hst'];show c'.σ.symbol c'.σ.hs (fun τ k=> .tau { τ with hk:=k,st:=14 })=_;rw [ehs,x0r hk]
 refine xuc Y.sm.wf hact (by omega) (vqi ?_ rfl);exact ⟨{ Y.sm with
  wf:=veo Y.sm.wf hact
  sum:=fun _=>Y.sm.sum (by rw [Y.st];omega)
  held:=by show y.held / 2^m=c'.σ.held / 2^m;rw [Y.sm.held]
  count:=by show y.count - m=c'.σ.count - m;rw [Y.sm.count]
  nl:=fun _=>Y.sm.nl (by rw [hst'];decide)
  nd:=fun _=>Y.sm.nd (by rw [hst'];decide)
  told:=fun _=>Y.sm.told (by rw [hst'];decide)
  hs:=fun _=>Y.sm.hs (by rw [hst'];decide)
  hk:=fun _=>⟨rfl,rfl,rfl,rfl⟩
  la:=fun h=>absurd h (show ¬ (15<=14∧14<=20) by decide) },rfl,Y.mb,Y.pre⟩
theorem ymi{om:List Nat}{d:Nat}(h1:1<=d)(h2:d<=om.length)(h3:d<=256):(om.drop (om.length - 256)).getD ((om.drop (om.length - 256)).length - d) 0=om.getD (om.length - d) 0:=by
 rw [List.getD_eq_getElem?_getD,List.getD_eq_getElem?_getD,List.getElem?_drop,List.length_drop];congr 2
 omega
theorem vvb{q:Quo}{D:Nat}{s:ByteArray}(n:Nat):∀ {x:MS} {c:Cf},Sn q D s x c->c.σ.st=20->x.left=n->Out q D s c (MS.copyL n x):=by
 induction n with
 | zero=>
  intro x c N hst hl;have hl':c.σ.left=0:=by rw [← N.sm.left];exact hl
  have hact:c.σ.act= .tau { c.σ with st:=16 }:=by
   rw [St.act_at hst];exact if_pos hl'
  refine jyp N.sm.wf hact (by omega) ?_
  exact ⟨{ N.sm with
   wf:=veo N.sm.wf hact
   sum:=fun _=>N.sm.sum (by rw [N.st];omega)
   nl:=fun h=>absurd h (show ¬ (10<=16∧16<=14) by decide)
   nd:=fun h=>absurd h (show ¬ (11<=16∧16<=14) by decide)
   told:=fun h=>absurd h (show ¬ (12<=16∧16<=14) by decide)
   hs:=fun h=>absurd h (show ¬ (13<=16∧16<=14) by decide)
   hk:=fun h=>absurd h (show ¬ (16=14) by decide)
   la:=fun _=>N.sm.la (by rw [hst];decide) },rfl,N.mb,N.pre⟩
 | succ n ih=>
  intro x c N hst hl;have hl':c.σ.left=n+1:=by rw [← N.sm.left];exact hl
  have hat:=N.sm.wf.at_;rw [hst] at hat;obtain ⟨_,d1,d2,d3⟩:=hat;have eb:x.qc.getD (x.qc.length - x.dist) 0=c.σ.om.getD (c.σ.om.length - c.σ.dist) 0:=by
   rw [N.sm.qc,N.sm.dist];exact ymi d1 d2 d3
  obtain ⟨b,hb⟩:∃ b,b=c.σ.om.getD (c.σ.om.length - c.σ.dist) 0:=⟨_,rfl⟩
  have hact:c.σ.act= .put b { c.σ with left:=c.σ.left - 1,om:=c.σ.om++[b] }:=by
   rw [St.act_at hst,hb];exact if_neg (by omega)
  show Out q D s c (MS.andThen (x.put (x.qc.getD (x.qc.length - x.dist) 0)) fun y=>MS.copyL n { y with left:=n });rw [eb,← hb];refine z9q N hact _ fun P=>ih ?_ hst rfl
  exact ⟨{ N.sm with
   wf:=j6i N.sm.wf hact
   sum:=fun _=>P.sum
   pu:=P.pu
   qa:=P.qa
   dle:=P.dle
   qc:=P.qc
   sumle:=P.sumle
   size:=P.size
   stp:=P.stp
   left:=by show n=c.σ.left - 1;omega
   nl:=fun h=>absurd h (show ¬ (10<=c.σ.st∧c.σ.st<=14) by omega)
   nd:=fun h=>absurd h (show ¬ (11<=c.σ.st∧c.σ.st<=14) by omega)
   told:=fun h=>absurd h (show ¬ (12<=c.σ.st∧c.σ.st<=14) by omega)
   hs:=fun h=>absurd h (show ¬ (13<=c.σ.st∧c.σ.st<=14) by omega)
   hk:=fun h=>absurd h (show ¬ (c.σ.st=14) by omega)
   la:=fun _=>N.sm.la (by rw [hst];decide) },N.st,N.mb,N.pre⟩
theorem ks1{q:Quo}{D:Nat}{s:ByteArray}{x:MS}{c:Cf}(N:Sn q D s x c)(hst:c.σ.st=20):Out q D s c x.c21:=vvb _ N hst rfl
theorem vsv{q:Quo}{D:Nat}{s:ByteArray}{x:MS}{c:Cf}(N:Sn q D s x c)(hst:c.σ.st=19):Out q D s c x.c20:=by
 unfold MS.c20;rw [N.sm.span.1,N.sm.span.2];refine zyc (k:=c.σ.bits) _ N (yij hst fun h C hk=>if_pos hk) _ fun y c' Y F hk=>?_
 have hst':c'.σ.st=19:=F.st.trans hst;have eb:c'.σ.bits=c.σ.bits:=by rw [F.σ]
 have el:c'.σ.least=c.σ.least:=by rw [F.σ]
 rw [← eb] at hk ⊢;rw [← el];have en:y.num c'.σ.bits=c'.σ.num c'.σ.bits:=by unfold MS.num St.num;rw [Y.sm.held]
 have hat:=Y.sm.wf.at_;rw [hst'] at hat;obtain ⟨_,d1,d2,d3⟩:=hat;have hlt:=St.num_lt c'.σ c'.σ.bits;obtain ⟨T,hT⟩:∃ T,T=c'.σ.least+c'.σ.num c'.σ.bits:=⟨_,rfl⟩
 have hact:c'.σ.act=if c'.σ.om.length<T then .fail 11 else .tau { c'.σ.rd c'.σ.bits with dist:=T,st:=20 }:=by
  rw [St.act_at hst',hT];simp only [St.actAt,St.need];rw [if_neg (by omega)]
 have hql:(y.rd c'.σ.bits).qc.length<T↔c'.σ.om.length<T:=by
  show y.qc.length<T↔_;rw [Y.sm.qc,List.length_drop];omega
 rw [en,← hT];by_cases h1:c'.σ.om.length<T
 ·rw [if_pos h1] at hact;rw [if_pos (hql.2 h1)];exact ja5 Y hact (by decide) rfl rfl rfl
 ·rw [if_neg h1] at hact;rw [if_neg (fun h=>h1 (hql.1 h))];refine xuc Y.sm.wf hact (by omega) (ks1 ?_ rfl);exact ⟨{ Y.sm with
   wf:=veo Y.sm.wf hact
   sum:=fun _=>Y.sm.sum (by rw [Y.st];omega)
   held:=by show y.held / 2^c'.σ.bits=c'.σ.held / 2^c'.σ.bits;rw [Y.sm.held]
   count:=by show y.count - c'.σ.bits=c'.σ.count - c'.σ.bits;rw [Y.sm.count]
   dist:=rfl
   nl:=fun h=>absurd h (show ¬ (10<=20∧20<=14) by decide)
   nd:=fun h=>absurd h (show ¬ (11<=20∧20<=14) by decide)
   told:=fun h=>absurd h (show ¬ (12<=20∧20<=14) by decide)
   hs:=fun h=>absurd h (show ¬ (13<=20∧20<=14) by decide)
   hk:=fun h=>absurd h (show ¬ (20=14) by decide)
   la:=fun _=>Y.sm.la (by rw [hst'];decide) },rfl,Y.mb,Y.pre⟩
theorem yhc{q:Quo}{D:Nat}{s:ByteArray}{x:MS}{c:Cf}(N:Sn q D s x c)(hst:c.σ.st=18):Out q D s c x.c19:=by
 have hla:=N.sm.la (by rw [hst];decide);unfold MS.c19;rw [hla.2];refine y82 (g:=fun τ k=> .tau { τ with least:=Tr.spanLeast 1 k,bits:=Tr.spanBits k,st:=19 }) N (fun h C=>by rw [St.act_at (show ({ c.σ with held:=h,count:=C }:St).st=18 from hst)];rfl) _ fun y c' k m Y F hk=>?_
 have hst':c'.σ.st=18:=F.st.trans hst;have ehs:c'.σ.lb=c.σ.lb:=by rw [F.σ]
 have hact:c'.σ.act= .tau { c'.σ.rd m with least:=Tr.spanLeast 1 k,bits:=Tr.spanBits k,st:=19 }:=by
  rw [St.act_at hst'];show c'.σ.symbol c'.σ.lb (fun τ k=> .tau { τ with least:=Tr.spanLeast 1 k,bits:=Tr.spanBits k,st:=19 })=_;rw [ehs,x0r hk]
 refine xuc Y.sm.wf hact (by omega) (vsv ?_ rfl);exact ⟨{ Y.sm with
  wf:=veo Y.sm.wf hact
  sum:=fun _=>Y.sm.sum (by rw [Y.st];omega)
  held:=by show y.held / 2^m=c'.σ.held / 2^m;rw [Y.sm.held]
  count:=by show y.count - m=c'.σ.count - m;rw [Y.sm.count]
  span:=⟨rfl,rfl⟩
  nl:=fun h=>absurd h (show ¬ (10<=19∧19<=14) by decide)
  nd:=fun h=>absurd h (show ¬ (11<=19∧19<=14) by decide)
  told:=fun h=>absurd h (show ¬ (12<=19∧19<=14) by decide)
  hs:=fun h=>absurd h (show ¬ (13<=19∧19<=14) by decide)
  hk:=fun h=>absurd h (show ¬ (19=14) by decide)
  la:=fun _=>Y.sm.la (by rw [hst'];decide) },rfl,Y.mb,Y.pre⟩
theorem jak{q:Quo}{D:Nat}{s:ByteArray}{x:MS}{c:Cf}(N:Sn q D s x c)(hst:c.σ.st=17):Out q D s c x.c18:=by
 unfold MS.c18;rw [N.sm.span.1,N.sm.span.2];refine zyc (k:=c.σ.bits) _ N (yij hst fun h C hk=>if_pos hk) _ fun y c' Y F hk=>?_
 have hst':c'.σ.st=17:=F.st.trans hst;have eb:c'.σ.bits=c.σ.bits:=by rw [F.σ]
 have el:c'.σ.least=c.σ.least:=by rw [F.σ]
 rw [← eb] at hk ⊢;rw [← el];have en:y.num c'.σ.bits=c'.σ.num c'.σ.bits:=by unfold MS.num St.num;rw [Y.sm.held]
 have hact:c'.σ.act= .tau { c'.σ.rd c'.σ.bits with left:=c'.σ.least+c'.σ.num c'.σ.bits,st:=18 }:=by
  rw [St.act_at hst'];simp only [St.actAt,St.need];rw [if_neg (by omega)]
 rw [en];refine xuc Y.sm.wf hact (by omega) (yhc ?_ rfl);exact ⟨{ Y.sm with
  wf:=veo Y.sm.wf hact
  sum:=fun _=>Y.sm.sum (by rw [Y.st];omega)
  held:=by show y.held / 2^c'.σ.bits=c'.σ.held / 2^c'.σ.bits;rw [Y.sm.held]
  count:=by show y.count - c'.σ.bits=c'.σ.count - c'.σ.bits;rw [Y.sm.count]
  left:=rfl
  nl:=fun h=>absurd h (show ¬ (10<=18∧18<=14) by decide)
  nd:=fun h=>absurd h (show ¬ (11<=18∧18<=14) by decide)
  told:=fun h=>absurd h (show ¬ (12<=18∧18<=14) by decide)
  hs:=fun h=>absurd h (show ¬ (13<=18∧18<=14) by decide)
  hk:=fun h=>absurd h (show ¬ (18=14) by decide)
  la:=fun _=>Y.sm.la (by rw [hst'];decide) },rfl,Y.mb,Y.pre⟩
theorem va8{q:Quo}{D:Nat}{s:ByteArray}{x:MS}{c:Cf}(N:Sn q D s x c)(hst:c.σ.st=16):Out q D s c x.c17:=by
 have hla:=N.sm.la (by rw [hst];decide);unfold MS.c17;rw [hla.1];refine y82 (g:=fun τ k=>τ.literal k) N (fun h C=>by rw [St.act_at (show ({ c.σ with held:=h,count:=C }:St).st=16 from hst)];rfl) _ fun y c' k m Y F hk=>?_
 have hst':c'.σ.st=16:=F.st.trans hst;have ehs:c'.σ.la=c.σ.la:=by rw [F.σ]
 have hact:c'.σ.act=(c'.σ.rd m).literal k:=by
  rw [St.act_at hst'];show c'.σ.symbol c'.σ.la (fun τ k=>τ.literal k)=_;rw [ehs,x0r hk]
 have hm:=(St.hit_facts hk).2.1;unfold St.literal at hact;by_cases h1:k<256
 ·rw [if_pos h1] at hact ⊢;refine jyp Y.sm.wf hact (by omega) ?_
  exact ⟨{ Y.sm with
   wf:=veo Y.sm.wf hact
   sum:=fun _=>Y.sm.sum (by rw [Y.st];omega)
   held:=by show y.held / 2^m=c'.σ.held / 2^m;rw [Y.sm.held]
   count:=by show y.count - m=c'.σ.count - m;rw [Y.sm.count]
   lit:=rfl
   nl:=fun h=>absurd h (show ¬ (10<=15∧15<=14) by decide)
   nd:=fun h=>absurd h (show ¬ (11<=15∧15<=14) by decide)
   told:=fun h=>absurd h (show ¬ (12<=15∧15<=14) by decide)
   hs:=fun h=>absurd h (show ¬ (13<=15∧15<=14) by decide)
   hk:=fun h=>absurd h (show ¬ (15=14) by decide)
   la:=fun _=>Y.sm.la (by rw [hst'];decide) },rfl,Y.mb,Y.pre⟩
 ·rw [if_neg h1] at hact ⊢;by_cases h2:k=256
  ·rw [if_pos h2] at hact ⊢;refine sim_end Y (c'.σ.rd m) (y.rd m) rfl ?_ hact (by omega) (St.held_rd Y.sm.wf hm);unfold MS.rd St.rd;rw [Y.sm.held,Y.sm.count]
  ·rw [if_neg h2] at hact ⊢;refine xuc Y.sm.wf hact (by omega) (jak ?_ rfl);exact ⟨{ Y.sm with
    wf:=veo Y.sm.wf hact
    sum:=fun _=>Y.sm.sum (by rw [Y.st];omega)
    held:=by show y.held / 2^m=c'.σ.held / 2^m;rw [Y.sm.held]
    count:=by show y.count - m=c'.σ.count - m;rw [Y.sm.count]
    span:=⟨rfl,rfl⟩
    nl:=fun h=>absurd h (show ¬ (10<=17∧17<=14) by decide)
    nd:=fun h=>absurd h (show ¬ (11<=17∧17<=14) by decide)
    told:=fun h=>absurd h (show ¬ (12<=17∧17<=14) by decide)
    hs:=fun h=>absurd h (show ¬ (13<=17∧17<=14) by decide)
    hk:=fun h=>absurd h (show ¬ (17=14) by decide)
    la:=fun _=>Y.sm.la (by rw [hst'];decide) },rfl,Y.mb,Y.pre⟩
theorem xcf{q:Quo}{D:Nat}{s:ByteArray}{x:MS}{c:Cf}(N:Sn q D s x c)(hst:c.σ.st=15):Out q D s c x.c16:=by
 have hact:c.σ.act= .put x.lit { c.σ with om:=c.σ.om++[x.lit],st:=16 }:=by
  rw [St.act_at hst,N.sm.lit];rfl
 refine z9q N hact _ fun P=>va8 ?_ rfl
 exact ⟨{ N.sm with
  wf:=j6i N.sm.wf hact
  sum:=fun _=>P.sum
  pu:=P.pu
  qa:=P.qa
  dle:=P.dle
  qc:=P.qc
  sumle:=P.sumle
  size:=P.size
  stp:=P.stp
  nl:=fun h=>absurd h (show ¬ (10<=16∧16<=14) by decide)
  nd:=fun h=>absurd h (show ¬ (11<=16∧16<=14) by decide)
  told:=fun h=>absurd h (show ¬ (12<=16∧16<=14) by decide)
  hs:=fun h=>absurd h (show ¬ (13<=16∧16<=14) by decide)
  hk:=fun h=>absurd h (show ¬ (16=14) by decide)
  la:=fun _=>N.sm.la (by rw [hst];decide) },rfl,N.mb,N.pre⟩
theorem Sn.lim{q:Quo}{D:Nat}{s:ByteArray}{y:MS}{c:Cf}(Y:Sn q D s y c):y.head=y.he↔c.σ.lim<=c.σ.hmany:=by
 have h:=Y.sm.head;rw [h.1,Y.sm.he];omega
theorem zsu{c c':Cf}{A:St->Act}(F:Fed c c')(hA:∀ h C,({ c.σ with held:=h,count:=C }:St).act=A { c.σ with held:=h,count:=C }):c'.σ.act=A c'.σ:=by
 have:=hA c'.σ.held c'.σ.count;rw [← F.σ] at this;exact this
theorem xwx{q:Quo}{D:Nat}{s:ByteArray}{x:MS}{c:Cf}(N:Sn q D s x c)(want next:Nat)
  (hA:∀ h C,({ c.σ with held:=h,count:=C }:St).act=({ c.σ with held:=h,count:=C }:St).need 8 (({ c.σ with held:=h,count:=C }:St).headByte want next)) (g:MS->MS×Nat)
  (hg:∀ y c',Sn q D s y c'->Fed c c'->c'.σ.act= .tau { c'.σ.crown with st:=next }->¬ c'.σ.lim<=c'.σ.hmany->Out q D s c' (g y.headRead)):Out q D s c (MS.andThen (MS.passByte want x) g):=by
 unfold MS.passByte;rw [y9c];refine xgk N (fun h C _ _ _ hk=>by rw [hA h C];exact if_pos hk) _ fun y c' Y F hk _=>?_
 have hact:=zsu (A:=fun σ=>σ.need 8 (σ.headByte want next)) F hA;unfold St.need St.headByte at hact;rw [if_neg (by omega)] at hact;have en:y.num 8=c'.σ.num 8:=by unfold MS.num St.num;rw [Y.sm.held]
 by_cases h5:c'.σ.lim<=c'.σ.hmany
 ·rw [if_pos h5] at hact;rw [if_pos (Y.lim.2 h5)];exact ja5 Y hact (by decide) rfl rfl rfl
 ·rw [if_neg h5] at hact;rw [if_neg (fun h=>h5 (Y.lim.1 h)),en];by_cases h6:c'.σ.num 8=want
  ·rw [if_pos h6] at hact ⊢;exact hg y c' Y F hact h5
  ·rw [if_neg h6] at hact ⊢;rw [zj4];exact ja5 Y hact (by decide) rfl rfl rfl
theorem x1o{q:Quo}{D:Nat}{s:ByteArray}{x:MS}{c:Cf}(N:Sn q D s x c)(hst:c.σ.st=5):Out q D s c x.h6:=by
 unfold MS.h6 MS.passCheck;have hm:=N.sm.wf.marks.1;rw [N.sm.marks,N.sm.hsum];by_cases h0:c.σ.marks / 4%2=0
 ·rw [if_pos h0,xd7];have hact:c.σ.act= .tau { c.σ with st:=6 }:=by
   rw [St.act_at hst];exact if_neg (by omega)
  refine jyp N.sm.wf hact (by omega) ?_
  exact ⟨{ N.sm with
   wf:=veo N.sm.wf hact
   sum:=fun _=>N.sm.sum (by rw [N.st];omega)
   nl:=fun h=>absurd h (show ¬ (10<=6∧6<=14) by decide)
   nd:=fun h=>absurd h (show ¬ (11<=6∧6<=14) by decide)
   told:=fun h=>absurd h (show ¬ (12<=6∧6<=14) by decide)
   hs:=fun h=>absurd h (show ¬ (13<=6∧6<=14) by decide)
   hk:=fun h=>absurd h (show ¬ (6=14) by decide)
   la:=fun h=>absurd h (show ¬ (15<=6∧6<=20) by decide) },rfl,N.mb,N.pre⟩
 ·rw [if_neg h0];refine xwx N c.σ.hsum 6 (fun h C=>by rw [St.act_at (show ({ c.σ with held:=h,count:=C }:St).st=5 from hst)];exact if_pos (show c.σ.marks / 4=1 by omega)) _ fun y c' Y F hact h5=>?_
  have hst':c'.σ.st=5:=F.st.trans hst;refine jyp Y.sm.wf hact (by omega) ?_
  exact ⟨{ Y.sm with
   wf:=veo Y.sm.wf hact
   sum:=fun _=>Y.sm.sum (by rw [Y.st];omega)
   held:=by show y.held / 2^8=c'.σ.held / 2^8;rw [Y.sm.held]
   count:=by show y.count - 8=c'.σ.count - 8;rw [Y.sm.count]
   head:=⟨by show y.head+1=c'.σ.hmany+1;rw [Y.sm.head.1],by show c'.σ.hmany+1<=c'.σ.lim;omega⟩
   hsum:=by show (y.hsum+y.num 8)%256=(c'.σ.hsum+c'.σ.num 8)%256;rw [Y.sm.hsum];unfold MS.num St.num;rw [Y.sm.held]
   nl:=fun h=>absurd h (show ¬ (10<=6∧6<=14) by decide)
   nd:=fun h=>absurd h (show ¬ (11<=6∧6<=14) by decide)
   told:=fun h=>absurd h (show ¬ (12<=6∧6<=14) by decide)
   hs:=fun h=>absurd h (show ¬ (13<=6∧6<=14) by decide)
   hk:=fun h=>absurd h (show ¬ (6=14) by decide)
   la:=fun h=>absurd h (show ¬ (15<=6∧6<=20) by decide) },rfl,Y.mb,Y.pre⟩
theorem jdu(f:Nat)(x:MS)(g:MS->MS×Nat):MS.andThen (MS.textL (f+1) x) g=MS.symThen x.takeHead (fun y b=>if b=0 then g y else MS.andThen (MS.textL f y) g):=by
 rw [MS.textL];unfold MS.symThen;by_cases h1:x.takeHead.2.1=0
 ·rw [if_pos h1];by_cases h2:x.takeHead.2.2=0
  ·rw [if_pos (Or.inr h2),h1];exact (if_pos h2).symm
  ·rw [if_neg (fun h=>h.elim (fun h=>h h1) h2)];exact (if_neg h2).symm
 ·rw [if_neg h1,if_pos (Or.inl h1)];unfold MS.andThen;rw [if_neg h1]
theorem Sn.more{q:Quo}{D:Nat}{s:ByteArray}{x:MS}{c:Cf}(N:Sn q D s x c):x.more=(s.size - c.pre.length)+c.σ.count / 8:=by
 unfold MS.more;rw [N.sm.rest,zli,N.sm.count]
theorem text_go{q:Quo}{D:Nat}{s:ByteArray}(n next:Nat)(hn:n=3∨n=4)(g:MS->MS×Nat)(f:Nat):∀ {x:MS} {c:Cf},Sn q D s x c->c.σ.st=n->x.more<f->
  (∀ h C,({ c.σ with held:=h,count:=C }:St).act=({ c.σ with held:=h,count:=C }:St).need 8 (({ c.σ with held:=h,count:=C }:St).text next))->
  (∀ y c',Sn q D s y c'->c'.σ.st=n->c'.σ.act= .tau { c'.σ.crown with st:=next }->¬ c'.σ.lim<=c'.σ.hmany->Out q D s c' (g y.headRead))->
  (∀ (σ:St),σ.st=n->σ.marks=c.σ.marks->∀ h C,({ σ with held:=h,count:=C }:St).act=({ σ with held:=h,count:=C }:St).need 8 (({ σ with held:=h,count:=C }:St).text next))->Out q D s c (MS.andThen (MS.textL f x) g):=by
 induction f with
 | zero=>intro x c N hst hf;omega
 | succ f ih=>
  intro x c N hst hf hA hg hall;rw [jdu];refine xgk N (fun h C _ _ _ hk=>by rw [hA h C];exact if_pos hk) _ fun y c' Y F hk _=>?_
  have hact:=zsu (A:=fun σ=>σ.need 8 (σ.text next)) F hA;have hst':c'.σ.st=n:=F.st.trans hst;unfold St.need St.text at hact;rw [if_neg (by omega)] at hact;have en:y.num 8=c'.σ.num 8:=by unfold MS.num St.num;rw [Y.sm.held]
  by_cases h5:c'.σ.lim<=c'.σ.hmany
  ·rw [if_pos h5] at hact;rw [if_pos (Y.lim.2 h5)];exact ja5 Y hact (by decide) rfl rfl rfl
  ·rw [if_neg h5] at hact;rw [if_neg (fun h=>h5 (Y.lim.1 h)),en];by_cases h6:c'.σ.num 8=0
   ·rw [if_pos h6] at hact ⊢;exact hg y c' Y hst' hact h5
   ·rw [if_neg h6] at hact ⊢;have hm:c'.σ.marks=c.σ.marks:=by rw [F.σ]
    refine xuc Y.sm.wf hact (by omega) (ih ?_ hst' ?_ (hall _ hst' hm) hg (fun σ h1 h2=>hall σ h1 (h2.trans hm)))
    ·exact ⟨{ Y.sm with
      wf:=veo Y.sm.wf hact
      sum:=fun _=>Y.sm.sum (by rw [Y.st];omega)
      held:=by show y.held / 2^8=c'.σ.held / 2^8;rw [Y.sm.held]
      count:=by show y.count - 8=c'.σ.count - 8;rw [Y.sm.count]
      head:=⟨by show y.head+1=c'.σ.hmany+1;rw [Y.sm.head.1],by show c'.σ.hmany+1<=c'.σ.lim;omega⟩
      hsum:=by show (y.hsum+y.num 8)%256=(c'.σ.hsum+c'.σ.num 8)%256;rw [Y.sm.hsum];unfold MS.num St.num;rw [Y.sm.held]
      nl:=fun h=>absurd h (show ¬ (10<=c'.σ.st∧c'.σ.st<=14) by omega)
      nd:=fun h=>absurd h (show ¬ (11<=c'.σ.st∧c'.σ.st<=14) by omega)
      told:=fun h=>absurd h (show ¬ (12<=c'.σ.st∧c'.σ.st<=14) by omega)
      hs:=fun h=>absurd h (show ¬ (13<=c'.σ.st∧c'.σ.st<=14) by omega)
      hk:=fun h=>absurd h (show ¬ (c'.σ.st=14) by omega)
      la:=fun h=>absurd h (show ¬ (15<=c'.σ.st∧c'.σ.st<=20) by omega) },Y.st,Y.mb,Y.pre⟩
    ·have e1:=N.more;have e2:(y.headRead).more=(s.size - c'.pre.length)+(c'.σ.count - 8) / 8:=by
      unfold MS.more;show y.rest.length+(y.count - 8) / 8=_;rw [Y.sm.rest,zli,Y.sm.count]
     have e3:=F.tot;have e4:=Y.sm.le;rw [e1] at hf;rw [e2];omega
theorem xhm{q:Quo}{D:Nat}{s:ByteArray}{x:MS}{c:Cf}(N:Sn q D s x c)(n next mark:Nat)(hn:n=3∧mark=1∧next=4∨n=4∧mark=2∧next=5)(hst:c.σ.st=n)(g:MS->MS×Nat)
  (h0:c.σ.act= .tau { c.σ with st:=next }->Out q D s c (g x))
  (hg:∀ y c',Sn q D s y c'->c'.σ.st=n->c'.σ.act= .tau { c'.σ.crown with st:=next }->¬ c'.σ.lim<=c'.σ.hmany->Out q D s c' (g y.headRead)):Out q D s c (MS.andThen (MS.passText mark x) g):=by
 unfold MS.passText;rw [N.sm.marks];by_cases h1:c.σ.marks / mark%2=0
 ·rw [if_pos h1,xd7];refine h0 ?_;rw [St.act_at hst];rcases hn with ⟨rfl,rfl,rfl⟩ | ⟨rfl,rfl,rfl⟩
  ·exact if_neg (by omega)
  ·exact if_neg (by omega)
 ·rw [if_neg h1];have hall:∀ (σ:St),σ.st=n->σ.marks=c.σ.marks->∀ h C,({ σ with held:=h,count:=C }:St).act=({ σ with held:=h,count:=C }:St).need 8 (({ σ with held:=h,count:=C }:St).text next):=fun σ hs hm h C=>by
   rw [St.act_at (show ({ σ with held:=h,count:=C }:St).st=n from hs)];rcases hn with ⟨rfl,rfl,rfl⟩ | ⟨rfl,rfl,rfl⟩
   ·exact if_pos (show σ.marks%2=1 by rw [hm];omega)
   ·exact if_pos (show σ.marks / 2%2=1 by rw [hm];omega)
  exact text_go n next (by omega) g _ N hst (Nat.lt_succ_self _) (hall _ hst rfl) hg hall
theorem yj0{q:Quo}{D:Nat}{s:ByteArray}{x:MS}{c:Cf}(N:Sn q D s x c)(hst:c.σ.st=4):Out q D s c x.h5:=by
 unfold MS.h5;refine xhm N 4 5 2 (by omega) hst _ (fun hact=>?_) (fun y c' Y hst' hact h5=>?_)
 ·refine xuc N.sm.wf hact (by omega) (x1o ?_ rfl);exact ⟨{ N.sm with
   wf:=veo N.sm.wf hact
   sum:=fun _=>N.sm.sum (by rw [N.st];omega)
   nl:=fun h=>absurd h (show ¬ (10<=5∧5<=14) by decide)
   nd:=fun h=>absurd h (show ¬ (11<=5∧5<=14) by decide)
   told:=fun h=>absurd h (show ¬ (12<=5∧5<=14) by decide)
   hs:=fun h=>absurd h (show ¬ (13<=5∧5<=14) by decide)
   hk:=fun h=>absurd h (show ¬ (5=14) by decide)
   la:=fun h=>absurd h (show ¬ (15<=5∧5<=20) by decide) },rfl,N.mb,N.pre⟩
 ·refine xuc Y.sm.wf hact (by omega) (x1o ?_ rfl);exact ⟨{ Y.sm with
   wf:=veo Y.sm.wf hact
   sum:=fun _=>Y.sm.sum (by rw [Y.st];omega)
   held:=by show y.held / 2^8=c'.σ.held / 2^8;rw [Y.sm.held]
   count:=by show y.count - 8=c'.σ.count - 8;rw [Y.sm.count]
   head:=⟨by show y.head+1=c'.σ.hmany+1;rw [Y.sm.head.1],by show c'.σ.hmany+1<=c'.σ.lim;omega⟩
   hsum:=by show (y.hsum+y.num 8)%256=(c'.σ.hsum+c'.σ.num 8)%256;rw [Y.sm.hsum];unfold MS.num St.num;rw [Y.sm.held]
   nl:=fun h=>absurd h (show ¬ (10<=5∧5<=14) by decide)
   nd:=fun h=>absurd h (show ¬ (11<=5∧5<=14) by decide)
   told:=fun h=>absurd h (show ¬ (12<=5∧5<=14) by decide)
   hs:=fun h=>absurd h (show ¬ (13<=5∧5<=14) by decide)
   hk:=fun h=>absurd h (show ¬ (5=14) by decide)
   la:=fun h=>absurd h (show ¬ (15<=5∧5<=20) by decide) },rfl,Y.mb,Y.pre⟩
theorem z57{q:Quo}{D:Nat}{s:ByteArray}{x:MS}{c:Cf}(N:Sn q D s x c)(hst:c.σ.st=3):Out q D s c x.h4:=by
 unfold MS.h4;refine xhm N 3 4 1 (by omega) hst _ (fun hact=>?_) (fun y c' Y hst' hact h5=>?_)
 ·refine xuc N.sm.wf hact (by omega) (yj0 ?_ rfl);exact ⟨{ N.sm with
   wf:=veo N.sm.wf hact
   sum:=fun _=>N.sm.sum (by rw [N.st];omega)
   nl:=fun h=>absurd h (show ¬ (10<=4∧4<=14) by decide)
   nd:=fun h=>absurd h (show ¬ (11<=4∧4<=14) by decide)
   told:=fun h=>absurd h (show ¬ (12<=4∧4<=14) by decide)
   hs:=fun h=>absurd h (show ¬ (13<=4∧4<=14) by decide)
   hk:=fun h=>absurd h (show ¬ (4=14) by decide)
   la:=fun h=>absurd h (show ¬ (15<=4∧4<=20) by decide) },rfl,N.mb,N.pre⟩
 ·refine xuc Y.sm.wf hact (by omega) (yj0 ?_ rfl);exact ⟨{ Y.sm with
   wf:=veo Y.sm.wf hact
   sum:=fun _=>Y.sm.sum (by rw [Y.st];omega)
   held:=by show y.held / 2^8=c'.σ.held / 2^8;rw [Y.sm.held]
   count:=by show y.count - 8=c'.σ.count - 8;rw [Y.sm.count]
   head:=⟨by show y.head+1=c'.σ.hmany+1;rw [Y.sm.head.1],by show c'.σ.hmany+1<=c'.σ.lim;omega⟩
   hsum:=by show (y.hsum+y.num 8)%256=(c'.σ.hsum+c'.σ.num 8)%256;rw [Y.sm.hsum];unfold MS.num St.num;rw [Y.sm.held]
   nl:=fun h=>absurd h (show ¬ (10<=4∧4<=14) by decide)
   nd:=fun h=>absurd h (show ¬ (11<=4∧4<=14) by decide)
   told:=fun h=>absurd h (show ¬ (12<=4∧4<=14) by decide)
   hs:=fun h=>absurd h (show ¬ (13<=4∧4<=14) by decide)
   hk:=fun h=>absurd h (show ¬ (4=14) by decide)
   la:=fun h=>absurd h (show ¬ (15<=4∧4<=20) by decide) },rfl,Y.mb,Y.pre⟩
theorem vk5{q:Quo}{D:Nat}{s:ByteArray}{x:MS}{c:Cf}(N:Sn q D s x c)(hst:c.σ.st=2):Out q D s c x.h3:=by
 unfold MS.h3 MS.passMarks;by_cases h2:x.fm=2
 ·have hf2:c.σ.fmt=2:=by rw [← N.sm.fm];exact h2
  rw [if_pos h2,y9c];refine xgk N (yij hst fun h C hk=>by simp only [St.actAt];rw [if_pos hf2];exact if_pos hk) _ fun y c' Y F hk _=>?_
  have hst':c'.σ.st=2:=F.st.trans hst;have hact:c'.σ.act=if c'.σ.lim<=c'.σ.hmany then .fail 5 else if 7<c'.σ.num 8 then .fail 4 else .tau { c'.σ.crown with marks:=c'.σ.num 8,st:=3 }:=by
   rw [St.act_at hst'];simp only [St.actAt,St.need];rw [if_pos (F.fmt.trans hf2),if_neg (by omega)]
  have en:y.num 8=c'.σ.num 8:=by unfold MS.num St.num;rw [Y.sm.held]
  by_cases h5:c'.σ.lim<=c'.σ.hmany
  ·rw [if_pos h5] at hact;rw [if_pos (Y.lim.2 h5)];exact ja5 Y hact (by decide) rfl rfl rfl
  ·rw [if_neg h5] at hact;rw [if_neg (fun h=>h5 (Y.lim.1 h)),en];by_cases h6:7<c'.σ.num 8
   ·rw [if_pos h6] at hact ⊢;exact ja5 Y hact (by decide) rfl rfl rfl
   ·rw [if_neg h6] at hact ⊢;rw [xd7];refine xuc Y.sm.wf hact (by omega) (z57 ?_ rfl);exact ⟨{ Y.sm with
     wf:=veo Y.sm.wf hact
     sum:=fun _=>Y.sm.sum (by rw [Y.st];omega)
     held:=by show y.held / 2^8=c'.σ.held / 2^8;rw [Y.sm.held]
     count:=by show y.count - 8=c'.σ.count - 8;rw [Y.sm.count]
     head:=⟨by show y.head+1=c'.σ.hmany+1;rw [Y.sm.head.1],by show c'.σ.hmany+1<=c'.σ.lim;omega⟩
     hsum:=by show (y.hsum+y.num 8)%256=(c'.σ.hsum+c'.σ.num 8)%256;rw [Y.sm.hsum];unfold MS.num St.num;rw [Y.sm.held]
     marks:=rfl
     nl:=fun h=>absurd h (show ¬ (10<=3∧3<=14) by decide)
     nd:=fun h=>absurd h (show ¬ (11<=3∧3<=14) by decide)
     told:=fun h=>absurd h (show ¬ (12<=3∧3<=14) by decide)
     hs:=fun h=>absurd h (show ¬ (13<=3∧3<=14) by decide)
     hk:=fun h=>absurd h (show ¬ (3=14) by decide)
     la:=fun h=>absurd h (show ¬ (15<=3∧3<=20) by decide) },rfl,Y.mb,Y.pre⟩
 ·rw [if_neg h2,xd7];have hact:c.σ.act= .tau { c.σ with st:=3 }:=by
   rw [St.act_at hst];exact if_neg (by rw [← N.sm.fm];exact h2)
  refine xuc N.sm.wf hact (by omega) (z57 ?_ rfl);exact ⟨{ N.sm with
   wf:=veo N.sm.wf hact
   sum:=fun _=>N.sm.sum (by rw [N.st];omega)
   nl:=fun h=>absurd h (show ¬ (10<=3∧3<=14) by decide)
   nd:=fun h=>absurd h (show ¬ (11<=3∧3<=14) by decide)
   told:=fun h=>absurd h (show ¬ (12<=3∧3<=14) by decide)
   hs:=fun h=>absurd h (show ¬ (13<=3∧3<=14) by decide)
   hk:=fun h=>absurd h (show ¬ (3=14) by decide)
   la:=fun h=>absurd h (show ¬ (15<=3∧3<=20) by decide) },rfl,N.mb,N.pre⟩
theorem vkw{q:Quo}{D:Nat}{s:ByteArray}{x:MS}{c:Cf}(N:Sn q D s x c)(hst:c.σ.st=1):Out q D s c x.h2:=by
 have hz:=St.fmt_pos N.sm.wf (by omega);unfold MS.h2 MS.passFixed;rw [N.sm.fm,if_neg hz];refine xwx N (MS.second c.σ.fmt) 2 (fun h C=>by rw [St.act_at (show ({ c.σ with held:=h,count:=C }:St).st=1 from hst)];rfl) _ fun y c' Y F hact h5=>?_
 have hst':c'.σ.st=1:=F.st.trans hst;refine xuc Y.sm.wf hact (by omega) (vk5 ?_ rfl);exact ⟨{ Y.sm with
  wf:=veo Y.sm.wf hact
  sum:=fun _=>Y.sm.sum (by rw [Y.st];omega)
  held:=by show y.held / 2^8=c'.σ.held / 2^8;rw [Y.sm.held]
  count:=by show y.count - 8=c'.σ.count - 8;rw [Y.sm.count]
  head:=⟨by show y.head+1=c'.σ.hmany+1;rw [Y.sm.head.1],by show c'.σ.hmany+1<=c'.σ.lim;omega⟩
  hsum:=by show (y.hsum+y.num 8)%256=(c'.σ.hsum+c'.σ.num 8)%256;rw [Y.sm.hsum];unfold MS.num St.num;rw [Y.sm.held]
  nl:=fun h=>absurd h (show ¬ (10<=2∧2<=14) by decide)
  nd:=fun h=>absurd h (show ¬ (11<=2∧2<=14) by decide)
  told:=fun h=>absurd h (show ¬ (12<=2∧2<=14) by decide)
  hs:=fun h=>absurd h (show ¬ (13<=2∧2<=14) by decide)
  hk:=fun h=>absurd h (show ¬ (2=14) by decide)
  la:=fun h=>absurd h (show ¬ (15<=2∧2<=20) by decide) },rfl,Y.mb,Y.pre⟩
theorem jgq{q:Quo}{D:Nat}{s:ByteArray}{x:MS}{c:Cf}(N:Sn q D s x c)(hst:c.σ.st=0):Out q D s c x.h1:=by
 have hz:=St.fmt_pos N.sm.wf (by omega);unfold MS.h1 MS.passFixed;rw [N.sm.fm,if_neg hz];refine xwx N (MS.first c.σ.fmt) 1 (fun h C=>by rw [St.act_at (show ({ c.σ with held:=h,count:=C }:St).st=0 from hst)];rfl) _ fun y c' Y F hact h5=>?_
 have hst':c'.σ.st=0:=F.st.trans hst;refine xuc Y.sm.wf hact (by omega) (vkw ?_ rfl);exact ⟨{ Y.sm with
  wf:=veo Y.sm.wf hact
  sum:=fun _=>Y.sm.sum (by rw [Y.st];omega)
  held:=by show y.held / 2^8=c'.σ.held / 2^8;rw [Y.sm.held]
  count:=by show y.count - 8=c'.σ.count - 8;rw [Y.sm.count]
  head:=⟨by show y.head+1=c'.σ.hmany+1;rw [Y.sm.head.1],by show c'.σ.hmany+1<=c'.σ.lim;omega⟩
  hsum:=by show (y.hsum+y.num 8)%256=(c'.σ.hsum+c'.σ.num 8)%256;rw [Y.sm.hsum];unfold MS.num St.num;rw [Y.sm.held]
  nl:=fun h=>absurd h (show ¬ (10<=1∧1<=14) by decide)
  nd:=fun h=>absurd h (show ¬ (11<=1∧1<=14) by decide)
  told:=fun h=>absurd h (show ¬ (12<=1∧1<=14) by decide)
  hs:=fun h=>absurd h (show ¬ (13<=1∧1<=14) by decide)
  hk:=fun h=>absurd h (show ¬ (1=14) by decide)
  la:=fun h=>absurd h (show ¬ (15<=1∧1<=20) by decide) },rfl,Y.mb,Y.pre⟩
inductive yvw(q:Quo)(D:Nat)(s:ByteArray)(x:MS)(c:Cf):Prop
 | run:Sn q D s x c->yvw q D s x c
 | fresh:Sm q D s x c->x.st=0->x.mb=0->c=Cf.begin c.σ.fmt c.σ.mem c.σ.lim->yvw q D s x c
 | between:Sm q D s x c->x.st=0->x.mb=c.starts.length->c.σ.st=23->c.σ.fmt=2->c.σ.count=8->0<c.pre.length->yvw q D s x c
theorem yvw.sm{q:Quo}{D:Nat}{s:ByteArray}{x:MS}{c:Cf}(h:yvw q D s x c):Sm q D s x c:=by
 cases h with
 | run h=>exact h.sm
 | fresh h=>exact h
 | between h=>exact h
def stN(x:MS):Nat:=if x.st=0 then 0 else 1
def muS(s:ByteArray)(x:MS)(c:Cf):Nat:=2*muC s c+stN x
inductive OutS(q:Quo)(D:Nat)(s:ByteArray)(x:MS)(c:Cf)(r:MS×Nat):Prop
 | go (c':Cf):v44 q D s c c'->r.2=0->yvw q D s r.1 c'->muS s r.1 c'<muS s x c->OutS q D s x c r
 | hungry (c':Cf):v44 q D s c c'->r.2=1->yvw q D s r.1 c'->c'.σ.act= .take->s.size<=c'.pre.length->OutS q D s x c r
 | full (c':Cf) (b:Nat) (σ':St):v44 q D s c c'->r.2=2->yvw q D s r.1 c'->c'.σ.act= .put b σ'->D+64<=c'.outs.length->OutS q D s x c r
 | dead (c':Cf) (e:Nat):v44 q D s c c'->r.2=3->Dead q r.1 c' e->Stop q D s c' e->OutS q D s x c r
theorem Out.turn{q:Quo}{D:Nat}{s:ByteArray}{x:MS}{c c1:Cf}{r:MS×Nat}(O:Out q D s c1 r)(W:St.Wf c.σ)(st:v44 q D s c c1)(h:muC s c1<muC s c∨(c1=c∧x.st≠0)):OutS q D s x c r:=by
 have W1:=(st.mu W).1;have hle:muC s c1<=muC s c:=(st.mu W).2;have hs:∀ y:MS,stN y<=1:=fun y=>by unfold stN;split <;> omega
 cases O with
 | go c' h1 h2 h3 h4=>
  refine .go c' (st.trans h1) h2 (.run h3) ?_;have:=hs r.1;unfold muS;rcases h with h | ⟨rfl,hx⟩
  ·omega
  ·have:stN x=1:=if_neg hx;omega
 | between c' h1 h2 h3 h4 h5 h6 h7 h8 h9=>
  have hl:=(h1.mu W1).2;refine .go c' (st.trans h1) h2 (.between h3 h4 h5 h6 h7 h8 h9) ?_;have e:stN r.1=0:=if_pos h4;unfold muS;rcases h with h | ⟨rfl,hx⟩
  ·omega
  ·have:stN x=1:=if_neg hx;omega
 | hungry c' h1 h2 h3 h4 h5=>exact .hungry c' (st.trans h1) h2 (.run h3) h4 h5
 | full c' b σ' h1 h2 h3 h4 h5=>exact .full c' b σ' (st.trans h1) h2 (.run h3) h4 h5
 | dead c' e h1 h2 h3 h4=>exact .dead c' e (st.trans h1) h2 h3 h4
structure Lim(q:Quo)(mem lim:Nat):Prop where
 sp:q.steps<=9223372036854775807
 quo:q.ratio*q.steps+q.slack<=9223372036854775807
 ou:q.out<=9223372036854775807
 he:lim<=9223372036854775807
 me:mem<=9223372036854775807
theorem xc8{s:ByteArray}{i:Nat}:∀ b∈jlo s i,b<256:=fun b hb=>by
 unfold jlo strN at hb;obtain ⟨u,_,rfl⟩:=List.mem_map.1 (List.mem_of_mem_drop hb);exact u.toNat_lt
theorem yvw.mbs{q:Quo}{D:Nat}{s:ByteArray}{x:MS}{c:Cf}(h:yvw q D s x c):x.mb<=x.me:=by
 rw [h.sm.me];have:=h.sm.mb;cases h with
 | run h=>rw [h.mb];omega
 | fresh _ _ e _=>omega
 | between _ _ e _ _ _ _=>omega
theorem yvw.ok{q:Quo}{D:Nat}{s:ByteArray}{x:MS}{c:Cf}(h:yvw q D s x c)(L:Lim q c.σ.mem c.σ.lim):Ok x:=by
 have S:=h.sm;exact ⟨by rw [S.held,S.count];exact S.wf.held,by rw [S.tk,S.pu,S.sp];exact S.stp,by rw [S.sp];exact L.sp,by rw [S.ra,S.sp,S.sl];exact L.quo,by rw [S.ou];exact L.ou,S.sumle,by rw [S.rest];exact xc8,by rw [S.head.1,S.he];exact ⟨S.head.2,L.he⟩,⟨h.mbs,by rw [S.me];exact L.me⟩,by rw [S.hsum];exact S.wf.hsum,by rw [S.size];omega,by rw [S.marks];have:=S.wf.marks.1;omega,by rw [S.fm];exact S.wf.fmt⟩
theorem kio{l:List Int}{h c:Nat}(F:y8i l h c):c<=20:=by
 have hl:lng l 12<=11:=y4h l 11;cases e:jcs l h c with
 | hit k m=>
  have:=F.1 k m e;have h2:=yyp l _ _ _ _ _ _ _ e;omega
 | more=>
  have:=x53 l _ _ _ _ _ e;omega
 | none=>
  have:=F.2 e;omega
theorem zbm(k:Nat):hbits k<=6∧hleast k<=11:=by
 unfold hbits hleast;(repeat' split) <;> omega
theorem Sn.pre_{q:Quo}{D:Nat}{s:ByteArray}{x:MS}{c:Cf}(N:Sn q D s x c)(L:Lim q c.σ.mem c.σ.lim):Pre x:=by
 have ok:=(yvw.run N).ok L;have S:=N.sm;have W:=S.wf;have few:=W.few;have hat:=W.at_;have hst:=N.st;have hqc:∀ b∈x.qc,b<256:=fun b hb=>by rw [S.qc] at hb;exact W.om b (List.mem_of_mem_drop hb)
 have hsets:∀ {n},c.σ.st=n->15<=n∧n<=20->St.Sets c.σ->x.la≠[]∧x.lb.length<=16∧x.la.length<=269:=fun hn hr hs=>by
  have e:=S.la (by rw [hn];exact hr);rw [e.1,e.2];refine ⟨fun h0=>?_,hs.nb,hs.na.2⟩;have h1:=hs.na.1;rw [h0] at h1;exact absurd h1 (by decide)
 rcases St.cases24 W.st with h | h | h | h | h | h | h | h | h | h | h | h | h | h | h | h | h | h | h | h | h | h | h | h
 ·have f:c.σ.count%8=0∧c.σ.count<=8:=St.few_of (n:=0) (by omega) (h ▸ few);rw [h] at hst;exact ⟨ok,by rw [S.count];omega,by omega,by rw [hst];exact ⟨ok,by rw [S.count];omega⟩⟩
 ·have f:c.σ.count%8=0∧c.σ.count<=8:=St.few_of (n:=1) (by omega) (h ▸ few);rw [h] at hst;exact ⟨ok,by rw [S.count];omega,by omega,by rw [hst];exact ⟨ok,by rw [S.count];omega⟩⟩
 ·have f:c.σ.count%8=0∧c.σ.count<=8:=St.few_of (n:=2) (by omega) (h ▸ few);rw [h] at hst;exact ⟨ok,by rw [S.count];omega,by omega,by rw [hst];exact ⟨ok,by rw [S.count];omega⟩⟩
 ·have f:c.σ.count%8=0∧c.σ.count<=8:=St.few_of (n:=3) (by omega) (h ▸ few);rw [h] at hst;exact ⟨ok,by rw [S.count];omega,by omega,by rw [hst];exact ⟨ok,by rw [S.count];omega⟩⟩
 ·have f:c.σ.count%8=0∧c.σ.count<=8:=St.few_of (n:=4) (by omega) (h ▸ few);rw [h] at hst;exact ⟨ok,by rw [S.count];omega,by omega,by rw [hst];exact ⟨ok,by rw [S.count];omega⟩⟩
 ·have f:c.σ.count%8=0∧c.σ.count<=8:=St.few_of (n:=5) (by omega) (h ▸ few);rw [h] at hst;exact ⟨ok,by rw [S.count];omega,by omega,by rw [hst];exact ⟨ok,by rw [S.count];omega⟩⟩
 ·rw [h] at few hst;exact ⟨ok,by rw [S.count];have f:c.σ.count<11:=few;omega,by omega,by rw [hst];trivial⟩
 ·rw [h] at few hst;exact ⟨ok,by rw [S.count];exact few.2,by omega,by rw [hst];trivial⟩
 ·rw [h] at few hst hat;exact ⟨ok,by rw [S.count];have f:=few.2.1;omega,by omega,by rw [hst];show x.left<=65535;rw [S.left];exact hat⟩
 ·have hl:=W.own (Or.inl (by omega));rw [h] at few hst;exact ⟨ok,by rw [S.count];have f:c.σ.count<12:=few;omega,by omega,by rw [hst];show x.hl=[];rw [S.hl];exact hl.1⟩
 ·have hl:=W.own (Or.inl (by omega));rw [h] at few hst;exact ⟨ok,by rw [S.count];have f:c.σ.count<12:=few;omega,by omega,by rw [hst];show x.hl=[];rw [S.hl];exact hl.1⟩
 ·have hl:=W.own (Or.inl (by omega));rw [h] at few hst;exact ⟨ok,by rw [S.count];have f:c.σ.count<12:=few;omega,by omega,by rw [hst];show x.hl=[];rw [S.hl];exact hl.1⟩
 ·have ht:=S.told (by rw [h];decide);rw [h] at few hst hat;exact ⟨ok,by rw [S.count];have f:=few.1;omega,by omega,by rw [hst];show x.told<=15∧x.hl.length<=x.told∧_;rw [ht,S.hl];exact ⟨hat.2.2.1.2,hat.2.2.2.1,hat.2.2.2.2.1⟩⟩
 ·have e1:=S.nl (by rw [h];decide);have e2:=S.nd (by rw [h];decide);have e3:=S.hs (by rw [h];decide);rw [h] at few hst hat;obtain ⟨a1,a2,a3,a4,a5⟩:=hat;exact ⟨ok,by rw [S.count];have f:=kio few;omega,by omega,by rw [hst];exact ⟨⟨by rw [e1];exact a1,by rw [e2];exact a2,by rw [S.row];exact a4,by rw [e1,e2,S.row];exact a5⟩,by rw [e3];intro h0;have a6:=a3.2.2;rw [h0] at a6;exact absurd a6 (by decide),by rw [e3];have a6:=a3.2.2;omega⟩⟩
 ·have e1:=S.nl (by rw [h];decide);have e2:=S.nd (by rw [h];decide);have e3:=S.hk h;rw [h] at few hst hat;obtain ⟨⟨a1,a2,a3,a4,a5⟩,a6⟩:=hat;obtain ⟨b1,b2⟩:=zbm c.σ.hk;exact ⟨ok,by rw [S.count];have f:c.σ.count<8+hbits c.σ.hk:=few;omega,by omega,by rw [hst];exact ⟨⟨by rw [e1];exact a1,by rw [e2];exact a2,by rw [S.row];exact a4,by rw [e1,e2,S.row];exact a5⟩,by rw [e3.2.2.2];exact b1,by rw [e3.2.2.1];exact b2,by rw [e3.1];split <;> omega⟩⟩
 ·rw [h] at few hst hat;obtain ⟨b1,b2,b3⟩:=hsets h (by decide) hat.1;exact ⟨ok,by rw [S.count];have f:c.σ.count<8:=few;omega,by omega,by rw [hst];exact ⟨b1,b2,hqc,b3,by rw [S.lit];exact hat.2⟩⟩
 ·rw [h] at few hst hat;obtain ⟨b1,b2,b3⟩:=hsets h (by decide) hat;exact ⟨ok,by rw [S.count];have f:=kio few;omega,by omega,by rw [hst];exact ⟨b1,b2,hqc,b3⟩⟩
 ·rw [h] at few hst hat;obtain ⟨b1,b2,b3⟩:=hsets h (by decide) hat.1;obtain ⟨_,a1,a2,a3⟩:=hat;have hp:0<2^c.σ.bits:=Nat.pow_pos (by decide);exact ⟨ok,by rw [S.count];have f:c.σ.count<8+c.σ.bits:=few;omega,by omega,by rw [hst];exact ⟨b1,b2,hqc,by rw [S.span.1,S.span.2];exact ⟨by omega,by omega,by omega⟩⟩⟩
 ·rw [h] at few hst hat;obtain ⟨b1,b2,b3⟩:=hsets h (by decide) hat.1;exact ⟨ok,by rw [S.count];have f:=kio few;omega,by omega,by rw [hst];exact ⟨b1,b2,hqc,by rw [S.left];have f:=hat.2.2;omega⟩⟩
 ·rw [h] at few hst hat;obtain ⟨b1,b2,b3⟩:=hsets h (by decide) hat.1.1;obtain ⟨⟨_,l1,l2⟩,a1,a2,a3⟩:=hat;have hp:0<2^c.σ.bits:=Nat.pow_pos (by decide);exact ⟨ok,by rw [S.count];have f:c.σ.count<8+c.σ.bits:=few;omega,by omega,by rw [hst];exact ⟨b1,b2,hqc,by rw [S.span.1,S.span.2];exact ⟨by omega,by omega,by omega⟩,by rw [S.left];omega⟩⟩
 ·rw [h] at few hst hat;obtain ⟨⟨_,l1⟩,a1,a2,a3⟩:=hat;exact ⟨ok,by rw [S.count];have f:c.σ.count<8:=few;omega,by omega,by rw [hst];exact ⟨by rw [S.left];omega,by rw [S.dist];exact a1,by rw [S.dist,S.qc,List.length_drop];omega,hqc⟩⟩
 ·rw [h] at few hst;exact ⟨ok,by rw [S.count];exact few.2.1,by omega,by rw [hst];trivial⟩
 ·rw [h] at few hst;exact ⟨ok,by rw [S.count];have f:=few.2.1;omega,by omega,by rw [hst];trivial⟩
 ·rw [h] at few hst;have f:c.σ.count%8=0∧c.σ.count<=8:=few;exact ⟨ok,by rw [S.count];omega,by omega,by rw [hst];trivial⟩
theorem Sn.turn{q:Quo}{D:Nat}{s:ByteArray}{x:MS}{c:Cf}(N:Sn q D s x c):Out q D s c x.advance:=by
 have hst:=N.st;rcases St.cases24 N.sm.wf.st with h | h | h | h | h | h | h | h | h | h | h | h | h | h | h | h | h | h | h | h | h | h | h | h
 ·rw [show x.advance=x.h1 by unfold MS.advance;simp only [hst,h]];exact jgq N h
 ·rw [show x.advance=x.h2 by unfold MS.advance;simp only [hst,h]];exact vkw N h
 ·rw [show x.advance=x.h3 by unfold MS.advance;simp only [hst,h]];exact vk5 N h
 ·rw [show x.advance=x.h4 by unfold MS.advance;simp only [hst,h]];exact z57 N h
 ·rw [show x.advance=x.h5 by unfold MS.advance;simp only [hst,h]];exact yj0 N h
 ·rw [show x.advance=x.h6 by unfold MS.advance;simp only [hst,h]];exact x1o N h
 ·rw [show x.advance=x.b7 by unfold MS.advance;simp only [hst,h]];exact j1k N h
 ·rw [show x.advance=x.b8 by unfold MS.advance;simp only [hst,h]];exact xr3 N h
 ·rw [show x.advance=x.b9 by unfold MS.advance;simp only [hst,h]];exact x0v N h
 ·rw [show x.advance=x.o10 by unfold MS.advance;simp only [hst,h]];exact ken N h
 ·rw [show x.advance=x.o11 by unfold MS.advance;simp only [hst,h]];exact jjs N h
 ·rw [show x.advance=x.o12 by unfold MS.advance;simp only [hst,h]];exact y7i N h
 ·rw [show x.advance=x.o13 by unfold MS.advance;simp only [hst,h]];exact z6i N h
 ·rw [show x.advance=x.r14 by unfold MS.advance;simp only [hst,h]];exact ke9 N h
 ·rw [show x.advance=x.r15 by unfold MS.advance;simp only [hst,h]];exact vqi N h
 ·rw [show x.advance=x.c16 by unfold MS.advance;simp only [hst,h]];exact xcf N h
 ·rw [show x.advance=x.c17 by unfold MS.advance;simp only [hst,h]];exact va8 N h
 ·rw [show x.advance=x.c18 by unfold MS.advance;simp only [hst,h]];exact jak N h
 ·rw [show x.advance=x.c19 by unfold MS.advance;simp only [hst,h]];exact yhc N h
 ·rw [show x.advance=x.c20 by unfold MS.advance;simp only [hst,h]];exact vsv N h
 ·rw [show x.advance=x.c21 by unfold MS.advance;simp only [hst,h]];exact ks1 N h
 ·rw [show x.advance=x.e22 by unfold MS.advance;simp only [hst,h]];exact xwk N h
 ·rw [show x.advance=x.e23 by unfold MS.advance;simp only [hst,h]];exact kt5 N h
 ·rw [show x.advance=x.e24 by unfold MS.advance;simp only [hst,h]];exact v1u N h
theorem MS.need_eight{x:MS}(h:x.count=0):MS.need 8 x=match x.rest with | []=>(x,1) | b :: l=>if x.sp<=x.tk+x.pu then x.refuse 16 else (x.fed b l,0):=by
 cases e:x.rest with
 | nil=>exact MS.need_nil' (by omega) e
 | cons b l=>
  rw [MS.need_cons' (by omega) e];by_cases hs:x.sp<=x.tk+x.pu
  ·rw [if_pos hs];exact (if_pos hs).symm
  ·rw [if_neg hs,MS.need_done' (by show 8<=x.count+8;omega)];exact (if_neg hs).symm
theorem k6r{x:MS}(h0:x.fm=0)(hm:x.marks=0):MS.h1 x=({ x with st:=7 },0):=by
 unfold MS.h1 MS.passFixed;rw [if_pos h0,xd7];unfold MS.h2 MS.passFixed;rw [if_pos (show ({ x with st:=2 }:MS).fm=0 from h0),xd7];unfold MS.h3 MS.passMarks;rw [if_neg (show ¬ x.fm=2 by omega),xd7];unfold MS.h4 MS.passText;rw [if_pos (show x.marks / 1%2=0 by rw [hm]),xd7];unfold MS.h5 MS.passText;rw [if_pos (show x.marks / 2%2=0 by rw [hm]),xd7];unfold MS.h6 MS.passCheck;rw [if_pos (show x.marks / 4%2=0 by rw [hm]),xd7]
def j7o(y:MS):MS:={ y with mb:=y.mb+1,marks:=0,head:=0,hsum:=0,sx:=1,sy:=0,size:=0,qc:=[],st:=1 }
theorem vjq{x y:MS}(h:MS.need 8 x=(y,0))(hm:¬ y.mb=y.me):MS.h0 x=MS.h1 (j7o y):=by
 unfold MS.h0 MS.beginMember;rw [xa2,h,xd7,if_neg hm];rfl
theorem jq4{q:Quo}{D:Nat}{s:ByteArray}{x:MS}{c:Cf}(S:Sm q D s x c)(hst:x.st=0)(hmb:x.mb=0)(hc:c=Cf.begin c.σ.fmt c.σ.mem c.σ.lim):OutS q D s x c (MS.h0 x):=by
 have hpre:c.pre=[]:=by rw [hc];rfl
 have houts:c.outs=[]:=by rw [hc];rfl
 have hstarts:c.starts=[0]:=by rw [hc];rfl
 have hcnt:c.σ.count=0:=by rw [hc];rfl
 have hom:c.σ.om=[]:=by rw [hc];rfl
 have hmk:c.σ.marks=0:=by rw [hc];rfl
 have hhm:c.σ.hmany=0:=by rw [hc];rfl
 have hhs:c.σ.hsum=0:=by rw [hc];rfl
 have hs0:c.σ.st=if c.σ.fmt=0 then 6 else 0:=by have:c.σ=St.begin c.σ.fmt c.σ.mem c.σ.lim:=congrArg Cf.σ hc;rw [this];rfl
 have ha:c.σ.act= .take:=by have:=((km3.begin (mem:=c.σ.mem) (lim:=c.σ.lim) S.wf.fmt).act rfl).1;rw [← hc] at this;exact this
 have hx0:x.count=0:=by rw [S.count];exact hcnt
 have hnd:=MS.need_eight hx0;have hpl:c.pre.length=0:=by rw [hpre];rfl
 by_cases hl:c.pre.length<s.size
 ·have e:x.rest=k0w s c.pre.length :: jlo s (c.pre.length+1):=by rw [S.rest];exact ypz hl
  rw [e] at hnd;by_cases hs:x.sp<=x.tk+x.pu
  ·have hnd2:MS.need 8 x=x.refuse 16:=by rw [hnd];exact if_pos hs
   have e0:MS.h0 x=x.refuse 16:=by
    unfold MS.h0 MS.beginMember;rw [hnd2];rfl
   rw [e0];refine .dead c 16 (.refl c) rfl (S.dead (by decide) (by rw [if_pos hpl];exact hmb)) (fun cl=>Halt.steps ha hl ?_);rw [← S.tk,← S.pu,← S.sp];exact hs
  ·have hs':¬ q.steps<=c.pre.length+c.outs.length:=by rw [← S.tk,← S.pu,← S.sp];exact hs
   have hnd2:MS.need 8 x=(x.fed (k0w s c.pre.length) (jlo s (c.pre.length+1)),0):=by rw [hnd];exact if_neg hs
   have S1:=S.fed ha hl hs';have st1:j3w q D s c { c with σ:=c.σ.add (k0w s c.pre.length),pre:=c.pre++[k0w s c.pre.length] }:=j3w.take c ha hl hs';have hme:¬ (x.fed (k0w s c.pre.length) (jlo s (c.pre.length+1))).mb=(x.fed (k0w s c.pre.length) (jlo s (c.pre.length+1))).me:=by
    show ¬ x.mb=x.me;rw [hmb,S.me];have:=S.mb.2;rw [hstarts] at this;have:1<=c.σ.mem:=this;omega
   rw [vjq hnd2 hme];have hmu:=(st1.mu S.wf).2;generalize hY:x.fed (k0w s c.pre.length) (jlo s (c.pre.length+1))=y at *;have hymb:y.mb=0:=by rw [← hY];exact hmb
   obtain ⟨c1,hc1⟩:∃ c1:Cf,c1={ c with σ:=c.σ.add (k0w s c.pre.length),pre:=c.pre++[k0w s c.pre.length] }:=⟨_,rfl⟩
   have hp1:0<c1.pre.length:=by rw [hc1];simp
   have k1:c1.σ.st=c.σ.st:=by rw [hc1];rfl
   have k2:c1.σ.om=[]:=by rw [hc1];exact hom
   have k3:c1.σ.marks=0:=by rw [hc1];exact hmk
   have k4:c1.σ.hmany=0:=by rw [hc1];exact hhm
   have k5:c1.σ.hsum=0:=by rw [hc1];exact hhs
   have k6:c1.starts=[0]:=by rw [hc1];exact hstarts
   have k7:c1.σ.fmt=c.σ.fmt:=by rw [hc1];rfl
   rw [← hc1] at S1 st1 hmu;clear hY hc1;have base:c1.σ.st<10->∀ n,Sm q D s { j7o y with st:=n } c1:=fun h10 n=>{ S1 with
    qc:=by show []=c1.σ.om.drop _;rw [k2];rfl
    marks:=k3.symm
    head:=⟨k4.symm,by rw [k4];exact Nat.zero_le _⟩
    hsum:=k5.symm
    sum:=fun _=>by rw [k2];rfl
    sumle:=⟨by show 1<=65520;omega,by show 0<=65520;omega⟩
    size:=by rw [k2];rfl
    nl:=fun h=>absurd h (by omega)
    nd:=fun h=>absurd h (by omega)
    told:=fun h=>absurd h (by omega)
    hs:=fun h=>absurd h (by omega)
    hk:=fun h=>absurd h (by omega)
    la:=fun h=>absurd h (by omega) }
   have hmb1:(j7o y).mb=c1.starts.length:=by rw [k6];show y.mb+1=1;omega
   by_cases hf:c.σ.fmt=0
   ·have h6:c1.σ.st=6:=by rw [k1,hs0,if_pos hf]
    rw [k6r (x:=j7o y) (by show y.fm=0;rw [S1.fm,k7];exact hf) rfl];have N1:Sn q D s { j7o y with st:=7 } c1:=⟨base (by omega) 7,by rw [h6],hmb1,hp1⟩
    refine .go c1 (v44.one st1) rfl (.run N1) ?_;unfold muS;have h2:stN x=0:=if_pos hst;have h1:stN ({ j7o y with st:=7 }:MS)=1:=rfl;rw [h1,h2];omega
   ·have h6:c1.σ.st=0:=by rw [k1,hs0,if_neg hf]
    have N1:Sn q D s (j7o y) c1:=⟨base (by omega) 1,by rw [h6];rfl,hmb1,hp1⟩
    exact (jgq N1 h6).turn S.wf (v44.one st1) (Or.inl hmu)
 ·have e:x.rest=[]:=by rw [S.rest];exact vq8 (by omega)
  rw [e] at hnd;have e0:MS.h0 x=(x,1):=by
   unfold MS.h0 MS.beginMember;rw [hnd];rfl
  rw [e0];exact .hungry c (.refl c) rfl (.fresh S hst hmb hc) ha (by omega)
theorem znv{q:Quo}{D:Nat}{s:ByteArray}{x:MS}{c:Cf}(S:Sm q D s x c)(hst:x.st=0)(hmb:x.mb=c.starts.length)(h23:c.σ.st=23)(hf:c.σ.fmt=2)(hcnt:c.σ.count=8)(hp:0<c.pre.length):OutS q D s x c (MS.h0 x):=by
 have hnd:MS.need 8 x=(x,0):=MS.need_done' (by rw [S.count];omega);have hact:c.σ.act=if c.σ.mem<=c.σ.begun then .fail 6 else .tau { c.σ with st:=0,om:=[],hsum:=0,hmany:=0,marks:=0,begun:=c.σ.begun+1 }:=by
  rw [St.act_at h23];show St.need c.σ 8 _=_;unfold St.need;rw [if_neg (by omega),if_neg (by simp [hf])]
 have hbg:=S.mb;have hme:x.mb=x.me↔c.σ.mem<=c.σ.begun:=by rw [S.me,hmb];omega
 by_cases h1:c.σ.mem<=c.σ.begun
 ·rw [if_pos h1] at hact;have e0:MS.h0 x=x.refuse 6:=by
   unfold MS.h0 MS.beginMember;rw [xa2,hnd,xd7,if_pos (hme.2 h1)];rfl
  rw [e0];exact .dead c 6 (.refl c) rfl (S.dead (by decide) (by rw [if_neg (by omega)];exact hmb)) (fun cl=>Halt.fail 6 hact)
 ·rw [if_neg h1] at hact;rw [vjq hnd (fun h=>h1 (hme.1 h))];have st1:=j3w.tau (q:=q) (D:=D) (s:=s) c _ hact;rw [if_pos h23] at st1;obtain ⟨W1,hmu⟩:=st1.mu S.wf;have N1:Sn q D s (j7o x) { c with σ:={ c.σ with st:=0,om:=[],hsum:=0,hmany:=0,marks:=0,begun:=c.σ.begun+1 },starts:=c.starts++[c.pre.length - 1] }:=⟨{ S with
    wf:=W1
    qc:=by show ([]:List Nat)=List.drop _ [];simp
    marks:=rfl
    head:=⟨rfl,Nat.zero_le _⟩
    hsum:=rfl
    sum:=fun _=>rfl
    sumle:=⟨by show 1<=65520;omega,by show 0<=65520;omega⟩
    size:=by show 0=([]:List Nat).length%65536;simp
    nl:=fun h=>absurd h (show ¬ (10<=0∧0<=14) by decide)
    nd:=fun h=>absurd h (show ¬ (11<=0∧0<=14) by decide)
    told:=fun h=>absurd h (show ¬ (12<=0∧0<=14) by decide)
    hs:=fun h=>absurd h (show ¬ (13<=0∧0<=14) by decide)
    hk:=fun h=>absurd h (show ¬ (0=14) by decide)
    la:=fun h=>absurd h (show ¬ (15<=0∧0<=20) by decide)
    mb:=⟨by show c.σ.begun+1=(c.starts++[_]).length;rw [List.length_append,List.length_singleton];omega,by show (c.starts++[_]).length<=c.σ.mem;rw [List.length_append,List.length_singleton];omega⟩ },rfl,by show x.mb+1=(c.starts++[_]).length;rw [List.length_append,List.length_singleton,hmb],hp⟩
  exact (jgq N1 rfl).turn S.wf (v44.one st1) (Or.inl hmu)
theorem yvw.turn{q:Quo}{D:Nat}{s:ByteArray}{x:MS}{c:Cf}(h:yvw q D s x c):OutS q D s x c x.advance:=by
 have e0:x.st=0->x.advance=MS.h0 x:=fun h=>by unfold MS.advance;simp only [h]
 cases h with
 | run N=>exact N.turn.turn N.sm.wf (.refl c) (Or.inr ⟨rfl,by rw [N.st];omega⟩)
 | fresh S h1 h2 h3=>rw [e0 h1];exact jq4 S h1 h2 h3
 | between S h1 h2 h3 h4 h5 h6=>rw [e0 h1];exact znv S h1 h2 h3 h4 h5 h6
theorem yvw.pre_{q:Quo}{D:Nat}{s:ByteArray}{x:MS}{c:Cf}(h:yvw q D s x c)(L:Lim q c.σ.mem c.σ.lim):Pre x:=by
 have ok:=h.ok L;cases h with
 | run N=>exact N.pre_ L
 | fresh S h1 h2 h3=>
  have hc:x.count=0:=by rw [S.count,h3];rfl
  exact ⟨ok,by omega,by omega,by rw [h1];exact ⟨ok,Or.inl hc⟩⟩
 | between S h1 h2 h3 h4 h5 h6=>
  have hc:x.count=8:=by rw [S.count];exact h5
  exact ⟨ok,by omega,by omega,by rw [h1];exact ⟨ok,Or.inr hc⟩⟩
theorem v44.lims{q:Quo}{D:Nat}{s:ByteArray}{a b:Cf}(h:v44 q D s a b):St.Wf a.σ->b.σ.mem=a.σ.mem∧b.σ.lim=a.σ.lim∧b.σ.fmt=a.σ.fmt:=by
 induction h with
 | refl=>exact fun _=>⟨rfl,rfl,rfl⟩
 | step a b c h1 _ ih=>
  intro W;have N:=St.next W;obtain ⟨W1,_⟩:=h1.mu W;obtain ⟨e1,e2,e3⟩:=ih W1;have e:b.σ.mem=a.σ.mem∧b.σ.lim=a.σ.lim∧b.σ.fmt=a.σ.fmt:=by
   cases h1 with
   | take g1 g2 g3=>exact ⟨rfl,rfl,rfl⟩
   | put y σ' g1 g2 g3=>rw [g1] at N;exact ⟨N.2.2.2.2.1,N.2.2.2.2.2,N.2.2.2.1⟩
   | tau σ' g1=>rw [g1] at N;exact ⟨N.2.2.2.1,N.2.2.2.2.1,N.2.2.1⟩
  exact ⟨e1.trans e.1,e2.trans e.2.1,e3.trans e.2.2⟩
inductive EndS(q:Quo)(D:Nat)(s:ByteArray)(c:Cf)(r:MS×Nat):Prop
 | hungry (c':Cf):v44 q D s c c'->r.2=1->yvw q D s r.1 c'->c'.σ.act= .take->s.size<=c'.pre.length->EndS q D s c r
 | full (c':Cf) (b:Nat) (σ':St):v44 q D s c c'->r.2=2->yvw q D s r.1 c'->c'.σ.act= .put b σ'->D+64<=c'.outs.length->EndS q D s c r
 | dead (c':Cf) (e:Nat):v44 q D s c c'->r.2=3->Dead q r.1 c' e->Stop q D s c' e->EndS q D s c r
theorem EndS.after{q:Quo}{D:Nat}{s:ByteArray}{c c1:Cf}{r:MS×Nat}(h:EndS q D s c1 r)(st:v44 q D s c c1):EndS q D s c r:=by
 cases h with
 | hungry c' h1 h2 h3 h4 h5=>exact .hungry c' (st.trans h1) h2 h3 h4 h5
 | full c' b σ' h1 h2 h3 h4 h5=>exact .full c' b σ' (st.trans h1) h2 h3 h4 h5
 | dead c' e h1 h2 h3 h4=>exact .dead c' e (st.trans h1) h2 h3 h4
theorem j49{q:Quo}{D:Nat}{s:ByteArray}(m:Nat):∀ {x:MS} {c:Cf},muS s x c<=m->yvw q D s x c->Lim q c.σ.mem c.σ.lim->∃ n r,vgc n x r∧EndS q D s c r:=by
 induction m with
 | zero=>
  intro x c hm H L;have P:=H.pre_ L;have T:=H.turn;cases T with
  | go c' h1 h2 h3 h4=>omega
  | hungry c' h1 h2 h3 h4 h5=>exact ⟨0,_, .stop x P (by omega), .hungry c' h1 h2 h3 h4 h5⟩
  | full c' b σ' h1 h2 h3 h4 h5=>exact ⟨0,_, .stop x P (by omega), .full c' b σ' h1 h2 h3 h4 h5⟩
  | dead c' e h1 h2 h3 h4=>exact ⟨0,_, .stop x P (by omega), .dead c' e h1 h2 h3 h4⟩
 | succ m ih=>
  intro x c hm H L;have P:=H.pre_ L;have T:=H.turn;cases T with
  | go c' h1 h2 h3 h4=>
   have e:=h1.lims H.sm.wf;obtain ⟨n,r,R,E⟩:=ih (by omega) h3 (by rw [e.1,e.2.1];exact L);exact ⟨n+1,r, .go n x r P h2 R,E.after h1⟩
  | hungry c' h1 h2 h3 h4 h5=>exact ⟨0,_, .stop x P (by omega), .hungry c' h1 h2 h3 h4 h5⟩
  | full c' b σ' h1 h2 h3 h4 h5=>exact ⟨0,_, .stop x P (by omega), .full c' b σ' h1 h2 h3 h4 h5⟩
  | dead c' e h1 h2 h3 h4=>exact ⟨0,_, .stop x P (by omega), .dead c' e h1 h2 h3 h4⟩
theorem yvw.runs{q:Quo}{D:Nat}{s:ByteArray}{x:MS}{c:Cf}(h:yvw q D s x c)(L:Lim q c.σ.mem c.σ.lim):∃ n r,vgc n x r∧EndS q D s c r:=j49 _ (Nat.le_refl _) h L
end Go.Proofs.YtbcjmakpempkiaaGreatDoor
