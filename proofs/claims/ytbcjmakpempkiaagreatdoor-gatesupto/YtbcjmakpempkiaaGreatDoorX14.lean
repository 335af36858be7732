import Derived.Test.YtbcjmakpempkiaaGreatDoorX13
set_option maxRecDepth 100000
set_option maxHeartbeats 8000000
set_option linter.all false
namespace Go.Proofs.YtbcjmakpempkiaaGreatDoor
variable {x y z:MS} {w w' w1 w2 w3:World} {f ρ:Nat->Nat} {b c cap g i k n o p r sa want:Nat} {L M:Lo} {v:Value} {ad:Option Addr} {P:List ByteArray} {l q rest:List Nat} {s:ByteArray}
open Go.Proofs.Tryz
open Go.RowKit
def Ak(ρ:Nat->Nat)(w:World)(p:Nat)(r:MS×Nat)(e:Ending)(w':World):Prop:=e= .returned (.int .i64 r.2)/\MM ρ w' p r.1/\Fr V5 ρ w w'
theorem Ty{N:Nat}(h:GJ w r c N o f q) :
  Calls prog 109 #[.pointer (some ⟨r,0,none⟩)] w fun x b=>x= .returned (.tuple #[])/\GJ b r c N o f []/\Hy r c w b:=by
 have c2:w.cell? ⟨r,2,none⟩=some (.int .i64 q.length):=h.row.cell (i:=2) zO;have e:=h.row.frozen 2;have d:Hid (GJ (w.setCell ⟨r,2,none⟩ (.int .i64 0)) r c N o f []/\Hy r c w (w.setCell ⟨r,2,none⟩ (.int .i64 0))):=by
  refine ⟨⟨(h.row.set 2 _).congr (TO rfl rfl rfl),h.cells.setOther (a:=⟨r,2,none⟩) (zY h.ne) _,h.pos,h.small,h.ho,zH _,fun i hi=>by simp at hi,h.ne⟩,Hy.dx r c w 2 _⟩
 clear h;go_enter func109,ntmps109
 go_wp2
 go_end0
 exact ⟨rfl,d.out⟩
theorem MB.WC(h:MB ρ w p x L)(d:GJ w' L.a L.b 64 o f q)(e:Hy L.a L.b w w'):MB ρ w' p { x with qa:=q } L:=by
 have k:Fr (fun r=>r=2\/r=3) ρ w w':=Fr.two e (Or.inl h.rl.1) (Or.inr h.rl.2.1);obtain ⟨g,c,k2⟩:=h.rc;exact ⟨ER h.row k.kp (by rw [h.rp];decide),⟨o,f,d⟩,⟨g,c,k2.kp k.kp (by rw [h.rl.2.2.1];decide) (by rw [h.rl.2.2.2];decide)⟩,h.rp,h.rl⟩
theorem MB.dq(h:MB ρ w p x L)(b:GJ w' L.c L.d 256 o f q)(e:Hy L.c L.d w w'):MB ρ w' p { x with qc:=q } L:=by
 have k:Fr (fun r=>r=4\/r=5) ρ w w':=Fr.two e (Or.inl h.rl.2.2.1) (Or.inr h.rl.2.2.2);obtain ⟨g,a,k2⟩:=h.ra;exact ⟨ER h.row k.kp (by rw [h.rp];decide),⟨g,a,k2.kp k.kp (by rw [h.rl.1];decide) (by rw [h.rl.2.1];decide)⟩,⟨o,f,b⟩,h.rp,h.rl⟩
theorem MT.same(h:MT ρ w x L)(h1:y.rest=x.rest)(h2:y.hl=x.hl)(h3:y.row=x.row)(h4:y.hs=x.hs)(h5:y.la=x.la/\y.lb=x.lb):MT ρ w y L:=⟨by rw [h1];exact h.sup,by rw [h2];exact h.hl,by rw [h3];exact h.rw,by rw [h4];exact h.hp,by rw [h5.1,h5.2];exact h.Ev,h.fx,h.lt⟩
theorem Fr.VB{j:Nat}(h:Hy r c w w')(h1:ρ r=i)(h2:ρ c=j)(hi:1<=i/\i<=5)(a:1<=j/\j<=5):Fr V5 ρ w w':=Fr.two h (by rw [h1];exact hi) (by rw [h2];exact a)
theorem MT.bO(h:MT ρ w x L)(f:Fr V5 ρ w w'):MT ρ w' x L:=h.fr f.kp (fun _ e=>e.2)
theorem Fr.own(w:World)(p i:Nat)(v:Value)(h:ρ p=1):Fr V5 ρ w (w.setCell ⟨p,i,none⟩ v):=Fr.set w p i v (by rw [h];decide)
theorem Cd(e:Nat)(h:MM ρ w p x) :
  Calls prog 79 #[.pointer (some ⟨p,0,none⟩), .int .i64 e] w fun v l=>Ak ρ w p (x.refuse e) v l:=by
 obtain ⟨L,B,T⟩:=h;have q:=B.row.frozen 8;have n:w.cell? ⟨p,8,none⟩=some (.int .i64 x.er):=B.row.cell (i:=8) zO;have TN:w.cell? ⟨p,16,none⟩=some (.pointer (some ⟨L.a,0,none⟩)):=B.row.cell (i:=16) zO;have c:Hid (MB ρ (w.setCell ⟨p,8,none⟩ (.int .i64 e)) p { x with er:=e } L/\MT ρ (w.setCell ⟨p,8,none⟩ (.int .i64 e)) x L/\Fr V5 ρ w (w.setCell ⟨p,8,none⟩ (.int .i64 e))):=⟨B.set 8 (.int .i64 e) rfl ⟨rfl,rfl,rfl,rfl⟩ ⟨rfl,rfl⟩,T.set B.rp 8 _,Fr.own w p 8 _ B.rp⟩
 clear B T;go_enter func79,ntmps79
 go_wp2_with fail
 obtain ⟨o,f,j⟩:=c.out.1.ra;refine (Ty j).mono ?_;rintro v w1 ⟨rfl,d,b⟩;have g:=Fr.VB b c.out.1.rl.1 c.out.1.rl.2.1 zD zD;have k:Hid (MM ρ w1 p (x.refuse e).1/\Fr V5 ρ w w1):=⟨⟨L,c.out.1.WC d b,(c.out.2.1.bO g).same rfl rfl rfl rfl ⟨rfl,rfl⟩⟩,c.out.2.2.trans g⟩
 clear j d b g;go_wp2
 go_ret
 exact ⟨rfl,k.out⟩
structure JV(ρ:Nat->Nat)(w:World)(v:Value)(sa:Nat)(rest:List Nat)(ad:Option Addr)(P:List ByteArray)(cap:Nat):Prop where
 v:v= .slice ad P.length cap
 str:Kk w ad P
 RR:P.length<=cap
 RS:cap<=maxLen
 each:∀ s∈P,s.size<=maxLen
 le:sa<=((P.head?.map ByteArray.size).getD 0)
 rest:rest=(P.flatMap ES).drop sa
 role:∀ b o,ad=some ⟨b,o,none⟩->ρ b=9
theorem LY.open_(h:LY ρ w v sa rest):∃ ad P cap,JV ρ w v sa rest ad P cap:=by
 obtain ⟨ad,P,cap,h1,h2,h3,h4,h5,h6,a,b⟩:=h.at_;exact ⟨ad,P,cap,h1,h2,h3,h4,h5,h6,a,b⟩
theorem JV.shut(h:JV ρ w v sa rest ad P cap):LY ρ w v sa rest:=⟨ad,P,cap,h.v,h.str,h.RR,h.RS,h.each,h.le,h.rest,h.role⟩
theorem Ip(s:ByteArray):(ES s).length=s.size:=by unfold ES;rw [AS];rfl
theorem JV.tail(h:JV ρ w v sa rest ad (s :: P) cap)(hs:sa=s.size){ad':Option Addr}(i:∀ b o,ad=some ⟨b,o,none⟩->ad'=some ⟨b,o+1,none⟩\/(P=[]/\ad'=some ⟨b,o,none⟩)):JV ρ w (.slice ad' P.length (cap - 1)) 0 rest ad' P (cap - 1):=by
 obtain ⟨b,o,e,h1,h2⟩:=h.str 0 zS;have hc:=h.RR;simp at hc;refine ⟨rfl,fun k hk=>?_,zO,by have:=h.RS;omega,fun s hs=>h.each s (jP _ hs),zH _,?_,fun j l a=>?_⟩
 ·obtain ⟨g,d,f,h3,h4⟩:=h.str (k+1) (by simp;omega);rcases i g d f with c | c
  ·exact ⟨g,d+1,c,h3,by rw [show d+1+k=d+(k+1) by omega];simpa using h4⟩
  ·rw [c.1] at hk;simp at hk
 ·rw [h.rest,hs,xL,jD,kR (by rw [Ip];exact zE _),BX (by rw [Ip];exact zE _),AQ]
 ·rcases i b o e with c | c
  ·rw [c] at a;injection a with a;injection a with e1 f;rw [<- e1];exact h.role b o e
  ·rw [c.2] at a;injection a with a;injection a with e1 f;rw [<- e1];exact h.role b o e
def jc(w:World)(p:Nat):Nat:=match w.cell? ⟨p,12,none⟩ with | some (.slice _ n _)=>n | _=>0
theorem Yy(h:w.cell? ⟨p,12,none⟩=some (.slice ad n cap)):jc w p=n:=by unfold jc;rw [h]
theorem MB.LM(h:MB ρ w p x L)(v:Value)(n:Nat):MB ρ ((w.setCell ⟨p,12,none⟩ v).setCell ⟨p,13,none⟩ (.int .i64 n)) p x { L with sv:=v,sa:=n }:=
 (h.set (y:=x) (M:={ L with sv:=v }) 12 v rfl ⟨rfl,rfl,rfl,rfl⟩ ⟨rfl,rfl⟩).set 13 (.int .i64 n) rfl ⟨rfl,rfl,rfl,rfl⟩ ⟨rfl,rfl⟩
theorem MT.LM(h:MT ρ w x L)(hs:LY ρ w v n l):MT ρ w { x with rest:=l } { L with sv:=v,sa:=n }:=⟨hs,h.hl,h.rw,h.hp,h.Ev,h.fx,h.lt⟩
structure Mm(ρ:Nat->Nat)(w:World)(p:Nat)(x:MS)(L:Lo)(w':World):Prop where
 mb:MB ρ w' p x L
 mt:MT ρ w' x L
 fr:Fr V5 ρ w w'
theorem eO(h:MM ρ w p x) :
  Calls prog 186 #[.pointer (some ⟨p,12,none⟩)] w fun v J=>v= .returned (.bool (decide (x.rest=[])))/\∃ L,Mm ρ w p x L J/\(x.rest≠[]->∃ ad s P cap,JV ρ J L.sv L.sa x.rest ad (s :: P) cap/\L.sa<s.size):=by
 obtain ⟨H,C,I⟩:=h;have G:Hid (∃ L,Mm ρ w p x L w):=⟨H,C,I,Fr.refl _ _ _⟩
 clear C I H;go_enter func186,ntmps186
 go_wp2_with fail
 go_loopw [] (fun wr=>Hid (∃ L,Mm ρ w p x L wr)) (fun wr=>jc wr p)
 case atStart=>exact G
 case round=>
  clear G;obtain ⟨L,E⟩:=hrel.out;obtain ⟨ad,P,cap,S⟩:=E.mt.sup.open_;have f:wr.cell? ⟨p,12,none⟩=some L.sv:=E.mb.row.cell (i:=12) zO;have T:wr.cell? ⟨p,13,none⟩=some (.int .i64 L.sa):=E.mb.row.cell (i:=13) zO;have U:=E.mb.row.frozen 12;have V:=E.mb.row.frozen 13;rw [S.v] at f;have hlen:=Yy f;cases P with
  | nil=>
   have r:x.rest=[]:=by rw [S.rest];simp
   have d:Hid (∃ L,Mm ρ w p x L (wr.drewN 1)):=⟨L,E.mb.drewN 1,E.mt.drewN 1,E.fr.drewN 1⟩
   have l:=hid r;simp only [xA] at f;clear E S hrel r hlen;go_wp2_with fail
   go_quiet (fail)
   go_wp2
   go_ret
   obtain ⟨M,g⟩:=d.out;refine ⟨by rw [l.out];simp,M,⟨g.mb.fr ⟨zE _,fun _ _ _=>rfl⟩,g.mt.fr (R:=fun _=>False) ⟨zE _,fun _ _ _=>rfl⟩ (fun _ e=>e.elim),⟨⟨g.fr.kp.size,g.fr.kp.block⟩,g.fr.os,g.fr.tape,g.fr.output⟩⟩,fun h=>absurd l.out h⟩
  | cons s P=>
   obtain ⟨b,o,rfl,X,c⟩:=S.str 0 zS;have y:wr.cell? ⟨b,o,none⟩=some (.string s):=c;by_cases t:L.sa=s.size
   ·have u:((L.sa:Int)==(s.size:Int))=true:=by simp [t]
    have k:=S.each s zS;have z:P.length+1<=cap:=by have:=S.RR;simp at this;omega
    have j:=S.RS;unfold maxLen at j k;simp only [yG] at f;have a:=hid S;have d:=hid E;clear E S hrel c;go_wp2_with fail
    go_quiet (fail)
    go_wp2_with fail
    have N:JV ρ (wr.drewN nq) L.sv L.sa x.rest (some ⟨b,o,none⟩) (s :: P) cap:=⟨a.out.v,a.out.str,a.out.RR,a.out.RS,a.out.each,a.out.le,a.out.rest,a.out.role⟩
    have O:=N.tail t (ad':=if cap=1 then some ⟨b,o,none⟩ else some ⟨b,o+1,none⟩) (fun W Y e=>by
     injection e with e
     injection e with e1 e2
     subst e1 e2;by_cases h1:cap=1
     ·rw [zC h1];exact Or.inr ⟨vV.1 zO,rfl⟩
     ·rw [zA h1];exact Or.inl rfl)
    have Q:=(d.out.mt.drewN nq).LM O.shut;have F:Fr V5 ρ (wr.drewN nq) (((wr.drewN nq).setCell ⟨p,12,none⟩ (.slice (if cap=1 then some ⟨b,o,none⟩ else some ⟨b,o+1,none⟩) P.length (cap - 1))).setCell ⟨p,13,none⟩ (.int .i64 0)):=(Fr.own _ p 12 _ d.out.mb.rp).trans (Fr.own _ p 13 _ d.out.mb.rp);have D:=(d.out.mb.drewN nq).LM (.slice (if cap=1 then some ⟨b,o,none⟩ else some ⟨b,o+1,none⟩) P.length (cap - 1)) 0;refine ⟨⟨_,D,(Q.bO F).same rfl rfl rfl rfl ⟨rfl,rfl⟩,(d.out.fr.drewN nq).trans F⟩,?_⟩;rw [hlen];have q:=D.row.cell (i:=12) zO;exact vR (kZ (Yy (ad:=if cap=1 then some ⟨b,o,none⟩ else some ⟨b,o+1,none⟩) (n:=P.length) (cap:=cap - 1) q)) zS
   ·have A:L.sa<s.size:=by have:=S.le;simp at this;omega
    have u:((L.sa:Int)==(s.size:Int))=false:=by simp;omega
    have j:=S.RS;have k:=S.each s zS;unfold maxLen at j k;have z:P.length+1<=cap:=by have:=S.RR;simp at this;omega
    simp only [yG] at f;have a:=hid S;have d:=hid E;clear E S hrel c;go_wp2_with fail
    go_quiet (fail)
    go_wp2
    go_ret
    have B:x.rest≠[]:=by
     rw [a.out.rest,xL,kR (by rw [Ip];omega)];intro e;have:=yH List.length e;rw [zI,xI,Ip] at this;simp at this;omega
    refine ⟨by rw [kI B];rfl,L,⟨d.out.mb.drewN nq,d.out.mt.drewN nq,d.out.fr.drewN nq⟩,fun _=>⟨some ⟨b,o,none⟩,s,P,cap,⟨a.out.v,a.out.str,a.out.RR,a.out.RS,a.out.each,a.out.le,a.out.rest,a.out.role⟩,A⟩⟩
theorem JV.cons(h:JV ρ w v sa rest ad (s :: P) cap)(hs:sa<s.size):rest=(s[sa]).toNat :: (((s :: P).flatMap ES).drop (sa+1))/\JV ρ w v (sa+1) (((s :: P).flatMap ES).drop (sa+1)) ad (s :: P) cap:=by
 have hl:sa<((s :: P).flatMap ES).length:=by rw [xL,zI,Ip];omega
 refine ⟨?_,h.v,h.str,h.RR,h.RS,h.each,by simp;omega,rfl,h.role⟩;rw [h.rest,BY hl];congr 1
 have h2:sa<(ES s).length:=by rw [Ip];exact hs
 simp only [xL];rw [jC h2];exact (List.getElem_map UInt8.toNat (h:=h2)).trans rfl
theorem gv(B:MB ρ w p x L)(T:MT ρ w x L)(S:JV ρ w L.sv L.sa x.rest ad (s :: P) cap)(hs:L.sa<s.size) :
  Calls prog 189 #[.pointer (some ⟨p,12,none⟩)] w fun v l=>v= .returned (.int .u8 ((s[L.sa]).toNat:Nat))/\∃ n,l=(w.drewN n).setCell ⟨p,13,none⟩ (.int .i64 (L.sa+1:Nat)):=by
 have c:w.cell? ⟨p,12,none⟩=some L.sv:=B.row.cell (i:=12) zO;have h:w.cell? ⟨p,13,none⟩=some (.int .i64 L.sa):=B.row.cell (i:=13) zO;have j:=B.row.frozen 13;obtain ⟨b,o,rfl,q,a⟩:=S.str 0 zS;have d:w.cell? ⟨b,o,none⟩=some (.string s):=a;rw [S.v] at c;have g:=S.each s zS;have k:P.length+1<=cap:=by have:=S.RR;simp at this;omega
 have f:=S.RS;unfold maxLen at f g;simp only [yG] at c;clear B T S a;go_enter func189,ntmps189
 go_wp2_with fail
 go_quiet (fail)
 go_wp2
 go_ret
 refine ⟨rfl,nq,?_⟩;have e:((L.sa+1:Nat):Int)=(L.sa:Int)+1:=zO;rw [e]
structure Ok(x:MS):Prop where
 held:x.held<2^x.count
 steps:x.tk+x.pu<=x.sp
 sp:x.sp<=9223372036854775807
 quo:x.ra*x.sp+x.sl<=9223372036854775807
 ou:x.ou<=9223372036854775807
 sum:x.sx<=65520/\x.sy<=65520
 rest:∀ b∈x.rest,b<256
 hd:x.head<=x.he/\x.he<=9223372036854775807
 mD:x.mb<=x.me/\x.me<=9223372036854775807
 Az:x.Az<256
 size:x.size<65536
 marks:x.marks<256
 fm:x.fm<3
theorem Ok.Fv(h:Ok x)(e:x.rest=b :: l)(hs:¬ x.sp<=x.tk+x.pu):Ok (x.Fv b l):=by
 have d:=h.rest b (by rw [e];simp);have a:x.held+2^x.count*b<2^(x.count+8):=by
  have h1:=h.held;have h2:2^x.count*(b+1)<=2^x.count*2^8:=AK _ zO;rw [<- Nat.pow_add,jM] at h2;omega
 have g2:x.tk+1+x.pu<=x.sp:=zO;exact { h with held:=a,steps:=g2,rest:=fun c hc=>h.rest c (by rw [e];exact jP _ hc) }
theorem Ok.refuse(h:Ok x)(e:Nat):Ok (x.refuse e).1:={ h with }
theorem Ok.rd(h:Ok x)(hk:k<=x.count):Ok (x.rd k):=by
 have g:x.held / 2^k<2^(x.count - k):=by
  have h1:=h.held;rw [show x.count=k+(x.count - k) by omega,kC] at h1;exact Nat.div_lt_of_lt_mul h1
 exact { h with held:=g }
theorem Kk.below(h:Kk w ad P)(b:Below w.heap.size w w'):Kk w' ad P:=h.kp (R:=fun _=>False) (ρ:=fun k=>k) (Kp.Bk b) (fun _ _ _ e=>e)
theorem JV.below(h:JV ρ w v sa rest ad P cap)(b:Below w.heap.size w w'):JV ρ w' v sa rest ad P cap:=⟨h.v,h.str.below b,h.RR,h.RS,h.each,h.le,h.rest,h.role⟩
theorem JV.drewN(h:JV ρ w v sa rest ad P cap)(n:Nat):JV ρ (w.drewN n) v sa rest ad P cap:=⟨h.v,h.str,h.RR,h.RS,h.each,h.le,h.rest,h.role⟩
theorem oH(E:Mm ρ w p x L w2)(T:MT ρ w2 y M)(e:w3=((w2.drewN 1).drewN n).setCell ⟨p,13,none⟩ (.int .i64 (L.sa+1:Nat))):MB ρ w3 p x { L with sa:=L.sa+1 }/\MT ρ w3 y M/\Fr V5 ρ w w3:=by
 rw [e];exact ⟨((E.mb.drewN 1).drewN n).set 13 _ rfl ⟨rfl,rfl,rfl,rfl⟩ ⟨rfl,rfl⟩,((T.drewN 1).drewN n).set E.mb.rp 13 _,((E.fr.drewN 1).drewN n).trans (Fr.own _ p 13 _ E.mb.rp)⟩
theorem oI{w4:World}(h:MB ρ w3 p x M/\MT ρ w3 y L/\Fr V5 ρ w w3)(e:w4=((w3.drewN n).setCell ⟨p,14,none⟩ (.int .u64 (x.held+2^x.count*b:Nat))).setCell ⟨p,14+1,none⟩ (.int .i64 (x.count+8:Nat))):MB ρ w4 p { x with held:=x.held+2^x.count*b,count:=x.count+8 } M/\MT ρ w4 y L/\Fr V5 ρ w w4:=by
 rw [e];have rp:=h.1.rp;exact ⟨((h.1.drewN n).set (y:={ x with held:=x.held+2^x.count*b }) (M:=M) 14 _ rfl ⟨rfl,rfl,rfl,rfl⟩ ⟨rfl,rfl⟩).set 15 _ rfl ⟨rfl,rfl,rfl,rfl⟩ ⟨rfl,rfl⟩,((h.2.1.drewN n).set rp 14 _).set rp 15 _,((h.2.2.drewN n).trans (Fr.own _ p 14 _ rp)).trans (Fr.own _ p 15 _ rp)⟩
theorem mZ(h:MM ρ w p x)(k:Ok x)(hc:x.count<=56) :
  Calls prog 161 #[.pointer (some ⟨p,0,none⟩)] w fun v D=>Ak ρ w p x.take v D:=by
 have X:=hid h;have W:=hid k;have Az:x.tk+x.pu<=9223372036854775807:=by have:=k.steps;have:=k.sp;omega
 have A:=k.sp;clear h k;go_enter func161,ntmps161
 go_wp2_with fail
 refine (eO X.out).mono ?_;rintro v w1 ⟨rfl,L,E,H⟩;by_cases z:x.rest=[]
 ·have G:Hid (MM ρ w1 p x.take.1/\Fr V5 ρ w w1):=by
   have e:x.take=(x,1):=by unfold MS.take;rw [z];rfl
   rw [e];exact ⟨⟨L,E.mb,E.mt⟩,E.fr⟩
  have t:x.take.2=1:=by unfold MS.take;rw [z];rfl
  rw [vZ z];clear H E;go_wp2
  go_ret
  exact ⟨by rw [t];rfl,G.out⟩
 ·obtain ⟨ad,s,P,cap,S,u⟩:=H z;obtain ⟨g,S'⟩:=S.cons u;rw [kI z];have b:=hid E;have J:=hid S;have I:=hid S';have q:=hid g;clear H S S' g E;have n:(s[L.sa]).toNat<256:=UInt8.toNat_lt _;have c9:w1.cell? ⟨p,9,none⟩=some (.int .i64 x.tk):=b.out.mb.row.cell (i:=9) zO;have Y:w1.cell? ⟨p,10,none⟩=some (.int .i64 x.pu):=b.out.mb.row.cell (i:=10) zO;have Z:w1.cell? ⟨p,11,none⟩=some (.int .i64 x.mb):=b.out.mb.row.cell (i:=11) zO;have a0:w1.cell? ⟨p,0,none⟩=some (.int .i64 x.fm):=b.out.mb.row.cell (i:=0) zO;have a1:w1.cell? ⟨p,1,none⟩=some (.int .i64 x.ou):=b.out.mb.row.cell (i:=1) zO;have a2:w1.cell? ⟨p,2,none⟩=some (.int .i64 x.ra):=b.out.mb.row.cell (i:=2) zO;have a3:w1.cell? ⟨p,3,none⟩=some (.int .i64 x.sl):=b.out.mb.row.cell (i:=3) zO;have a4:w1.cell? ⟨p,4,none⟩=some (.int .i64 x.me):=b.out.mb.row.cell (i:=4) zO;have a5:w1.cell? ⟨p,5,none⟩=some (.int .i64 x.he):=b.out.mb.row.cell (i:=5) zO;have a6:w1.cell? ⟨p,6,none⟩=some (.int .i64 x.sp):=b.out.mb.row.cell (i:=6) zO;by_cases hq:x.sp<=x.tk+x.pu
  ·have N:Hid (∀ w,Calls prog 187 #[.agg (LP x.tk x.pu x.mb), .agg (Pe x.fm x.ou x.ra x.sl x.me x.he x.sp)] w fun x D=>x= .returned (.int .i64 16)/\Below w.heap.size w D):=fun w=>by
    have:=JP x.fm x.ou x.ra x.sl x.me x.he x.sp x.tk x.pu x.mb w Az A;rw [zC hq] at this;exact this
   have t:Hid (x.take=x.refuse 16):=by show x.take=_;unfold MS.take;rw [q.out];show (if _ then _ else _)=_;rw [zC hq]
   go_wp2_with fail
   go_region_with (go_at_call 187;refine (N.out _).mono ?_;rintro e w2 ⟨rfl,a⟩)
   all_goals
    have o:Hid (MM ρ w2 p x/\Fr V5 ρ w w2):=⟨(MM.drewN ⟨L,b.out.mb,b.out.mt⟩ 1).below a,(b.out.fr.drewN 1).trans (Fr.below a)⟩
    clear a;go_wp2_with fail
    refine (Cd 16 o.out.1).mono ?_;rintro v l ⟨rfl,h3,V⟩;have G:Hid (MM ρ l p (x.refuse 16).1/\Fr V5 ρ w l):=⟨h3,o.out.2.trans V⟩
    clear h3 V;go_wp2
    go_ret
    unfold Ak;rw [t.out];exact ⟨rfl,G.out⟩
  ·have N:Hid (∀ w,Calls prog 187 #[.agg (LP x.tk x.pu x.mb), .agg (Pe x.fm x.ou x.ra x.sl x.me x.he x.sp)] w fun x D=>x= .returned (.int .i64 0)/\Below w.heap.size w D):=fun w=>by
    have:=JP x.fm x.ou x.ra x.sl x.me x.he x.sp x.tk x.pu x.mb w Az A;rw [zA hq] at this;exact this
   have t:Hid (x.take=(x.Fv (s[L.sa]).toNat (((s :: P).flatMap ES).drop (L.sa+1)),0)):=by show x.take=_;unfold MS.take;rw [q.out];show (if _ then _ else _)=_;rw [zA hq]
   go_wp2_with fail
   go_region_with (go_at_call 187;refine (N.out _).mono ?_;rintro e w2 ⟨rfl,a⟩)
   all_goals
    have j:Hid (Mm ρ w p x L w2):=⟨(b.out.mb.drewN 1).fr (Kp.Bk a),(b.out.mt.drewN 1).fr (R:=fun _=>False) (Kp.Bk a) (fun _ e=>e.elim),(b.out.fr.drewN 1).trans (Fr.below a)⟩
    have f:Below w1.heap.size w1 w2:=⟨a.os,a.tape,a.output,a.size,a.block⟩
    have r:=CL ((J.out.below f).drewN 1) (j.out.mt.LM (I.out.below f).shut);clear f;clear a;go_wp2_with fail
    go_region_with (first
     | (go_at_call 189;refine (gv (j.out.mb.drewN 1) (j.out.mt.drewN 1) r.out.1 u).mono ?_;rintro e l ⟨rfl,n3,B⟩;have d:Hid (MB ρ l p x { L with sa:=L.sa+1 }/\MT ρ l { x with rest:=((s :: P).flatMap ES).drop (L.sa+1) } { L with sa:=L.sa+1 }/\Fr V5 ρ w l):=oH j.out r.out.2 B;have O:l.cell? ⟨p,14,none⟩=some (.int .u64 x.held):=d.out.1.row.cell (i:=14) zO;have Q:l.cell? ⟨p,15,none⟩=some (.int .i64 x.count):=d.out.1.row.cell (i:=15) zO;have T:=d.out.1.row.frozen 14;have U:=d.out.1.row.frozen 15;clear B)
     | (go_at_call 188;refine (ew p 14 x.held x.count (s[L.sa]).toNat _ n hc W.out.held O Q T U).mono ?_;rintro e F ⟨rfl,n4,C⟩;have c:Hid (MB ρ F p { x with held:=x.held+2^x.count*(s[L.sa]).toNat,count:=x.count+8 } { L with sa:=L.sa+1 }/\MT ρ F { x with rest:=((s :: P).flatMap ES).drop (L.sa+1) } { L with sa:=L.sa+1 }/\Fr V5 ρ w F):=oI d.out C;have k9:F.cell? ⟨p,9,none⟩=some (.int .i64 x.tk):=c.out.1.row.cell (i:=9) zO;have z9:=c.out.1.row.frozen 9;clear C))
    all_goals
     go_wp2
     go_ret
     unfold Ak;rw [t.out];have rp:=c.out.1.rp;refine ⟨rfl,⟨{ L with sa:=L.sa+1 },?_,?_⟩,?_⟩
     ·exact c.out.1.set (y:=x.Fv (s[L.sa]).toNat (((s :: P).flatMap ES).drop (L.sa+1))) (M:={ L with sa:=L.sa+1 }) 9 _ rfl ⟨rfl,rfl,rfl,rfl⟩ ⟨rfl,rfl⟩
     ·exact (c.out.2.1.set rp 9 _).same rfl rfl rfl rfl ⟨rfl,rfl⟩
     ·exact c.out.2.2.trans (Fr.own _ p 9 _ rp)
theorem MS.Ie(h:k<=x.count):MS.Ab k x=(x,0):=by
 unfold MS.Ab;cases x.rest with
 | nil=>unfold MS.needL;rw [zC h]
 | cons b l=>unfold MS.needL;rw [zC h]
theorem MS.take_nil(e:x.rest=[]):x.take=(x,1):=by unfold MS.take;rw [e];rfl
theorem MS.take_cons(e:x.rest=b :: l):x.take=if x.sp<=x.tk+x.pu then x.refuse 16 else (x.Fv b l,0):=by unfold MS.take;rw [e];rfl
theorem MS.QP(h:¬ k<=x.count)(e:x.rest=[]):MS.Ab k x=(x,1):=by
 unfold MS.Ab;rw [e];show (if k<=x.count then _ else _)=_;rw [zA h]
theorem MS.NO(h:¬ k<=x.count)(e:x.rest=b :: l):MS.Ab k x=if x.sp<=x.tk+x.pu then x.refuse 16 else MS.Ab k (x.Fv b l):=by
 unfold MS.Ab;rw [e];show (if k<=x.count then _ else _)=_;rw [zA h];rfl
theorem MS.aa(h:¬ k<=x.count):MS.Ab k x=if x.take.2=0 then MS.Ab k x.take.1 else x.take:=by
 cases e:x.rest with
 | nil=>rw [MS.take_nil e,MS.QP h e];rfl
 | cons b l=>
  rw [MS.take_cons e,MS.NO h e];by_cases hs:x.sp<=x.tk+x.pu
  ·rw [zC hs,zC hs];rfl
  ·rw [zA hs,zA hs];rfl
theorem Ok.take(h:Ok x)(h0:x.take.2=0):Ok x.take.1/\x.take.1.count=x.count+8:=by
 cases e:x.rest with
 | nil=>rw [MS.take_nil e] at h0;cases h0
 | cons b l=>
  rw [MS.take_cons e] at h0 |-;by_cases hs:x.sp<=x.tk+x.pu
  ·rw [zC hs] at h0;cases h0
  ·rw [zA hs];exact ⟨h.Fv e hs,rfl⟩
def Jc(w:World)(p i:Nat):Nat:=match w.cell? ⟨p,i,none⟩ with | some (.int _ n)=>n.toNat | _=>0
theorem Ed{k:IntKind}(h:w.cell? ⟨p,i,none⟩=some (.int k n)):Jc w p i=n:=by unfold Jc;rw [h];rfl
theorem MM.Pb(h:MM ρ w p x):w.cell? ⟨p,15,none⟩=some (.int .i64 x.count):=by
 obtain ⟨L,B,T⟩:=h;exact B.row.cell (i:=15) zO
theorem GC(k:Nat)(h:MM ρ w p x)(ok:Ok x)(hk:k<=56)(hx:x.count<=100) :
  Calls prog 133 #[.pointer (some ⟨p,0,none⟩), .int .i64 k] w fun v r=>Ak ρ w p (MS.Ab k x) v r:=by
 have f:Hid (∃ y,MM ρ w p y/\Ok y/\MS.Ab k y=MS.Ab k x/\Fr V5 ρ w w/\y.count<=100):=⟨x,h,ok,rfl,Fr.refl _ _ _,hx⟩
 clear h ok hx;go_enter func133,ntmps133
 go_wp2_with fail
 go_loopw [] (fun wr=>Hid (∃ y,MM ρ wr p y/\Ok y/\MS.Ab k y=MS.Ab k x/\Fr V5 ρ w wr/\y.count<=100)) (fun wr=>k - Jc wr p 15)
 case atStart=>exact f
 case round=>
  clear f;obtain ⟨y,h1,h2,h3,h4,s⟩:=hrel.out;have d:=h1.Pb;have e:=Ed d;by_cases o:y.count<k
  ·have h5:MS.Ab k x=if y.take.2=0 then MS.Ab k y.take.1 else y.take:=by rw [<- h3];exact MS.aa zO
   have a:Hid (MM ρ wr p y/\Ok y/\Fr V5 ρ w wr):=⟨h1,h2,h4⟩
   have g:=hid h5;clear h1 h2 h3 h4 h5 hrel;go_wp2_with fail
   refine (mZ a.out.1 a.out.2.1 zO).mono ?_;rintro v w1 ⟨rfl,c,g2⟩;by_cases h0:y.take.2=0
   ·obtain ⟨j,q⟩:=a.out.2.1.take h0;have b:Hid (∃ y,MM ρ w1 p y/\Ok y/\MS.Ab k y=MS.Ab k x/\Fr V5 ρ w w1/\y.count<=100):=⟨y.take.1,c,j,by rw [g.out,zC h0],a.out.2.2.trans g2,zO⟩
    have l:=Ed c.Pb;rw [h0];clear c g2 j;go_wp2_with fail
    go_roundw
    case rel=>exact b
    case measure=>rw [l,e,q];omega
   ·have b:Hid (MM ρ w1 p (MS.Ab k x).1/\Fr V5 ρ w w1/\(MS.Ab k x).2=y.take.2):=by
     show _/\_/\_;rw [g.out,zA h0];exact ⟨c,a.out.2.2.trans g2,rfl⟩
    obtain ⟨t,i⟩:=qe y.take.2;rw [<- i] at b h0 |-;have n:=qn h0;clear c g2 i;go_wp2
    go_ret
    unfold Ak;rw [b.out.2.2];exact ⟨rfl,b.out.1,b.out.2.1⟩
  ·have h5:MS.Ab k x=(y,0):=by rw [<- h3];exact MS.Ie zO
   have a:Hid (MM ρ wr p y/\Fr V5 ρ w wr/\MS.Ab k x=(y,0)):=⟨h1,h4,h5⟩
   clear h1 h2 h3 h4 h5 hrel;go_wp2
   go_ret
   unfold Ak;rw [a.out.2.2];exact ⟨rfl,a.out.1,a.out.2.1⟩
theorem MB.oJ(h:MB ρ w p x L):x.qa.length<=64:=by
 obtain ⟨o,f,k⟩:=h.ra;exact k.hq
theorem MB.oA(h:MB ρ w p x L):x.qc.length<=256:=by
 obtain ⟨o,f,k⟩:=h.rc;exact k.hq
theorem ml(b:Nat)(B:MB ρ w p x L)(hq:x.qa.length<64) :
  Calls prog 167 #[.pointer (some ⟨L.a,0,none⟩), .int .u8 b] w fun v c=>v= .returned (.tuple #[])/\MB ρ c p { x with qa:=x.qa++[b] } L/\Fr V5 ρ w c:=by
 obtain ⟨o,f,k⟩:=B.ra;refine (OB b k hq).mono ?_;rintro v c ⟨rfl,⟨e,d⟩,t⟩;exact ⟨rfl,B.WC d t,Fr.VB t B.rl.1 B.rl.2.1 zD zD⟩
theorem mn(b:Nat)(B:MB ρ w p x L) :
  Calls prog 167 #[.pointer (some ⟨L.c,0,none⟩), .int .u8 b] w fun v a=>v= .returned (.tuple #[])/\MB ρ a p { x with qc:=MS.Fi x.qc b } L/\Fr V5 ρ w a:=by
 obtain ⟨o,f,k⟩:=B.rc;by_cases hq:x.qc.length=256
 ·refine (WB b k hq).mono ?_;rintro v a ⟨rfl,⟨g,d⟩,t⟩;have e:MS.Fi x.qc b=x.qc.tail++[b]:=zC hq;rw [e];exact ⟨rfl,B.dq d t,Fr.VB t B.rl.2.2.1 B.rl.2.2.2 zD zD⟩
 ·refine (OB b k (by have:=k.hq;omega)).mono ?_;rintro v a ⟨rfl,⟨g,d⟩,t⟩;have e:MS.Fi x.qc b=x.qc++[b]:=zA hq;rw [e];exact ⟨rfl,B.dq d t,Fr.VB t B.rl.2.2.1 B.rl.2.2.2 zD zD⟩
theorem nk(b:Nat)(B:MB ρ w p x L)(hs:x.sx<=65520/\x.sy<=65520)(f:b<256) :
  Calls prog 111 #[.pointer (some ⟨p,21,none⟩), .int .u8 b] w fun v a=>v= .returned (.tuple #[])/\MB ρ a p { x with sx:=(x.sx+b)%65521,sy:=(x.sy+(x.sx+b)%65521)%65521 } L/\Fr V5 ρ w a:=by
 have c1:w.cell? ⟨p,21,none⟩=some (.int .i64 x.sx):=B.row.cell (i:=21) zO;have c2:w.cell? ⟨p,21+1,none⟩=some (.int .i64 x.sy):=B.row.cell (i:=22) zO;refine (Qo p 21 x.sx x.sy b w zO zO zO c1 c2 (B.row.frozen 21) (B.row.frozen 22)).mono ?_;rintro v a ⟨rfl,n,e⟩;have c:((x.sx:Int)+b)%65521=(((x.sx+b)%65521:Nat):Int):=zO;have d:((x.sy:Int)+(((x.sx+b)%65521:Nat):Int))%65521=(((x.sy+(x.sx+b)%65521)%65521:Nat):Int):=zO;rw [c,d] at e;rw [e];exact ⟨rfl,((B.drewN n).set (y:={ x with sx:=(x.sx+b)%65521 }) (M:=L) 21 _ rfl ⟨rfl,rfl,rfl,rfl⟩ ⟨rfl,rfl⟩).set 22 _ rfl ⟨rfl,rfl,rfl,rfl⟩ ⟨rfl,rfl⟩,(((Fr.refl _ _ _).drewN n).trans (Fr.own _ p 21 _ B.rp)).trans (Fr.own _ p 22 _ B.rp)⟩
theorem wrap_u16(n:Nat):IntKind.u16.wrap ((n:Int)+1)=(((n+1)%65536:Nat):Int):=by
 simp [IntKind.wrap,IntKind.bits,IntKind.signed]
structure Bh(ρ:Nat->Nat)(w:World)(p:Nat)(y x:MS)(L:Lo)(w':World):Prop where
 mb:MB ρ w' p y L
 mt:MT ρ w' x L
 fr:Fr V5 ρ w w'
theorem Bh.next(h:Bh ρ w p y x L w1)(B:MB ρ w2 p z L)(f:Fr V5 ρ w1 w2):Bh ρ w p z x L w2:=⟨B,h.mt.bO f,h.fr.trans f⟩
theorem Bh.set(h:Bh ρ w p y x L w1)(i:Nat)(v:Value)(e:(QN y L).set i v=QN z L)(hq:z.qa=y.qa/\z.qc=y.qc):Bh ρ w p z x L (w1.setCell ⟨p,i,none⟩ v):=h.next (h.mb.set i v e ⟨rfl,rfl,rfl,rfl⟩ hq) (Fr.own _ p i _ h.mb.rp)
theorem Bh.below(h:Bh ρ w p y x L w1)(b:Below w1.heap.size w1 w2):Bh ρ w p y x L w2:=h.next (h.mb.fr (Kp.Bk b)) (Fr.below b)
theorem Bh.drewN(h:Bh ρ w p y x L w1)(n:Nat):Bh ρ w p y x L (w1.drewN n):=h.next (h.mb.drewN n) ((Fr.refl _ _ _).drewN n)
theorem Bh.done(h:Bh ρ w p y x L w1)(h1:y.rest=x.rest)(h2:y.hl=x.hl)(h3:y.row=x.row)(h4:y.hs=x.hs)(h5:y.la=x.la/\y.lb=x.lb):MM ρ w1 p y/\Fr V5 ρ w w1:=⟨⟨L,h.mb,h.mt.same h1 h2 h3 h4 h5⟩,h.fr⟩
theorem fl(b:Nat)(h:MM ρ w p x)(ok:Ok x)(hb:b<256) :
  Calls prog 137 #[.pointer (some ⟨p,0,none⟩), .int .u8 b] w fun v G=>Ak ρ w p (x.put b) v G:=by
 obtain ⟨L,B,T⟩:=h;have Az:x.tk+x.pu<=9223372036854775807:=by have:=ok.steps;have:=ok.sp;omega
 have O:=ok.sp;have D:x.ra*x.tk+x.sl<=9223372036854775807:=by
  have h1:=ok.quo;have h2:x.ra*x.tk<=x.ra*x.sp:=AK _ (by have:=ok.steps;omega);omega
 have b1:=B.oJ;have b2:=ok.size;have HS:=hid ok.sum;have A:Hid (Bh ρ w p x x L w):=⟨B,T,Fr.refl _ _ _⟩
 have TN:w.cell? ⟨p,16,none⟩=some (.pointer (some ⟨L.a,0,none⟩)):=B.row.cell (i:=16) zO;have U:Hid (Calls prog 165 #[.pointer (some ⟨L.a,0,none⟩)] w fun v G=>v= .returned (.bool (decide (x.qa.length=64)))/\∃ n,G=w.drewN n):=by
  obtain ⟨o,f,k⟩:=B.ra;exact Xz k
 have t:Hid (∀ w,Calls prog 166 #[.agg (LP x.tk x.pu x.mb), .agg (Pe x.fm x.ou x.ra x.sl x.me x.he x.sp)] w fun v G=>v= .returned (.int .i64 x.MP)/\Below w.heap.size w G):=fun w=>PS x.fm x.ou x.ra x.sl x.me x.he x.sp x.tk x.pu x.mb w Az O D ok.ou
 clear B T D;go_enter func137,ntmps137
 go_wp2_with fail
 refine U.out.mono ?_;rintro v w1 ⟨rfl,n1,F⟩;have d:Hid (Bh ρ w p x x L w1):=by show Bh _ _ _ _ _ _ _;rw [F];exact A.out.drewN n1
 clear F U A TN;by_cases g:x.qa.length=64
 ·rw [vZ g];have e:Hid (x.put b=(x,2)):=by show x.put b=_;unfold MS.put;rw [zC g]
  have H:=d.out.done rfl rfl rfl rfl ⟨rfl,rfl⟩;have M:Hid (MM ρ w1 p x/\Fr V5 ρ w w1):=H;clear H;go_wp2
  go_ret
  unfold Ak;rw [e.out];exact ⟨rfl,M.out⟩
 ·rw [kI g];have z:x.qa.length<64:=zO;have c9:w1.cell? ⟨p,9,none⟩=some (.int .i64 x.tk):=d.out.mb.row.cell (i:=9) zO;have a7:w1.cell? ⟨p,10,none⟩=some (.int .i64 x.pu):=d.out.mb.row.cell (i:=10) zO;have a8:w1.cell? ⟨p,11,none⟩=some (.int .i64 x.mb):=d.out.mb.row.cell (i:=11) zO;have a0:w1.cell? ⟨p,0,none⟩=some (.int .i64 x.fm):=d.out.mb.row.cell (i:=0) zO;have a1:w1.cell? ⟨p,1,none⟩=some (.int .i64 x.ou):=d.out.mb.row.cell (i:=1) zO;have a2:w1.cell? ⟨p,2,none⟩=some (.int .i64 x.ra):=d.out.mb.row.cell (i:=2) zO;have a3:w1.cell? ⟨p,3,none⟩=some (.int .i64 x.sl):=d.out.mb.row.cell (i:=3) zO;have a4:w1.cell? ⟨p,4,none⟩=some (.int .i64 x.me):=d.out.mb.row.cell (i:=4) zO;have a5:w1.cell? ⟨p,5,none⟩=some (.int .i64 x.he):=d.out.mb.row.cell (i:=5) zO;have a6:w1.cell? ⟨p,6,none⟩=some (.int .i64 x.sp):=d.out.mb.row.cell (i:=6) zO;have C:Hid (x.put b=if x.MP≠0 then x.refuse x.MP else (x.FC b,0)):=by show x.put b=_;unfold MS.put;rw [zA g]
  have q:x.MP=0->x.pu+1<=9223372036854775807:=fun h=>by
   unfold MS.MP at h;by_cases hq:x.sp<=x.tk+x.pu
   ·rw [zC hq] at h;cases h
   ·omega
  obtain ⟨E,N⟩:=qe x.MP;rw [<- N] at q;rw [<- N] at t C;clear N;by_cases h0:E=0
  ·subst h0;have b0:=q rfl;clear q;have J:Hid (x.put b=(x.FC b,0)):=by show x.put b=_;rw [C.out];rfl
   clear C;go_wp2_with fail
   go_region_with (go_at_call 166;refine (t.out _).mono ?_;rintro e w2 ⟨rfl,l⟩)
   all_goals
    have j:=hid ((d.out.drewN 1).below l);clear l;have b3:w2.cell? ⟨p,10,none⟩=some (.int .i64 x.pu):=j.out.mb.row.cell (i:=10) zO;have b7:=j.out.mb.row.frozen 10;have b4:w2.cell? ⟨p,16,none⟩=some (.pointer (some ⟨L.a,0,none⟩)):=j.out.mb.row.cell (i:=16) zO;have r:Hid (Bh ρ w p { x with pu:=x.pu+1 } x L (w2.setCell ⟨p,10,none⟩ (.int .i64 (x.pu+1:Nat)))):=j.out.set 10 _ rfl ⟨rfl,rfl⟩;have e1:((x.pu+1:Nat):Int)=(x.pu:Int)+1:=zO;rw [e1] at r;go_wp2_with fail
    refine (ml b r.out.mb z).mono ?_;rintro v w4 ⟨rfl,Q,W⟩;have s:Hid (Bh ρ w p { x with pu:=x.pu+1,qa:=x.qa++[b] } x L w4):=r.out.next Q W;clear Q W r j;have b5:w4.cell? ⟨p,17,none⟩=some (.pointer (some ⟨L.c,0,none⟩)):=s.out.mb.row.cell (i:=17) zO;go_wp2_with fail
    refine (mn b s.out.mb).mono ?_;rintro v w5 ⟨rfl,R,X⟩;have u:Hid (Bh ρ w p { x with pu:=x.pu+1,qa:=x.qa++[b],qc:=MS.Fi x.qc b } x L w5):=s.out.next R X;clear R X s;go_wp2_with fail
    refine (nk b u.out.mb HS.out hb).mono ?_;rintro v P ⟨rfl,S,Y⟩;have y:Hid (Bh ρ w p { x with pu:=x.pu+1,qa:=x.qa++[b],qc:=MS.Fi x.qc b,sx:=(x.sx+b)%65521,sy:=(x.sy+(x.sx+b)%65521)%65521 } x L P):=u.out.next S Y;clear S Y u;have b6:P.cell? ⟨p,23,none⟩=some (.int .u16 x.size):=y.out.mb.row.cell (i:=23) zO;have b8:=y.out.mb.row.frozen 23;have I:Hid (Bh ρ w p (x.FC b) x L (P.setCell ⟨p,23,none⟩ (.int .u16 ((x.size+1)%65536:Nat)))):=y.out.set 23 _ rfl ⟨rfl,rfl⟩;go_wp2
    go_ret
    unfold Ak;rw [J.out,wrap_u16];exact ⟨rfl,I.out.done rfl rfl rfl rfl ⟨rfl,rfl⟩⟩
  ·have J:Hid (x.put b=x.refuse E):=by show x.put b=_;rw [C.out,zC h0]
   have a9:=qn h0;clear C;go_wp2_with fail
   go_region_with (go_at_call 166;refine (t.out _).mono ?_;rintro e w2 ⟨rfl,l⟩)
   all_goals
    have j:=hid ((d.out.drewN 1).below l);clear l;go_wp2_with fail
    refine (Cd E (j.out.done rfl rfl rfl rfl ⟨rfl,rfl⟩).1).mono ?_;rintro v Z ⟨rfl,h3,V⟩;have H:Hid (MM ρ Z p (x.refuse E).1/\Fr V5 ρ w Z):=⟨h3,j.out.fr.trans V⟩
    clear h3 V;go_wp2
    go_ret
    unfold Ak;rw [J.out];exact ⟨rfl,H.out⟩
theorem MS.GV{k:Nat}:∀ (l:List Nat) {x:MS},x.rest=l->Ok x->Ok (MS.Ab k x).1/\((MS.Ab k x).2=0->k<=(MS.Ab k x).1.count/\((MS.Ab k x).1.count<=x.count\/(MS.Ab k x).1.count<k+8)/\(MS.Ab k x).1={ x with held:=(MS.Ab k x).1.held,count:=(MS.Ab k x).1.count,tk:=(MS.Ab k x).1.tk,rest:=(MS.Ab k x).1.rest }/\8*(MS.Ab k x).1.rest.length+(MS.Ab k x).1.count=8*x.rest.length+x.count)
 | [],x,e,ok=>by
  by_cases h:k<=x.count
  ·rw [MS.Ie h];exact ⟨ok,fun _=>⟨h,Or.inl zL,rfl,rfl⟩⟩
  ·rw [MS.QP h e];exact ⟨ok,fun h0=>by cases h0⟩
 | b :: l,x,e,ok=>by
  by_cases h:k<=x.count
  ·rw [MS.Ie h];exact ⟨ok,fun _=>⟨h,Or.inl zL,rfl,rfl⟩⟩
  ·rw [MS.NO h e];by_cases hs:x.sp<=x.tk+x.pu
   ·rw [zC hs];exact ⟨ok.refuse 16,fun h0=>by cases h0⟩
   ·rw [zA hs];obtain ⟨a,c⟩:=MS.GV (k:=k) l (x:=x.Fv b l) rfl (ok.Fv e hs);refine ⟨a,fun h0=>?_⟩;obtain ⟨c1,c2,c3,d⟩:=c h0;refine ⟨c1,?_,?_,?_⟩
    ·rcases c2 with c2 | c2
     ·right
      have:(x.Fv b l).count=x.count+8:=rfl;omega
     ·exact Or.inr c2
    ·rw [c3];rfl
    ·rw [d,e];show 8*l.length+(x.count+8)=8*(b :: l).length+x.count;simp;omega
theorem MS.Ck(h:Ok x):Ok (MS.Ab k x).1:=(MS.GV (k:=k) x.rest rfl h).1
theorem MS.Ci(h:Ok x)(h0:(MS.Ab k x).2=0):k<=(MS.Ab k x).1.count/\((MS.Ab k x).1.count<=x.count\/(MS.Ab k x).1.count<k+8):=⟨((MS.GV (k:=k) x.rest rfl h).2 h0).1,((MS.GV (k:=k) x.rest rfl h).2 h0).2.1⟩
theorem MS.EO(h:Ok x)(h0:(MS.Ab k x).2=0):(MS.Ab k x).1={ x with held:=(MS.Ab k x).1.held,count:=(MS.Ab k x).1.count,tk:=(MS.Ab k x).1.tk,rest:=(MS.Ab k x).1.rest }:=((MS.GV (k:=k) x.rest rfl h).2 h0).2.2.1
theorem MS.SP(h:Ok x)(h0:(MS.Ab k x).2=0):8*(MS.Ab k x).1.rest.length+(MS.Ab k x).1.count=8*x.rest.length+x.count:=((MS.GV (k:=k) x.rest rfl h).2 h0).2.2.2
theorem Gg(k:Nat)(h:MM ρ w p x)(ok:Ok x)(hk:k<=x.count)(hc:x.count<=63) :
  Calls prog 134 #[.pointer (some ⟨p,14,none⟩), .int .i64 k] w fun v a=>v= .returned (.int .i64 (x.num k))/\MM ρ a p (x.rd k)/\Fr V5 ρ w a:=by
 obtain ⟨L,B,T⟩:=h;have c1:w.cell? ⟨p,14,none⟩=some (.int .u64 x.held):=B.row.cell (i:=14) zO;have c2:w.cell? ⟨p,14+1,none⟩=some (.int .i64 x.count):=B.row.cell (i:=15) zO;refine (Uq p 14 x.held x.count k w hk hc ok.held c1 c2 (B.row.frozen 14) (B.row.frozen 15)).mono ?_;rintro v a ⟨rfl,n,e⟩;refine ⟨rfl,?_⟩;have R:Bh ρ w p x x L w:=⟨B,T,Fr.refl _ _ _⟩
 rw [e];exact (((R.drewN n).set (z:={ x with held:=x.held / 2^k }) 14 _ rfl ⟨rfl,rfl⟩).set (z:=x.rd k) 15 _ rfl ⟨rfl,rfl⟩).done rfl rfl rfl rfl ⟨rfl,rfl⟩
def PQ(T:IntKind)(ρ:Nat->Nat)(w:World)(p:Nat)(r:MS×Nat×Nat)(e:Ending)(w':World):Prop:=e= .returned (.tuple #[.int T r.2.2, .int .i64 r.2.1])/\MM ρ w' p r.1/\Fr V5 ρ w w'
theorem NL(h:MM ρ w p x)(ok:Ok x)(hx:x.count<=8) :
  Calls prog 160 #[.pointer (some ⟨p,0,none⟩)] w fun v J=>PQ .u8 ρ w p x.Ah v J:=by
 have d:=CL h ok;have c:Hid (x.Ah=if (MS.Ab 8 x).2≠0 then ((MS.Ab 8 x).1,(MS.Ab 8 x).2,0) else if (MS.Ab 8 x).1.head=(MS.Ab 8 x).1.he then (((MS.Ab 8 x).1.refuse 5).1,3,0) else ((MS.Ab 8 x).1.Ez,0,(MS.Ab 8 x).1.num 8)):=rfl;clear h ok;go_enter func160,ntmps160
 go_wp2_with fail
 refine (GC 8 d.out.1 d.out.2 zO zO).mono ?_;rintro v w1 ⟨rfl,f,g2⟩;by_cases h0:(MS.Ab 8 x).2=0
 ·have A:=MS.Ci d.out.2 h0;have k2:=MS.EO d.out.2 h0;have k3:=MS.Ck (k:=8) d.out.2;rw [h0];rw [zA (by rw [h0];simp)] at c;obtain ⟨y,u⟩:=qe ((MS.Ab 8 x).1);rw [<- u] at f c A k2 k3;have e:Hid (MM ρ w1 p y/\Ok y/\Fr V5 ρ w w1):=⟨f,k3,g2⟩
  have P:=k3.Az;have O:=k3.hd;obtain ⟨L,B,T⟩:=f;have ez:w1.cell? ⟨p,19,none⟩=some (.int .i64 y.head):=B.row.cell (i:=19) zO;have N:w1.cell? ⟨p,5,none⟩=some (.int .i64 y.he):=B.row.cell (i:=5) zO;clear B T g2 u k2 k3 h0;by_cases hq:y.head=y.he
  ·rw [zC hq] at c;have o:((y.head:Int)==(y.he:Int))=true:=by simp [hq]
   clear hq;go_wp2_with fail
   go_quiet (fail)
   go_wp2_with fail
   refine (Cd 5 (e.out.1.drewN _)).mono ?_;rintro v w2 ⟨rfl,j,g⟩;have l:Hid (MM ρ w2 p (y.refuse 5).1/\Fr V5 ρ w w2):=⟨j,(e.out.2.2.drewN _).trans g⟩
   clear j g;go_wp2_with fail
   go_ret2
   unfold PQ;rw [c.out];exact ⟨rfl,l.out⟩
  ·rw [zA hq] at c;have o:((y.head:Int)==(y.he:Int))=false:=by simp;omega
   have H:y.head+1<=9223372036854775807:=zO;clear hq;go_wp2_with fail
   go_quiet (fail)
   go_wp2_with fail
   refine (Gg 8 (e.out.1.drewN _) e.out.2.1 A.1 zO).mono ?_;rintro v w2 ⟨rfl,j,g⟩;have I:y.num 8<256:=yC _ zD;have n:((y.num 8:Nat):Int)%256=((y.num 8:Nat):Int):=zO;obtain ⟨L,B,T⟩:=j;have C:Hid (Bh ρ w p (y.rd 8) (y.rd 8) L w2):=⟨B,T,(e.out.2.2.drewN _).trans g⟩
   have D:w2.cell? ⟨p,19,none⟩=some (.int .i64 y.head):=B.row.cell (i:=19) zO;have E:w2.cell? ⟨p,20,none⟩=some (.int .u8 y.Az):=B.row.cell (i:=20) zO;have M:=B.row.frozen 19;have z20:=B.row.frozen 20;have a:Hid (Bh ρ w p y.Ez (y.rd 8) L ((w2.setCell ⟨p,19,none⟩ (.int .i64 (y.head+1:Nat))).setCell ⟨p,20,none⟩ (.int .u8 ((y.Az+y.num 8)%256:Nat)))):=(C.out.set (z:={ y.rd 8 with head:=y.head+1 }) 19 _ rfl ⟨rfl,rfl⟩).set 20 _ rfl ⟨rfl,rfl⟩;have F:((y.head+1:Nat):Int)=(y.head:Int)+1:=zO;rw [F] at a;clear B T g;obtain ⟨b,r⟩:=qe (y.num 8);rw [<- r] at I n c a |-;clear r;go_wp2_with fail
   go_ret2
   unfold PQ;rw [c.out];have q:((y.Az:Int)+b)%256=(((y.Az+b)%256:Nat):Int):=zO;first
    | exact ⟨rfl,a.out.done rfl rfl rfl rfl ⟨rfl,rfl⟩⟩
    | (rw [q];exact ⟨rfl,a.out.done rfl rfl rfl rfl ⟨rfl,rfl⟩⟩)
    | (rw [IntKind.wrap_u8,q];exact ⟨rfl,a.out.done rfl rfl rfl rfl ⟨rfl,rfl⟩⟩)
 ·obtain ⟨t,s⟩:=qe ((MS.Ab 8 x).2);rw [zC h0] at c;have l:Hid (MM ρ w1 p (MS.Ab 8 x).1/\Fr V5 ρ w w1):=⟨f,g2⟩
  rw [<- s] at h0 c |-;have G:=qn h0;clear f g2 s;go_wp2_with fail
  go_ret2
  unfold PQ;rw [c.out];exact ⟨rfl,l.out⟩
theorem Ok.Ez(h:Ok y)(a:8<=y.count)(hq:y.head≠y.he):Ok y.Ez:=
 { h.rd a with hd:=⟨by have:=h.hd.1;show y.head+1<=y.he;omega,h.hd.2⟩,Az:=yC _ zD }
theorem MS.GH(ok:Ok x)(hx:x.count<=8):Ok x.Ah.1/\(x.Ah.2.1=0->x.Ah.1.count<8/\x.Ah.2.2<256/\x.Ah.1.more<x.more/\x.Ah.1={ x with held:=x.Ah.1.held,count:=x.Ah.1.count,tk:=x.Ah.1.tk,rest:=x.Ah.1.rest,head:=x.Ah.1.head,Az:=x.Ah.1.Az }):=by
 have k3:=MS.Ck (k:=8) ok;unfold MS.Ah;by_cases h0:(MS.Ab 8 x).2=0
 ·have a:=MS.Ci ok h0;have k2:=MS.EO ok h0;have k4:=MS.SP ok h0;rw [zA (by rw [h0];simp)];by_cases hq:(MS.Ab 8 x).1.head=(MS.Ab 8 x).1.he
  ·rw [zC hq];exact ⟨k3.refuse 5,fun h=>by cases h⟩
  ·rw [zA hq];refine ⟨k3.Ez a.1 hq,fun _=>⟨?_,yC _ zD,?_,?_⟩⟩
   ·show (MS.Ab 8 x).1.count - 8<8;omega
   ·show (MS.Ab 8 x).1.rest.length+((MS.Ab 8 x).1.count - 8) / 8<x.rest.length+x.count / 8;omega
   ·show ({ (MS.Ab 8 x).1.rd 8 with head:=_,Az:=_ }:MS)=_;generalize MS.Ab 8 x=r at *;rw [k2];rfl
 ·rw [zC h0];exact ⟨k3,fun h=>absurd h h0⟩
theorem SJ(a:Nat)(h:MM ρ w p x)(ok:Ok x)(hx:x.count<=8)(hw:a<256) :
  Calls prog 159 #[.pointer (some ⟨p,0,none⟩), .int .u8 a] w fun v q=>Ak ρ w p (MS.DH a x) v q:=by
 have g:=CL h ok;have d:Hid (MS.DH a x=if x.Ah.2.1=0 then (if x.Ah.2.2=a then (x.Ah.1,0) else x.Ah.1.refuse 4) else (x.Ah.1,x.Ah.2.1)):=rfl;clear h ok;go_enter func159,ntmps159
 go_wp2_with fail
 refine (NL g.out.1 g.out.2 hx).mono ?_;rintro v w1 ⟨rfl,j,g2⟩;have e:=(MS.GH g.out.2 hx).2;obtain ⟨y,t,b,n⟩:∃ y t b,x.Ah=(y,t,b):=⟨_,_,_,rfl⟩
 rw [n] at j d e |-;have f:Hid (MM ρ w1 p y/\Fr V5 ρ w w1):=⟨j,g2⟩
 clear j g2 n;by_cases h0:t=0
 ·have r:b<256:=(e h0).2.1;subst h0;rw [zC rfl] at d;by_cases c:b=a
  ·rw [zC c] at d;have hd:((b:Int)==(a:Int))=true:=by simp [c]
   clear c e;go_wp2
   go_ret
   unfold Ak;rw [d.out];exact ⟨rfl,f.out⟩
  ·rw [zA c] at d;have hd:((b:Int)==(a:Int))=false:=by simp;omega
   clear c e;go_wp2_with fail
   refine (Cd 4 f.out.1).mono ?_;rintro v w2 ⟨rfl,k,l⟩;have i:Hid (MM ρ w2 p (y.refuse 4).1/\Fr V5 ρ w w2):=⟨k,f.out.2.trans l⟩
   clear k l;go_wp2
   go_ret
   unfold Ak;rw [d.out];exact ⟨rfl,i.out⟩
 ·rw [zA h0] at d;have o:=qn h0;clear e;go_wp2
  go_ret
  unfold Ak;rw [d.out];exact ⟨rfl,f.out⟩
theorem QJ(a:Nat)(h:MM ρ w p x)(ok:Ok x)(hx:x.count<=8\/x.fm=0)(hw:a<256) :
  Calls prog 129 #[.pointer (some ⟨p,0,none⟩), .int .u8 a] w fun v g=>Ak ρ w p (MS.Bo a x) v g:=by
 have c:=CL h ok;have j:w.cell? ⟨p,0,none⟩=some (.int .i64 x.fm):=by obtain ⟨L,B,T⟩:=h;exact B.row.cell (i:=0) zO
 have b:Hid (MS.Bo a x=if x.fm=0 then (x,0) else MS.DH a x):=rfl;clear h ok;go_enter func129,ntmps129
 by_cases h0:x.fm=0
 ·rw [zC h0] at b;have hd:((x.fm:Int)==0)=true:=by simp [h0]
  clear h0 hx;go_wp2
  go_ret
  unfold Ak;rw [b.out];exact ⟨rfl,c.out.1,Fr.refl _ _ _⟩
 ·rw [zA h0] at b;have hd:((x.fm:Int)==0)=false:=by simp;exact h0
  have d:x.count<=8:=zO;clear h0 hx;go_wp2_with fail
  refine (SJ a c.out.1 c.out.2 d hw).mono ?_;rintro v w1 ⟨rfl,e,g2⟩;have f:Hid (MM ρ w1 p (MS.DH a x).1/\Fr V5 ρ w w1):=⟨e,g2⟩
  clear e g2;go_wp2
  go_ret
  unfold Ak;rw [b.out];exact ⟨rfl,f.out⟩
theorem XX(h:MM ρ w p x)(ok:Ok x)(hx:x.count<=8\/x.fm=0) :
  Calls prog 130 #[.pointer (some ⟨p,0,none⟩)] w fun v u=>Ak ρ w p x.Ca v u:=by
 have g:=CL h ok;have A:w.cell? ⟨p,0,none⟩=some (.int .i64 x.fm):=by obtain ⟨L,B,T⟩:=h;exact B.row.cell (i:=0) zO
 have a:Hid (x.Ca=if x.fm=2 then (if x.Ah.2.1=0 then (if 7<x.Ah.2.2 then x.Ah.1.refuse 4 else ({ x.Ah.1 with marks:=x.Ah.2.2 },0)) else (x.Ah.1,x.Ah.2.1)) else (x,0)):=rfl;clear h ok;go_enter func130,ntmps130
 by_cases h2:x.fm=2
 ·rw [zC h2] at a;have hd:((x.fm:Int)==2)=true:=by simp;omega
  have e:x.count<=8:=zO;clear h2 hx;go_wp2_with fail
  refine (NL g.out.1 g.out.2 e).mono ?_;rintro v w1 ⟨rfl,c,g2⟩;have f:=(MS.GH g.out.2 e).2;obtain ⟨y,t,b,q⟩:∃ y t b,x.Ah=(y,t,b):=⟨_,_,_,rfl⟩
  rw [q] at c a f |-;have j:Hid (MM ρ w1 p y/\Fr V5 ρ w w1):=⟨c,g2⟩
  clear g2 q;by_cases h0:t=0
  ·have C:b<256:=(f h0).2.1;subst h0;rw [zC rfl] at a;by_cases d:7<b
   ·rw [zC d] at a;have l:(7:Int)<b:=zO;clear f c;go_wp2_with fail
    refine (Cd 4 j.out.1).mono ?_;rintro v w2 ⟨rfl,n,o⟩;have k:Hid (MM ρ w2 p (y.refuse 4).1/\Fr V5 ρ w w2):=⟨n,j.out.2.trans o⟩
    clear n o;go_wp2
    go_ret
    unfold Ak;rw [a.out];exact ⟨rfl,k.out⟩
   ·rw [zA d] at a;have l:¬ (7:Int)<b:=zO;obtain ⟨L,B,T⟩:=c;have bN:w1.cell? ⟨p,18,none⟩=some (.int .u8 y.marks):=B.row.cell (i:=18) zO;have z:=B.row.frozen 18;have r:Hid (Bh ρ w p { y with marks:=b } y L (w1.setCell ⟨p,18,none⟩ (.int .u8 b))):=(show Bh ρ w p y y L w1 from ⟨B,T,j.out.2⟩).set 18 _ rfl ⟨rfl,rfl⟩;clear f B T;go_wp2
    go_ret
    unfold Ak;rw [a.out];exact ⟨rfl,r.out.done rfl rfl rfl rfl ⟨rfl,rfl⟩⟩
  ·rw [zA h0] at a;have s:=qn h0;clear f c;go_wp2
   go_ret
   unfold Ak;rw [a.out];exact ⟨rfl,j.out⟩
 ·rw [zA h2] at a;have hd:((x.fm:Int)==2)=false:=by simp;omega
  clear h2 hx;go_wp2
  go_ret
  unfold Ak;rw [a.out];exact ⟨rfl,g.out.1,Fr.refl _ _ _⟩
theorem MS.ZE{k:Nat}:∀ (l:List Nat) {x:MS},x.rest=l->(MS.Ab k x).1.rest.length+(MS.Ab k x).1.tk=x.rest.length+x.tk
 | [],x,e=>by
  by_cases h:k<=x.count
  ·rw [MS.Ie h]
  ·rw [MS.QP h e]
 | b :: l,x,e=>by
  by_cases h:k<=x.count
  ·rw [MS.Ie h]
  ·rw [MS.NO h e];by_cases hs:x.sp<=x.tk+x.pu
   ·rw [zC hs];rfl
   ·rw [zA hs,MS.ZE (k:=k) l (x:=x.Fv b l) rfl,e];show l.length+(x.tk+1)=(b :: l).length+x.tk;simp;omega
theorem MS.WU(x:MS):x.Ah.1.rest.length+x.Ah.1.tk=x.rest.length+x.tk:=by
 have:=MS.ZE (k:=8) x.rest (x:=x) rfl;unfold MS.Ah;split
 ·exact this
 ·split
  ·exact this
  ·exact this
theorem ey(m i:Nat)(hm:m<256)(hi:i<8):bits .and .u8 (m:Int) ((2^i:Nat):Int)=((m / 2^i%2*2^i:Nat):Int):=by
 have h1:m<2^8:=hm;have h2:2^i<2^8:=Nat.pow_lt_pow_right zD hi;rw [(bits_nat .u8 8 zD wraps_u8 m (2^i) h1 h2).1,nat_bit]
theorem Rq(m i:Nat)(hm:m<256)(hi:i<8):(bits .and .u8 (m:Int) ((2^i:Nat):Int)==0)=decide (m / 2^i%2=0):=by
 rw [ey m i hm hi];have hp:=vP i;by_cases h:m / 2^i%2=0
 ·rw [h,vZ rfl];simp
 ·have h1:m / 2^i%2=1:=zO;rw [h1];simp;have a:(0:Int)<2^i:=xJ zD;omega
theorem MM.iD(h:MM ρ w p x):w.cell? ⟨p,9,none⟩=some (.int .i64 x.tk):=by
 obtain ⟨L,B,T⟩:=h;exact B.row.cell (i:=9) zO
theorem SL(i:Nat)(h:MM ρ w p x)(ok:Ok x)(hx:x.count<=8\/x.marks=0)(hi:i<8) :
  Calls prog 131 #[.pointer (some ⟨p,0,none⟩), .int .u8 (2^i:Nat)] w fun v R=>Ak ρ w p (MS.CE (2^i) x) v R:=by
 have j:=CL h ok;have bN:w.cell? ⟨p,18,none⟩=some (.int .u8 x.marks):=by obtain ⟨L,B,T⟩:=h;exact B.row.cell (i:=18) zO
 have d:Hid (MS.CE (2^i) x=if x.marks / 2^i%2=0 then (x,0) else MS.textL (x.more+1) x):=rfl;have s:=Rq x.marks i ok.marks hi;clear h ok;obtain ⟨m,hm⟩:=qe (2^i);rw [<- hm] at d s |-;clear hm;go_enter func131,ntmps131
 by_cases h0:x.marks / m%2=0
 ·rw [zC h0] at d;rw [vZ h0] at s;clear h0 hx;go_wp2
  go_ret
  unfold Ak;rw [d.out];exact ⟨rfl,j.out.1,Fr.refl _ _ _⟩
 ·rw [zA h0] at d;rw [kI h0] at s;have r:x.count<=8:=by
   rcases hx with hx | hx
   ·exact hx
   ·rw [hx] at h0;simp at h0
  have o:Hid (∃ y f,MM ρ w p y/\Ok y/\y.count<=8/\MS.textL f y=MS.textL (x.more+1) x/\y.more<f/\y.rest.length+y.tk=x.rest.length+x.tk/\Fr V5 ρ w w):=⟨x,x.more+1,j.out.1,j.out.2,r,rfl,zO,rfl,Fr.refl _ _ _⟩
  clear h0 hx j;obtain ⟨C,H⟩:=qe (x.rest.length+x.tk);rw [<- H] at o;clear H;go_wp2_with fail
  go_loopw [] (fun wr=>Hid (∃ y f,MM ρ wr p y/\Ok y/\y.count<=8/\MS.textL f y=MS.textL (x.more+1) x/\y.more<f/\y.rest.length+y.tk=C/\Fr V5 ρ w wr)) (fun wr=>C - Jc wr p 9+Jc wr p 15 / 8)
  case atStart=>exact o
  case round=>
   clear o bN;obtain ⟨y,f,l,g2,E,F,S,O,G⟩:=hrel.out;have N:=Ed l.iD;have q:=Ed l.Pb;obtain ⟨f,rfl⟩:∃ n,f=n+1:=⟨f - 1,zO⟩
   have a:Hid (MS.textL (x.more+1) x=if y.Ah.2.1≠0\/y.Ah.2.2=0 then (y.Ah.1,y.Ah.2.1) else MS.textL f y.Ah.1):=F.symm;have k:Hid (MM ρ wr p y/\Ok y/\Fr V5 ρ w wr):=⟨l,g2,G⟩
   clear l g2 F G hrel;go_wp2_with fail
   refine (NL k.out.1 k.out.2.1 E).mono ?_;rintro v w1 ⟨rfl,g,a2⟩;obtain ⟨D,u⟩:=MS.GH k.out.2.1 E;have k2:=MS.WU y;obtain ⟨z,t,b,I⟩:∃ z t b,y.Ah=(z,t,b):=⟨_,_,_,rfl⟩
   rw [I] at g a u k2 D |-;have c:Hid (MM ρ w1 p z/\Ok z/\Fr V5 ρ w w1):=⟨g,D,k.out.2.2.trans a2⟩
   have P:=Ed g.iD;have A:=Ed g.Pb;clear g a2 D I;by_cases h0:t=0
   ·obtain ⟨Q,U,J,_⟩:=u h0;subst h0;by_cases e:b=0
    ·have hd:((b:Int)==0)=true:=by simp [e]
     rw [zC (Or.inr e)] at a;clear e;go_wp2
     go_ret
     unfold Ak;rw [d.out,a.out];exact ⟨rfl,c.out.1,c.out.2.2⟩
    ·have hd:=qn e;rw [zA (by simp [e])] at a;have M:Hid (∃ y f,MM ρ w1 p y/\Ok y/\y.count<=8/\MS.textL f y=MS.textL (x.more+1) x/\y.more<f/\y.rest.length+y.tk=C/\Fr V5 ρ w w1):=⟨z,f,c.out.1,c.out.2.1,by show z.count<=8;have:z.count<8:=Q;omega,a.out.symm,by have:z.more<y.more:=J;omega,k2.trans O,c.out.2.2⟩
     clear e;go_wp2_with fail
     go_roundw
     case rel=>exact M
     case measure=>
      rw [N,q,P,A];have V:z.rest.length+z.count / 8<y.rest.length+y.count / 8:=J;have W:=k2;show C - z.tk+z.count / 8<C - y.tk+y.count / 8;omega
   ·have hd:=qn h0;rw [zC (Or.inl h0)] at a;clear u;go_wp2
    go_ret
    unfold Ak;rw [d.out,a.out];exact ⟨rfl,c.out.1,c.out.2.2⟩
theorem XW(h:MM ρ w p x)(ok:Ok x)(hx:x.count<=8\/x.marks=0) :
  Calls prog 132 #[.pointer (some ⟨p,0,none⟩)] w fun v g=>Ak ρ w p x.Ce v g:=by
 have b:=CL h ok;have bN:w.cell? ⟨p,18,none⟩=some (.int .u8 x.marks):=by obtain ⟨L,B,T⟩:=h;exact B.row.cell (i:=18) zO
 have fA:w.cell? ⟨p,20,none⟩=some (.int .u8 x.Az):=by obtain ⟨L,B,T⟩:=h;exact B.row.cell (i:=20) zO
 have a:Hid (x.Ce=if x.marks / 4%2=0 then (x,0) else MS.DH x.Az x):=rfl;have e:(bits .and .u8 (x.marks:Int) 4==0)=decide (x.marks / 4%2=0):=Rq x.marks 2 ok.marks zD;have hs:=ok.Az;clear h ok;go_enter func132,ntmps132
 by_cases h0:x.marks / 4%2=0
 ·rw [zC h0] at a;rw [vZ h0] at e;clear h0 hx;go_wp2
  go_ret
  unfold Ak;rw [a.out];exact ⟨rfl,b.out.1,Fr.refl _ _ _⟩
 ·rw [zA h0] at a;rw [kI h0] at e;have c:x.count<=8:=by
   rcases hx with hx | hx
   ·exact hx
   ·rw [hx] at h0;simp at h0
  clear h0 hx;go_wp2_with fail
  refine (SJ x.Az b.out.1 b.out.2 c hs).mono ?_;rintro v w1 ⟨rfl,d,g2⟩;have f:Hid (MM ρ w1 p (MS.DH x.Az x).1/\Fr V5 ρ w w1):=⟨d,g2⟩
  clear d g2;go_wp2
  go_ret
  unfold Ak;rw [a.out];exact ⟨rfl,f.out⟩
theorem Pt(fm:Nat)(w:World) :
  Calls prog 127 #[.int .i64 fm] w fun v b=>v= .returned (.tuple #[.int .u8 (MS.first fm), .int .u8 (MS.second fm)])/\w=b:=by
 by_cases h:fm=1
 ·have hd:((fm:Int)==1)=true:=by simp;omega
  have a:Hid (MS.first fm=115/\MS.second fm=1):=by unfold MS.first MS.second;exact ⟨zC h,zC h⟩
  clear h;go_enter func127,ntmps127
  go_wp2_with fail
  go_ret2
  rw [a.out.1,a.out.2];exact ⟨rfl,rfl⟩
 ·have hd:((fm:Int)==1)=false:=by simp;omega
  have a:Hid (MS.first fm=76/\MS.second fm=2):=by unfold MS.first MS.second;exact ⟨zA h,zA h⟩
  clear h;go_enter func127,ntmps127
  go_wp2_with fail
  go_ret2
  rw [a.out.1,a.out.2];exact ⟨rfl,rfl⟩
theorem MB.Dw(h:MB ρ w p y L):MB ρ ((((((w.setCell ⟨p,18,none⟩ (.int .u8 0)).setCell ⟨p,19,none⟩ (.int .i64 0)).setCell ⟨p,20,none⟩ (.int .u8 0)).setCell ⟨p,21,none⟩ (.int .i64 1)).setCell ⟨p,22,none⟩ (.int .i64 0)).setCell ⟨p,23,none⟩ (.int .u16 0)) p { y with marks:=0,head:=0,Az:=0,sx:=1,sy:=0,size:=0 } L:=
 (((((h.set (y:={ y with marks:=0 }) (M:=L) 18 _ rfl ⟨rfl,rfl,rfl,rfl⟩ ⟨rfl,rfl⟩).set (y:={ y with marks:=0,head:=0 }) (M:=L) 19 _ rfl ⟨rfl,rfl,rfl,rfl⟩ ⟨rfl,rfl⟩).set (y:={ y with marks:=0,head:=0,Az:=0 }) (M:=L) 20 _ rfl ⟨rfl,rfl,rfl,rfl⟩ ⟨rfl,rfl⟩).set (y:={ y with marks:=0,head:=0,Az:=0,sx:=1 }) (M:=L) 21 _ rfl ⟨rfl,rfl,rfl,rfl⟩ ⟨rfl,rfl⟩).set (y:={ y with marks:=0,head:=0,Az:=0,sx:=1,sy:=0 }) (M:=L) 22 _ rfl ⟨rfl,rfl,rfl,rfl⟩ ⟨rfl,rfl⟩).set 23 _ rfl ⟨rfl,rfl,rfl,rfl⟩ ⟨rfl,rfl⟩
theorem Fr.Dw(h:ρ p=1)(a b c d e f:Value):Fr V5 ρ w ((((((w.setCell ⟨p,18,none⟩ a).setCell ⟨p,19,none⟩ b).setCell ⟨p,20,none⟩ c).setCell ⟨p,21,none⟩ d).setCell ⟨p,22,none⟩ e).setCell ⟨p,23,none⟩ f):=
 (((((Fr.own _ p 18 _ h).trans (Fr.own _ p 19 _ h)).trans (Fr.own _ p 20 _ h)).trans (Fr.own _ p 21 _ h)).trans (Fr.own _ p 22 _ h)).trans (Fr.own _ p 23 _ h)
theorem Ti(h:MM ρ w p x)(ok:Ok x)(hx:x.count<=8) :
  Calls prog 128 #[.pointer (some ⟨p,0,none⟩)] w fun v U=>Ak ρ w p x.Bx v U:=by
 have q:=CL h ok;have d:Hid (x.Bx=if (MS.Ab 8 x).2=0 then (if (MS.Ab 8 x).1.mb=(MS.Ab 8 x).1.me then (MS.Ab 8 x).1.refuse 6 else ({ (MS.Ab 8 x).1 with mb:=(MS.Ab 8 x).1.mb+1,marks:=0,head:=0,Az:=0,sx:=1,sy:=0,size:=0,qc:=[] },0)) else MS.Ab 8 x):=rfl;clear h ok;go_enter func128,ntmps128
 go_wp2_with fail
 refine (GC 8 q.out.1 q.out.2 zO zO).mono ?_;rintro v w1 ⟨rfl,l,g2⟩;by_cases h0:(MS.Ab 8 x).2=0
 ·have k3:=MS.Ck (k:=8) q.out.2;rw [h0];rw [zC h0] at d;obtain ⟨y,D⟩:=qe ((MS.Ab 8 x).1);rw [<- D] at l d k3;have u:Hid (MM ρ w1 p y/\Ok y/\Fr V5 ρ w w1):=⟨l,k3,g2⟩
  have S:=k3.mD;obtain ⟨L,B,T⟩:=l;have F:w1.cell? ⟨p,11,none⟩=some (.int .i64 y.mb):=B.row.cell (i:=11) zO;have c4:w1.cell? ⟨p,4,none⟩=some (.int .i64 y.me):=B.row.cell (i:=4) zO;have W:=B.row.frozen 11;have E:Hid (Bh ρ w p y y L w1):=⟨B,T,g2⟩
  clear B T g2 D k3 h0;by_cases hq:y.mb=y.me
  ·rw [zC hq] at d;have r:((y.mb:Int)==(y.me:Int))=true:=by simp [hq]
   clear hq;go_wp2_with fail
   go_quiet (fail)
   go_wp2_with fail
   refine (Cd 6 (u.out.1.drewN _)).mono ?_;rintro v w2 ⟨rfl,A,C⟩;have j:Hid (MM ρ w2 p (y.refuse 6).1/\Fr V5 ρ w w2):=⟨A,(u.out.2.2.drewN _).trans C⟩
   clear A C;go_wp2
   go_ret
   unfold Ak;rw [d.out];exact ⟨rfl,j.out⟩
  ·rw [zA hq] at d;have r:((y.mb:Int)==(y.me:Int))=false:=by simp;omega
   have R:y.mb+1<=9223372036854775807:=zO;clear hq;go_wp2_with fail
   go_quiet (fail)
   go_wp2_with fail
   have g:Hid (Bh ρ w p { y with mb:=y.mb+1 } y L ((w1.drewN nq).setCell ⟨p,11,none⟩ (.int .i64 (y.mb+1:Nat)))):=(E.out.drewN nq).set 11 _ rfl ⟨rfl,rfl⟩;have P:((y.mb+1:Nat):Int)=(y.mb:Int)+1:=zO;rw [P] at g;refine (Lj _).mono ?_;rintro v e ⟨rfl,z⟩;have a:=hid (g.out.below z);clear z g;have H:e.cell? ⟨p,18,none⟩=some (.int .u8 y.marks):=a.out.mb.row.cell (i:=18) zO;have I:e.cell? ⟨p,19,none⟩=some (.int .i64 y.head):=a.out.mb.row.cell (i:=19) zO;have J:e.cell? ⟨p,20,none⟩=some (.int .u8 y.Az):=a.out.mb.row.cell (i:=20) zO;have M:e.cell? ⟨p,21,none⟩=some (.int .i64 y.sx):=a.out.mb.row.cell (i:=21) zO;have N:e.cell? ⟨p,22,none⟩=some (.int .i64 y.sy):=a.out.mb.row.cell (i:=22) zO;have O:e.cell? ⟨p,23,none⟩=some (.int .u16 y.size):=a.out.mb.row.cell (i:=23) zO;have G:e.cell? ⟨p,17,none⟩=some (.pointer (some ⟨L.c,0,none⟩)):=a.out.mb.row.cell (i:=17) zO;have X:=a.out.mb.row.frozen 18;have Y:=a.out.mb.row.frozen 19;have z20:=a.out.mb.row.frozen 20;have Z:=a.out.mb.row.frozen 21;have a0:=a.out.mb.row.frozen 22;have a1:=a.out.mb.row.frozen 23;have b:Hid (Bh ρ w p { y with mb:=y.mb+1,marks:=0,head:=0,Az:=0,sx:=1,sy:=0,size:=0 } y L ((((((e.setCell ⟨p,18,none⟩ (.int .u8 0)).setCell ⟨p,19,none⟩ (.int .i64 0)).setCell ⟨p,20,none⟩ (.int .u8 0)).setCell ⟨p,21,none⟩ (.int .i64 1)).setCell ⟨p,22,none⟩ (.int .i64 0)).setCell ⟨p,23,none⟩ (.int .u16 0))):=a.out.next a.out.mb.Dw (Fr.Dw a.out.mb.rp _ _ _ _ _ _);go_wp2_with fail
   obtain ⟨o,f,k⟩:=b.out.mb.rc;refine (Ty k).mono ?_;rintro v V ⟨rfl,r5,t5⟩;have n:Hid (Bh ρ w p { y with mb:=y.mb+1,marks:=0,head:=0,Az:=0,sx:=1,sy:=0,size:=0,qc:=[] } y L V):=b.out.next (b.out.mb.dq r5 t5) (Fr.VB t5 b.out.mb.rl.2.2.1 b.out.mb.rl.2.2.2 zD zD);clear r5 t5 k;go_wp2
   go_ret
   unfold Ak;rw [d.out];exact ⟨rfl,n.out.done rfl rfl rfl rfl ⟨rfl,rfl⟩⟩
 ·rw [zA h0] at d;obtain ⟨t,s⟩:=qe ((MS.Ab 8 x).2);have j:Hid (MM ρ w1 p (MS.Ab 8 x).1/\Fr V5 ρ w w1/\(MS.Ab 8 x).2=t):=⟨l,g2,s.symm⟩
  rw [<- s] at h0 |-;have Q:=qn h0;clear l g2 s;go_wp2
  go_ret
  unfold Ak;rw [d.out,j.out.2.2];exact ⟨rfl,j.out.1,j.out.2.1⟩
structure Hc(x:MS):Prop where
 ok:Ok x
 Cq:x.count=0\/x.count=8
theorem Hc.le(h:Hc x):x.count<=8:=by rcases h.Cq with h | h <;> omega
theorem Hc.Ab(h:Hc x)(h0:(MS.Ab 8 x).2=0):Hc (MS.Ab 8 x).1/\(MS.Ab 8 x).1.count=8:=by
 have a:=MS.Ci h.ok h0;have k2:=MS.SP h.ok h0;have:=h.Cq;have e:(MS.Ab 8 x).1.count=8:=zO;exact ⟨⟨MS.Ck h.ok,Or.inr e⟩,e⟩
theorem Hc.Ah(h:Hc x)(h0:x.Ah.2.1=0):Hc x.Ah.1/\x.Ah.1.fm=x.fm/\x.Ah.1.count=0:=by
 obtain ⟨o,k⟩:=MS.GH h.ok h.le;obtain ⟨_,_,_,k4⟩:=k h0;have b:x.Ah.1.fm=x.fm:=by rw [k4]
 have a:(MS.Ab 8 x).2=0:=by
  apply yB;intro a;unfold MS.Ah at h0;rw [zC a] at h0;exact a h0
 have hc:x.Ah.1.count=0:=by
  have e:=(h.Ab a).2;unfold MS.Ah at h0 |-;rw [zA (by rw [a];simp)] at h0 |-;by_cases hq:(MS.Ab 8 x).1.head=(MS.Ab 8 x).1.he
  ·rw [zC hq] at h0;cases h0
  ·rw [zA hq];show (MS.Ab 8 x).1.count - 8=0;omega
 exact ⟨⟨o,Or.inl hc⟩,b,hc⟩
theorem Hc.DH(h:Hc x)(h0:(MS.DH want x).2=0):Hc (MS.DH want x).1/\(MS.DH want x).1.fm=x.fm:=by
 have e:MS.DH want x=if x.Ah.2.1=0 then (if x.Ah.2.2=want then (x.Ah.1,0) else x.Ah.1.refuse 4) else (x.Ah.1,x.Ah.2.1):=rfl;rw [e] at h0 |-;by_cases a:x.Ah.2.1=0
 ·rw [zC a] at h0 |-;by_cases hw:x.Ah.2.2=want
  ·rw [zC hw];exact ⟨(h.Ah a).1,(h.Ah a).2.1⟩
  ·rw [zA hw] at h0;cases h0
 ·rw [zA a] at h0;exact absurd h0 a
theorem Hc.Bo(h:Hc x)(h0:(MS.Bo want x).2=0):Hc (MS.Bo want x).1/\(MS.Bo want x).1.fm=x.fm:=by
 unfold MS.Bo at *;by_cases a:x.fm=0
 ·rw [zC a];exact ⟨h,rfl⟩
 ·rw [zA a] at h0 |-;exact h.DH h0
theorem Hc.Ca(h:Hc x)(h0:x.Ca.2=0):Hc x.Ca.1/\x.Ca.1.fm=x.fm:=by
 have e:x.Ca=if x.fm=2 then (if x.Ah.2.1=0 then (if 7<x.Ah.2.2 then x.Ah.1.refuse 4 else ({ x.Ah.1 with marks:=x.Ah.2.2 },0)) else (x.Ah.1,x.Ah.2.1)) else (x,0):=rfl;rw [e] at h0 |-;by_cases b:x.fm=2
 ·rw [zC b] at h0 |-;by_cases a:x.Ah.2.1=0
  ·rw [zC a] at h0 |-;by_cases hw:7<x.Ah.2.2
   ·rw [zC hw] at h0;cases h0
   ·rw [zA hw];exact ⟨⟨{ (h.Ah a).1.ok with marks:=by show x.Ah.2.2<256;omega },(h.Ah a).1.Cq⟩,(h.Ah a).2.1⟩
  ·rw [zA a] at h0;exact absurd h0 a
 ·rw [zA b];exact ⟨h,rfl⟩
theorem Hc.textL:∀ (f:Nat) {x:MS},Hc x->(MS.textL f x).2=0->Hc (MS.textL f x).1/\(MS.textL f x).1.fm=x.fm
 | 0,x,h,h0=>by cases h0
 | f+1,x,h,h0=>by
  unfold MS.textL at h0 |-;by_cases hq:x.Ah.2.1≠0\/x.Ah.2.2=0
  ·rw [zC hq] at h0 |-;exact ⟨(h.Ah h0).1,(h.Ah h0).2.1⟩
  ·rw [zA hq] at h0 |-;have c:=yB fun d=>hq (Or.inl d)
   obtain ⟨a,b⟩:=Hc.textL f (h.Ah c).1 h0;exact ⟨a,b.trans (h.Ah c).2.1⟩
theorem Hc.CE(h:Hc x){m:Nat}(h0:(MS.CE m x).2=0):Hc (MS.CE m x).1/\(MS.CE m x).1.fm=x.fm:=by
 unfold MS.CE at *;by_cases hq:x.marks / m%2=0
 ·rw [zC hq];exact ⟨h,rfl⟩
 ·rw [zA hq] at h0 |-;exact Hc.textL _ h h0
theorem Hc.Ce(h:Hc x)(h0:x.Ce.2=0):Hc x.Ce.1/\x.Ce.1.fm=x.fm:=by
 unfold MS.Ce at *;by_cases hq:x.marks / 4%2=0
 ·rw [zC hq];exact ⟨h,rfl⟩
 ·rw [zA hq] at h0 |-;exact h.DH h0
theorem Hc.Bx(h:Hc x)(h0:x.Bx.2=0):Hc x.Bx.1/\x.Bx.1.fm=x.fm:=by
 have e:x.Bx=if (MS.Ab 8 x).2=0 then (if (MS.Ab 8 x).1.mb=(MS.Ab 8 x).1.me then (MS.Ab 8 x).1.refuse 6 else ({ (MS.Ab 8 x).1 with mb:=(MS.Ab 8 x).1.mb+1,marks:=0,head:=0,Az:=0,sx:=1,sy:=0,size:=0,qc:=[] },0)) else MS.Ab 8 x:=rfl;rw [e] at h0 |-;by_cases a:(MS.Ab 8 x).2=0
 ·rw [zC a] at h0 |-;by_cases hq:(MS.Ab 8 x).1.mb=(MS.Ab 8 x).1.me
  ·rw [zC hq] at h0;cases h0
  ·rw [zA hq];have k:=(h.Ab a).1;have b:(MS.Ab 8 x).1.fm=x.fm:=by rw [MS.EO h.ok a]
   exact ⟨⟨{ k.ok with mD:=⟨by have:=k.ok.mD.1;show (MS.Ab 8 x).1.mb+1<=(MS.Ab 8 x).1.me;omega,k.ok.mD.2⟩,hd:=⟨zH _,k.ok.hd.2⟩,Az:=by show 0<256;omega,size:=by show 0<65536;omega,marks:=by show 0<256;omega,sum:=⟨by show 1<=65520;omega,zH _⟩ },k.Cq⟩,b⟩
 ·rw [zA a] at h0;exact absurd h0 a
theorem Ok.st(h:Ok x)(n:Nat):Ok { x with st:=n }:={ h with }
theorem MM.st(h:MM ρ w p x)(n:Nat):MM ρ (w.setCell ⟨p,7,none⟩ (.int .i64 n)) p { x with st:=n }/\Fr V5 ρ w (w.setCell ⟨p,7,none⟩ (.int .i64 n)):=by
 obtain ⟨L,B,T⟩:=h;exact (((show Bh ρ w p x x L w from ⟨B,T,Fr.refl _ _ _⟩).set (z:={ x with st:=n }) 7 _ rfl ⟨rfl,rfl⟩).done rfl rfl rfl rfl ⟨rfl,rfl⟩)
theorem MM.Bt(h:MM ρ w p x):w.cell? ⟨p,7,none⟩=some (.int .i64 x.st)/\w.frozen? ⟨p,7,none⟩=false:=by
 obtain ⟨L,B,T⟩:=h;exact ⟨B.row.cell (i:=7) zO,B.row.frozen 7⟩
theorem MM.cell0(h:MM ρ w p x):w.cell? ⟨p,0,none⟩=some (.int .i64 x.fm):=by
 obtain ⟨L,B,T⟩:=h;exact B.row.cell (i:=0) zO
structure Hw(ρ:Nat->Nat)(w:World)(p:Nat)(x y:MS)(w':World):Prop where
 mm:MM ρ w' p y
 hc:Hc y
 fm:y.fm=x.fm
 fr:Fr V5 ρ w w'
theorem Hw.next{r:MS×Nat}(h:Hw ρ w p x y w1)(m:MM ρ w2 p r.1)(f:Fr V5 ρ w1 w2)(k:Hc r.1/\r.1.fm=y.fm)(n:Nat):Hw ρ w p x { r.1 with st:=n } (w2.setCell ⟨p,7,none⟩ (.int .i64 n)):=⟨(m.st n).1,⟨k.1.ok.st n,k.1.Cq⟩,k.2.trans h.fm,(h.fr.trans f).trans (m.st n).2⟩
theorem cK(fm:Nat):MS.first fm<256:=by unfold MS.first;split <;> omega
theorem az(fm:Nat):MS.second fm<256:=by unfold MS.second;split <;> omega
theorem Ky(R:MS×Nat)(h:MM ρ w p x)(hw:Hw ρ w p x y w)(he:(x.st=0/\R=MS.h0 y/\True)\/(x.st=1/\R=MS.h1 y/\True)\/(x.st=2/\R=MS.h2 y/\True)\/(x.st=3/\R=MS.h3 y/\True)\/(x.st=4/\R=MS.h4 y/\True)\/(x.st=5/\R=MS.h5 y/\True)\/(x.st=6/\R=MS.h6 y/\True)):
  Calls prog 100 #[.pointer (some ⟨p,0,none⟩)] w fun v B=>Ak ρ w p R v B:=by
 have H:=hid hw;have F:=h.cell0;have D:=h.Bt.1;clear h hw;rcases he with ⟨g,o,a0⟩ | ⟨g,o,z⟩ | ⟨g,o,a2⟩ | ⟨g,o,a3⟩ | ⟨g,o,a4⟩ | ⟨g,o,a5⟩ | ⟨g,o,A⟩
 all_goals
  have b:Hid _:=o;rw [g] at D;clear g o;go_enter func100,ntmps100
  go_wp2_with fail
  refine (Pt x.fm w).mono ?_;rintro v B ⟨rfl,rfl⟩;obtain ⟨l,q⟩:=qe (MS.first x.fm);obtain ⟨n,r⟩:=qe (MS.second x.fm);rw [<- q,<- r];have s:=hid q;have u:=hid r;clear q r;go_wp2_with fail
 all_goals try (
  clear a0;refine (Ti H.out.mm H.out.hc.ok H.out.hc.le).mono ?_;rintro v w1 ⟨rfl,a,g2⟩;have R':Hid (R=if (y.Bx).2=0 then MS.h1 { (y.Bx).1 with st:=1 } else y.Bx):=(by show R=_;rw [b.out];rfl)
  clear b;by_cases h0:¬ (y.Bx).2=0
  ·rw [zA h0] at R';have b:Hid (MM ρ w1 p (y.Bx).1/\Fr V5 ρ w w1):=⟨a,H.out.fr.trans g2⟩
   obtain ⟨t,c⟩:=qe ((y.Bx).2);have j:=hid c.symm;rw [<- c] at h0 |-;have k:=qn h0;clear a g2 c;go_wp2
   go_ret
   unfold Ak;rw [R'.out,j.out];exact ⟨rfl,b.out⟩
  replace h0:=xM.1 h0
  rw [zC h0] at R';have d:Hid (Hw ρ w p x { (y.Bx).1 with st:=1 } (w1.setCell ⟨p,7,none⟩ (.int .i64 (1:Nat)))):=H.out.next a g2 (H.out.hc.Bx h0) 1;have e:=a.Bt.1;have f:=a.Bt.2;rw [h0];clear a g2;obtain ⟨y,i⟩:=qe ({ (y.Bx).1 with st:=1 }:MS);rw [<- i] at d R';clear i H h0;go_wp2_with fail
  clear e f;have H:=d;have b:=R';clear d R';have z:=trivial)
 all_goals try (
  clear z;have E:Hid (l=MS.first y.fm):=(by show l=_;rw [H.out.fm];exact s.out)
  have C:=QJ (MS.first y.fm) H.out.mm H.out.hc.ok (Or.inl H.out.hc.le) (cK _);rw [<- E.out] at C;refine C.mono ?_;clear C;rintro v w1 ⟨rfl,a,g2⟩;have R':Hid (R=if (MS.Bo l y).2=0 then MS.h2 { (MS.Bo l y).1 with st:=2 } else MS.Bo l y):=(by show R=_;rw [b.out];rw [E.out];rfl)
  clear b;by_cases h0:¬ (MS.Bo l y).2=0
  ·rw [zA h0] at R';have b:Hid (MM ρ w1 p (MS.Bo l y).1/\Fr V5 ρ w w1):=⟨a,H.out.fr.trans g2⟩
   obtain ⟨t,c⟩:=qe ((MS.Bo l y).2);have j:=hid c.symm;rw [<- c] at h0 |-;have k:=qn h0;clear a g2 c;go_wp2
   go_ret
   unfold Ak;rw [R'.out,j.out];exact ⟨rfl,b.out⟩
  replace h0:=xM.1 h0
  rw [zC h0] at R';have d:Hid (Hw ρ w p x { (MS.Bo l y).1 with st:=2 } (w1.setCell ⟨p,7,none⟩ (.int .i64 (2:Nat)))):=H.out.next a g2 (H.out.hc.Bo h0) 2;have e:=a.Bt.1;have f:=a.Bt.2;rw [h0];clear a g2;obtain ⟨y,i⟩:=qe ({ (MS.Bo l y).1 with st:=2 }:MS);rw [<- i] at d R';clear i H h0 E;go_wp2_with fail
  clear e f;have H:=d;have b:=R';clear d R';have a2:=trivial)
 all_goals try (
  clear a2;have E:Hid (n=MS.second y.fm):=(by show n=_;rw [H.out.fm];exact u.out)
  have C:=QJ (MS.second y.fm) H.out.mm H.out.hc.ok (Or.inl H.out.hc.le) (az _);rw [<- E.out] at C;refine C.mono ?_;clear C;rintro v w1 ⟨rfl,a,g2⟩;have R':Hid (R=if (MS.Bo n y).2=0 then MS.h3 { (MS.Bo n y).1 with st:=3 } else MS.Bo n y):=(by show R=_;rw [b.out];rw [E.out];rfl)
  clear b;by_cases h0:¬ (MS.Bo n y).2=0
  ·rw [zA h0] at R';have b:Hid (MM ρ w1 p (MS.Bo n y).1/\Fr V5 ρ w w1):=⟨a,H.out.fr.trans g2⟩
   obtain ⟨t,c⟩:=qe ((MS.Bo n y).2);have j:=hid c.symm;rw [<- c] at h0 |-;have k:=qn h0;clear a g2 c;go_wp2
   go_ret
   unfold Ak;rw [R'.out,j.out];exact ⟨rfl,b.out⟩
  replace h0:=xM.1 h0
  rw [zC h0] at R';have d:Hid (Hw ρ w p x { (MS.Bo n y).1 with st:=3 } (w1.setCell ⟨p,7,none⟩ (.int .i64 (3:Nat)))):=H.out.next a g2 (H.out.hc.Bo h0) 3;have e:=a.Bt.1;have f:=a.Bt.2;rw [h0];clear a g2;obtain ⟨y,i⟩:=qe ({ (MS.Bo n y).1 with st:=3 }:MS);rw [<- i] at d R';clear i H h0 E;go_wp2_with fail
  clear e f;have H:=d;have b:=R';clear d R';have a3:=trivial)
 all_goals try (
  clear a3;refine (XX H.out.mm H.out.hc.ok (Or.inl H.out.hc.le)).mono ?_;rintro v w1 ⟨rfl,a,g2⟩;have R':Hid (R=if (y.Ca).2=0 then MS.h4 { (y.Ca).1 with st:=4 } else y.Ca):=(by show R=_;rw [b.out];rfl)
  clear b;by_cases h0:¬ (y.Ca).2=0
  ·rw [zA h0] at R';have b:Hid (MM ρ w1 p (y.Ca).1/\Fr V5 ρ w w1):=⟨a,H.out.fr.trans g2⟩
   obtain ⟨t,c⟩:=qe ((y.Ca).2);have j:=hid c.symm;rw [<- c] at h0 |-;have k:=qn h0;clear a g2 c;go_wp2
   go_ret
   unfold Ak;rw [R'.out,j.out];exact ⟨rfl,b.out⟩
  replace h0:=xM.1 h0
  rw [zC h0] at R';have d:Hid (Hw ρ w p x { (y.Ca).1 with st:=4 } (w1.setCell ⟨p,7,none⟩ (.int .i64 (4:Nat)))):=H.out.next a g2 (H.out.hc.Ca h0) 4;have e:=a.Bt.1;have f:=a.Bt.2;rw [h0];clear a g2;obtain ⟨y,i⟩:=qe ({ (y.Ca).1 with st:=4 }:MS);rw [<- i] at d R';clear i H h0;go_wp2_with fail
  clear e f;have H:=d;have b:=R';clear d R';have a4:=trivial)
 all_goals try (
  clear a4;refine (SL 0 H.out.mm H.out.hc.ok (Or.inl H.out.hc.le) zO).mono ?_;rintro v w1 ⟨rfl,a,g2⟩;have R':Hid (R=if (MS.CE 1 y).2=0 then MS.h5 { (MS.CE 1 y).1 with st:=5 } else MS.CE 1 y):=(by show R=_;rw [b.out];rfl)
  clear b;by_cases h0:¬ (MS.CE 1 y).2=0
  ·rw [zA h0] at R';have b:Hid (MM ρ w1 p (MS.CE 1 y).1/\Fr V5 ρ w w1):=⟨a,H.out.fr.trans g2⟩
   obtain ⟨t,c⟩:=qe ((MS.CE 1 y).2);have j:=hid c.symm;rw [<- c] at h0 |-;have k:=qn h0;clear a g2 c;go_wp2
   go_ret
   unfold Ak;rw [R'.out,j.out];exact ⟨rfl,b.out⟩
  replace h0:=xM.1 h0
  rw [zC h0] at R';have d:Hid (Hw ρ w p x { (MS.CE 1 y).1 with st:=5 } (w1.setCell ⟨p,7,none⟩ (.int .i64 (5:Nat)))):=H.out.next a g2 (H.out.hc.CE h0) 5;have e:=a.Bt.1;have f:=a.Bt.2;rw [h0];clear a g2;obtain ⟨y,i⟩:=qe ({ (MS.CE 1 y).1 with st:=5 }:MS);rw [<- i] at d R';clear i H h0;go_wp2_with fail
  clear e f;have H:=d;have b:=R';clear d R';have a5:=trivial)
 all_goals try (
  clear a5;refine (SL 1 H.out.mm H.out.hc.ok (Or.inl H.out.hc.le) zO).mono ?_;rintro v w1 ⟨rfl,a,g2⟩;have R':Hid (R=if (MS.CE 2 y).2=0 then MS.h6 { (MS.CE 2 y).1 with st:=6 } else MS.CE 2 y):=(by show R=_;rw [b.out];rfl)
  clear b;by_cases h0:¬ (MS.CE 2 y).2=0
  ·rw [zA h0] at R';have b:Hid (MM ρ w1 p (MS.CE 2 y).1/\Fr V5 ρ w w1):=⟨a,H.out.fr.trans g2⟩
   obtain ⟨t,c⟩:=qe ((MS.CE 2 y).2);have j:=hid c.symm;rw [<- c] at h0 |-;have k:=qn h0;clear a g2 c;go_wp2
   go_ret
   unfold Ak;rw [R'.out,j.out];exact ⟨rfl,b.out⟩
  replace h0:=xM.1 h0
  rw [zC h0] at R';have d:Hid (Hw ρ w p x { (MS.CE 2 y).1 with st:=6 } (w1.setCell ⟨p,7,none⟩ (.int .i64 (6:Nat)))):=H.out.next a g2 (H.out.hc.CE h0) 6;have e:=a.Bt.1;have f:=a.Bt.2;rw [h0];clear a g2;obtain ⟨y,i⟩:=qe ({ (MS.CE 2 y).1 with st:=6 }:MS);rw [<- i] at d R';clear i H h0;go_wp2_with fail
  clear e f;have H:=d;have b:=R';clear d R';have A:=trivial)
 all_goals try (
  clear A;refine (XW H.out.mm H.out.hc.ok (Or.inl H.out.hc.le)).mono ?_;rintro v w1 ⟨rfl,a,g2⟩;have R':Hid (R=if (y.Ce).2=0 then ({ (y.Ce).1 with st:=7 },0) else y.Ce):=(by show R=_;rw [b.out];rfl)
  clear b;by_cases h0:¬ (y.Ce).2=0
  ·rw [zA h0] at R';have b:Hid (MM ρ w1 p (y.Ce).1/\Fr V5 ρ w w1):=⟨a,H.out.fr.trans g2⟩
   obtain ⟨t,c⟩:=qe ((y.Ce).2);have j:=hid c.symm;rw [<- c] at h0 |-;have k:=qn h0;clear a g2 c;go_wp2
   go_ret
   unfold Ak;rw [R'.out,j.out];exact ⟨rfl,b.out⟩
  replace h0:=xM.1 h0
  rw [zC h0] at R';have d:Hid (Hw ρ w p x { (y.Ce).1 with st:=7 } (w1.setCell ⟨p,7,none⟩ (.int .i64 (7:Nat)))):=H.out.next a g2 (H.out.hc.Ce h0) 7;have e:=a.Bt.1;have f:=a.Bt.2;rw [h0];clear a g2;go_wp2
  go_ret
  unfold Ak;rw [R'.out];exact ⟨rfl,d.out.mm,d.out.fr⟩)
theorem jy(h:MM ρ w p x)(hc:Hc x)(a:x.st=6) :
  Calls prog 100 #[.pointer (some ⟨p,0,none⟩)] w fun v b=>Ak ρ w p (MS.h6 x) v b:=Ky _ h ⟨h,hc,rfl,Fr.refl _ _ _⟩ (Or.inr (Or.inr (Or.inr (Or.inr (Or.inr (Or.inr (⟨a,rfl,trivial⟩)))))))
theorem jx(h:MM ρ w p x)(hc:Hc x)(a:x.st=5) :
  Calls prog 100 #[.pointer (some ⟨p,0,none⟩)] w fun v b=>Ak ρ w p (MS.h5 x) v b:=Ky _ h ⟨h,hc,rfl,Fr.refl _ _ _⟩ (Or.inr (Or.inr (Or.inr (Or.inr (Or.inr (Or.inl ⟨a,rfl,trivial⟩))))))
theorem jw(h:MM ρ w p x)(hc:Hc x)(a:x.st=4) :
  Calls prog 100 #[.pointer (some ⟨p,0,none⟩)] w fun v b=>Ak ρ w p (MS.h4 x) v b:=Ky _ h ⟨h,hc,rfl,Fr.refl _ _ _⟩ (Or.inr (Or.inr (Or.inr (Or.inr (Or.inl ⟨a,rfl,trivial⟩)))))
theorem jv(h:MM ρ w p x)(hc:Hc x)(a:x.st=3) :
  Calls prog 100 #[.pointer (some ⟨p,0,none⟩)] w fun v b=>Ak ρ w p (MS.h3 x) v b:=Ky _ h ⟨h,hc,rfl,Fr.refl _ _ _⟩ (Or.inr (Or.inr (Or.inr (Or.inl ⟨a,rfl,trivial⟩))))
theorem ju(h:MM ρ w p x)(hc:Hc x)(a:x.st=2) :
  Calls prog 100 #[.pointer (some ⟨p,0,none⟩)] w fun v b=>Ak ρ w p (MS.h2 x) v b:=Ky _ h ⟨h,hc,rfl,Fr.refl _ _ _⟩ (Or.inr (Or.inr (Or.inl ⟨a,rfl,trivial⟩)))
theorem jt(h:MM ρ w p x)(hc:Hc x)(a:x.st=1) :
  Calls prog 100 #[.pointer (some ⟨p,0,none⟩)] w fun v b=>Ak ρ w p (MS.h1 x) v b:=Ky _ h ⟨h,hc,rfl,Fr.refl _ _ _⟩ (Or.inr (Or.inl ⟨a,rfl,trivial⟩))
theorem js(h:MM ρ w p x)(hc:Hc x)(a:x.st=0) :
  Calls prog 100 #[.pointer (some ⟨p,0,none⟩)] w fun v b=>Ak ρ w p (MS.h0 x) v b:=Ky _ h ⟨h,hc,rfl,Fr.refl _ _ _⟩ (Or.inl ⟨a,rfl,trivial⟩)
theorem SM(h:MM ρ w p x)(ok:Ok x)(hx:x.count<=63) :
  Calls prog 135 #[.pointer (some ⟨p,0,none⟩)] w fun v f=>Ak ρ w p x.EE v f:=by
 have i:=CL h ok;have b:Hid (x.EE=if x.num x.count=0 then (x.rd x.count,0) else (x.rd x.count).refuse 8):=rfl;have o:=h.Pb;clear h ok;have a:Hid (∀ n,Calls prog 134 #[.pointer (some ⟨p,14,none⟩), .int .i64 x.count] (w.drewN n) fun v f=>v= .returned (.int .i64 (x.num x.count))/\MM ρ f p (x.rd x.count)/\Fr V5 ρ (w.drewN n) f):=fun n=>Gg x.count (i.out.1.drewN n) i.out.2 zL hx
 obtain ⟨m,hm⟩:=qe (x.num x.count);rw [<- hm] at b a;clear hm;go_enter func135,ntmps135
 by_cases h0:m=0
 ·rw [zC h0] at b;subst h0;go_wp2_with fail
  go_region_with (go_at_call 134;refine (a.out 1).mono ?_;rintro e w2 ⟨rfl,c,g2⟩;have d:Hid (MM ρ w2 p (x.rd x.count)/\Fr V5 ρ w w2):=⟨c,((Fr.refl _ _ _).drewN 1).trans g2⟩;clear c g2)
  all_goals
   go_wp2
   go_ret
   unfold Ak;rw [b.out];exact ⟨rfl,d.out⟩
 ·rw [zA h0] at b;have q:=qn h0;go_wp2_with fail
  go_region_with (go_at_call 134;refine (a.out 1).mono ?_;rintro e w2 ⟨rfl,c,g2⟩;have d:Hid (MM ρ w2 p (x.rd x.count)/\Fr V5 ρ w w2):=⟨c,((Fr.refl _ _ _).drewN 1).trans g2⟩;clear c g2)
  all_goals
   go_wp2_with fail
   refine (Cd 8 d.out.1).mono ?_;rintro v l ⟨rfl,j,k⟩;have g:Hid (MM ρ l p ((x.rd x.count).refuse 8).1/\Fr V5 ρ w l):=⟨j,d.out.2.trans k⟩
   clear j k;go_wp2
   go_ret
   unfold Ak;rw [b.out];exact ⟨rfl,g.out⟩
theorem NK(h:MM ρ w p x)(ok:Ok x)(hx:x.count<=63) :
  Calls prog 138 #[.pointer (some ⟨p,0,none⟩)] w fun v o=>Ak ρ w p x.endBlock v o:=by
 have g:=CL h ok;have c:x.last=false->x.endBlock=({ x with st:=7 },0):=fun h=>by unfold MS.endBlock;rw [zA (by rw [h];decide)]
 have d:x.last=true->x.endBlock=MS.EE { x with st:=22 }:=fun h=>by unfold MS.endBlock;rw [zC h]
 have f:w.cell? ⟨p,24,none⟩=some (.bool x.last):=by obtain ⟨L,B,T⟩:=h;exact B.row.cell (i:=24) zO
 have q:=h.Bt.1;have s:=h.Bt.2;clear h ok;have n:Hid (MM ρ (w.setCell ⟨p,7,none⟩ (.int .i64 7)) p { x with st:=7 }/\Fr V5 ρ w (w.setCell ⟨p,7,none⟩ (.int .i64 7))):=g.out.1.st 7;have e:Hid (MM ρ (w.setCell ⟨p,7,none⟩ (.int .i64 22)) p { x with st:=22 }/\Fr V5 ρ w (w.setCell ⟨p,7,none⟩ (.int .i64 22))):=g.out.1.st 22;go_enter func138,ntmps138
 cases a:x.last with
 | false=>
  have b:=hid (c a);rw [a] at f;clear c d a;go_wp2
  go_ret
  unfold Ak;rw [b.out];exact ⟨rfl,n.out⟩
 | true=>
  have b:=hid (d a);rw [a] at f;clear c d a;go_wp2_with fail
  refine (SM e.out.1 (g.out.2.st 22) hx).mono ?_;rintro v w1 ⟨rfl,k,g2⟩;have j:Hid (MM ρ w1 p (MS.EE { x with st:=22 }).1/\Fr V5 ρ w w1):=⟨k,e.out.2.trans g2⟩
  clear k g2;obtain ⟨r,l⟩:=qe (MS.EE { x with st:=22 });rw [<- l] at j b |-;clear l;go_wp2
  go_ret
  unfold Ak;rw [b.out];exact ⟨rfl,j.out⟩
theorem MS.dj(x:MS)(a b:Nat):(x.rd a).rd b=x.rd (a+b):=by
 unfold MS.rd;rw [show (x.held / 2^a) / 2^b=x.held / 2^(a+b) by rw [kD,<- Nat.pow_add],show x.count - a - b=x.count - (a+b) by omega]
theorem SK(h:MM ρ w p x)(ok:Ok x)(hx:x.count<=32) :
  Calls prog 146 #[.pointer (some ⟨p,0,none⟩)] w fun v d=>Ak ρ w p x.Bv v d:=by
 have j:=CL h ok;have b:Hid (x.Bv=if x.fm=2 then (if (MS.Ab 16 x).2=0 then (if (MS.Ab 16 x).1.num 16=(MS.Ab 16 x).1.size then ((MS.Ab 16 x).1.rd 16,0) else ((MS.Ab 16 x).1.rd 16).refuse 13) else MS.Ab 16 x) else (x,0)):=rfl;have M:=h.cell0;clear h ok;go_enter func146,ntmps146
 by_cases h2:x.fm=2
 ·rw [zC h2] at b;have hd:((x.fm:Int)==2)=true:=by simp;omega
  clear h2;go_wp2_with fail
  refine (GC 16 j.out.1 j.out.2 zO zO).mono ?_;rintro v w1 ⟨rfl,a,g2⟩;by_cases h0:(MS.Ab 16 x).2=0
  ·have G:=MS.Ci j.out.2 h0;have k3:=MS.Ck (k:=16) j.out.2;rw [h0];rw [zC h0] at b;obtain ⟨y,F⟩:=qe ((MS.Ab 16 x).1);rw [<- F] at a b G k3;have q:Hid (MM ρ w1 p y/\Ok y/\Fr V5 ρ w w1):=⟨a,k3,g2⟩
   have J:=k3.size;have l:w1.cell? ⟨p,23,none⟩=some (.int .u16 y.size):=by obtain ⟨L,B,T⟩:=a;exact B.row.cell (i:=23) zO
   clear a g2 F k3 h0;have f:Hid (∀ n,Calls prog 134 #[.pointer (some ⟨p,14,none⟩), .int .i64 (16:Nat)] (w1.drewN n) fun v d=>v= .returned (.int .i64 (y.num 16))/\MM ρ d p (y.rd 16)/\Fr V5 ρ (w1.drewN n) d):=fun n=>Gg 16 (q.out.1.drewN n) q.out.2.1 G.1 zO
   have C:Hid (∀ d,MM ρ d p (y.rd 16)->d.cell? ⟨p,23,none⟩=some (.int .u16 y.size)):=fun d m=>by obtain ⟨L,B,T⟩:=m;exact B.row.cell (i:=23) zO
   have u:y.num 16<65536:=yC _ zD;obtain ⟨m,hm⟩:=qe (y.num 16);rw [<- hm] at b f u;clear hm;have o:IntKind.i64.wrap (y.size:Int)=(y.size:Int):=by rw [kG,xW _ ⟨zO,zO⟩]
   by_cases he:m=y.size
   ·rw [zC he] at b;have s:((m:Int) !=IntKind.i64.wrap (y.size:Int))=false:=by rw [o];simp [he]
    clear he;go_wp2_with fail
    go_region_held3 (fun A=>A.cell? ⟨p,23,none⟩=some (.int .u16 y.size)) (first | exact l | exact g) (first | (go_at_call 134;refine (f.out 1).mono ?_;rintro e w2 ⟨rfl,a,g2⟩;have c:Hid (MM ρ w2 p (y.rd 16)/\Fr V5 ρ w w2):=⟨a,(q.out.2.2.drewN 1).trans g2⟩;have g:=C.out _ a;clear a g2))
    all_goals
     go_wp2
     go_ret
     unfold Ak;rw [b.out];exact ⟨rfl,c.out⟩
   ·rw [zA he] at b;have s:((m:Int) !=IntKind.i64.wrap (y.size:Int))=true:=by rw [o];simp;omega
    clear he;go_wp2_with fail
    go_region_held3 (fun A=>A.cell? ⟨p,23,none⟩=some (.int .u16 y.size)) (first | exact l | exact g) (first | (go_at_call 134;refine (f.out 1).mono ?_;rintro e w2 ⟨rfl,a,g2⟩;have c:Hid (MM ρ w2 p (y.rd 16)/\Fr V5 ρ w w2):=⟨a,(q.out.2.2.drewN 1).trans g2⟩;have g:=C.out _ a;clear a g2))
    all_goals
     go_wp2_with fail
     refine (Cd 13 c.out.1).mono ?_;rintro v H ⟨rfl,D,E⟩;have r:Hid (MM ρ H p ((y.rd 16).refuse 13).1/\Fr V5 ρ w H):=⟨D,c.out.2.trans E⟩
     clear D E;go_wp2
     go_ret
     unfold Ak;rw [b.out];exact ⟨rfl,r.out⟩
  ·rw [zA h0] at b;obtain ⟨t,z⟩:=qe ((MS.Ab 16 x).2);have c:Hid (MM ρ w1 p (MS.Ab 16 x).1/\Fr V5 ρ w w1/\(MS.Ab 16 x).2=t):=⟨a,g2,z.symm⟩
   rw [<- z] at h0 |-;have I:=qn h0;clear a g2 z;go_wp2
   go_ret
   unfold Ak;rw [b.out,c.out.2.2];exact ⟨rfl,c.out.1,c.out.2.1⟩
 ·rw [zA h2] at b;have hd:((x.fm:Int)==2)=false:=by simp;omega
  clear h2;go_wp2
  go_ret
  unfold Ak;rw [b.out];exact ⟨rfl,j.out.1,Fr.refl _ _ _⟩
def toldN(h:Nat):Nat->Nat
 | 0=>0
 | k+1=>256*toldN h k+h / 2^(8*k)%256
theorem eT(h k:Nat):toldN h k<256^k:=by
 induction k with
 | zero=>simp [toldN]
 | succ k ih=>rw [toldN,yN];have:=yC (h / 2^(8*k)) (show 0<256 by decide);omega
theorem YU(h:Nat):toldN h 4=Lb h:=by
 simp only [toldN,Lb];simp
theorem Sy(n:Int)(h₀:0<=n)(h₁:n<2^62):IntKind.i64.wrap n=n:=by
 have:(2:Int)^62=4611686018427387904:=zD;rw [kG,xW _ ⟨zO,zO⟩]
theorem lD(T b:Nat)(a:T<16777216)(c:b<256):bits .or .i64 ((T:Int)*256) (b:Int)=((256*T+b:Nat):Int):=by
 have h1:(2:Int)^62=4611686018427387904:=zD;have h2:(2:Int)^8=256:=zD;rw [bits_join .i64 62 zD Sy 8 ((T:Int)*256) (b:Int) zO (by rw [h2];omega) zO zO (by rw [h2];omega) zO];omega
theorem MM.two(h:MM ρ w p x):w.cell? ⟨p,21,none⟩=some (.int .i64 x.sx)/\w.cell? ⟨p,22,none⟩=some (.int .i64 x.sy):=by
 obtain ⟨L,B,T⟩:=h;exact ⟨B.row.cell (i:=21) zO,B.row.cell (i:=22) zO⟩
theorem dK(h:MM ρ w p x)(ok:Ok x)(hx:x.count<=32) :
  Calls prog 145 #[.pointer (some ⟨p,0,none⟩)] w fun v q=>Ak ρ w p x.Cu v q:=by
 have r:=CL h ok;have g:Hid (x.Cu=if x.fm=0 then (x,0) else (if (MS.Ab 32 x).2=0 then (if Lb (MS.Ab 32 x).1.held=65536*(MS.Ab 32 x).1.sy+(MS.Ab 32 x).1.sx then ((MS.Ab 32 x).1.rd 32,0) else ((MS.Ab 32 x).1.rd 32).refuse 12) else MS.Ab 32 x)):=rfl;have W:=h.cell0;clear h ok;go_enter func145,ntmps145
 by_cases h2:x.fm=0
 ·rw [zC h2] at g;have hd:((x.fm:Int)==0)=true:=by simp [h2]
  clear h2;go_wp2
  go_ret
  unfold Ak;rw [g.out];exact ⟨rfl,r.out.1,Fr.refl _ _ _⟩
 ·rw [zA h2] at g;have hd:((x.fm:Int)==0)=false:=by simp;exact h2
  clear h2;go_wp2_with fail
  refine (GC 32 r.out.1 r.out.2 zO zO).mono ?_;rintro v w1 ⟨rfl,A,g2⟩;by_cases h0:(MS.Ab 32 x).2=0
  ·have V:=MS.Ci r.out.2 h0;have k3:=MS.Ck (k:=32) r.out.2;rw [h0];rw [zC h0] at g;obtain ⟨y,N⟩:=qe ((MS.Ab 32 x).1);rw [<- N] at A g V k3;have hs:=k3.sum;have J:Hid (MM ρ w1 p (y.rd (8*0))/\Ok (y.rd (8*0))/\Fr V5 ρ w w1):=by
    have e:y.rd (8*0)=y:=by unfold MS.rd;simp
    show _/\_/\_;rw [e];exact ⟨A,k3,g2⟩
   clear A g2 N h0 k3;go_wp2_with fail
   go_loopw [4,16] (fun t i wr=>∃ k:Nat,k<=4/\i= .int .i64 k/\t= .int .i64 (toldN y.held k)/\Hid (MM ρ wr p (y.rd (8*k))/\Ok (y.rd (8*k))/\Fr V5 ρ w wr)) (fun _ i _=>4 - (intOf i).toNat)
   case atStart=>exact ⟨0,zO,rfl,rfl,J⟩
   case round=>
    clear J;obtain ⟨k,hk,rfl,rfl,d⟩:=hrel;by_cases U:k<4
    ·have L:toldN y.held k<16777216:=zM (eT y.held k) (by
      have:256^k<=256^3:=yP zD zO;simpa using this)
     have a:8<=(y.rd (8*k)).count/\(y.rd (8*k)).count<=63:=by
      show 8<=y.count - 8*k/\y.count - 8*k<=63;omega
     have M:(y.rd (8*k)).num 8<256:=yC _ zD;have l:Hid (bits .or .i64 ((toldN y.held k:Int)*256) ((y.rd (8*k)).num 8:Int)=((toldN y.held (k+1):Nat):Int)):=lD _ _ L M;have s:Hid ((y.rd (8*k)).rd 8=y.rd (8*(k+1))):=MS.dj y (8*k) 8;have n:Hid (Calls prog 134 #[.pointer (some ⟨p,14,none⟩), .int .i64 (8:Nat)] wr fun v q=>v= .returned (.int .i64 ((y.rd (8*k)).num 8))/\MM ρ q p ((y.rd (8*k)).rd 8)/\Fr V5 ρ wr q):=Gg 8 d.out.1 d.out.2.1 a.1 a.2;have F:Hid (Ok (y.rd (8*(k+1)))):=by show Ok _;rw [<- s.out];exact d.out.2.1.rd a.1
     rw [s.out] at n;obtain ⟨T,f⟩:=qe (toldN y.held k);obtain ⟨b,D⟩:=qe ((y.rd (8*k)).num 8);rw [<- f] at L l |-;rw [<- D] at M l n;clear f D a;go_wp2_with fail
     refine n.out.mono ?_;rintro v w2 ⟨rfl,B,C⟩;have Q:Hid (MM ρ w2 p (y.rd (8*(k+1)))/\Ok (y.rd (8*(k+1)))/\Fr V5 ρ w w2):=⟨B,F.out,d.out.2.2.trans C⟩
     clear B C;go_wp2_with fail
     go_roundw
     case rel=>exact ⟨k+1,zO,by go_num,by rw [<- l.out],Q⟩
     case measure=>simp [intOf];omega
    ·obtain rfl:k=4:=zO;have c:Hid (x.Cu=if toldN y.held 4=65536*y.sy+y.sx then (y.rd (8*4),0) else (y.rd (8*4)).refuse 12):=by show _=_;rw [YU];exact g.out
     have iZ:wr.cell? ⟨p,21,none⟩=some (.int .i64 y.sx):=d.out.1.two.1;have R:wr.cell? ⟨p,22,none⟩=some (.int .i64 y.sy):=d.out.1.two.2;have u:Hid (Calls prog 112 #[.agg #[.int .i64 y.sx, .int .i64 y.sy]] wr fun e q=>e= .returned (.int .i64 (65536*(y.sy:Int)+y.sx))/\Below wr.heap.size wr q):=Kf y.sx y.sy wr zO zO;obtain ⟨z,O⟩:=qe (y.rd (8*4));rw [<- O] at c d;clear O g;obtain ⟨T,f⟩:=qe (toldN y.held 4);rw [<- f] at c |-;clear f;by_cases he:T=65536*y.sy+y.sx
     ·rw [zC he] at c;have H:((T:Int)==65536*(y.sy:Int)+y.sx)=true:=by simp;omega
      clear he;go_wp2_with fail
      refine u.out.mono ?_;rintro v E ⟨rfl,o⟩;have j:Hid (MM ρ E p z/\Fr V5 ρ w E):=⟨d.out.1.below o,d.out.2.2.trans (Fr.below o)⟩
      clear o;go_wp2
      go_ret
      unfold Ak;rw [c.out];exact ⟨rfl,j.out⟩
     ·rw [zA he] at c;have H:((T:Int)==65536*(y.sy:Int)+y.sx)=false:=by simp;omega
      clear he;go_wp2_with fail
      refine u.out.mono ?_;rintro v E ⟨rfl,o⟩;have j:Hid (MM ρ E p z/\Fr V5 ρ w E):=⟨d.out.1.below o,d.out.2.2.trans (Fr.below o)⟩
      clear o;go_wp2_with fail
      refine (Cd 12 j.out.1).mono ?_;rintro v P ⟨rfl,B,C⟩;have G:Hid (MM ρ P p (z.refuse 12).1/\Fr V5 ρ w P):=⟨B,j.out.2.trans C⟩
      clear B C;go_wp2
      go_ret
      unfold Ak;rw [c.out];exact ⟨rfl,G.out⟩
  ·rw [zA h0] at g;obtain ⟨t,I⟩:=qe ((MS.Ab 32 x).2);have j:Hid (MM ρ w1 p (MS.Ab 32 x).1/\Fr V5 ρ w w1/\(MS.Ab 32 x).2=t):=⟨A,g2,I.symm⟩
   rw [<- I] at h0 |-;have S:=qn h0;clear A g2 I;go_wp2
   go_ret
   unfold Ak;rw [g.out,j.out.2.2];exact ⟨rfl,j.out.1,j.out.2.1⟩
theorem jo(h:MM ρ w p x)(ok:Ok x)(hx:x.count<=32)(c:x.st=24) :
  Calls prog 105 #[.pointer (some ⟨p,0,none⟩)] w fun v s=>Ak ρ w p x.fF v s:=by
 have j:=CL h ok;have a:Hid (x.fF=if (MS.Ab 8 x).2=0 then (if (MS.Ab 8 x).1.fm=2 then ({ (MS.Ab 8 x).1 with st:=0 },0) else (MS.Ab 8 x).1.refuse 14) else MS.Ab 8 x):=rfl;have q:=h.Bt.1;rw [c] at q;clear h ok c;go_enter func105,ntmps105
 go_wp2_with fail
 refine (GC 8 j.out.1 j.out.2 zO zO).mono ?_;rintro v w1 ⟨rfl,b,g2⟩;by_cases h0:(MS.Ab 8 x).2=0
 ·rw [h0];rw [zC h0] at a;obtain ⟨y,n⟩:=qe ((MS.Ab 8 x).1);rw [<- n] at b a;have d:Hid (MM ρ w1 p y/\Fr V5 ρ w w1):=⟨b,g2⟩
  have u:=b.cell0;have z:=b.Bt.1;have A:=b.Bt.2;clear b g2 n h0;by_cases h2:y.fm=2
  ·rw [zC h2] at a;have hd:((y.fm:Int)==2)=true:=by simp;omega
   have i:Hid (MM ρ (w1.setCell ⟨p,7,none⟩ (.int .i64 0)) p { y with st:=0 }/\Fr V5 ρ w1 (w1.setCell ⟨p,7,none⟩ (.int .i64 0))):=d.out.1.st 0;clear h2;go_wp2
   go_ret
   unfold Ak;rw [a.out];exact ⟨rfl,i.out.1,d.out.2.trans i.out.2⟩
  ·rw [zA h2] at a;have hd:((y.fm:Int)==2)=false:=by simp;omega
   clear h2;go_wp2_with fail
   refine (Cd 14 d.out.1).mono ?_;rintro v o ⟨rfl,k,l⟩;have f:Hid (MM ρ o p (y.refuse 14).1/\Fr V5 ρ w o):=⟨k,d.out.2.trans l⟩
   clear k l;go_wp2
   go_ret
   unfold Ak;rw [a.out];exact ⟨rfl,f.out⟩
 ·rw [zA h0] at a;obtain ⟨t,g⟩:=qe ((MS.Ab 8 x).2);have e:Hid (MM ρ w1 p (MS.Ab 8 x).1/\Fr V5 ρ w w1/\(MS.Ab 8 x).2=t):=⟨b,g2,g.symm⟩
  rw [<- g] at h0 |-;have r:=qn h0;clear b g2 g;go_wp2
  go_ret
  unfold Ak;rw [a.out,e.out.2.2];exact ⟨rfl,e.out.1,e.out.2.1⟩
theorem MS.Jr(ok:Ok x)(hx:x.count<=32)(h0:x.Bv.2=0):Ok x.Bv.1/\x.Bv.1.count<=32:=by
 have e:x.Bv=if x.fm=2 then (if (MS.Ab 16 x).2=0 then (if (MS.Ab 16 x).1.num 16=(MS.Ab 16 x).1.size then ((MS.Ab 16 x).1.rd 16,0) else ((MS.Ab 16 x).1.rd 16).refuse 13) else MS.Ab 16 x) else (x,0):=rfl;rw [e] at h0 |-;by_cases h2:x.fm=2
 ·rw [zC h2] at h0 |-;by_cases a:(MS.Ab 16 x).2=0
  ·rw [zC a] at h0 |-;by_cases he:(MS.Ab 16 x).1.num 16=(MS.Ab 16 x).1.size
   ·rw [zC he];have k:=MS.Ci ok a;refine ⟨(MS.Ck ok).rd k.1,?_⟩;show (MS.Ab 16 x).1.count - 16<=32;omega
   ·rw [zA he] at h0;cases h0
  ·rw [zA a] at h0;exact absurd h0 a
 ·rw [zA h2];exact ⟨ok,hx⟩
theorem MS.Rk(ok:Ok x)(hx:x.count<=32)(h0:x.Cu.2=0):Ok x.Cu.1/\x.Cu.1.count<=32:=by
 have e:x.Cu=if x.fm=0 then (x,0) else (if (MS.Ab 32 x).2=0 then (if Lb (MS.Ab 32 x).1.held=65536*(MS.Ab 32 x).1.sy+(MS.Ab 32 x).1.sx then ((MS.Ab 32 x).1.rd 32,0) else ((MS.Ab 32 x).1.rd 32).refuse 12) else MS.Ab 32 x):=rfl;rw [e] at h0 |-;by_cases h2:x.fm=0
 ·rw [zC h2];exact ⟨ok,hx⟩
 ·rw [zA h2] at h0 |-;by_cases a:(MS.Ab 32 x).2=0
  ·rw [zC a] at h0 |-;by_cases he:Lb (MS.Ab 32 x).1.held=65536*(MS.Ab 32 x).1.sy+(MS.Ab 32 x).1.sx
   ·rw [zC he];have k:=MS.Ci ok a;refine ⟨(MS.Ck ok).rd k.1,?_⟩;show (MS.Ab 32 x).1.count - 32<=32;omega
   ·rw [zA he] at h0;cases h0
  ·rw [zA a] at h0;exact absurd h0 a
theorem jn(h:MM ρ w p x)(ok:Ok x)(hx:x.count<=32)(k:x.st=23) :
  Calls prog 105 #[.pointer (some ⟨p,0,none⟩)] w fun v D=>Ak ρ w p x.cE v D:=by
 have c:Hid (MM ρ w p x/\Ok x/\x.count<=32/\Fr V5 ρ w w):=⟨h,ok,hx,Fr.refl _ _ _⟩
 have R:Hid (x.cE=MS.andThen x.Bv fun y=>MS.fF { y with st:=24 }):=rfl;have B:=h.Bt.1;rw [k] at B;clear h ok k;go_enter func105,ntmps105
 go_wp2_with fail
 refine (SK c.out.1 c.out.2.1 c.out.2.2.1).mono ?_;rintro v wb ⟨rfl,b,g2⟩;have R':Hid (x.cE=if (x.Bv).2=0 then MS.fF { (x.Bv).1 with st:=24 } else x.Bv):=R.out;by_cases h0:(x.Bv).2=0
 ·rw [zC h0] at R';have G:=b.Bt.1;have H:=b.Bt.2;have F:=MS.Jr c.out.2.1 c.out.2.2.1 h0;have e:Hid (MM ρ (wb.setCell ⟨p,7,none⟩ (.int .i64 (24:Nat))) p { (x.Bv).1 with st:=24 }/\Ok { (x.Bv).1 with st:=24 }/\(x.Bv).1.count<=32/\Fr V5 ρ w (wb.setCell ⟨p,7,none⟩ (.int .i64 (24:Nat)))):=⟨(b.st 24).1,F.1.st 24,F.2,(c.out.2.2.2.trans g2).trans (b.st 24).2⟩
  rw [h0];obtain ⟨a,d⟩:=qe ({ (x.Bv).1 with st:=24 }:MS);have j:a.count=(x.Bv).1.count:=by rw [d]
  rw [<- j,<- d] at e;rw [<- d] at R';clear b g2 R F d j h0;have R:=hid R'.out;clear R';go_wp2_with fail
  refine (GC 8 e.out.1 e.out.2.1 zO (by have:=e.out.2.2.1;omega)).mono ?_;rintro v wc ⟨rfl,b,g2⟩;have f:Hid (x.cE=if (MS.Ab 8 a).2=0 then (if (MS.Ab 8 a).1.fm=2 then ({ (MS.Ab 8 a).1 with st:=0 },0) else (MS.Ab 8 a).1.refuse 14) else MS.Ab 8 a):=R.out;by_cases h0:(MS.Ab 8 a).2=0
  ·rw [h0];rw [zC h0] at f;obtain ⟨y,u⟩:=qe ((MS.Ab 8 a).1);rw [<- u] at b f;have l:Hid (MM ρ wc p y/\Fr V5 ρ w wc):=⟨b,e.out.2.2.2.trans g2⟩
   have A:=b.cell0;have C:=b.Bt.1;have E:=b.Bt.2;clear b g2 u h0;by_cases h2:y.fm=2
   ·rw [zC h2] at f;have hd:((y.fm:Int)==2)=true:=by simp;omega
    have q:Hid (MM ρ (wc.setCell ⟨p,7,none⟩ (.int .i64 0)) p { y with st:=0 }/\Fr V5 ρ wc (wc.setCell ⟨p,7,none⟩ (.int .i64 0))):=l.out.1.st 0;clear h2;go_wp2
    go_ret
    unfold Ak;rw [f.out];exact ⟨rfl,q.out.1,l.out.2.trans q.out.2⟩
   ·rw [zA h2] at f;have hd:((y.fm:Int)==2)=false:=by simp;omega
    clear h2;go_wp2_with fail
    refine (Cd 14 l.out.1).mono ?_;rintro v z ⟨rfl,r,s⟩;have n:Hid (MM ρ z p (y.refuse 14).1/\Fr V5 ρ w z):=⟨r,l.out.2.trans s⟩
    clear r s;go_wp2
    go_ret
    unfold Ak;rw [f.out];exact ⟨rfl,n.out⟩
  ·rw [zA h0] at f;obtain ⟨t,i⟩:=qe ((MS.Ab 8 a).2);have g:Hid (MM ρ wc p (MS.Ab 8 a).1/\Fr V5 ρ w wc/\(MS.Ab 8 a).2=t):=⟨b,e.out.2.2.2.trans g2,i.symm⟩
   rw [<- i] at h0 |-;have o:=qn h0;clear b g2 i;go_wp2
   go_ret
   unfold Ak;rw [f.out,g.out.2.2];exact ⟨rfl,g.out.1,g.out.2.1⟩
 ·rw [zA h0] at R';obtain ⟨t,i⟩:=qe ((x.Bv).2);have g:Hid (MM ρ wb p (x.Bv).1/\Fr V5 ρ w wb/\(x.Bv).2=t):=⟨b,c.out.2.2.2.trans g2,i.symm⟩
  rw [<- i] at h0 |-;have o:=qn h0;clear b g2 i;go_wp2
  go_ret
  unfold Ak;rw [R'.out,g.out.2.2];exact ⟨rfl,g.out.1,g.out.2.1⟩
theorem jm(h:MM ρ w p x)(ok:Ok x)(hx:x.count<=32)(q:x.st=22) :
  Calls prog 105 #[.pointer (some ⟨p,0,none⟩)] w fun v I=>Ak ρ w p x.fE v I:=by
 have e:Hid (MM ρ w p x/\Ok x/\x.count<=32/\Fr V5 ρ w w):=⟨h,ok,hx,Fr.refl _ _ _⟩
 have R:Hid (x.fE=MS.andThen x.Cu fun y=>MS.cE { y with st:=23 }):=rfl;have E:=h.Bt.1;rw [q] at E;clear h ok q;go_enter func105,ntmps105
 go_wp2_with fail
 refine (dK e.out.1 e.out.2.1 e.out.2.2.1).mono ?_;rintro v wa ⟨rfl,b,g2⟩;have R':Hid (x.fE=if (x.Cu).2=0 then MS.cE { (x.Cu).1 with st:=23 } else x.Cu):=R.out;by_cases h0:(x.Cu).2=0
 ·rw [zC h0] at R';have G:=b.Bt.1;have J:=b.Bt.2;have F:=MS.Rk e.out.2.1 e.out.2.2.1 h0;have d:Hid (MM ρ (wa.setCell ⟨p,7,none⟩ (.int .i64 (23:Nat))) p { (x.Cu).1 with st:=23 }/\Ok { (x.Cu).1 with st:=23 }/\(x.Cu).1.count<=32/\Fr V5 ρ w (wa.setCell ⟨p,7,none⟩ (.int .i64 (23:Nat)))):=⟨(b.st 23).1,F.1.st 23,F.2,(e.out.2.2.2.trans g2).trans (b.st 23).2⟩
  rw [h0];obtain ⟨a,f⟩:=qe ({ (x.Cu).1 with st:=23 }:MS);have k:a.count=(x.Cu).1.count:=by rw [f]
  rw [<- k,<- f] at d;rw [<- f] at R';clear b g2 R F f k h0;have R:=hid R'.out;clear R';go_wp2_with fail
  refine (SK d.out.1 d.out.2.1 d.out.2.2.1).mono ?_;rintro v wb ⟨rfl,b,g2⟩;have R':Hid (x.fE=if (a.Bv).2=0 then MS.fF { (a.Bv).1 with st:=24 } else a.Bv):=R.out;by_cases h0:(a.Bv).2=0
  ·rw [zC h0] at R';have G:=b.Bt.1;have J:=b.Bt.2;have F:=MS.Jr d.out.2.1 d.out.2.2.1 h0;have i:Hid (MM ρ (wb.setCell ⟨p,7,none⟩ (.int .i64 (24:Nat))) p { (a.Bv).1 with st:=24 }/\Ok { (a.Bv).1 with st:=24 }/\(a.Bv).1.count<=32/\Fr V5 ρ w (wb.setCell ⟨p,7,none⟩ (.int .i64 (24:Nat)))):=⟨(b.st 24).1,F.1.st 24,F.2,(d.out.2.2.2.trans g2).trans (b.st 24).2⟩
   rw [h0];obtain ⟨c,g⟩:=qe ({ (a.Bv).1 with st:=24 }:MS);have k:c.count=(a.Bv).1.count:=by rw [g]
   rw [<- k,<- g] at i;rw [<- g] at R';clear b g2 R F g k h0;have R:=hid R'.out;clear R';go_wp2_with fail
   refine (GC 8 i.out.1 i.out.2.1 zO (by have:=i.out.2.2.1;omega)).mono ?_;rintro v wc ⟨rfl,b,g2⟩;have n:Hid (x.fE=if (MS.Ab 8 c).2=0 then (if (MS.Ab 8 c).1.fm=2 then ({ (MS.Ab 8 c).1 with st:=0 },0) else (MS.Ab 8 c).1.refuse 14) else MS.Ab 8 c):=R.out;by_cases h0:(MS.Ab 8 c).2=0
   ·rw [h0];rw [zC h0] at n;obtain ⟨y,B⟩:=qe ((MS.Ab 8 c).1);rw [<- B] at b n;have r:Hid (MM ρ wc p y/\Fr V5 ρ w wc):=⟨b,i.out.2.2.2.trans g2⟩
    have D:=b.cell0;have H:=b.Bt.1;have L:=b.Bt.2;clear b g2 B h0;by_cases h2:y.fm=2
    ·rw [zC h2] at n;have hd:((y.fm:Int)==2)=true:=by simp;omega
     have u:Hid (MM ρ (wc.setCell ⟨p,7,none⟩ (.int .i64 0)) p { y with st:=0 }/\Fr V5 ρ wc (wc.setCell ⟨p,7,none⟩ (.int .i64 0))):=r.out.1.st 0;clear h2;go_wp2
     go_ret
     unfold Ak;rw [n.out];exact ⟨rfl,u.out.1,r.out.2.trans u.out.2⟩
    ·rw [zA h2] at n;have hd:((y.fm:Int)==2)=false:=by simp;omega
     clear h2;go_wp2_with fail
     refine (Cd 14 r.out.1).mono ?_;rintro v C ⟨rfl,z,A⟩;have s:Hid (MM ρ C p (y.refuse 14).1/\Fr V5 ρ w C):=⟨z,r.out.2.trans A⟩
     clear z A;go_wp2
     go_ret
     unfold Ak;rw [n.out];exact ⟨rfl,s.out⟩
   ·rw [zA h0] at n;obtain ⟨t,l⟩:=qe ((MS.Ab 8 c).2);have j:Hid (MM ρ wc p (MS.Ab 8 c).1/\Fr V5 ρ w wc/\(MS.Ab 8 c).2=t):=⟨b,i.out.2.2.2.trans g2,l.symm⟩
    rw [<- l] at h0 |-;have o:=qn h0;clear b g2 l;go_wp2
    go_ret
    unfold Ak;rw [n.out,j.out.2.2];exact ⟨rfl,j.out.1,j.out.2.1⟩
  ·rw [zA h0] at R';obtain ⟨t,l⟩:=qe ((a.Bv).2);have j:Hid (MM ρ wb p (a.Bv).1/\Fr V5 ρ w wb/\(a.Bv).2=t):=⟨b,d.out.2.2.2.trans g2,l.symm⟩
   rw [<- l] at h0 |-;have o:=qn h0;clear b g2 l;go_wp2
   go_ret
   unfold Ak;rw [R'.out,j.out.2.2];exact ⟨rfl,j.out.1,j.out.2.1⟩
 ·rw [zA h0] at R';obtain ⟨t,l⟩:=qe ((x.Cu).2);have j:Hid (MM ρ wa p (x.Cu).1/\Fr V5 ρ w wa/\(x.Cu).2=t):=⟨b,e.out.2.2.2.trans g2,l.symm⟩
  rw [<- l] at h0 |-;have o:=qn h0;clear b g2 l;go_wp2
  go_ret
  unfold Ak;rw [R'.out,j.out.2.2];exact ⟨rfl,j.out.1,j.out.2.1⟩
theorem Ok.FC(h:Ok x)(h0:x.MP=0)(b:Nat):Ok (x.FC b):=by
 have hs:¬ x.sp<=x.tk+x.pu:=fun hq=>by unfold MS.MP at h0;rw [zC hq] at h0;cases h0
 have a:x.tk+(x.pu+1)<=x.sp:=zO;have g2:(x.sx+b)%65521<=65520:=by have:=yC (x.sx+b) (show 0<65521 by decide);omega
 have c:(x.sy+(x.sx+b)%65521)%65521<=65520:=by have:=yC (x.sy+(x.sx+b)%65521) (show 0<65521 by decide);omega
 exact { h with steps:=a,sum:=⟨g2,c⟩,size:=yC _ zD }
theorem MS.KP(ok:Ok x)(b:Nat):Ok (x.put b).1/\((x.put b).2=0->(x.put b).1=x.FC b):=by
 unfold MS.put;by_cases h1:x.qa.length=64
 ·rw [zC h1];exact ⟨ok,fun h=>by cases h⟩
 ·rw [zA h1];by_cases h2:x.MP=0
  ·rw [zA (by rw [h2];simp)];exact ⟨ok.FC h2 b,fun _=>rfl⟩
  ·rw [zC h2];exact ⟨ok.refuse _,fun h=>by cases h⟩
theorem MM.EY(h:MM ρ w p x):w.cell? ⟨p,25,none⟩=some (.int .i64 x.left)/\w.frozen? ⟨p,25,none⟩=false:=by
 obtain ⟨L,B,T⟩:=h;exact ⟨B.row.cell (i:=25) zO,B.row.frozen 25⟩
theorem MM.Wu(h:MM ρ w p x):w.cell? ⟨p,14,none⟩=some (.int .u64 x.held):=by
 obtain ⟨L,B,T⟩:=h;exact B.row.cell (i:=14) zO
theorem MM.left(h:MM ρ w p x)(n:Nat):MM ρ (w.setCell ⟨p,25,none⟩ (.int .i64 n)) p { x with left:=n }/\Fr V5 ρ w (w.setCell ⟨p,25,none⟩ (.int .i64 n)):=by
 obtain ⟨L,B,T⟩:=h;exact (((show Bh ρ w p x x L w from ⟨B,T,Fr.refl _ _ _⟩).set (z:={ x with left:=n }) 25 _ rfl ⟨rfl,rfl⟩).done rfl rfl rfl rfl ⟨rfl,rfl⟩)
structure Pw(ρ:Nat->Nat)(w:World)(p:Nat)(y:MS)(R:MS×Nat)(w':World):Prop where
 mm:MM ρ w' p y
 ok:Ok y
 eq:MS.IV y.left y=R
 Cq:y.count<=32
 left:y.left<=65535
 fr:Fr V5 ρ w w'
theorem MS.Qa(h:y.left=0):MS.IV y.left y=y.endBlock:=by rw [h];rfl
theorem MS.QZ(h:y.left=n+1):MS.IV y.left y=if (MS.Ab 8 y).2=0 then (if ((MS.Ab 8 y).1.put ((MS.Ab 8 y).1.num 8)).2=0 then MS.IV n { ((MS.Ab 8 y).1.put ((MS.Ab 8 y).1.num 8)).1.rd 8 with left:=n } else (MS.Ab 8 y).1.put ((MS.Ab 8 y).1.num 8)) else MS.Ab 8 y:=by rw [h];rfl
theorem fk(h:MM ρ w p x)(ok:Ok x)(hx:x.count<=32)(hl:x.left<=65535)(C:x.st=9) :
  Calls prog 102 #[.pointer (some ⟨p,0,none⟩)] w fun v T=>Ak ρ w p x.b9 v T:=by
 obtain ⟨R,N⟩:=qe (MS.IV x.left x);have U:Hid (∃ y,Pw ρ w p y R w):=⟨x,h,ok,N.symm,hx,hl,Fr.refl _ _ _⟩
 have I:Hid (x.b9=R):=by show x.b9=R;rw [N];rfl
 have c7:=h.Bt.1;rw [C] at c7;clear h ok C N hl hx;go_enter func102,ntmps102
 go_wp2_with fail
 go_loopw [] (fun wr=>Hid (∃ y,Pw ρ w p y R wr)) (fun wr=>Jc wr p 25)
 case atStart=>exact U
 case round=>
  clear U;obtain ⟨y,Y⟩:=hrel.out;have u:=Y.mm.EY.1;have J:=Ed u;have hl:=Y.left;have a2:=Y.Cq;have c:=hid Y;clear Y hrel;by_cases G:y.left=0
  ·have l:Hid (R=y.endBlock):=by show R=_;rw [<- c.out.eq,MS.Qa G]
   rw [G] at u;clear G;go_wp2_with fail
   refine (NK c.out.mm c.out.ok zO).mono ?_;rintro v g ⟨rfl,a,g2⟩;have f:Hid (MM ρ g p y.endBlock.1/\Fr V5 ρ w g):=⟨a,c.out.fr.trans g2⟩
   clear a g2;go_wp2
   go_ret
   unfold Ak;rw [I.out,l.out];exact ⟨rfl,f.out⟩
  ·obtain ⟨n,X⟩:∃ n,y.left=n+1:=⟨y.left - 1,zO⟩
   have e:Hid (R=if (MS.Ab 8 y).2=0 then (if ((MS.Ab 8 y).1.put ((MS.Ab 8 y).1.num 8)).2=0 then MS.IV n { ((MS.Ab 8 y).1.put ((MS.Ab 8 y).1.num 8)).1.rd 8 with left:=n } else (MS.Ab 8 y).1.put ((MS.Ab 8 y).1.num 8)) else MS.Ab 8 y):=by show R=_;rw [<- c.out.eq,MS.QZ X]
   have Z:(0:Int)<y.left:=zO;clear G;go_wp2_with fail
   refine (GC 8 c.out.mm c.out.ok zO zO).mono ?_;rintro v g ⟨rfl,a,g2⟩;by_cases h0:(MS.Ab 8 y).2=0
   ·have k1:=MS.Ci c.out.ok h0;have k2:=MS.EO c.out.ok h0;have k3:=MS.Ck (k:=8) c.out.ok;rw [h0];rw [zC h0] at e;obtain ⟨z,D⟩:=qe ((MS.Ab 8 y).1);rw [<- D] at a e k1 k2 k3;have S:z.left=n+1:=by rw [k2];exact X
    have l:Hid (MM ρ g p z/\Ok z/\Fr V5 ρ w g):=⟨a,k3,c.out.fr.trans g2⟩
    have a0:=a.Wu;have W:z.num 8<256:=yC _ zD;have O:(z.held:Int)%256=(z.num 8:Int):=by show _=((z.held%2^8:Nat):Int);omega
    have a3:=k3.held;clear a g2 D k2 k3 h0;obtain ⟨P,hP⟩:=qe (z.put (z.num 8));have i:=MS.KP l.out.2.1 (z.num 8);have r:Hid (Calls prog 137 #[.pointer (some ⟨p,0,none⟩), .int .u8 (z.num 8)] g fun v T=>Ak ρ g p P v T):=by
     show Calls _ _ _ _ _;rw [hP];exact fl (z.num 8) l.out.1 l.out.2.1 W
    rw [<- hP] at e i;have d:=hid i;clear hP i;obtain ⟨b,B⟩:=qe (z.num 8);rw [<- B] at O W r d;clear B;go_wp2_with fail
    refine r.out.mono ?_;rintro v H ⟨rfl,a,g2⟩;by_cases h1:P.2=0
    ·have o:=d.out.2 h1;have M:P.1.count=z.count:=by rw [o];rfl
     have A:P.1.left=n+1:=by rw [o];exact S
     rw [zC h1] at e;have s:Hid (MM ρ H p P.1/\Ok P.1/\Fr V5 ρ w H):=⟨a,d.out.1,l.out.2.2.trans g2⟩
     rw [h1];obtain ⟨Q,V⟩:=qe P.1;rw [<- V] at s M A e;clear a g2 o h1 V;go_wp2_with fail
     refine (Gg 8 s.out.1 s.out.2.1 zO zO).mono ?_;rintro v E ⟨rfl,a,g2⟩;have j:Hid (MM ρ E p (Q.rd 8)/\Ok (Q.rd 8)/\Fr V5 ρ w E):=⟨a,s.out.2.1.rd zO,s.out.2.2.trans g2⟩
     have a1:E.cell? ⟨p,25,none⟩=some (.int .i64 (n+1:Nat)):=by rw [<- A];exact a.EY.1
     have a5:=a.EY.2;have F:=j.out.1.left n;have HN:Hid (∃ y,Pw ρ w p y R (E.setCell ⟨p,25,none⟩ (.int .i64 n))):=⟨{ Q.rd 8 with left:=n },F.1,{ j.out.2.1 with },e.out.symm,by show Q.count - 8<=32;omega,by show n<=65535;omega,j.out.2.2.trans F.2⟩
     have eN:Jc (E.setCell ⟨p,25,none⟩ (.int .i64 n)) p 25=n:=Ed F.1.EY.1;have a4:((n+1:Nat):Int) - 1=(n:Int):=zO;clear a g2 F;go_wp2_with fail
     go_roundw
     case rel=>exact HN
     case measure=>rw [J,eN];omega
    ·rw [zA h1] at e;obtain ⟨t,q⟩:=qe P.2;have f:Hid (MM ρ H p P.1/\Fr V5 ρ w H/\P.2=t):=⟨a,l.out.2.2.trans g2,q.symm⟩
     rw [<- q] at h1 |-;have L:=qn h1;clear a g2 q;go_wp2
     go_ret
     unfold Ak;rw [I.out,e.out,f.out.2.2];exact ⟨rfl,f.out.1,f.out.2.1⟩
   ·rw [zA h0] at e;obtain ⟨t,q⟩:=qe ((MS.Ab 8 y).2);have f:Hid (MM ρ g p (MS.Ab 8 y).1/\Fr V5 ρ w g/\(MS.Ab 8 y).2=t):=⟨a,c.out.fr.trans g2,q.symm⟩
    rw [<- q] at h0 |-;have L:=qn h0;clear a g2 q;go_wp2
    go_ret
    unfold Ak;rw [I.out,e.out,f.out.2.2];exact ⟨rfl,f.out.1,f.out.2.1⟩
theorem fj(h:MM ρ w p x)(ok:Ok x)(hx:x.count<=32)(a5:x.st=8) :
  Calls prog 102 #[.pointer (some ⟨p,0,none⟩)] w fun v W=>Ak ρ w p x.b8 v W:=by
 have X:=CL h ok;have i:Hid (x.b8=if (MS.Ab 32 x).2=0 then (if (MS.Ab 32 x).1.held / 65536%65536=65535 - (MS.Ab 32 x).1.num 16 then MS.b9 { (MS.Ab 32 x).1.rd 32 with left:=(MS.Ab 32 x).1.num 16,st:=9 } else ({ (MS.Ab 32 x).1.rd 32 with left:=(MS.Ab 32 x).1.num 16 }:MS).refuse 9) else MS.Ab 32 x):=rfl;have c7:=h.Bt.1;rw [a5] at c7;clear h ok a5;go_enter func102,ntmps102
 go_wp2_with fail
 refine (GC 32 X.out.1 X.out.2 zO zO).mono ?_;rintro v w1 ⟨rfl,a,g2⟩;by_cases h0:(MS.Ab 32 x).2=0
 ·have k1:=MS.Ci X.out.2 h0;have k3:=MS.Ck (k:=32) X.out.2;rw [h0];rw [zC h0] at i;obtain ⟨q,hq⟩:=qe ((MS.Ab 32 x).1);rw [<- hq] at a i k1 k3;have r:Hid (MM ρ w1 p q/\Ok q/\Fr V5 ρ w w1):=⟨a,k3,g2⟩
  clear a g2 hq k3 h0 X c7;go_wp2_with fail
  refine (Gg 16 r.out.1 r.out.2.1 zO zO).mono ?_;rintro v w2 ⟨rfl,a,g2⟩;have hv:q.num 16<65536:=yC _ zD;have C:=a.EY.1;have a7:=a.EY.2;have G:=a.left (q.num 16);have c:Hid (MM ρ (w2.setCell ⟨p,25,none⟩ (.int .i64 (q.num 16:Nat))) p { q.rd 16 with left:=q.num 16 }/\Ok { q.rd 16 with left:=q.num 16 }/\Fr V5 ρ w (w2.setCell ⟨p,25,none⟩ (.int .i64 (q.num 16:Nat)))):=⟨G.1,{ r.out.2.1.rd (k:=16) zO with },(r.out.2.2.trans g2).trans G.2⟩
  have f:Hid (({ q.rd 16 with left:=q.num 16 }:MS).num 16=q.held / 65536%65536/\({ q.rd 16 with left:=q.num 16 }:MS).rd 16={ q.rd 32 with left:=q.num 16 }/\({ q.rd 16 with left:=q.num 16 }:MS).count=q.count - 16):=by
   refine ⟨rfl,?_,rfl⟩;have:=MS.dj q 16 16;unfold MS.rd at this |-;injection this;simp_all
  clear a g2 G;obtain ⟨V,hV⟩:=qe (q.num 16);rw [<- hV] at c f i hv |-;have HV:=hid hV;clear hV;obtain ⟨z,I⟩:=qe ({ q.rd 16 with left:=V }:MS);rw [<- I] at c f;have E:z.left=V:=by rw [I]
  clear I;have s:Hid (∀ wq,MM ρ wq p z->Calls prog 134 #[.pointer (some ⟨p,14,none⟩), .int .i64 (16:Nat)] wq fun v W=>v= .returned (.int .i64 (z.num 16))/\MM ρ W p (z.rd 16)/\Fr V5 ρ wq W):=fun wq m=>Gg 16 m c.out.2.1 (by have:=f.out.2.2;omega) (by have:=f.out.2.2;omega)
  have l:=hid f.out.1;have a4:z.num 16<65536:=yC _ zD;obtain ⟨N,hN⟩:=qe (z.num 16);rw [<- hN] at s l a4;clear hN;rw [<- l.out] at i;have H:Hid (Ok (z.rd 16)):=c.out.2.1.rd (by have:=f.out.2.2;omega);obtain ⟨u,hu⟩:=qe (z.rd 16);rw [<- hu] at s H;have HU:Hid (u={ q.rd 32 with left:=V }):=by show u=_;rw [hu];exact f.out.2.1
  clear hu;have b2:u.count<=32:=by rw [HU.out];show q.count - 32<=32;omega
  have S:u.left=V:=by rw [HU.out]
  generalize b5:w2.setCell ⟨p,25,none⟩ (.int .i64 (V:Nat))=W2 at *;have D:W2.cell? ⟨p,25,none⟩=some (.int .i64 V):=by rw [<- E];exact c.out.1.EY.1
  have T:IntKind.i64.wrap (65535 - (V:Int))=65535 - (V:Int):=by rw [kG,xW _ ⟨zO,zO⟩]
  by_cases he:N=65535 - V
  ·rw [zC he] at i;have a3:((N:Int) !=IntKind.i64.wrap (65535 - (V:Int)))=false:=by rw [T];simp;omega
   have U:Hid (x.b8=MS.b9 { u with st:=9 }):=by show x.b8=_;rw [i.out,HU.out]
   clear he i;go_wp2_with fail
   go_region_held3 (fun wv=>wv.cell? ⟨p,25,none⟩=some (.int .i64 V)) (first | exact D | exact g) (first | (go_at_call 134;refine (s.out _ (c.out.1.drewN 1)).mono ?_;rintro e J ⟨rfl,a,g2⟩;have d:Hid (MM ρ J p u/\Fr V5 ρ w J):=⟨a,(c.out.2.2.drewN 1).trans g2⟩;have g:J.cell? ⟨p,25,none⟩=some (.int .i64 V):=by { rw [<- S];exact a.EY.1 };clear a g2))
   have k7:=d.out.1.Bt.1;have z7:=d.out.1.Bt.2;obtain ⟨R,hR⟩:=qe (MS.b9 { u with st:=9 });rw [<- hR] at U;have H0:Hid (∃ y,Pw ρ w p y R (J.setCell ⟨p,7,none⟩ (.int .i64 9))):=⟨{ u with st:=9 },(d.out.1.st 9).1,H.out.st 9,hR.symm,b2,by show u.left<=65535;omega,d.out.2.trans (d.out.1.st 9).2⟩
   clear hR f HU HV l s c r D g E C a7 S;go_wp2_with fail
   clear T a3;generalize (65535 - (V:Int))=vv;generalize ((N:Int) !=vv)=bb;go_loopw [] (fun wr=>Hid (∃ y,Pw ρ w p y R wr)) (fun wr=>Jc wr p 25)
   case atStart=>exact H0
   case round=>
    clear H0;obtain ⟨y,Y⟩:=hrel.out;have C:=Y.mm.EY.1;have a9:=Ed C;have hl:=Y.left;have b6:=Y.Cq;have j:=hid Y;clear Y hrel;by_cases I:y.left=0
    ·have M:Hid (R=y.endBlock):=by show R=_;rw [<- j.out.eq,MS.Qa I]
     rw [I] at C;clear I;go_wp2_with fail
     refine (NK j.out.mm j.out.ok zO).mono ?_;rintro v F ⟨rfl,a,g2⟩;have d:Hid (MM ρ F p y.endBlock.1/\Fr V5 ρ w F):=⟨a,j.out.fr.trans g2⟩
     clear a g2;go_wp2
     go_ret
     unfold Ak;rw [U.out,M.out];exact ⟨rfl,d.out⟩
    ·obtain ⟨n,hn⟩:∃ n,y.left=n+1:=⟨y.left - 1,zO⟩
     have B:Hid (R=if (MS.Ab 8 y).2=0 then (if ((MS.Ab 8 y).1.put ((MS.Ab 8 y).1.num 8)).2=0 then MS.IV n { ((MS.Ab 8 y).1.put ((MS.Ab 8 y).1.num 8)).1.rd 8 with left:=n } else (MS.Ab 8 y).1.put ((MS.Ab 8 y).1.num 8)) else MS.Ab 8 y):=by show R=_;rw [<- j.out.eq,MS.QZ hn]
     have b3:(0:Int)<y.left:=zO;clear I;go_wp2_with fail
     refine (GC 8 j.out.mm j.out.ok zO zO).mono ?_;rintro v F ⟨rfl,a,g2⟩;by_cases h0:(MS.Ab 8 y).2=0
     ·have k1:=MS.Ci j.out.ok h0;have k2:=MS.EO j.out.ok h0;have k3:=MS.Ck (k:=8) j.out.ok;rw [h0];rw [zC h0] at B;obtain ⟨z,a6⟩:=qe ((MS.Ab 8 y).1);rw [<- a6] at a B k1 k2 k3;have E:z.left=n+1:=by rw [k2];exact hn
      have M:Hid (MM ρ F p z/\Ok z/\Fr V5 ρ w F):=⟨a,k3,j.out.fr.trans g2⟩
      have b4:=a.Wu;have hb:z.num 8<256:=yC _ zD;have b1:(z.held:Int)%256=(z.num 8:Int):=by show _=((z.held%2^8:Nat):Int);omega
      have b7:=k3.held;clear a g2 a6 k2 k3 h0;obtain ⟨P,hP⟩:=qe (z.put (z.num 8));have L:=MS.KP M.out.2.1 (z.num 8);have Z:Hid (Calls prog 137 #[.pointer (some ⟨p,0,none⟩), .int .u8 (z.num 8)] F fun v W=>Ak ρ F p P v W):=by
       show Calls _ _ _ _ _;rw [hP];exact fl (z.num 8) M.out.1 M.out.2.1 hb
      rw [<- hP] at B L;have o:=hid L;clear hP L;obtain ⟨b,a2⟩:=qe (z.num 8);rw [<- a2] at b1 hb Z o;clear a2;go_wp2_with fail
      refine Z.out.mono ?_;rintro v w6 ⟨rfl,a,g2⟩;by_cases h1:P.2=0
      ·have O:=o.out.2 h1;have b0:P.1.count=z.count:=by rw [O];rfl
       have a1:P.1.left=n+1:=by rw [O];exact E
       rw [zC h1] at B;have r:Hid (MM ρ w6 p P.1/\Ok P.1/\Fr V5 ρ w w6):=⟨a,o.out.1,M.out.2.2.trans g2⟩
       rw [h1];obtain ⟨Q,hQ⟩:=qe P.1;rw [<- hQ] at r b0 a1 B;clear a g2 O h1 hQ;go_wp2_with fail
       refine (Gg 8 r.out.1 r.out.2.1 zO zO).mono ?_;rintro v w7 ⟨rfl,a,g2⟩;have c:Hid (MM ρ w7 p (Q.rd 8)/\Ok (Q.rd 8)/\Fr V5 ρ w w7):=⟨a,r.out.2.1.rd zO,r.out.2.2.trans g2⟩
       have D:w7.cell? ⟨p,25,none⟩=some (.int .i64 (n+1:Nat)):=by rw [<- a1];exact a.EY.1
       have a7:=a.EY.2;have G:=c.out.1.left n;have HN:Hid (∃ y,Pw ρ w p y R (w7.setCell ⟨p,25,none⟩ (.int .i64 n))):=⟨{ Q.rd 8 with left:=n },G.1,{ c.out.2.1 with },B.out.symm,by show Q.count - 8<=32;omega,by show n<=65535;omega,c.out.2.2.trans G.2⟩
       have eN:Jc (w7.setCell ⟨p,25,none⟩ (.int .i64 n)) p 25=n:=Ed G.1.EY.1;have c0:((n+1:Nat):Int) - 1=(n:Int):=zO;clear a g2 G;go_wp2_with fail
       go_roundw
       case rel=>exact HN
       case measure=>rw [a9,eN];omega
      ·rw [zA h1] at B;obtain ⟨t,A⟩:=qe P.2;have d:Hid (MM ρ w6 p P.1/\Fr V5 ρ w w6/\P.2=t):=⟨a,M.out.2.2.trans g2,A.symm⟩
       rw [<- A] at h1 |-;have a0:=qn h1;clear a g2 A;go_wp2
       go_ret
       unfold Ak;rw [U.out,B.out,d.out.2.2];exact ⟨rfl,d.out.1,d.out.2.1⟩
     ·rw [zA h0] at B;obtain ⟨t,A⟩:=qe ((MS.Ab 8 y).2);have d:Hid (MM ρ F p (MS.Ab 8 y).1/\Fr V5 ρ w F/\(MS.Ab 8 y).2=t):=⟨a,j.out.fr.trans g2,A.symm⟩
      rw [<- A] at h0 |-;have a0:=qn h0;clear a g2 A;go_wp2
      go_ret
      unfold Ak;rw [U.out,B.out,d.out.2.2];exact ⟨rfl,d.out.1,d.out.2.1⟩
  ·rw [zA he] at i;have a3:((N:Int) !=IntKind.i64.wrap (65535 - (V:Int)))=true:=by rw [T];simp;omega
   have U:Hid (x.b8=u.refuse 9):=by show x.b8=_;rw [i.out,HU.out]
   clear he i;go_wp2_with fail
   go_region_held3 (fun wv=>wv.cell? ⟨p,25,none⟩=some (.int .i64 V)) (first | exact D | exact g) (first | (go_at_call 134;refine (s.out _ (c.out.1.drewN 1)).mono ?_;rintro e J ⟨rfl,a,g2⟩;have d:Hid (MM ρ J p u/\Fr V5 ρ w J):=⟨a,(c.out.2.2.drewN 1).trans g2⟩;have g:J.cell? ⟨p,25,none⟩=some (.int .i64 V):=by { rw [<- S];exact a.EY.1 };clear a g2))
   go_wp2_with fail
   refine (Cd 9 d.out.1).mono ?_;rintro v w4 ⟨rfl,g3,g4⟩;have a8:Hid (MM ρ w4 p (u.refuse 9).1/\Fr V5 ρ w w4):=⟨g3,d.out.2.trans g4⟩
   clear g3 g4;go_wp2
   go_ret
   unfold Ak;rw [U.out];exact ⟨rfl,a8.out⟩
 ·rw [zA h0] at i;obtain ⟨t,A⟩:=qe ((MS.Ab 32 x).2);have d:Hid (MM ρ w1 p (MS.Ab 32 x).1/\Fr V5 ρ w w1/\(MS.Ab 32 x).2=t):=⟨a,g2,A.symm⟩
  rw [<- A] at h0 |-;have a0:=qn h0;clear a g2 A;go_wp2
  go_ret
  unfold Ak;rw [i.out,d.out.2.2];exact ⟨rfl,d.out.1,d.out.2.1⟩
theorem MM.new(h:MM ρ w p x)(k:Nat)(hk:w.heap.size<=k):ρ k=0:=by
 obtain ⟨L,B,T⟩:=h;apply yB;intro a;have:=T.lt k a;omega
theorem Fr.cell{R:Nat->Prop}(f:Fr R ρ w w')(h:w.cell? ⟨g,i,none⟩=some v)(a:g<w.heap.size)(b:¬ R (ρ g)):w'.cell? ⟨g,i,none⟩=some v:=by
 unfold World.cell? at h |-;rw [f.kp.block g a b];exact h
theorem Fr.lt{R:Nat->Prop}(f:Fr R ρ w w')(h:g<w.heap.size):g<w'.heap.size:=zM h f.kp.size
theorem WZ:¬ (1<=0/\0<=5):=zD
theorem ZC(least bits:Nat)(h:MM ρ w p x)(ok:Ok x)(hx:x.count<=40)(H:bits<=16)(hl:least<=1000000) :
  Calls prog 141 #[.pointer (some ⟨p,0,none⟩), .agg #[.int .i64 least, .int .i64 bits]] w fun v l=>PQ .i64 ρ w p (x.Bg least bits) v l:=by
 have r0:=h.new _ zL;have o:Below w.heap.size w (w.alloc (.cells #[.int .i64 least, .int .i64 bits] 125)):=zB.alloc zL _;have a:Hid (MM ρ (w.alloc (.cells #[.int .i64 least, .int .i64 bits] 125)) p x/\Ok x/\Fr V5 ρ w (w.alloc (.cells #[.int .i64 least, .int .i64 bits] 125))/\ρ w.heap.size=0):=⟨h.below o,ok,Fr.below o,r0⟩
 have c:Hid (x.Bg least bits=if (MS.Ab bits x).2=0 then ((MS.Ab bits x).1.rd bits,0,least+(MS.Ab bits x).1.num bits) else ((MS.Ab bits x).1,(MS.Ab bits x).2,0)):=rfl;have s:(w.alloc (.cells #[.int .i64 least, .int .i64 bits] 125)).cell? ⟨w.heap.size,0,none⟩=some (.int .i64 least):=zS;have c1:(w.alloc (.cells #[.int .i64 least, .int .i64 bits] 125)).cell? ⟨w.heap.size,1,none⟩=some (.int .i64 bits):=zS;have q:w.heap.size<(w.alloc (.cells #[.int .i64 least, .int .i64 bits] 125)).heap.size:=zS;clear h ok o r0;go_enter func141,ntmps141
 go_wp2_with fail
 generalize w.alloc (.cells #[.int .i64 least, .int .i64 bits] 125)=W at *;refine (GC bits a.out.1 a.out.2.1 zO zO).mono ?_;rintro v w1 ⟨rfl,b,g2⟩;by_cases h0:(MS.Ab bits x).2=0
 ·have B:=MS.Ci a.out.2.1 h0;have k3:=MS.Ck (k:=bits) a.out.2.1;rw [h0];rw [zC h0] at c;obtain ⟨y,A⟩:=qe ((MS.Ab bits x).1);rw [<- A] at b c B k3;have g:Hid (MM ρ w1 p y/\Ok y/\Fr V5 ρ w w1/\ρ w.heap.size=0):=⟨b,k3,a.out.2.2.1.trans g2,a.out.2.2.2⟩
  have u:=g2.cell s q (by rw [a.out.2.2.2];exact WZ);have d1:=g2.cell c1 q (by rw [a.out.2.2.2];exact WZ);have i:=g2.lt q;clear b g2 A h0 s c1 k3;have f:Hid (∀ n,Calls prog 134 #[.pointer (some ⟨p,14,none⟩), .int .i64 bits] (w1.drewN n) fun v l=>v= .returned (.int .i64 (y.num bits))/\MM ρ l p (y.rd bits)/\Fr V5 ρ (w1.drewN n) l):=fun n=>Gg bits (g.out.1.drewN n) g.out.2.1 B.1 zO
  have j:y.num bits<65536:=zM (yC _ (vP bits)) (by
   have:2^bits<=2^16:=yP zD H;simpa using this)
  obtain ⟨m,hm⟩:=qe (y.num bits);rw [<- hm] at f c j;clear hm;have hw:IntKind.i64.wrap ((least:Int)+m)=((least+m:Nat):Int):=by rw [kG,xW _ ⟨zO,zO⟩];omega
  have r:=hid hw;clear hw;go_wp2_with fail
  go_region_held3 (fun C=>C.cell? ⟨w.heap.size,0,none⟩=some (.int .i64 least)/\C.cell? ⟨w.heap.size,1,none⟩=some (.int .i64 bits)) (first | exact ⟨u,d1⟩ | exact ⟨D,E⟩)
   (first | (go_at_call 134;refine (f.out 1).mono ?_;rintro e w2 ⟨rfl,b,g2⟩;have d:Hid (MM ρ w2 p (y.rd bits)/\Fr V5 ρ w w2):=⟨b,(g.out.2.2.1.drewN 1).trans g2⟩;have D:=g2.cell u i (by rw [g.out.2.2.2];exact WZ);have E:=g2.cell d1 i (by rw [g.out.2.2.2];exact WZ);clear b g2))
  all_goals
   go_wp2_with fail
   go_ret2
   unfold PQ;rw [c.out];first
    | (rw [r.out];exact ⟨rfl,d.out⟩)
    | (
      have F:((least+m:Nat):Int)=(least:Int)+m:=zO;rw [F];exact ⟨rfl,d.out⟩)
    | (rw [<- r.out];exact ⟨rfl,d.out⟩)
 ·obtain ⟨t,z⟩:=qe ((MS.Ab bits x).2);rw [zA h0] at c;have d:Hid (MM ρ w1 p (MS.Ab bits x).1/\Fr V5 ρ w w1):=⟨b,a.out.2.2.1.trans g2⟩
  rw [<- z] at h0 c |-;have G:=qn h0;clear b g2 z;go_wp2_with fail
  go_ret2
  unfold PQ;rw [c.out];exact ⟨rfl,d.out⟩
end Go.Proofs.YtbcjmakpempkiaaGreatDoor
