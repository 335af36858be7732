import Derived.Laws.BitsAllLaws
import Derived.Test.YtbcjmakpempkiaaGreatDoorX05
set_option maxRecDepth 100000
set_option maxHeartbeats 8000000
set_option linter.all false
namespace Go.Proofs.YtbcjmakpempkiaaGreatDoor
namespace MS
def refuse(x:MS)(e:Nat):MS×Nat:=({ x with er:=e,qa:=[] },3)
def rd(x:MS)(k:Nat):MS:={ x with held:=x.held / 2^k,count:=x.count - k }
def num(x:MS)(k:Nat):Nat:=x.held%2^k
def andThen(r:MS×Nat)(f:MS->MS×Nat):MS×Nat:=if r.2=0 then f r.1 else r
def fed(x:MS)(b:Nat)(l:List Nat):MS:={ x with held:=x.held+2^x.count*b,count:=x.count+8,tk:=x.tk+1,rest:=l }
def takeL(x:MS):List Nat->MS×Nat
 | []=>(x,1)
 | b :: l=>if x.sp<=x.tk+x.pu then x.refuse 16 else (x.fed b l,0)
def take(x:MS):MS×Nat:=x.takeL x.rest
def needL(k:Nat):List Nat->MS->MS×Nat
 | [],x=>if k<=x.count then (x,0) else (x,1)
 | b :: l,x=>if k<=x.count then (x,0) else if x.sp<=x.tk+x.pu then x.refuse 16 else needL k l (x.fed b l)
def need(k:Nat)(x:MS):MS×Nat:=needL k x.rest x
def putE(x:MS):Nat:=if x.sp<=x.tk+x.pu then 16 else if x.ou<=x.pu then 17 else if x.ra*x.tk+x.sl<=x.pu then 18 else 0
def pushed(q:List Nat)(b:Nat):List Nat:=if q.length=256 then q.tail++[b] else q++[b]
def putted(x:MS)(b:Nat):MS:={ x with pu:=x.pu+1,qa:=x.qa++[b],qc:=pushed x.qc b,sx:=(x.sx+b)%65521,sy:=(x.sy+(x.sx+b)%65521)%65521,size:=(x.size+1)%65536 }
def put(x:MS)(b:Nat):MS×Nat:=if x.qa.length=64 then (x,2) else if x.putE≠0 then x.refuse x.putE else (x.putted b,0)
def symL(l:List Int):Nat->Nat->Nat->MS->MS×Nat×Nat
 | 0,_,_,x=>((x.refuse 11).1,3,0)
 | r+1,n,code,x=>
  if (need n x).2≠0 then ((need n x).1,(need n x).2,0)
  else if 0<=find (rset l) n ((2*code+(need n x).1.held / 2^(n - 1)%2:Nat):Int) then ((need n x).1.rd n,0,(find (rset l) n ((2*code+(need n x).1.held / 2^(n - 1)%2:Nat):Int)).toNat)
  else symL l r (n+1) (2*code+(need n x).1.held / 2^(n - 1)%2) (need n x).1
def sym(l:List Int)(x:MS):MS×Nat×Nat:=symL l (lgTo l 12) 1 0 x
def symThen(r:MS×Nat×Nat)(f:MS->Nat->MS×Nat):MS×Nat:=if r.2.1=0 then f r.1 r.2.2 else (r.1,r.2.1)
def spanR(x:MS)(least bits:Nat):MS×Nat×Nat:=if (need bits x).2=0 then ((need bits x).1.rd bits,0,least+(need bits x).1.num bits) else ((need bits x).1,(need bits x).2,0)
def beginMember(x:MS):MS×Nat:=andThen (need 8 x) fun y=>if y.mb=y.me then y.refuse 6 else ({ y with mb:=y.mb+1,marks:=0,head:=0,hsum:=0,sx:=1,sy:=0,size:=0,qc:=[] },0)
def headRead(y:MS):MS:={ y.rd 8 with head:=y.head+1,hsum:=(y.hsum+y.num 8)%256 }
def takeHead(x:MS):MS×Nat×Nat:=if (need 8 x).2≠0 then ((need 8 x).1,(need 8 x).2,0) else if (need 8 x).1.head=(need 8 x).1.he then (((need 8 x).1.refuse 5).1,3,0) else ((need 8 x).1.headRead,0,(need 8 x).1.num 8)
def passByte(want:Nat)(x:MS):MS×Nat:=symThen x.takeHead fun y b=>if b=want then (y,0) else y.refuse 4
def passFixed(want:Nat)(x:MS):MS×Nat:=if x.fm=0 then (x,0) else passByte want x
def passMarks(x:MS):MS×Nat:=if x.fm=2 then symThen x.takeHead fun y b=>if 7<b then y.refuse 4 else ({ y with marks:=b },0) else (x,0)
def textL:Nat->MS->MS×Nat
 | 0,x=>(x,1)
 | f+1,x=>if x.takeHead.2.1≠0∨x.takeHead.2.2=0 then (x.takeHead.1,x.takeHead.2.1) else textL f x.takeHead.1
def more(x:MS):Nat:=x.rest.length+x.count / 8
def passText(mark:Nat)(x:MS):MS×Nat:=if x.marks / mark%2=0 then (x,0) else textL (x.more+1) x
def passCheck(x:MS):MS×Nat:=if x.marks / 4%2=0 then (x,0) else passByte x.hsum x
def first(fm:Nat):Nat:=if fm=1 then 115 else 76
def second(fm:Nat):Nat:=if fm=1 then 1 else 2
def h6(x:MS):MS×Nat:=andThen (passCheck x) fun y=>({ y with st:=7 },0)
def h5(x:MS):MS×Nat:=andThen (passText 2 x) fun y=>h6 { y with st:=6 }
def h4(x:MS):MS×Nat:=andThen (passText 1 x) fun y=>h5 { y with st:=5 }
def h3(x:MS):MS×Nat:=andThen (passMarks x) fun y=>h4 { y with st:=4 }
def h2(x:MS):MS×Nat:=andThen (passFixed (second x.fm) x) fun y=>h3 { y with st:=3 }
def h1(x:MS):MS×Nat:=andThen (passFixed (first x.fm) x) fun y=>h2 { y with st:=2 }
def h0(x:MS):MS×Nat:=andThen (beginMember x) fun y=>h1 { y with st:=1 }
def skipBits(x:MS):MS×Nat:=if x.num x.count=0 then (x.rd x.count,0) else (x.rd x.count).refuse 8
def endBlock(x:MS):MS×Nat:=if x.last then skipBits { x with st:=22 } else ({ x with st:=7 },0)
def kind(y:MS):MS×Nat:=
 if y.held / 2%4=0 then skipBits { y.rd 3 with last:=y.num 1==1,st:=8 }
 else if y.held / 2%4=1 then ({ y.rd 3 with last:=y.num 1==1,la:=Tr.fixedA,lb:=Tr.fixedB,st:=17 },0)
 else if y.held / 2%4=2 then ({ y.rd 3 with last:=y.num 1==1,st:=10 },0)
 else ({ y.rd 3 with last:=y.num 1==1 }:MS).refuse 7
def b7(x:MS):MS×Nat:=andThen (need 3 x) kind
def plainL:Nat->MS->MS×Nat
 | 0,x=>endBlock x
 | n+1,x=>andThen (need 8 x) fun y=>andThen (y.put (y.num 8)) fun z=>plainL n { z.rd 8 with left:=n }
def b9(x:MS):MS×Nat:=plainL x.left x
def b8(x:MS):MS×Nat:=andThen (need 32 x) fun y=>if y.held / 65536%65536=65535 - y.num 16 then b9 { y.rd 32 with left:=y.num 16,st:=9 } else ({ y.rd 32 with left:=y.num 16 }:MS).refuse 9
def helpersMade(x:MS):MS×Nat:=if jwa gw (hset x.hl)=2048 then ({ x with hs:=hset x.hl,st:=14 },0) else x.refuse 10
def hlL:Nat->MS->MS×Nat
 | 0,x=>helpersMade x
 | n+1,x=>andThen (need 3 x) fun y=>hlL n { y.rd 3 with hl:=y.hl++[(y.num 3:Int)] }
def o13(x:MS):MS×Nat:=hlL (x.told - x.hl.length) x
def o12(x:MS):MS×Nat:=andThen (need 4 x) fun y=>if 11<y.num 4 then ({ y.rd 4 with told:=4+y.num 4 }:MS).refuse 10 else o13 { y.rd 4 with told:=4+y.num 4,st:=13 }
def o11(x:MS):MS×Nat:=andThen (need 4 x) fun y=>o12 { y.rd 4 with nd:=1+y.num 4,st:=12 }
def o10(x:MS):MS×Nat:=andThen (need 4 x) fun y=>if 12<y.num 4 then ({ y.rd 4 with nl:=257+y.num 4 }:MS).refuse 10 else o11 { y.rd 4 with nl:=257+y.num 4,st:=11 }
def endRow(x:MS):MS×Nat:=
 if jcj (x.row.take x.nl) (x.row.drop x.nl) then x.refuse 10
 else ({ x with la:=x.row.take x.nl,lb:=x.row.drop x.nl,nl:=0,nd:=0,told:=0,hl:=[],hs:=[],hlen:=0,hbef:=false,hleast:=0,hbits:=0,row:=[],st:=17 },0)
def rowLen(x:MS):Int:=if x.hbef then x.row.getD (x.row.length - 1) 0 else x.hlen
def rowEnd(x:MS):MS×Nat:=if x.row.length=x.nl+x.nd then endRow x else (x,0)
def r15(x:MS):MS×Nat:=symThen (x.spanR x.hleast x.hbits) fun y times=>
 if (y.hbef=true∧y.row.length=0)∨y.nl+y.nd<y.row.length+times then y.refuse 10
 else rowEnd { y with row:=y.row++List.replicate times y.rowLen,st:=14 }
def helped(x:MS)(k:Nat):MS:={ x with hlen:=if k=12∨k=13∨k=14 then 0 else k,hbef:=decide (k=12),hleast:=Go.Proofs.YtbcjmakpempkiaaGreatDoor.hleast k,hbits:=Go.Proofs.YtbcjmakpempkiaaGreatDoor.hbits k }
def r14(x:MS):MS×Nat:=symThen (x.sym x.hs) fun y k=>r15 { y.helped k with st:=15 }
def copyL:Nat->MS->MS×Nat
 | 0,x=>({ x with st:=17 },0)
 | n+1,x=>andThen (x.put (x.qc.getD (x.qc.length - x.dist) 0)) fun y=>copyL n { y with left:=n }
def c21(x:MS):MS×Nat:=copyL x.left x
def c20(x:MS):MS×Nat:=symThen (x.spanR x.least x.bits) fun y n=>if y.qc.length<n then y.refuse 11 else c21 { y with dist:=n,st:=21 }
def c19(x:MS):MS×Nat:=symThen (x.sym x.lb) fun y k=>c20 { y with least:=Tr.spanLeast 1 k,bits:=Tr.spanBits k,st:=20 }
def c18(x:MS):MS×Nat:=symThen (x.spanR x.least x.bits) fun y n=>c19 { y with left:=n,st:=19 }
def c17(x:MS):MS×Nat:=symThen (x.sym x.la) fun y k=>
 if k<256 then ({ y with lit:=k,st:=16 },0) else if k=256 then endBlock y
 else c18 { y with least:=Tr.spanLeast 3 (k - 257),bits:=Tr.spanBits (k - 257),st:=18 }
def c16(x:MS):MS×Nat:=andThen (x.put x.lit) fun y=>c17 { y with st:=17 }
def e24(x:MS):MS×Nat:=andThen (need 8 x) fun y=>if y.fm=2 then ({ y with st:=0 },0) else y.refuse 14
def passSize(x:MS):MS×Nat:=if x.fm=2 then andThen (need 16 x) fun y=>if y.num 16=y.size then (y.rd 16,0) else (y.rd 16).refuse 13 else (x,0)
def e23(x:MS):MS×Nat:=andThen (passSize x) fun y=>e24 { y with st:=24 }
def passSum(x:MS):MS×Nat:=if x.fm=0 then (x,0) else andThen (need 32 x) fun y=>if big4 y.held=65536*y.sy+y.sx then (y.rd 32,0) else (y.rd 32).refuse 12
def e22(x:MS):MS×Nat:=andThen (passSum x) fun y=>e23 { y with st:=23 }
def advance(x:MS):MS×Nat:=
 match x.st with
 | 0=>h0 x
 | 1=>h1 x
 | 2=>h2 x
 | 3=>h3 x
 | 4=>h4 x
 | 5=>h5 x
 | 6=>h6 x
 | 7=>b7 x
 | 8=>b8 x
 | 9=>b9 x
 | 10=>o10 x
 | 11=>o11 x
 | 12=>o12 x
 | 13=>o13 x
 | 14=>r14 x
 | 15=>r15 x
 | 16=>c16 x
 | 17=>c17 x
 | 18=>c18 x
 | 19=>c19 x
 | 20=>c20 x
 | 21=>c21 x
 | 22=>e22 x
 | 23=>e23 x
 | _=>e24 x
end MS
open Go.RowKit
def y0y(ρ:Nat->Nat)(w:World)(p:Nat)(r:MS×Nat)(e:Ending)(w':World):Prop:=e= .returned (.int .i64 r.2)∧MM ρ w' p r.1∧Fr (fun k=>1<=k∧k<=5) ρ w w'
theorem ve5{w:World}{r c N o:Nat}{f:Nat->Nat}{q:List Nat}(h:RgI w r c N o f q) :
  Calls Tryz.prog 109 #[.pointer (some ⟨r,0,none⟩)] w fun x w'=>x= .returned (.tuple #[])∧RgI w' r c N o f []∧Two r c w w':=by
 have c2:w.cell? ⟨r,2,none⟩=some (.int .i64 q.length):=h.row.cell (i:=2) (by omega);have f2:=h.row.frozen 2;have HR:Hid (RgI (w.setCell ⟨r,2,none⟩ (.int .i64 0)) r c N o f []∧Two r c w (w.setCell ⟨r,2,none⟩ (.int .i64 0))):=by
  refine ⟨⟨(h.row.set 2 _).congr (xgl rfl rfl rfl),h.cells.setOther (a:=⟨r,2,none⟩) (Ne.symm h.ne) _,h.pos,h.small,h.ho,Nat.zero_le _,fun i hi=>by simp at hi,h.ne⟩,Two.set1 r c w 2 _⟩
 clear h;go_enter Tryz.func109,Tryz.ntmps109
 go_wp2_with fail
 go_end0
 exact ⟨rfl,HR.out⟩
theorem MB.ringA{ρ:Nat->Nat}{w w':World}{p:Nat}{x:MS}{L:Lo}(h:MB ρ w p x L){o:Nat}{f:Nat->Nat}{q:List Nat}(hr:RgI w' L.a L.b 64 o f q)(ht:Two L.a L.b w w'):MB ρ w' p { x with qa:=q } L:=by
 have k:Fr (fun r=>r=2∨r=3) ρ w w':=Fr.two ht (Or.inl h.rl.1) (Or.inr h.rl.2.1);obtain ⟨o2,f2,k2⟩:=h.rc;exact ⟨zlz h.row k.kp (by rw [h.rp];decide),⟨o,f,hr⟩,⟨o2,f2,k2.kp k.kp (by rw [h.rl.2.2.1];decide) (by rw [h.rl.2.2.2];decide)⟩,h.rp,h.rl⟩
theorem MB.ringC{ρ:Nat->Nat}{w w':World}{p:Nat}{x:MS}{L:Lo}(h:MB ρ w p x L){o:Nat}{f:Nat->Nat}{q:List Nat}(hr:RgI w' L.c L.d 256 o f q)(ht:Two L.c L.d w w'):MB ρ w' p { x with qc:=q } L:=by
 have k:Fr (fun r=>r=4∨r=5) ρ w w':=Fr.two ht (Or.inl h.rl.2.2.1) (Or.inr h.rl.2.2.2);obtain ⟨o2,f2,k2⟩:=h.ra;exact ⟨zlz h.row k.kp (by rw [h.rp];decide),⟨o2,f2,k2.kp k.kp (by rw [h.rl.1];decide) (by rw [h.rl.2.1];decide)⟩,⟨o,f,hr⟩,h.rp,h.rl⟩
theorem MT.same{ρ:Nat->Nat}{w:World}{x y:MS}{L:Lo}(h:MT ρ w x L)(h1:y.rest=x.rest)(h2:y.hl=x.hl)(h3:y.row=x.row)(h4:y.hs=x.hs)(h5:y.la=x.la∧y.lb=x.lb):MT ρ w y L:=⟨by rw [h1];exact h.sup,by rw [h2];exact h.hl,by rw [h3];exact h.rw,by rw [h4];exact h.hp,by rw [h5.1,h5.2];exact h.sets,h.fx,h.lt⟩
theorem Fr.five{ρ:Nat->Nat}{w w':World}{r c i j:Nat}(h:Two r c w w')(h1:ρ r=i)(h2:ρ c=j)(hi:1<=i∧i<=5)(hj:1<=j∧j<=5):Fr (fun k=>1<=k∧k<=5) ρ w w':=Fr.two h (by rw [h1];exact hi) (by rw [h2];exact hj)
theorem MT.fr5{ρ:Nat->Nat}{w w':World}{x:MS}{L:Lo}(h:MT ρ w x L)(f:Fr (fun k=>1<=k∧k<=5) ρ w w'):MT ρ w' x L:=h.fr f.kp (fun _ e=>e.2)
theorem Fr.own{ρ:Nat->Nat}(w:World)(p i:Nat)(v:Value)(h:ρ p=1):Fr (fun k=>1<=k∧k<=5) ρ w (w.setCell ⟨p,i,none⟩ v):=Fr.set w p i v (by rw [h];decide)
theorem kv8{ρ:Nat->Nat}{w:World}{p:Nat}{x:MS}(e:Nat)(h:MM ρ w p x) :
  Calls Tryz.prog 79 #[.pointer (some ⟨p,0,none⟩), .int .i64 e] w fun v w'=>y0y ρ w p (x.refuse e) v w':=by
 obtain ⟨L,B,T⟩:=h;have f8:=B.row.frozen 8;have c8:w.cell? ⟨p,8,none⟩=some (.int .i64 x.er):=B.row.cell (i:=8) (by omega);have c16:w.cell? ⟨p,16,none⟩=some (.pointer (some ⟨L.a,0,none⟩)):=B.row.cell (i:=16) (by omega);have HB:Hid (MB ρ (w.setCell ⟨p,8,none⟩ (.int .i64 e)) p { x with er:=e } L∧MT ρ (w.setCell ⟨p,8,none⟩ (.int .i64 e)) x L∧Fr (fun k=>1<=k∧k<=5) ρ w (w.setCell ⟨p,8,none⟩ (.int .i64 e))):=⟨B.set 8 (.int .i64 e) rfl ⟨rfl,rfl,rfl,rfl⟩ ⟨rfl,rfl⟩,T.set B.rp 8 _,Fr.own w p 8 _ B.rp⟩
 clear B T;go_enter Tryz.func79,Tryz.ntmps79
 go_wp2_with fail
 obtain ⟨o,f,hr⟩:=HB.out.1.ra;refine (ve5 hr).mono ?_;rintro v w1 ⟨rfl,hr1,ht1⟩;have F1:=Fr.five ht1 HB.out.1.rl.1 HB.out.1.rl.2.1 (by decide) (by decide);have HR:Hid (MM ρ w1 p (x.refuse e).1∧Fr (fun k=>1<=k∧k<=5) ρ w w1):=⟨⟨L,HB.out.1.ringA hr1 ht1,(HB.out.2.1.fr5 F1).same rfl rfl rfl rfl ⟨rfl,rfl⟩⟩,HB.out.2.2.trans F1⟩
 clear hr hr1 ht1 F1;go_wp2_with fail
 go_ret
 exact ⟨rfl,HR.out⟩
structure SupP(ρ:Nat->Nat)(w:World)(v:Value)(sa:Nat)(rest:List Nat)(ad:Option Addr)(P:List ByteArray)(cap:Nat):Prop where
 v:v= .slice ad P.length cap
 str:StrO w ad P
 capL:P.length<=cap
 capM:cap<=maxLen
 each:∀ s∈P,s.size<=maxLen
 le:sa<=((P.head?.map ByteArray.size).getD 0)
 rest:rest=(P.flatMap strN).drop sa
 role:∀ b o,ad=some ⟨b,o,none⟩->ρ b=9
theorem SupI.open_{ρ:Nat->Nat}{w:World}{v:Value}{sa:Nat}{rest:List Nat}(h:SupI ρ w v sa rest):∃ ad P cap,SupP ρ w v sa rest ad P cap:=by
 obtain ⟨ad,P,cap,h1,h2,h3,h4,h5,h6,h7,h8⟩:=h.at_;exact ⟨ad,P,cap,h1,h2,h3,h4,h5,h6,h7,h8⟩
theorem SupP.shut{ρ:Nat->Nat}{w:World}{v:Value}{sa:Nat}{rest:List Nat}{ad:Option Addr}{P:List ByteArray}{cap:Nat}(h:SupP ρ w v sa rest ad P cap):SupI ρ w v sa rest:=⟨ad,P,cap,h.v,h.str,h.capL,h.capM,h.each,h.le,h.rest,h.role⟩
theorem zty(s:ByteArray):(strN s).length=s.size:=by unfold strN;rw [List.length_map];rfl
theorem SupP.tail{ρ:Nat->Nat}{w:World}{v:Value}{sa:Nat}{rest:List Nat}{ad:Option Addr}{s:ByteArray}{P:List ByteArray}{cap:Nat}(h:SupP ρ w v sa rest ad (s :: P) cap)(hs:sa=s.size){ad':Option Addr}(ha:∀ b o,ad=some ⟨b,o,none⟩->ad'=some ⟨b,o+1,none⟩∨(P=[]∧ad'=some ⟨b,o,none⟩)):SupP ρ w (.slice ad' P.length (cap - 1)) 0 rest ad' P (cap - 1):=by
 obtain ⟨b,o,e,h1,h2⟩:=h.str 0 (by simp);have hc:=h.capL;simp at hc;refine ⟨rfl,fun k hk=>?_,by omega,by have:=h.capM;omega,fun s hs=>h.each s (List.mem_cons_of_mem _ hs),Nat.zero_le _,?_,fun b' o' e'=>?_⟩
 ·obtain ⟨b2,o2,e2,h3,h4⟩:=h.str (k+1) (by simp;omega);rcases ha b2 o2 e2 with e3 | e3
  ·exact ⟨b2,o2+1,e3,h3,by rw [show o2+1+k=o2+(k+1) by omega];simpa using h4⟩
  ·rw [e3.1] at hk;simp at hk
 ·rw [h.rest,hs,List.flatMap_cons,List.drop_zero,List.drop_append_of_le_length (by rw [zty];exact Nat.le_refl _),List.drop_eq_nil_of_le (by rw [zty];exact Nat.le_refl _),List.nil_append]
 ·rcases ha b o e with e3 | e3
  ·rw [e3] at e';injection e' with e';injection e' with e1 e2;rw [← e1];exact h.role b o e
  ·rw [e3.2] at e';injection e' with e';injection e' with e1 e2;rw [← e1];exact h.role b o e
def lenW(w:World)(p:Nat):Nat:=match w.cell? ⟨p,12,none⟩ with | some (.slice _ n _)=>n | _=>0
theorem xts{w:World}{p:Nat}{ad:Option Addr}{n cap:Nat}(h:w.cell? ⟨p,12,none⟩=some (.slice ad n cap)):lenW w p=n:=by unfold lenW;rw [h]
theorem MB.supply{ρ:Nat->Nat}{w:World}{p:Nat}{x:MS}{L:Lo}(h:MB ρ w p x L)(v:Value)(n:Nat):MB ρ ((w.setCell ⟨p,12,none⟩ v).setCell ⟨p,13,none⟩ (.int .i64 n)) p x { L with sv:=v,sa:=n }:=
 (h.set (y:=x) (M:={ L with sv:=v }) 12 v rfl ⟨rfl,rfl,rfl,rfl⟩ ⟨rfl,rfl⟩).set 13 (.int .i64 n) rfl ⟨rfl,rfl,rfl,rfl⟩ ⟨rfl,rfl⟩
theorem MT.supply{ρ:Nat->Nat}{w:World}{x:MS}{L:Lo}(h:MT ρ w x L){v:Value}{n:Nat}{l:List Nat}(hs:SupI ρ w v n l):MT ρ w { x with rest:=l } { L with sv:=v,sa:=n }:=⟨hs,h.hl,h.rw,h.hp,h.sets,h.fx,h.lt⟩
structure zox(ρ:Nat->Nat)(w:World)(p:Nat)(x:MS)(L:Lo)(w':World):Prop where
 mb:MB ρ w' p x L
 mt:MT ρ w' x L
 fr:Fr (fun k=>1<=k∧k<=5) ρ w w'
theorem xyh{ρ:Nat->Nat}{w:World}{p:Nat}{x:MS}(h:MM ρ w p x) :
  Calls Tryz.prog 186 #[.pointer (some ⟨p,12,none⟩)] w fun v w'=>v= .returned (.bool (decide (x.rest=[])))∧∃ L,zox ρ w p x L w'∧(x.rest≠[]->∃ ad s P cap,SupP ρ w' L.sv L.sa x.rest ad (s :: P) cap∧L.sa<s.size):=by
 obtain ⟨L0,B0,T0⟩:=h;have H0:Hid (∃ L,zox ρ w p x L w):=⟨L0,B0,T0,Fr.refl _ _ _⟩
 clear B0 T0 L0;go_enter Tryz.func186,Tryz.ntmps186
 go_wp2_with fail
 go_loopw [] (fun wr=>Hid (∃ L,zox ρ w p x L wr)) (fun wr=>lenW wr p)
 case atStart=>exact H0
 case round=>
  clear H0;obtain ⟨L,E⟩:=hrel.out;obtain ⟨ad,P,cap,S⟩:=E.mt.sup.open_;have c12:wr.cell? ⟨p,12,none⟩=some L.sv:=E.mb.row.cell (i:=12) (by omega);have c13:wr.cell? ⟨p,13,none⟩=some (.int .i64 L.sa):=E.mb.row.cell (i:=13) (by omega);have f12:=E.mb.row.frozen 12;have f13:=E.mb.row.frozen 13;rw [S.v] at c12;have hlen:=xts c12;cases P with
  | nil=>
   have hr0:x.rest=[]:=by rw [S.rest];simp
   have HE:Hid (∃ L,zox ρ w p x L (wr.drewN 1)):=⟨L,E.mb.drewN 1,E.mt.drewN 1,E.fr.drewN 1⟩
   have HR0:Hid (x.rest=[]):=hr0;simp only [List.length_nil] at c12;clear E S hrel hr0 hlen;go_wp2_with fail
   go_quiet (fail)
   go_wp2_with fail
   go_ret
   obtain ⟨L',E'⟩:=HE.out;refine ⟨by rw [HR0.out];simp,L',⟨E'.mb.fr ⟨Nat.le_refl _,fun _ _ _=>rfl⟩,E'.mt.fr (R:=fun _=>False) ⟨Nat.le_refl _,fun _ _ _=>rfl⟩ (fun _ e=>e.elim),⟨⟨E'.fr.kp.size,E'.fr.kp.block⟩,E'.fr.os,E'.fr.tape,E'.fr.output⟩⟩,fun h=>absurd HR0.out h⟩
  | cons s P=>
   obtain ⟨b,o,rfl,hb,hcell⟩:=S.str 0 (by simp);have hcell0:wr.cell? ⟨b,o,none⟩=some (.string s):=hcell;by_cases hsa:L.sa=s.size
   ·have hsai:((L.sa:Int)==(s.size:Int))=true:=by simp [hsa]
    have hss:s.size<=maxLen:=S.each s (by simp);have hPl:P.length+1<=cap:=by have:=S.capL;simp at this;omega
    have hPm:=S.capM;unfold maxLen at hPm hss;simp only [List.length_cons] at c12;have HS:Hid (SupP ρ wr L.sv L.sa x.rest (some ⟨b,o,none⟩) (s :: P) cap):=S;have HE:Hid (zox ρ w p x L wr):=E;clear E S hrel hcell;go_wp2_with fail
    go_quiet (fail)
    go_wp2_with fail
    have S1:SupP ρ (wr.drewN nq) L.sv L.sa x.rest (some ⟨b,o,none⟩) (s :: P) cap:=⟨HS.out.v,HS.out.str,HS.out.capL,HS.out.capM,HS.out.each,HS.out.le,HS.out.rest,HS.out.role⟩
    have S2:=S1.tail hsa (ad':=if cap=1 then some ⟨b,o,none⟩ else some ⟨b,o+1,none⟩) (fun b' o' e=>by
     injection e with e
     injection e with e1 e2
     subst e1 e2;by_cases h1:cap=1
     ·rw [if_pos h1];exact Or.inr ⟨List.length_eq_zero_iff.1 (by omega),rfl⟩
     ·rw [if_neg h1];exact Or.inl rfl)
    have T1:=(HE.out.mt.drewN nq).supply S2.shut;have F1:Fr (fun k=>1<=k∧k<=5) ρ (wr.drewN nq) (((wr.drewN nq).setCell ⟨p,12,none⟩ (.slice (if cap=1 then some ⟨b,o,none⟩ else some ⟨b,o+1,none⟩) P.length (cap - 1))).setCell ⟨p,13,none⟩ (.int .i64 0)):=(Fr.own _ p 12 _ HE.out.mb.rp).trans (Fr.own _ p 13 _ HE.out.mb.rp);have B1:=(HE.out.mb.drewN nq).supply (.slice (if cap=1 then some ⟨b,o,none⟩ else some ⟨b,o+1,none⟩) P.length (cap - 1)) 0;refine ⟨⟨_,B1,(T1.fr5 F1).same rfl rfl rfl rfl ⟨rfl,rfl⟩,(HE.out.fr.drewN nq).trans F1⟩,?_⟩;rw [hlen];have c12':=B1.row.cell (i:=12) (by omega);exact Nat.lt_of_le_of_lt (Nat.le_of_eq (xts (ad:=if cap=1 then some ⟨b,o,none⟩ else some ⟨b,o+1,none⟩) (n:=P.length) (cap:=cap - 1) c12')) (by simp)
   ·have hlt:L.sa<s.size:=by have:=S.le;simp at this;omega
    have hsai:((L.sa:Int)==(s.size:Int))=false:=by simp;omega
    have hPm:=S.capM;have hss:s.size<=maxLen:=S.each s (by simp);unfold maxLen at hPm hss;have hPl:P.length+1<=cap:=by have:=S.capL;simp at this;omega
    simp only [List.length_cons] at c12;have HS:Hid (SupP ρ wr L.sv L.sa x.rest (some ⟨b,o,none⟩) (s :: P) cap):=S;have HE:Hid (zox ρ w p x L wr):=E;clear E S hrel hcell;go_wp2_with fail
    go_quiet (fail)
    go_wp2_with fail
    go_ret
    have hne:x.rest≠[]:=by
     rw [HS.out.rest,List.flatMap_cons,List.drop_append_of_le_length (by rw [zty];omega)];intro e;have:=congrArg List.length e;rw [List.length_append,List.length_drop,zty] at this;simp at this;omega
    refine ⟨by rw [decide_eq_false hne];rfl,L,⟨HE.out.mb.drewN nq,HE.out.mt.drewN nq,HE.out.fr.drewN nq⟩,fun _=>⟨some ⟨b,o,none⟩,s,P,cap,⟨HS.out.v,HS.out.str,HS.out.capL,HS.out.capM,HS.out.each,HS.out.le,HS.out.rest,HS.out.role⟩,hlt⟩⟩
theorem SupP.cons{ρ:Nat->Nat}{w:World}{v:Value}{sa:Nat}{rest:List Nat}{ad:Option Addr}{s:ByteArray}{P:List ByteArray}{cap:Nat}(h:SupP ρ w v sa rest ad (s :: P) cap)(hs:sa<s.size):rest=(s[sa]).toNat :: (((s :: P).flatMap strN).drop (sa+1))∧SupP ρ w v (sa+1) (((s :: P).flatMap strN).drop (sa+1)) ad (s :: P) cap:=by
 have hl:sa<((s :: P).flatMap strN).length:=by rw [List.flatMap_cons,List.length_append,zty];omega
 refine ⟨?_,h.v,h.str,h.capL,h.capM,h.each,by simp;omega,rfl,h.role⟩;rw [h.rest,List.drop_eq_getElem_cons hl];congr 1
 have h2:sa<(strN s).length:=by rw [zty];exact hs
 simp only [List.flatMap_cons];rw [List.getElem_append_left h2];exact (List.getElem_map UInt8.toNat (h:=h2)).trans rfl
theorem je7{ρ:Nat->Nat}{w:World}{p:Nat}{x:MS}{L:Lo}{ad:Option Addr}{s:ByteArray}{P:List ByteArray}{cap:Nat}(B:MB ρ w p x L)(T:MT ρ w x L)(S:SupP ρ w L.sv L.sa x.rest ad (s :: P) cap)(hs:L.sa<s.size) :
  Calls Tryz.prog 189 #[.pointer (some ⟨p,12,none⟩)] w fun v w'=>v= .returned (.int .u8 ((s[L.sa]).toNat:Nat))∧∃ n,w'=(w.drewN n).setCell ⟨p,13,none⟩ (.int .i64 (L.sa+1:Nat)):=by
 have c12:w.cell? ⟨p,12,none⟩=some L.sv:=B.row.cell (i:=12) (by omega);have c13:w.cell? ⟨p,13,none⟩=some (.int .i64 L.sa):=B.row.cell (i:=13) (by omega);have f13:=B.row.frozen 13;obtain ⟨b,o,rfl,hb,hcell⟩:=S.str 0 (by simp);have hcell0:w.cell? ⟨b,o,none⟩=some (.string s):=hcell;rw [S.v] at c12;have hss:s.size<=maxLen:=S.each s (by simp);have hPl:P.length+1<=cap:=by have:=S.capL;simp at this;omega
 have hPm:=S.capM;unfold maxLen at hPm hss;simp only [List.length_cons] at c12;clear B T S hcell;go_enter Tryz.func189,Tryz.ntmps189
 go_wp2_with fail
 go_quiet (fail)
 go_wp2_with fail
 go_ret
 refine ⟨rfl,nq,?_⟩;have e:((L.sa+1:Nat):Int)=(L.sa:Int)+1:=by omega
 rw [e]
structure Ok(x:MS):Prop where
 held:x.held<2^x.count
 steps:x.tk+x.pu<=x.sp
 sp:x.sp<=9223372036854775807
 quo:x.ra*x.sp+x.sl<=9223372036854775807
 ou:x.ou<=9223372036854775807
 sum:x.sx<=65520∧x.sy<=65520
 rest:∀ b∈x.rest,b<256
 hd:x.head<=x.he∧x.he<=9223372036854775807
 mbs:x.mb<=x.me∧x.me<=9223372036854775807
 hsum:x.hsum<256
 size:x.size<65536
 marks:x.marks<256
 fm:x.fm<3
theorem Ok.fed{x:MS}(h:Ok x){b:Nat}{l:List Nat}(e:x.rest=b :: l)(hs:¬ x.sp<=x.tk+x.pu):Ok (x.fed b l):=by
 have hb:b<256:=h.rest b (by rw [e];simp);have g1:x.held+2^x.count*b<2^(x.count+8):=by
  have h1:=h.held;have h2:2^x.count*(b+1)<=2^x.count*2^8:=Nat.mul_le_mul_left _ (by omega);rw [← Nat.pow_add,Nat.mul_add] at h2;omega
 have g2:x.tk+1+x.pu<=x.sp:=by omega
 exact { h with held:=g1,steps:=g2,rest:=fun c hc=>h.rest c (by rw [e];exact List.mem_cons_of_mem _ hc) }
theorem Ok.refuse{x:MS}(h:Ok x)(e:Nat):Ok (x.refuse e).1:={ h with }
theorem Ok.rd{x:MS}(h:Ok x){k:Nat}(hk:k<=x.count):Ok (x.rd k):=by
 have g:x.held / 2^k<2^(x.count - k):=by
  have h1:=h.held;rw [show x.count=k+(x.count - k) by omega,Nat.pow_add] at h1;exact Nat.div_lt_of_lt_mul h1
 exact { h with held:=g }
theorem StrO.below{w w':World}{ad:Option Addr}{P:List ByteArray}(h:StrO w ad P)(b:Below w.heap.size w w'):StrO w' ad P:=h.kp (R:=fun _=>False) (ρ:=fun k=>k) (Kp.of_below b) (fun _ _ _ e=>e)
theorem SupP.below{ρ:Nat->Nat}{w w':World}{v:Value}{sa:Nat}{rest:List Nat}{ad:Option Addr}{P:List ByteArray}{cap:Nat}(h:SupP ρ w v sa rest ad P cap)(b:Below w.heap.size w w'):SupP ρ w' v sa rest ad P cap:=⟨h.v,h.str.below b,h.capL,h.capM,h.each,h.le,h.rest,h.role⟩
theorem SupP.drewN{ρ:Nat->Nat}{w:World}{v:Value}{sa:Nat}{rest:List Nat}{ad:Option Addr}{P:List ByteArray}{cap:Nat}(h:SupP ρ w v sa rest ad P cap)(n:Nat):SupP ρ (w.drewN n) v sa rest ad P cap:=⟨h.v,h.str,h.capL,h.capM,h.each,h.le,h.rest,h.role⟩
theorem mt3{ρ:Nat->Nat}{w w2 w3:World}{p:Nat}{x:MS}{L:Lo}{n:Nat}{y:MS}{M:Lo}(E:zox ρ w p x L w2)(T:MT ρ w2 y M)(e:w3=((w2.drewN 1).drewN n).setCell ⟨p,13,none⟩ (.int .i64 (L.sa+1:Nat))):MB ρ w3 p x { L with sa:=L.sa+1 }∧MT ρ w3 y M∧Fr (fun k=>1<=k∧k<=5) ρ w w3:=by
 rw [e];exact ⟨((E.mb.drewN 1).drewN n).set 13 _ rfl ⟨rfl,rfl,rfl,rfl⟩ ⟨rfl,rfl⟩,((T.drewN 1).drewN n).set E.mb.rp 13 _,((E.fr.drewN 1).drewN n).trans (Fr.own _ p 13 _ E.mb.rp)⟩
theorem mt4{ρ:Nat->Nat}{w w3 w4:World}{p b:Nat}{x y:MS}{L M:Lo}{n:Nat}(h:MB ρ w3 p x M∧MT ρ w3 y L∧Fr (fun k=>1<=k∧k<=5) ρ w w3)(e:w4=((w3.drewN n).setCell ⟨p,14,none⟩ (.int .u64 (x.held+2^x.count*b:Nat))).setCell ⟨p,14+1,none⟩ (.int .i64 (x.count+8:Nat))):MB ρ w4 p { x with held:=x.held+2^x.count*b,count:=x.count+8 } M∧MT ρ w4 y L∧Fr (fun k=>1<=k∧k<=5) ρ w w4:=by
 rw [e];have rp:=h.1.rp;exact ⟨((h.1.drewN n).set (y:={ x with held:=x.held+2^x.count*b }) (M:=M) 14 _ rfl ⟨rfl,rfl,rfl,rfl⟩ ⟨rfl,rfl⟩).set 15 _ rfl ⟨rfl,rfl,rfl,rfl⟩ ⟨rfl,rfl⟩,((h.2.1.drewN n).set rp 14 _).set rp 15 _,((h.2.2.drewN n).trans (Fr.own _ p 14 _ rp)).trans (Fr.own _ p 15 _ rp)⟩
theorem x2n{ρ:Nat->Nat}{w:World}{p:Nat}{x:MS}(h:MM ρ w p x)(k:Ok x)(hc:x.count<=56) :
  Calls Tryz.prog 161 #[.pointer (some ⟨p,0,none⟩)] w fun v w'=>y0y ρ w p x.take v w':=by
 have HM:Hid (MM ρ w p x):=h;have HK:Hid (Ok x):=k;have hsum:x.tk+x.pu<=9223372036854775807:=by have:=k.steps;have:=k.sp;omega
 have hsp:=k.sp;clear h k;go_enter Tryz.func161,Tryz.ntmps161
 go_wp2_with fail
 refine (xyh HM.out).mono ?_;rintro v w1 ⟨rfl,L,E,HS⟩;by_cases hr:x.rest=[]
 ·have HR:Hid (MM ρ w1 p x.take.1∧Fr (fun k=>1<=k∧k<=5) ρ w w1):=by
   have e:x.take=(x,1):=by unfold MS.take;rw [hr];rfl
   rw [e];exact ⟨⟨L,E.mb,E.mt⟩,E.fr⟩
  have e2:x.take.2=1:=by unfold MS.take;rw [hr];rfl
  rw [decide_eq_true hr];clear HS E;go_wp2_with fail
  go_ret
  exact ⟨by rw [e2];rfl,HR.out⟩
 ·obtain ⟨ad,s,P,cap,S,hlt⟩:=HS hr;obtain ⟨hrest,S'⟩:=S.cons hlt;rw [decide_eq_false hr];have HE:Hid (zox ρ w p x L w1):=E;have HSS:Hid (SupP ρ w1 L.sv L.sa x.rest ad (s :: P) cap):=S;have HS':Hid (SupP ρ w1 L.sv (L.sa+1) (((s :: P).flatMap strN).drop (L.sa+1)) ad (s :: P) cap):=S';have HRS:Hid (x.rest=(s[L.sa]).toNat :: (((s :: P).flatMap strN).drop (L.sa+1))):=hrest;clear HS S S' hrest E;have hb256:(s[L.sa]).toNat<256:=UInt8.toNat_lt _;have c9:w1.cell? ⟨p,9,none⟩=some (.int .i64 x.tk):=HE.out.mb.row.cell (i:=9) (by omega);have c10:w1.cell? ⟨p,10,none⟩=some (.int .i64 x.pu):=HE.out.mb.row.cell (i:=10) (by omega);have c11:w1.cell? ⟨p,11,none⟩=some (.int .i64 x.mb):=HE.out.mb.row.cell (i:=11) (by omega);have a0:w1.cell? ⟨p,0,none⟩=some (.int .i64 x.fm):=HE.out.mb.row.cell (i:=0) (by omega);have a1:w1.cell? ⟨p,1,none⟩=some (.int .i64 x.ou):=HE.out.mb.row.cell (i:=1) (by omega);have a2:w1.cell? ⟨p,2,none⟩=some (.int .i64 x.ra):=HE.out.mb.row.cell (i:=2) (by omega);have a3:w1.cell? ⟨p,3,none⟩=some (.int .i64 x.sl):=HE.out.mb.row.cell (i:=3) (by omega);have a4:w1.cell? ⟨p,4,none⟩=some (.int .i64 x.me):=HE.out.mb.row.cell (i:=4) (by omega);have a5:w1.cell? ⟨p,5,none⟩=some (.int .i64 x.he):=HE.out.mb.row.cell (i:=5) (by omega);have a6:w1.cell? ⟨p,6,none⟩=some (.int .i64 x.sp):=HE.out.mb.row.cell (i:=6) (by omega);by_cases hq:x.sp<=x.tk+x.pu
  ·have HT:Hid (∀ w,Calls Tryz.prog 187 #[.agg (talV x.tk x.pu x.mb), .agg (cfgV x.fm x.ou x.ra x.sl x.me x.he x.sp)] w fun x w'=>x= .returned (.int .i64 16)∧Below w.heap.size w w'):=fun w=>by
    have:=x44 x.fm x.ou x.ra x.sl x.me x.he x.sp x.tk x.pu x.mb w hsum hsp;rw [if_pos hq] at this;exact this
   have e2:Hid (x.take=x.refuse 16):=by show x.take=_;unfold MS.take;rw [HRS.out];show (if _ then _ else _)=_;rw [if_pos hq]
   go_wp2_with fail
   go_region_with (go_at_call 187;refine (HT.out _).mono ?_;rintro e w2 ⟨rfl,hb2⟩)
   all_goals
    have HM2:Hid (MM ρ w2 p x∧Fr (fun k=>1<=k∧k<=5) ρ w w2):=⟨(MM.drewN ⟨L,HE.out.mb,HE.out.mt⟩ 1).below hb2,(HE.out.fr.drewN 1).trans (Fr.below hb2)⟩
    clear hb2;go_wp2_with fail
    refine (kv8 16 HM2.out.1).mono ?_;rintro v w3 ⟨rfl,h3,f3⟩;have HR:Hid (MM ρ w3 p (x.refuse 16).1∧Fr (fun k=>1<=k∧k<=5) ρ w w3):=⟨h3,HM2.out.2.trans f3⟩
    clear h3 f3;go_wp2_with fail
    go_ret
    unfold y0y;rw [e2.out];exact ⟨rfl,HR.out⟩
  ·have HT:Hid (∀ w,Calls Tryz.prog 187 #[.agg (talV x.tk x.pu x.mb), .agg (cfgV x.fm x.ou x.ra x.sl x.me x.he x.sp)] w fun x w'=>x= .returned (.int .i64 0)∧Below w.heap.size w w'):=fun w=>by
    have:=x44 x.fm x.ou x.ra x.sl x.me x.he x.sp x.tk x.pu x.mb w hsum hsp;rw [if_neg hq] at this;exact this
   have e2:Hid (x.take=(x.fed (s[L.sa]).toNat (((s :: P).flatMap strN).drop (L.sa+1)),0)):=by show x.take=_;unfold MS.take;rw [HRS.out];show (if _ then _ else _)=_;rw [if_neg hq]
   go_wp2_with fail
   go_region_with (go_at_call 187;refine (HT.out _).mono ?_;rintro e w2 ⟨rfl,hb2⟩)
   all_goals
    have HE2:Hid (zox ρ w p x L w2):=⟨(HE.out.mb.drewN 1).fr (Kp.of_below hb2),(HE.out.mt.drewN 1).fr (R:=fun _=>False) (Kp.of_below hb2) (fun _ e=>e.elim),(HE.out.fr.drewN 1).trans (Fr.below hb2)⟩
    have hb2':Below w1.heap.size w1 w2:=⟨hb2.os,hb2.tape,hb2.output,hb2.size,hb2.block⟩
    have HS2:Hid (SupP ρ (w2.drewN 1) L.sv L.sa x.rest ad (s :: P) cap∧MT ρ w2 { x with rest:=((s :: P).flatMap strN).drop (L.sa+1) } { L with sa:=L.sa+1 }):=⟨(HSS.out.below hb2').drewN 1,HE2.out.mt.supply (HS'.out.below hb2').shut⟩
    clear hb2';clear hb2;go_wp2_with fail
    go_region_with (first
     | (go_at_call 189;refine (je7 (HE2.out.mb.drewN 1) (HE2.out.mt.drewN 1) HS2.out.1 hlt).mono ?_;rintro e w3 ⟨rfl,n3,hw3⟩;have HB3:Hid (MB ρ w3 p x { L with sa:=L.sa+1 }∧MT ρ w3 { x with rest:=((s :: P).flatMap strN).drop (L.sa+1) } { L with sa:=L.sa+1 }∧Fr (fun k=>1<=k∧k<=5) ρ w w3):=mt3 HE2.out HS2.out.2 hw3;have k14:w3.cell? ⟨p,14,none⟩=some (.int .u64 x.held):=HB3.out.1.row.cell (i:=14) (by omega);have k15:w3.cell? ⟨p,15,none⟩=some (.int .i64 x.count):=HB3.out.1.row.cell (i:=15) (by omega);have z14:=HB3.out.1.row.frozen 14;have z15:=HB3.out.1.row.frozen 15;clear hw3)
     | (go_at_call 188;refine (z7y p 14 x.held x.count (s[L.sa]).toNat _ hb256 hc HK.out.held k14 k15 z14 z15).mono ?_;rintro e w4 ⟨rfl,n4,hw4⟩;have HB4:Hid (MB ρ w4 p { x with held:=x.held+2^x.count*(s[L.sa]).toNat,count:=x.count+8 } { L with sa:=L.sa+1 }∧MT ρ w4 { x with rest:=((s :: P).flatMap strN).drop (L.sa+1) } { L with sa:=L.sa+1 }∧Fr (fun k=>1<=k∧k<=5) ρ w w4):=mt4 HB3.out hw4;have k9:w4.cell? ⟨p,9,none⟩=some (.int .i64 x.tk):=HB4.out.1.row.cell (i:=9) (by omega);have z9:=HB4.out.1.row.frozen 9;clear hw4))
    all_goals
     go_wp2_with fail
     go_ret
     unfold y0y;rw [e2.out];have rp:=HB4.out.1.rp;refine ⟨rfl,⟨{ L with sa:=L.sa+1 },?_,?_⟩,?_⟩
     ·exact HB4.out.1.set (y:=x.fed (s[L.sa]).toNat (((s :: P).flatMap strN).drop (L.sa+1))) (M:={ L with sa:=L.sa+1 }) 9 _ rfl ⟨rfl,rfl,rfl,rfl⟩ ⟨rfl,rfl⟩
     ·exact (HB4.out.2.1.set rp 9 _).same rfl rfl rfl rfl ⟨rfl,rfl⟩
     ·exact HB4.out.2.2.trans (Fr.own _ p 9 _ rp)
theorem MS.need_done{k:Nat}{x:MS}(h:k<=x.count):MS.need k x=(x,0):=by
 unfold MS.need;cases x.rest with
 | nil=>unfold MS.needL;rw [if_pos h]
 | cons b l=>unfold MS.needL;rw [if_pos h]
theorem MS.take_nil{x:MS}(e:x.rest=[]):x.take=(x,1):=by unfold MS.take;rw [e];rfl
theorem MS.take_cons{x:MS}{b:Nat}{l:List Nat}(e:x.rest=b :: l):x.take=if x.sp<=x.tk+x.pu then x.refuse 16 else (x.fed b l,0):=by unfold MS.take;rw [e];rfl
theorem MS.need_nil{k:Nat}{x:MS}(h:¬ k<=x.count)(e:x.rest=[]):MS.need k x=(x,1):=by
 unfold MS.need;rw [e];show (if k<=x.count then _ else _)=_;rw [if_neg h]
theorem MS.need_cons{k:Nat}{x:MS}{b:Nat}{l:List Nat}(h:¬ k<=x.count)(e:x.rest=b :: l):MS.need k x=if x.sp<=x.tk+x.pu then x.refuse 16 else MS.need k (x.fed b l):=by
 unfold MS.need;rw [e];show (if k<=x.count then _ else _)=_;rw [if_neg h];rfl
theorem MS.need_take{k:Nat}{x:MS}(h:¬ k<=x.count):MS.need k x=if x.take.2=0 then MS.need k x.take.1 else x.take:=by
 cases e:x.rest with
 | nil=>rw [MS.take_nil e,MS.need_nil h e];rfl
 | cons b l=>
  rw [MS.take_cons e,MS.need_cons h e];by_cases hs:x.sp<=x.tk+x.pu
  ·rw [if_pos hs,if_pos hs];rfl
  ·rw [if_neg hs,if_neg hs];rfl
theorem Ok.take{x:MS}(h:Ok x)(h0:x.take.2=0):Ok x.take.1∧x.take.1.count=x.count+8:=by
 cases e:x.rest with
 | nil=>rw [MS.take_nil e] at h0;cases h0
 | cons b l=>
  rw [MS.take_cons e] at h0 ⊢;by_cases hs:x.sp<=x.tk+x.pu
  ·rw [if_pos hs] at h0;cases h0
  ·rw [if_neg hs];exact ⟨h.fed e hs,rfl⟩
def xq0(w:World)(p i:Nat):Nat:=match w.cell? ⟨p,i,none⟩ with | some (.int _ n)=>n.toNat | _=>0
theorem xv1{w:World}{p i:Nat}{k:IntKind}{n:Nat}(h:w.cell? ⟨p,i,none⟩=some (.int k n)):xq0 w p i=n:=by unfold xq0;rw [h];rfl
theorem MM.cell15{ρ:Nat->Nat}{w:World}{p:Nat}{x:MS}(h:MM ρ w p x):w.cell? ⟨p,15,none⟩=some (.int .i64 x.count):=by
 obtain ⟨L,B,T⟩:=h;exact B.row.cell (i:=15) (by omega)
theorem zvo{ρ:Nat->Nat}{w:World}{p:Nat}{x:MS}(k:Nat)(h:MM ρ w p x)(ok:Ok x)(hk:k<=56)(hx:x.count<=100) :
  Calls Tryz.prog 133 #[.pointer (some ⟨p,0,none⟩), .int .i64 k] w fun v w'=>y0y ρ w p (MS.need k x) v w':=by
 have H0:Hid (∃ y,MM ρ w p y∧Ok y∧MS.need k y=MS.need k x∧Fr (fun k=>1<=k∧k<=5) ρ w w∧y.count<=100):=⟨x,h,ok,rfl,Fr.refl _ _ _,hx⟩
 clear h ok hx;go_enter Tryz.func133,Tryz.ntmps133
 go_wp2_with fail
 go_loopw [] (fun wr=>Hid (∃ y,MM ρ wr p y∧Ok y∧MS.need k y=MS.need k x∧Fr (fun k=>1<=k∧k<=5) ρ w wr∧y.count<=100)) (fun wr=>k - xq0 wr p 15)
 case atStart=>exact H0
 case round=>
  clear H0;obtain ⟨y,h1,h2,h3,h4,hy⟩:=hrel.out;have c15:=h1.cell15;have e15:=xv1 c15;by_cases hlt:y.count<k
  ·have h5:MS.need k x=if y.take.2=0 then MS.need k y.take.1 else y.take:=by rw [← h3];exact MS.need_take (by omega)
   have HM:Hid (MM ρ wr p y∧Ok y∧Fr (fun k=>1<=k∧k<=5) ρ w wr):=⟨h1,h2,h4⟩
   have H5:Hid (MS.need k x=if y.take.2=0 then MS.need k y.take.1 else y.take):=h5;clear h1 h2 h3 h4 h5 hrel;go_wp2_with fail
   refine (x2n HM.out.1 HM.out.2.1 (by omega)).mono ?_;rintro v w1 ⟨rfl,g1,g2⟩;by_cases h0:y.take.2=0
   ·obtain ⟨o1,o2⟩:=HM.out.2.1.take h0;have HN:Hid (∃ y,MM ρ w1 p y∧Ok y∧MS.need k y=MS.need k x∧Fr (fun k=>1<=k∧k<=5) ρ w w1∧y.count<=100):=⟨y.take.1,g1,o1,by rw [H5.out,if_pos h0],HM.out.2.2.trans g2,by omega⟩
    have e2:=xv1 g1.cell15;rw [h0];clear g1 g2 o1;go_wp2_with fail
    go_roundw
    case rel=>exact HN
    case measure=>rw [e2,e15,o2];omega
   ·have HN:Hid (MM ρ w1 p (MS.need k x).1∧Fr (fun k=>1<=k∧k<=5) ρ w w1∧(MS.need k x).2=y.take.2):=by
     show _∧_∧_;rw [H5.out,if_neg h0];exact ⟨g1,HM.out.2.2.trans g2,rfl⟩
    obtain ⟨t,ht⟩:∃ t,t=y.take.2:=⟨_,rfl⟩
    rw [← ht] at HN h0 ⊢;have h0':((t:Int)==0)=false:=by simp;exact h0
    clear g1 g2 ht;go_wp2_with fail
    go_ret
    unfold y0y;rw [HN.out.2.2];exact ⟨rfl,HN.out.1,HN.out.2.1⟩
  ·have h5:MS.need k x=(y,0):=by rw [← h3];exact MS.need_done (by omega)
   have HM:Hid (MM ρ wr p y∧Fr (fun k=>1<=k∧k<=5) ρ w wr∧MS.need k x=(y,0)):=⟨h1,h4,h5⟩
   clear h1 h2 h3 h4 h5 hrel;go_wp2_with fail
   go_ret
   unfold y0y;rw [HM.out.2.2];exact ⟨rfl,HM.out.1,HM.out.2.1⟩
theorem MB.ra'{ρ:Nat->Nat}{w:World}{p:Nat}{x:MS}{L:Lo}(h:MB ρ w p x L):x.qa.length<=64:=by
 obtain ⟨o,f,k⟩:=h.ra;exact k.hq
theorem MB.rc'{ρ:Nat->Nat}{w:World}{p:Nat}{x:MS}{L:Lo}(h:MB ρ w p x L):x.qc.length<=256:=by
 obtain ⟨o,f,k⟩:=h.rc;exact k.hq
theorem vt9{ρ:Nat->Nat}{w:World}{p:Nat}{x:MS}{L:Lo}(b:Nat)(B:MB ρ w p x L)(hq:x.qa.length<64) :
  Calls Tryz.prog 167 #[.pointer (some ⟨L.a,0,none⟩), .int .u8 b] w fun v w'=>v= .returned (.tuple #[])∧MB ρ w' p { x with qa:=x.qa++[b] } L∧Fr (fun k=>1<=k∧k<=5) ρ w w':=by
 obtain ⟨o,f,k⟩:=B.ra;refine (yiw b k hq).mono ?_;rintro v w' ⟨rfl,⟨f',k'⟩,t⟩;exact ⟨rfl,B.ringA k' t,Fr.five t B.rl.1 B.rl.2.1 (by decide) (by decide)⟩
theorem v55{ρ:Nat->Nat}{w:World}{p:Nat}{x:MS}{L:Lo}(b:Nat)(B:MB ρ w p x L) :
  Calls Tryz.prog 167 #[.pointer (some ⟨L.c,0,none⟩), .int .u8 b] w fun v w'=>v= .returned (.tuple #[])∧MB ρ w' p { x with qc:=MS.pushed x.qc b } L∧Fr (fun k=>1<=k∧k<=5) ρ w w':=by
 obtain ⟨o,f,k⟩:=B.rc;by_cases hq:x.qc.length=256
 ·refine (vxn b k hq).mono ?_;rintro v w' ⟨rfl,⟨f',k'⟩,t⟩;have e:MS.pushed x.qc b=x.qc.tail++[b]:=if_pos hq;rw [e];exact ⟨rfl,B.ringC k' t,Fr.five t B.rl.2.2.1 B.rl.2.2.2 (by decide) (by decide)⟩
 ·refine (yiw b k (by have:=k.hq;omega)).mono ?_;rintro v w' ⟨rfl,⟨f',k'⟩,t⟩;have e:MS.pushed x.qc b=x.qc++[b]:=if_neg hq;rw [e];exact ⟨rfl,B.ringC k' t,Fr.five t B.rl.2.2.1 B.rl.2.2.2 (by decide) (by decide)⟩
theorem sumM{ρ:Nat->Nat}{w:World}{p:Nat}{x:MS}{L:Lo}(b:Nat)(B:MB ρ w p x L)(hs:x.sx<=65520∧x.sy<=65520)(hb:b<256) :
  Calls Tryz.prog 111 #[.pointer (some ⟨p,21,none⟩), .int .u8 b] w fun v w'=>v= .returned (.tuple #[])∧MB ρ w' p { x with sx:=(x.sx+b)%65521,sy:=(x.sy+(x.sx+b)%65521)%65521 } L∧Fr (fun k=>1<=k∧k<=5) ρ w w':=by
 have c1:w.cell? ⟨p,21,none⟩=some (.int .i64 x.sx):=B.row.cell (i:=21) (by omega);have c2:w.cell? ⟨p,21+1,none⟩=some (.int .i64 x.sy):=B.row.cell (i:=22) (by omega);refine (kd6 p 21 x.sx x.sy b w (by omega) (by omega) (by omega) c1 c2 (B.row.frozen 21) (B.row.frozen 22)).mono ?_;rintro v w' ⟨rfl,n,e⟩;have e1:((x.sx:Int)+b)%65521=(((x.sx+b)%65521:Nat):Int):=by omega
 have e2:((x.sy:Int)+(((x.sx+b)%65521:Nat):Int))%65521=(((x.sy+(x.sx+b)%65521)%65521:Nat):Int):=by omega
 rw [e1,e2] at e;rw [e];exact ⟨rfl,((B.drewN n).set (y:={ x with sx:=(x.sx+b)%65521 }) (M:=L) 21 _ rfl ⟨rfl,rfl,rfl,rfl⟩ ⟨rfl,rfl⟩).set 22 _ rfl ⟨rfl,rfl,rfl,rfl⟩ ⟨rfl,rfl⟩,(((Fr.refl _ _ _).drewN n).trans (Fr.own _ p 21 _ B.rp)).trans (Fr.own _ p 22 _ B.rp)⟩
theorem j6n(n:Nat):IntKind.u16.wrap ((n:Int)+1)=(((n+1)%65536:Nat):Int):=by
 simp [IntKind.wrap,IntKind.bits,IntKind.signed]
structure Bh(ρ:Nat->Nat)(w:World)(p:Nat)(y x:MS)(L:Lo)(w':World):Prop where
 mb:MB ρ w' p y L
 mt:MT ρ w' x L
 fr:Fr (fun k=>1<=k∧k<=5) ρ w w'
theorem Bh.next{ρ:Nat->Nat}{w w1 w2:World}{p:Nat}{y z x:MS}{L:Lo}(h:Bh ρ w p y x L w1)(B:MB ρ w2 p z L)(f:Fr (fun k=>1<=k∧k<=5) ρ w1 w2):Bh ρ w p z x L w2:=⟨B,h.mt.fr5 f,h.fr.trans f⟩
theorem Bh.set{ρ:Nat->Nat}{w w1:World}{p:Nat}{y z x:MS}{L:Lo}(h:Bh ρ w p y x L w1)(i:Nat)(v:Value)(e:(k7n y L).set i v=k7n z L)(hq:z.qa=y.qa∧z.qc=y.qc):Bh ρ w p z x L (w1.setCell ⟨p,i,none⟩ v):=h.next (h.mb.set i v e ⟨rfl,rfl,rfl,rfl⟩ hq) (Fr.own _ p i _ h.mb.rp)
theorem Bh.below{ρ:Nat->Nat}{w w1 w2:World}{p:Nat}{y x:MS}{L:Lo}(h:Bh ρ w p y x L w1)(b:Below w1.heap.size w1 w2):Bh ρ w p y x L w2:=h.next (h.mb.fr (Kp.of_below b)) (Fr.below b)
theorem Bh.drewN{ρ:Nat->Nat}{w w1:World}{p:Nat}{y x:MS}{L:Lo}(h:Bh ρ w p y x L w1)(n:Nat):Bh ρ w p y x L (w1.drewN n):=h.next (h.mb.drewN n) ((Fr.refl _ _ _).drewN n)
theorem Bh.done{ρ:Nat->Nat}{w w1:World}{p:Nat}{y x:MS}{L:Lo}(h:Bh ρ w p y x L w1)(h1:y.rest=x.rest)(h2:y.hl=x.hl)(h3:y.row=x.row)(h4:y.hs=x.hs)(h5:y.la=x.la∧y.lb=x.lb):MM ρ w1 p y∧Fr (fun k=>1<=k∧k<=5) ρ w w1:=⟨⟨L,h.mb,h.mt.same h1 h2 h3 h4 h5⟩,h.fr⟩
theorem mPut{ρ:Nat->Nat}{w:World}{p:Nat}{x:MS}(b:Nat)(h:MM ρ w p x)(ok:Ok x)(hb:b<256) :
  Calls Tryz.prog 137 #[.pointer (some ⟨p,0,none⟩), .int .u8 b] w fun v w'=>y0y ρ w p (x.put b) v w':=by
 obtain ⟨L,B,T⟩:=h;have hsum:x.tk+x.pu<=9223372036854775807:=by have:=ok.steps;have:=ok.sp;omega
 have hsp:=ok.sp;have hra:x.ra*x.tk+x.sl<=9223372036854775807:=by
  have h1:=ok.quo;have h2:x.ra*x.tk<=x.ra*x.sp:=Nat.mul_le_mul_left _ (by have:=ok.steps;omega);omega
 have hqa:=B.ra';have hsz:=ok.size;have HS:Hid (x.sx<=65520∧x.sy<=65520):=ok.sum;have HB0:Hid (Bh ρ w p x x L w):=⟨B,T,Fr.refl _ _ _⟩
 have c16:w.cell? ⟨p,16,none⟩=some (.pointer (some ⟨L.a,0,none⟩)):=B.row.cell (i:=16) (by omega);have HF:Hid (Calls Tryz.prog 165 #[.pointer (some ⟨L.a,0,none⟩)] w fun v w'=>v= .returned (.bool (decide (x.qa.length=64)))∧∃ n,w'=w.drewN n):=by
  obtain ⟨o,f,k⟩:=B.ra;exact zzm k
 have HAP:Hid (∀ w,Calls Tryz.prog 166 #[.agg (talV x.tk x.pu x.mb), .agg (cfgV x.fm x.ou x.ra x.sl x.me x.he x.sp)] w fun v w'=>v= .returned (.int .i64 x.putE)∧Below w.heap.size w w'):=fun w=>xxj x.fm x.ou x.ra x.sl x.me x.he x.sp x.tk x.pu x.mb w hsum hsp hra ok.ou
 clear B T hra;go_enter Tryz.func137,Tryz.ntmps137
 go_wp2_with fail
 refine HF.out.mono ?_;rintro v w1 ⟨rfl,n1,hw1⟩;have HB1:Hid (Bh ρ w p x x L w1):=by show Bh _ _ _ _ _ _ _;rw [hw1];exact HB0.out.drewN n1
 clear hw1 HF HB0 c16;by_cases hfull:x.qa.length=64
 ·rw [decide_eq_true hfull];have e:Hid (x.put b=(x,2)):=by show x.put b=_;unfold MS.put;rw [if_pos hfull]
  have HR:=HB1.out.done rfl rfl rfl rfl ⟨rfl,rfl⟩;have HRR:Hid (MM ρ w1 p x∧Fr (fun k=>1<=k∧k<=5) ρ w w1):=HR;clear HR;go_wp2_with fail
  go_ret
  unfold y0y;rw [e.out];exact ⟨rfl,HRR.out⟩
 ·rw [decide_eq_false hfull];have hroom:x.qa.length<64:=by omega
  have c9:w1.cell? ⟨p,9,none⟩=some (.int .i64 x.tk):=HB1.out.mb.row.cell (i:=9) (by omega);have c10:w1.cell? ⟨p,10,none⟩=some (.int .i64 x.pu):=HB1.out.mb.row.cell (i:=10) (by omega);have c11:w1.cell? ⟨p,11,none⟩=some (.int .i64 x.mb):=HB1.out.mb.row.cell (i:=11) (by omega);have a0:w1.cell? ⟨p,0,none⟩=some (.int .i64 x.fm):=HB1.out.mb.row.cell (i:=0) (by omega);have a1:w1.cell? ⟨p,1,none⟩=some (.int .i64 x.ou):=HB1.out.mb.row.cell (i:=1) (by omega);have a2:w1.cell? ⟨p,2,none⟩=some (.int .i64 x.ra):=HB1.out.mb.row.cell (i:=2) (by omega);have a3:w1.cell? ⟨p,3,none⟩=some (.int .i64 x.sl):=HB1.out.mb.row.cell (i:=3) (by omega);have a4:w1.cell? ⟨p,4,none⟩=some (.int .i64 x.me):=HB1.out.mb.row.cell (i:=4) (by omega);have a5:w1.cell? ⟨p,5,none⟩=some (.int .i64 x.he):=HB1.out.mb.row.cell (i:=5) (by omega);have a6:w1.cell? ⟨p,6,none⟩=some (.int .i64 x.sp):=HB1.out.mb.row.cell (i:=6) (by omega);have HE:Hid (x.put b=if x.putE≠0 then x.refuse x.putE else (x.putted b,0)):=by show x.put b=_;unfold MS.put;rw [if_neg hfull]
  have hpu0:x.putE=0->x.pu+1<=9223372036854775807:=fun h=>by
   unfold MS.putE at h;by_cases hq:x.sp<=x.tk+x.pu
   ·rw [if_pos hq] at h;cases h
   ·omega
  obtain ⟨E,hE⟩:∃ E,E=x.putE:=⟨_,rfl⟩
  rw [← hE] at hpu0;rw [← hE] at HAP HE;clear hE;by_cases h0:E=0
  ·subst h0;have hpu:=hpu0 rfl;clear hpu0;have HP:Hid (x.put b=(x.putted b,0)):=by show x.put b=_;rw [HE.out];rfl
   clear HE;go_wp2_with fail
   go_region_with (go_at_call 166;refine (HAP.out _).mono ?_;rintro e w2 ⟨rfl,hb2⟩)
   all_goals
    have HB2:Hid (Bh ρ w p x x L w2):=(HB1.out.drewN 1).below hb2;clear hb2;have k10:w2.cell? ⟨p,10,none⟩=some (.int .i64 x.pu):=HB2.out.mb.row.cell (i:=10) (by omega);have z10:=HB2.out.mb.row.frozen 10;have k16:w2.cell? ⟨p,16,none⟩=some (.pointer (some ⟨L.a,0,none⟩)):=HB2.out.mb.row.cell (i:=16) (by omega);have HB3:Hid (Bh ρ w p { x with pu:=x.pu+1 } x L (w2.setCell ⟨p,10,none⟩ (.int .i64 (x.pu+1:Nat)))):=HB2.out.set 10 _ rfl ⟨rfl,rfl⟩;have e1:((x.pu+1:Nat):Int)=(x.pu:Int)+1:=by omega
    rw [e1] at HB3;go_wp2_with fail
    refine (vt9 b HB3.out.mb hroom).mono ?_;rintro v w4 ⟨rfl,B4,f4⟩;have HB4:Hid (Bh ρ w p { x with pu:=x.pu+1,qa:=x.qa++[b] } x L w4):=HB3.out.next B4 f4;clear B4 f4 HB3 HB2;have k17:w4.cell? ⟨p,17,none⟩=some (.pointer (some ⟨L.c,0,none⟩)):=HB4.out.mb.row.cell (i:=17) (by omega);go_wp2_with fail
    refine (v55 b HB4.out.mb).mono ?_;rintro v w5 ⟨rfl,B5,f5⟩;have HB5:Hid (Bh ρ w p { x with pu:=x.pu+1,qa:=x.qa++[b],qc:=MS.pushed x.qc b } x L w5):=HB4.out.next B5 f5;clear B5 f5 HB4;go_wp2_with fail
    refine (sumM b HB5.out.mb HS.out hb).mono ?_;rintro v w6 ⟨rfl,B6,f6⟩;have HB6:Hid (Bh ρ w p { x with pu:=x.pu+1,qa:=x.qa++[b],qc:=MS.pushed x.qc b,sx:=(x.sx+b)%65521,sy:=(x.sy+(x.sx+b)%65521)%65521 } x L w6):=HB5.out.next B6 f6;clear B6 f6 HB5;have k23:w6.cell? ⟨p,23,none⟩=some (.int .u16 x.size):=HB6.out.mb.row.cell (i:=23) (by omega);have z23:=HB6.out.mb.row.frozen 23;have HB7:Hid (Bh ρ w p (x.putted b) x L (w6.setCell ⟨p,23,none⟩ (.int .u16 ((x.size+1)%65536:Nat)))):=HB6.out.set 23 _ rfl ⟨rfl,rfl⟩;go_wp2_with fail
    go_ret
    unfold y0y;rw [HP.out,j6n];exact ⟨rfl,HB7.out.done rfl rfl rfl rfl ⟨rfl,rfl⟩⟩
  ·have HP:Hid (x.put b=x.refuse E):=by show x.put b=_;rw [HE.out,if_pos h0]
   have h0':((E:Int)==0)=false:=by simp;exact h0
   clear HE;go_wp2_with fail
   go_region_with (go_at_call 166;refine (HAP.out _).mono ?_;rintro e w2 ⟨rfl,hb2⟩)
   all_goals
    have HB2:Hid (Bh ρ w p x x L w2):=(HB1.out.drewN 1).below hb2;clear hb2;go_wp2_with fail
    refine (kv8 E (HB2.out.done rfl rfl rfl rfl ⟨rfl,rfl⟩).1).mono ?_;rintro v w3 ⟨rfl,h3,f3⟩;have HR:Hid (MM ρ w3 p (x.refuse E).1∧Fr (fun k=>1<=k∧k<=5) ρ w w3):=⟨h3,HB2.out.fr.trans f3⟩
    clear h3 f3;go_wp2_with fail
    go_ret
    unfold y0y;rw [HP.out];exact ⟨rfl,HR.out⟩
theorem MS.need_facts{k:Nat}:∀ (l:List Nat) {x:MS},x.rest=l->Ok x->Ok (MS.need k x).1∧((MS.need k x).2=0->k<=(MS.need k x).1.count∧((MS.need k x).1.count<=x.count∨(MS.need k x).1.count<k+8)∧(MS.need k x).1={ x with held:=(MS.need k x).1.held,count:=(MS.need k x).1.count,tk:=(MS.need k x).1.tk,rest:=(MS.need k x).1.rest }∧8*(MS.need k x).1.rest.length+(MS.need k x).1.count=8*x.rest.length+x.count)
 | [],x,e,ok=>by
  by_cases h:k<=x.count
  ·rw [MS.need_done h];exact ⟨ok,fun _=>⟨h,Or.inl (Nat.le_refl _),rfl,rfl⟩⟩
  ·rw [MS.need_nil h e];exact ⟨ok,fun h0=>by cases h0⟩
 | b :: l,x,e,ok=>by
  by_cases h:k<=x.count
  ·rw [MS.need_done h];exact ⟨ok,fun _=>⟨h,Or.inl (Nat.le_refl _),rfl,rfl⟩⟩
  ·rw [MS.need_cons h e];by_cases hs:x.sp<=x.tk+x.pu
   ·rw [if_pos hs];exact ⟨ok.refuse 16,fun h0=>by cases h0⟩
   ·rw [if_neg hs];obtain ⟨a,c⟩:=MS.need_facts (k:=k) l (x:=x.fed b l) rfl (ok.fed e hs);refine ⟨a,fun h0=>?_⟩;obtain ⟨c1,c2,c3,c4⟩:=c h0;refine ⟨c1,?_,?_,?_⟩
    ·rcases c2 with c2 | c2
     ·right
      have:(x.fed b l).count=x.count+8:=rfl;omega
     ·exact Or.inr c2
    ·rw [c3];rfl
    ·rw [c4,e];show 8*l.length+(x.count+8)=8*(b :: l).length+x.count;simp;omega
theorem MS.need_ok{k:Nat}{x:MS}(h:Ok x):Ok (MS.need k x).1:=(MS.need_facts (k:=k) x.rest rfl h).1
theorem MS.need_cnt{k:Nat}{x:MS}(h:Ok x)(h0:(MS.need k x).2=0):k<=(MS.need k x).1.count∧((MS.need k x).1.count<=x.count∨(MS.need k x).1.count<k+8):=⟨((MS.need_facts (k:=k) x.rest rfl h).2 h0).1,((MS.need_facts (k:=k) x.rest rfl h).2 h0).2.1⟩
theorem MS.need_same{k:Nat}{x:MS}(h:Ok x)(h0:(MS.need k x).2=0):(MS.need k x).1={ x with held:=(MS.need k x).1.held,count:=(MS.need k x).1.count,tk:=(MS.need k x).1.tk,rest:=(MS.need k x).1.rest }:=((MS.need_facts (k:=k) x.rest rfl h).2 h0).2.2.1
theorem MS.need_bits{k:Nat}{x:MS}(h:Ok x)(h0:(MS.need k x).2=0):8*(MS.need k x).1.rest.length+(MS.need k x).1.count=8*x.rest.length+x.count:=((MS.need_facts (k:=k) x.rest rfl h).2 h0).2.2.2
theorem zw3{ρ:Nat->Nat}{w:World}{p:Nat}{x:MS}(k:Nat)(h:MM ρ w p x)(ok:Ok x)(hk:k<=x.count)(hc:x.count<=63) :
  Calls Tryz.prog 134 #[.pointer (some ⟨p,14,none⟩), .int .i64 k] w fun v w'=>v= .returned (.int .i64 (x.num k))∧MM ρ w' p (x.rd k)∧Fr (fun k=>1<=k∧k<=5) ρ w w':=by
 obtain ⟨L,B,T⟩:=h;have c1:w.cell? ⟨p,14,none⟩=some (.int .u64 x.held):=B.row.cell (i:=14) (by omega);have c2:w.cell? ⟨p,14+1,none⟩=some (.int .i64 x.count):=B.row.cell (i:=15) (by omega);refine (zto p 14 x.held x.count k w hk hc ok.held c1 c2 (B.row.frozen 14) (B.row.frozen 15)).mono ?_;rintro v w' ⟨rfl,n,e⟩;refine ⟨rfl,?_⟩;have R:Bh ρ w p x x L w:=⟨B,T,Fr.refl _ _ _⟩
 rw [e];exact (((R.drewN n).set (z:={ x with held:=x.held / 2^k }) 14 _ rfl ⟨rfl,rfl⟩).set (z:=x.rd k) 15 _ rfl ⟨rfl,rfl⟩).done rfl rfl rfl rfl ⟨rfl,rfl⟩
def v5b(T:IntKind)(ρ:Nat->Nat)(w:World)(p:Nat)(r:MS×Nat×Nat)(e:Ending)(w':World):Prop:=e= .returned (.tuple #[.int T r.2.2, .int .i64 r.2.1])∧MM ρ w' p r.1∧Fr (fun k=>1<=k∧k<=5) ρ w w'
theorem kvg{ρ:Nat->Nat}{w:World}{p:Nat}{x:MS}(h:MM ρ w p x)(ok:Ok x)(hx:x.count<=8) :
  Calls Tryz.prog 160 #[.pointer (some ⟨p,0,none⟩)] w fun v w'=>v5b .u8 ρ w p x.takeHead v w':=by
 have HM:Hid (MM ρ w p x∧Ok x):=⟨h,ok⟩
 have HE:Hid (x.takeHead=if (MS.need 8 x).2≠0 then ((MS.need 8 x).1,(MS.need 8 x).2,0) else if (MS.need 8 x).1.head=(MS.need 8 x).1.he then (((MS.need 8 x).1.refuse 5).1,3,0) else ((MS.need 8 x).1.headRead,0,(MS.need 8 x).1.num 8)):=rfl;clear h ok;go_enter Tryz.func160,Tryz.ntmps160
 go_wp2_with fail
 refine (zvo 8 HM.out.1 HM.out.2 (by omega) (by omega)).mono ?_;rintro v w1 ⟨rfl,g1,g2⟩;by_cases h0:(MS.need 8 x).2=0
 ·have k1:=MS.need_cnt HM.out.2 h0;have k2:=MS.need_same HM.out.2 h0;have k3:=MS.need_ok (k:=8) HM.out.2;rw [h0];rw [if_neg (by rw [h0];simp)] at HE;obtain ⟨y,hy⟩:∃ y,y=(MS.need 8 x).1:=⟨_,rfl⟩
  rw [← hy] at g1 HE k1 k2 k3;have HY:Hid (MM ρ w1 p y∧Ok y∧Fr (fun k=>1<=k∧k<=5) ρ w w1):=⟨g1,k3,g2⟩
  have hu:=k3.hsum;have hh:=k3.hd;obtain ⟨L,B,T⟩:=g1;have c19:w1.cell? ⟨p,19,none⟩=some (.int .i64 y.head):=B.row.cell (i:=19) (by omega);have c5:w1.cell? ⟨p,5,none⟩=some (.int .i64 y.he):=B.row.cell (i:=5) (by omega);clear B T g2 hy k2 k3 h0;by_cases hq:y.head=y.he
  ·rw [if_pos hq] at HE;have hqd:((y.head:Int)==(y.he:Int))=true:=by simp [hq]
   clear hq;go_wp2_with fail
   go_quiet (fail)
   go_wp2_with fail
   refine (kv8 5 (HY.out.1.drewN _)).mono ?_;rintro v w2 ⟨rfl,g3,g4⟩;have HR:Hid (MM ρ w2 p (y.refuse 5).1∧Fr (fun k=>1<=k∧k<=5) ρ w w2):=⟨g3,(HY.out.2.2.drewN _).trans g4⟩
   clear g3 g4;go_wp2_with fail
   go_ret2
   unfold v5b;rw [HE.out];exact ⟨rfl,HR.out⟩
  ·rw [if_neg hq] at HE;have hqd:((y.head:Int)==(y.he:Int))=false:=by simp;omega
   have hh1:y.head+1<=9223372036854775807:=by omega
   clear hq;go_wp2_with fail
   go_quiet (fail)
   go_wp2_with fail
   refine (zw3 8 (HY.out.1.drewN _) HY.out.2.1 k1.1 (by omega)).mono ?_;rintro v w2 ⟨rfl,g3,g4⟩;have hn:y.num 8<256:=Nat.mod_lt _ (by decide);have hni:((y.num 8:Nat):Int)%256=((y.num 8:Nat):Int):=by omega
   obtain ⟨L,B,T⟩:=g3;have HB:Hid (Bh ρ w p (y.rd 8) (y.rd 8) L w2):=⟨B,T,(HY.out.2.2.drewN _).trans g4⟩
   have d19:w2.cell? ⟨p,19,none⟩=some (.int .i64 y.head):=B.row.cell (i:=19) (by omega);have d20:w2.cell? ⟨p,20,none⟩=some (.int .u8 y.hsum):=B.row.cell (i:=20) (by omega);have z19:=B.row.frozen 19;have z20:=B.row.frozen 20;have HB2:Hid (Bh ρ w p y.headRead (y.rd 8) L ((w2.setCell ⟨p,19,none⟩ (.int .i64 (y.head+1:Nat))).setCell ⟨p,20,none⟩ (.int .u8 ((y.hsum+y.num 8)%256:Nat)))):=(HB.out.set (z:={ y.rd 8 with head:=y.head+1 }) 19 _ rfl ⟨rfl,rfl⟩).set 20 _ rfl ⟨rfl,rfl⟩;have e1:((y.head+1:Nat):Int)=(y.head:Int)+1:=by omega
   rw [e1] at HB2;clear B T g4;obtain ⟨b,hb⟩:∃ b,b=y.num 8:=⟨_,rfl⟩
   rw [← hb] at hn hni HE HB2 ⊢;clear hb;go_wp2_with fail
   go_ret2
   unfold v5b;rw [HE.out];have e2:((y.hsum:Int)+b)%256=(((y.hsum+b)%256:Nat):Int):=by omega
   first
    | exact ⟨rfl,HB2.out.done rfl rfl rfl rfl ⟨rfl,rfl⟩⟩
    | (rw [e2];exact ⟨rfl,HB2.out.done rfl rfl rfl rfl ⟨rfl,rfl⟩⟩)
    | (rw [IntKind.wrap_u8,e2];exact ⟨rfl,HB2.out.done rfl rfl rfl rfl ⟨rfl,rfl⟩⟩)
 ·obtain ⟨t,ht⟩:∃ t,t=(MS.need 8 x).2:=⟨_,rfl⟩
  rw [if_pos h0] at HE;have HR:Hid (MM ρ w1 p (MS.need 8 x).1∧Fr (fun k=>1<=k∧k<=5) ρ w w1):=⟨g1,g2⟩
  rw [← ht] at h0 HE ⊢;have h0':((t:Int)==0)=false:=by simp;exact h0
  clear g1 g2 ht;go_wp2_with fail
  go_ret2
  unfold v5b;rw [HE.out];exact ⟨rfl,HR.out⟩
theorem Ok.headRead{y:MS}(h:Ok y)(h8:8<=y.count)(hq:y.head≠y.he):Ok y.headRead:=
 { h.rd h8 with hd:=⟨by have:=h.hd.1;show y.head+1<=y.he;omega,h.hd.2⟩,hsum:=Nat.mod_lt _ (by decide) }
theorem MS.takeHead_facts{x:MS}(ok:Ok x)(hx:x.count<=8):Ok x.takeHead.1∧(x.takeHead.2.1=0->x.takeHead.1.count<8∧x.takeHead.2.2<256∧x.takeHead.1.more<x.more∧x.takeHead.1={ x with held:=x.takeHead.1.held,count:=x.takeHead.1.count,tk:=x.takeHead.1.tk,rest:=x.takeHead.1.rest,head:=x.takeHead.1.head,hsum:=x.takeHead.1.hsum }):=by
 have k3:=MS.need_ok (k:=8) ok;unfold MS.takeHead;by_cases h0:(MS.need 8 x).2=0
 ·have k1:=MS.need_cnt ok h0;have k2:=MS.need_same ok h0;have k4:=MS.need_bits ok h0;rw [if_neg (by rw [h0];simp)];by_cases hq:(MS.need 8 x).1.head=(MS.need 8 x).1.he
  ·rw [if_pos hq];exact ⟨k3.refuse 5,fun h=>by cases h⟩
  ·rw [if_neg hq];refine ⟨k3.headRead k1.1 hq,fun _=>⟨?_,Nat.mod_lt _ (by decide),?_,?_⟩⟩
   ·show (MS.need 8 x).1.count - 8<8;omega
   ·show (MS.need 8 x).1.rest.length+((MS.need 8 x).1.count - 8) / 8<x.rest.length+x.count / 8;omega
   ·show ({ (MS.need 8 x).1.rd 8 with head:=_,hsum:=_ }:MS)=_;generalize MS.need 8 x=r at *;rw [k2];rfl
 ·rw [if_pos h0];exact ⟨k3,fun h=>absurd h h0⟩
theorem jn3{ρ:Nat->Nat}{w:World}{p:Nat}{x:MS}(want:Nat)(h:MM ρ w p x)(ok:Ok x)(hx:x.count<=8)(hw:want<256) :
  Calls Tryz.prog 159 #[.pointer (some ⟨p,0,none⟩), .int .u8 want] w fun v w'=>y0y ρ w p (MS.passByte want x) v w':=by
 have HM:Hid (MM ρ w p x∧Ok x):=⟨h,ok⟩
 have HE:Hid (MS.passByte want x=if x.takeHead.2.1=0 then (if x.takeHead.2.2=want then (x.takeHead.1,0) else x.takeHead.1.refuse 4) else (x.takeHead.1,x.takeHead.2.1)):=rfl;clear h ok;go_enter Tryz.func159,Tryz.ntmps159
 go_wp2_with fail
 refine (kvg HM.out.1 HM.out.2 hx).mono ?_;rintro v w1 ⟨rfl,g1,g2⟩;have k1:=(MS.takeHead_facts HM.out.2 hx).2;obtain ⟨y,t,b,hr⟩:∃ y t b,x.takeHead=(y,t,b):=⟨_,_,_,rfl⟩
 rw [hr] at g1 HE k1 ⊢;have HR:Hid (MM ρ w1 p y∧Fr (fun k=>1<=k∧k<=5) ρ w w1):=⟨g1,g2⟩
 clear g1 g2 hr;by_cases h0:t=0
 ·have hb:b<256:=(k1 h0).2.1;subst h0;rw [if_pos rfl] at HE;by_cases hbw:b=want
  ·rw [if_pos hbw] at HE;have hd:((b:Int)==(want:Int))=true:=by simp [hbw]
   clear hbw k1;go_wp2_with fail
   go_ret
   unfold y0y;rw [HE.out];exact ⟨rfl,HR.out⟩
  ·rw [if_neg hbw] at HE;have hd:((b:Int)==(want:Int))=false:=by simp;omega
   clear hbw k1;go_wp2_with fail
   refine (kv8 4 HR.out.1).mono ?_;rintro v w2 ⟨rfl,g3,g4⟩;have HR2:Hid (MM ρ w2 p (y.refuse 4).1∧Fr (fun k=>1<=k∧k<=5) ρ w w2):=⟨g3,HR.out.2.trans g4⟩
   clear g3 g4;go_wp2_with fail
   go_ret
   unfold y0y;rw [HE.out];exact ⟨rfl,HR2.out⟩
 ·rw [if_neg h0] at HE;have h0':((t:Int)==0)=false:=by simp;exact h0
  clear k1;go_wp2_with fail
  go_ret
  unfold y0y;rw [HE.out];exact ⟨rfl,HR.out⟩
theorem zmn{ρ:Nat->Nat}{w:World}{p:Nat}{x:MS}(want:Nat)(h:MM ρ w p x)(ok:Ok x)(hx:x.count<=8∨x.fm=0)(hw:want<256) :
  Calls Tryz.prog 129 #[.pointer (some ⟨p,0,none⟩), .int .u8 want] w fun v w'=>y0y ρ w p (MS.passFixed want x) v w':=by
 have HM:Hid (MM ρ w p x∧Ok x):=⟨h,ok⟩
 have c0:w.cell? ⟨p,0,none⟩=some (.int .i64 x.fm):=by obtain ⟨L,B,T⟩:=h;exact B.row.cell (i:=0) (by omega)
 have HE:Hid (MS.passFixed want x=if x.fm=0 then (x,0) else MS.passByte want x):=rfl;clear h ok;go_enter Tryz.func129,Tryz.ntmps129
 by_cases h0:x.fm=0
 ·rw [if_pos h0] at HE;have hd:((x.fm:Int)==0)=true:=by simp [h0]
  clear h0 hx;go_wp2_with fail
  go_ret
  unfold y0y;rw [HE.out];exact ⟨rfl,HM.out.1,Fr.refl _ _ _⟩
 ·rw [if_neg h0] at HE;have hd:((x.fm:Int)==0)=false:=by simp;exact h0
  have hx8:x.count<=8:=by omega
  clear h0 hx;go_wp2_with fail
  refine (jn3 want HM.out.1 HM.out.2 hx8 hw).mono ?_;rintro v w1 ⟨rfl,g1,g2⟩;have HR:Hid (MM ρ w1 p (MS.passByte want x).1∧Fr (fun k=>1<=k∧k<=5) ρ w w1):=⟨g1,g2⟩
  clear g1 g2;go_wp2_with fail
  go_ret
  unfold y0y;rw [HE.out];exact ⟨rfl,HR.out⟩
theorem xdp{ρ:Nat->Nat}{w:World}{p:Nat}{x:MS}(h:MM ρ w p x)(ok:Ok x)(hx:x.count<=8∨x.fm=0) :
  Calls Tryz.prog 130 #[.pointer (some ⟨p,0,none⟩)] w fun v w'=>y0y ρ w p x.passMarks v w':=by
 have HM:Hid (MM ρ w p x∧Ok x):=⟨h,ok⟩
 have c0:w.cell? ⟨p,0,none⟩=some (.int .i64 x.fm):=by obtain ⟨L,B,T⟩:=h;exact B.row.cell (i:=0) (by omega)
 have HE:Hid (x.passMarks=if x.fm=2 then (if x.takeHead.2.1=0 then (if 7<x.takeHead.2.2 then x.takeHead.1.refuse 4 else ({ x.takeHead.1 with marks:=x.takeHead.2.2 },0)) else (x.takeHead.1,x.takeHead.2.1)) else (x,0)):=rfl;clear h ok;go_enter Tryz.func130,Tryz.ntmps130
 by_cases h2:x.fm=2
 ·rw [if_pos h2] at HE;have hd:((x.fm:Int)==2)=true:=by simp;omega
  have hx8:x.count<=8:=by omega
  clear h2 hx;go_wp2_with fail
  refine (kvg HM.out.1 HM.out.2 hx8).mono ?_;rintro v w1 ⟨rfl,g1,g2⟩;have k1:=(MS.takeHead_facts HM.out.2 hx8).2;obtain ⟨y,t,b,hr⟩:∃ y t b,x.takeHead=(y,t,b):=⟨_,_,_,rfl⟩
  rw [hr] at g1 HE k1 ⊢;have HR:Hid (MM ρ w1 p y∧Fr (fun k=>1<=k∧k<=5) ρ w w1):=⟨g1,g2⟩
  clear g2 hr;by_cases h0:t=0
  ·have hb:b<256:=(k1 h0).2.1;subst h0;rw [if_pos rfl] at HE;by_cases hbw:7<b
   ·rw [if_pos hbw] at HE;have hbi:(7:Int)<b:=by omega
    clear k1 g1;go_wp2_with fail
    refine (kv8 4 HR.out.1).mono ?_;rintro v w2 ⟨rfl,g3,g4⟩;have HR2:Hid (MM ρ w2 p (y.refuse 4).1∧Fr (fun k=>1<=k∧k<=5) ρ w w2):=⟨g3,HR.out.2.trans g4⟩
    clear g3 g4;go_wp2_with fail
    go_ret
    unfold y0y;rw [HE.out];exact ⟨rfl,HR2.out⟩
   ·rw [if_neg hbw] at HE;have hbi:¬ (7:Int)<b:=by omega
    obtain ⟨L,B,T⟩:=g1;have c18:w1.cell? ⟨p,18,none⟩=some (.int .u8 y.marks):=B.row.cell (i:=18) (by omega);have z18:=B.row.frozen 18;have HB:Hid (Bh ρ w p { y with marks:=b } y L (w1.setCell ⟨p,18,none⟩ (.int .u8 b))):=(show Bh ρ w p y y L w1 from ⟨B,T,HR.out.2⟩).set 18 _ rfl ⟨rfl,rfl⟩;clear k1 B T;go_wp2_with fail
    go_ret
    unfold y0y;rw [HE.out];exact ⟨rfl,HB.out.done rfl rfl rfl rfl ⟨rfl,rfl⟩⟩
  ·rw [if_neg h0] at HE;have h0':((t:Int)==0)=false:=by simp;exact h0
   clear k1 g1;go_wp2_with fail
   go_ret
   unfold y0y;rw [HE.out];exact ⟨rfl,HR.out⟩
 ·rw [if_neg h2] at HE;have hd:((x.fm:Int)==2)=false:=by simp;omega
  clear h2 hx;go_wp2_with fail
  go_ret
  unfold y0y;rw [HE.out];exact ⟨rfl,HM.out.1,Fr.refl _ _ _⟩
theorem MS.need_tk{k:Nat}:∀ (l:List Nat) {x:MS},x.rest=l->(MS.need k x).1.rest.length+(MS.need k x).1.tk=x.rest.length+x.tk
 | [],x,e=>by
  by_cases h:k<=x.count
  ·rw [MS.need_done h]
  ·rw [MS.need_nil h e]
 | b :: l,x,e=>by
  by_cases h:k<=x.count
  ·rw [MS.need_done h]
  ·rw [MS.need_cons h e];by_cases hs:x.sp<=x.tk+x.pu
   ·rw [if_pos hs];rfl
   ·rw [if_neg hs,MS.need_tk (k:=k) l (x:=x.fed b l) rfl,e];show l.length+(x.tk+1)=(b :: l).length+x.tk;simp;omega
theorem MS.takeHead_tk(x:MS):x.takeHead.1.rest.length+x.takeHead.1.tk=x.rest.length+x.tk:=by
 have:=MS.need_tk (k:=8) x.rest (x:=x) rfl;unfold MS.takeHead;split
 ·exact this
 ·split
  ·exact this
  ·exact this
theorem ym5(m i:Nat)(hm:m<256)(hi:i<8):bits .and .u8 (m:Int) ((2^i:Nat):Int)=((m / 2^i%2*2^i:Nat):Int):=by
 have h1:m<2^8:=hm;have h2:2^i<2^8:=Nat.pow_lt_pow_right (by decide) hi;rw [(bits_nat .u8 8 (by decide) wraps_u8 m (2^i) h1 h2).1,nat_bit]
theorem x3t(m i:Nat)(hm:m<256)(hi:i<8):(bits .and .u8 (m:Int) ((2^i:Nat):Int)==0)=decide (m / 2^i%2=0):=by
 rw [ym5 m i hm hi];have hp:=Nat.two_pow_pos i;by_cases h:m / 2^i%2=0
 ·rw [h,decide_eq_true rfl];simp
 ·have h1:m / 2^i%2=1:=by omega
  rw [h1];simp;have hpi:(0:Int)<2^i:=Int.pow_pos (by decide);omega
theorem MM.cell9{ρ:Nat->Nat}{w:World}{p:Nat}{x:MS}(h:MM ρ w p x):w.cell? ⟨p,9,none⟩=some (.int .i64 x.tk):=by
 obtain ⟨L,B,T⟩:=h;exact B.row.cell (i:=9) (by omega)
theorem zvv{ρ:Nat->Nat}{w:World}{p:Nat}{x:MS}(i:Nat)(h:MM ρ w p x)(ok:Ok x)(hx:x.count<=8∨x.marks=0)(hi:i<8) :
  Calls Tryz.prog 131 #[.pointer (some ⟨p,0,none⟩), .int .u8 (2^i:Nat)] w fun v w'=>y0y ρ w p (MS.passText (2^i) x) v w':=by
 have HM:Hid (MM ρ w p x∧Ok x):=⟨h,ok⟩
 have c18:w.cell? ⟨p,18,none⟩=some (.int .u8 x.marks):=by obtain ⟨L,B,T⟩:=h;exact B.row.cell (i:=18) (by omega)
 have HE:Hid (MS.passText (2^i) x=if x.marks / 2^i%2=0 then (x,0) else MS.textL (x.more+1) x):=rfl;have hz:=x3t x.marks i ok.marks hi;clear h ok;obtain ⟨m,hm⟩:∃ m,m=2^i:=⟨_,rfl⟩
 rw [← hm] at HE hz ⊢;clear hm;go_enter Tryz.func131,Tryz.ntmps131
 by_cases h0:x.marks / m%2=0
 ·rw [if_pos h0] at HE;rw [decide_eq_true h0] at hz;clear h0 hx;go_wp2_with fail
  go_ret
  unfold y0y;rw [HE.out];exact ⟨rfl,HM.out.1,Fr.refl _ _ _⟩
 ·rw [if_neg h0] at HE;rw [decide_eq_false h0] at hz;have hx8:x.count<=8:=by
   rcases hx with hx | hx
   ·exact hx
   ·rw [hx] at h0;simp at h0
  have H0:Hid (∃ y f,MM ρ w p y∧Ok y∧y.count<=8∧MS.textL f y=MS.textL (x.more+1) x∧y.more<f∧y.rest.length+y.tk=x.rest.length+x.tk∧Fr (fun k=>1<=k∧k<=5) ρ w w):=⟨x,x.more+1,HM.out.1,HM.out.2,hx8,rfl,by omega,rfl,Fr.refl _ _ _⟩
  clear h0 hx HM;obtain ⟨C,hC⟩:∃ C,C=x.rest.length+x.tk:=⟨_,rfl⟩
  rw [← hC] at H0;clear hC;go_wp2_with fail
  go_loopw [] (fun wr=>Hid (∃ y f,MM ρ wr p y∧Ok y∧y.count<=8∧MS.textL f y=MS.textL (x.more+1) x∧y.more<f∧y.rest.length+y.tk=C∧Fr (fun k=>1<=k∧k<=5) ρ w wr)) (fun wr=>C - xq0 wr p 9+xq0 wr p 15 / 8)
  case atStart=>exact H0
  case round=>
   clear H0 c18;obtain ⟨y,f,g1,g2,g3,g4,g5,g6,g7⟩:=hrel.out;have e9:=xv1 g1.cell9;have e15:=xv1 g1.cell15;obtain ⟨f,rfl⟩:∃ n,f=n+1:=⟨f - 1,by omega⟩
   have HL:Hid (MS.textL (x.more+1) x=if y.takeHead.2.1≠0∨y.takeHead.2.2=0 then (y.takeHead.1,y.takeHead.2.1) else MS.textL f y.takeHead.1):=g4.symm;have HY:Hid (MM ρ wr p y∧Ok y∧Fr (fun k=>1<=k∧k<=5) ρ w wr):=⟨g1,g2,g7⟩
   clear g1 g2 g4 g7 hrel;go_wp2_with fail
   refine (kvg HY.out.1 HY.out.2.1 g3).mono ?_;rintro v w1 ⟨rfl,a1,a2⟩;obtain ⟨o1,k1⟩:=MS.takeHead_facts HY.out.2.1 g3;have k2:=MS.takeHead_tk y;obtain ⟨z,t,b,hr⟩:∃ z t b,y.takeHead=(z,t,b):=⟨_,_,_,rfl⟩
   rw [hr] at a1 HL k1 k2 o1 ⊢;have HR:Hid (MM ρ w1 p z∧Ok z∧Fr (fun k=>1<=k∧k<=5) ρ w w1):=⟨a1,o1,HY.out.2.2.trans a2⟩
   have n9:=xv1 a1.cell9;have n15:=xv1 a1.cell15;clear a1 a2 o1 hr;by_cases h0:t=0
   ·obtain ⟨q1,q2,q3,_⟩:=k1 h0;subst h0;by_cases hb:b=0
    ·have hd:((b:Int)==0)=true:=by simp [hb]
     rw [if_pos (Or.inr hb)] at HL;clear hb;go_wp2_with fail
     go_ret
     unfold y0y;rw [HE.out,HL.out];exact ⟨rfl,HR.out.1,HR.out.2.2⟩
    ·have hd:((b:Int)==0)=false:=by simp;exact hb
     rw [if_neg (by simp [hb])] at HL;have HN:Hid (∃ y f,MM ρ w1 p y∧Ok y∧y.count<=8∧MS.textL f y=MS.textL (x.more+1) x∧y.more<f∧y.rest.length+y.tk=C∧Fr (fun k=>1<=k∧k<=5) ρ w w1):=⟨z,f,HR.out.1,HR.out.2.1,by show z.count<=8;have:z.count<8:=q1;omega,HL.out.symm,by have:z.more<y.more:=q3;omega,k2.trans g6,HR.out.2.2⟩
     clear hb;go_wp2_with fail
     go_roundw
     case rel=>exact HN
     case measure=>
      rw [e9,e15,n9,n15];have q4:z.rest.length+z.count / 8<y.rest.length+y.count / 8:=q3;have q5:z.rest.length+z.tk=y.rest.length+y.tk:=k2;show C - z.tk+z.count / 8<C - y.tk+y.count / 8;omega
   ·have hd:((t:Int)==0)=false:=by simp;exact h0
    rw [if_pos (Or.inl h0)] at HL;clear k1;go_wp2_with fail
    go_ret
    unfold y0y;rw [HE.out,HL.out];exact ⟨rfl,HR.out.1,HR.out.2.2⟩
theorem xj1{ρ:Nat->Nat}{w:World}{p:Nat}{x:MS}(h:MM ρ w p x)(ok:Ok x)(hx:x.count<=8∨x.marks=0) :
  Calls Tryz.prog 132 #[.pointer (some ⟨p,0,none⟩)] w fun v w'=>y0y ρ w p x.passCheck v w':=by
 have HM:Hid (MM ρ w p x∧Ok x):=⟨h,ok⟩
 have c18:w.cell? ⟨p,18,none⟩=some (.int .u8 x.marks):=by obtain ⟨L,B,T⟩:=h;exact B.row.cell (i:=18) (by omega)
 have c20:w.cell? ⟨p,20,none⟩=some (.int .u8 x.hsum):=by obtain ⟨L,B,T⟩:=h;exact B.row.cell (i:=20) (by omega)
 have HE:Hid (x.passCheck=if x.marks / 4%2=0 then (x,0) else MS.passByte x.hsum x):=rfl;have hz:(bits .and .u8 (x.marks:Int) 4==0)=decide (x.marks / 4%2=0):=x3t x.marks 2 ok.marks (by decide);have hs:=ok.hsum;clear h ok;go_enter Tryz.func132,Tryz.ntmps132
 by_cases h0:x.marks / 4%2=0
 ·rw [if_pos h0] at HE;rw [decide_eq_true h0] at hz;clear h0 hx;go_wp2_with fail
  go_ret
  unfold y0y;rw [HE.out];exact ⟨rfl,HM.out.1,Fr.refl _ _ _⟩
 ·rw [if_neg h0] at HE;rw [decide_eq_false h0] at hz;have hx8:x.count<=8:=by
   rcases hx with hx | hx
   ·exact hx
   ·rw [hx] at h0;simp at h0
  clear h0 hx;go_wp2_with fail
  refine (jn3 x.hsum HM.out.1 HM.out.2 hx8 hs).mono ?_;rintro v w1 ⟨rfl,g1,g2⟩;have HR:Hid (MM ρ w1 p (MS.passByte x.hsum x).1∧Fr (fun k=>1<=k∧k<=5) ρ w w1):=⟨g1,g2⟩
  clear g1 g2;go_wp2_with fail
  go_ret
  unfold y0y;rw [HE.out];exact ⟨rfl,HR.out⟩
theorem zgi(fm:Nat)(w:World) :
  Calls Tryz.prog 127 #[.int .i64 fm] w fun v w'=>v= .returned (.tuple #[.int .u8 (MS.first fm), .int .u8 (MS.second fm)])∧w=w':=by
 by_cases h:fm=1
 ·have hd:((fm:Int)==1)=true:=by simp;omega
  have HF:Hid (MS.first fm=115∧MS.second fm=1):=by unfold MS.first MS.second;exact ⟨if_pos h,if_pos h⟩
  clear h;go_enter Tryz.func127,Tryz.ntmps127
  go_wp2_with fail
  go_ret2
  rw [HF.out.1,HF.out.2];exact ⟨rfl,rfl⟩
 ·have hd:((fm:Int)==1)=false:=by simp;omega
  have HF:Hid (MS.first fm=76∧MS.second fm=2):=by unfold MS.first MS.second;exact ⟨if_neg h,if_neg h⟩
  clear h;go_enter Tryz.func127,Tryz.ntmps127
  go_wp2_with fail
  go_ret2
  rw [HF.out.1,HF.out.2];exact ⟨rfl,rfl⟩
theorem MB.member{ρ:Nat->Nat}{w:World}{p:Nat}{y:MS}{L:Lo}(h:MB ρ w p y L):MB ρ ((((((w.setCell ⟨p,18,none⟩ (.int .u8 0)).setCell ⟨p,19,none⟩ (.int .i64 0)).setCell ⟨p,20,none⟩ (.int .u8 0)).setCell ⟨p,21,none⟩ (.int .i64 1)).setCell ⟨p,22,none⟩ (.int .i64 0)).setCell ⟨p,23,none⟩ (.int .u16 0)) p { y with marks:=0,head:=0,hsum:=0,sx:=1,sy:=0,size:=0 } L:=
 (((((h.set (y:={ y with marks:=0 }) (M:=L) 18 _ rfl ⟨rfl,rfl,rfl,rfl⟩ ⟨rfl,rfl⟩).set (y:={ y with marks:=0,head:=0 }) (M:=L) 19 _ rfl ⟨rfl,rfl,rfl,rfl⟩ ⟨rfl,rfl⟩).set (y:={ y with marks:=0,head:=0,hsum:=0 }) (M:=L) 20 _ rfl ⟨rfl,rfl,rfl,rfl⟩ ⟨rfl,rfl⟩).set (y:={ y with marks:=0,head:=0,hsum:=0,sx:=1 }) (M:=L) 21 _ rfl ⟨rfl,rfl,rfl,rfl⟩ ⟨rfl,rfl⟩).set (y:={ y with marks:=0,head:=0,hsum:=0,sx:=1,sy:=0 }) (M:=L) 22 _ rfl ⟨rfl,rfl,rfl,rfl⟩ ⟨rfl,rfl⟩).set 23 _ rfl ⟨rfl,rfl,rfl,rfl⟩ ⟨rfl,rfl⟩
theorem Fr.member{ρ:Nat->Nat}{w:World}{p:Nat}(h:ρ p=1)(a b c d e f:Value):Fr (fun k=>1<=k∧k<=5) ρ w ((((((w.setCell ⟨p,18,none⟩ a).setCell ⟨p,19,none⟩ b).setCell ⟨p,20,none⟩ c).setCell ⟨p,21,none⟩ d).setCell ⟨p,22,none⟩ e).setCell ⟨p,23,none⟩ f):=
 (((((Fr.own _ p 18 _ h).trans (Fr.own _ p 19 _ h)).trans (Fr.own _ p 20 _ h)).trans (Fr.own _ p 21 _ h)).trans (Fr.own _ p 22 _ h)).trans (Fr.own _ p 23 _ h)
theorem vq9{ρ:Nat->Nat}{w:World}{p:Nat}{x:MS}(h:MM ρ w p x)(ok:Ok x)(hx:x.count<=8) :
  Calls Tryz.prog 128 #[.pointer (some ⟨p,0,none⟩)] w fun v w'=>y0y ρ w p x.beginMember v w':=by
 have HM:Hid (MM ρ w p x∧Ok x):=⟨h,ok⟩
 have HE:Hid (x.beginMember=if (MS.need 8 x).2=0 then (if (MS.need 8 x).1.mb=(MS.need 8 x).1.me then (MS.need 8 x).1.refuse 6 else ({ (MS.need 8 x).1 with mb:=(MS.need 8 x).1.mb+1,marks:=0,head:=0,hsum:=0,sx:=1,sy:=0,size:=0,qc:=[] },0)) else MS.need 8 x):=rfl;clear h ok;go_enter Tryz.func128,Tryz.ntmps128
 go_wp2_with fail
 refine (zvo 8 HM.out.1 HM.out.2 (by omega) (by omega)).mono ?_;rintro v w1 ⟨rfl,g1,g2⟩;by_cases h0:(MS.need 8 x).2=0
 ·have k3:=MS.need_ok (k:=8) HM.out.2;rw [h0];rw [if_pos h0] at HE;obtain ⟨y,hy⟩:∃ y,y=(MS.need 8 x).1:=⟨_,rfl⟩
  rw [← hy] at g1 HE k3;have HY:Hid (MM ρ w1 p y∧Ok y∧Fr (fun k=>1<=k∧k<=5) ρ w w1):=⟨g1,k3,g2⟩
  have hmb:=k3.mbs;obtain ⟨L,B,T⟩:=g1;have c11:w1.cell? ⟨p,11,none⟩=some (.int .i64 y.mb):=B.row.cell (i:=11) (by omega);have c4:w1.cell? ⟨p,4,none⟩=some (.int .i64 y.me):=B.row.cell (i:=4) (by omega);have z11:=B.row.frozen 11;have HB:Hid (Bh ρ w p y y L w1):=⟨B,T,g2⟩
  clear B T g2 hy k3 h0;by_cases hq:y.mb=y.me
  ·rw [if_pos hq] at HE;have hqd:((y.mb:Int)==(y.me:Int))=true:=by simp [hq]
   clear hq;go_wp2_with fail
   go_quiet (fail)
   go_wp2_with fail
   refine (kv8 6 (HY.out.1.drewN _)).mono ?_;rintro v w2 ⟨rfl,g3,g4⟩;have HR:Hid (MM ρ w2 p (y.refuse 6).1∧Fr (fun k=>1<=k∧k<=5) ρ w w2):=⟨g3,(HY.out.2.2.drewN _).trans g4⟩
   clear g3 g4;go_wp2_with fail
   go_ret
   unfold y0y;rw [HE.out];exact ⟨rfl,HR.out⟩
  ·rw [if_neg hq] at HE;have hqd:((y.mb:Int)==(y.me:Int))=false:=by simp;omega
   have hm1:y.mb+1<=9223372036854775807:=by omega
   clear hq;go_wp2_with fail
   go_quiet (fail)
   go_wp2_with fail
   have HB2:Hid (Bh ρ w p { y with mb:=y.mb+1 } y L ((w1.drewN nq).setCell ⟨p,11,none⟩ (.int .i64 (y.mb+1:Nat)))):=(HB.out.drewN nq).set 11 _ rfl ⟨rfl,rfl⟩;have e1:((y.mb+1:Nat):Int)=(y.mb:Int)+1:=by omega
   rw [e1] at HB2;refine (kmk _).mono ?_;rintro v w3 ⟨rfl,b3⟩;have HB3:Hid (Bh ρ w p { y with mb:=y.mb+1 } y L w3):=HB2.out.below b3;clear b3 HB2;have d18:w3.cell? ⟨p,18,none⟩=some (.int .u8 y.marks):=HB3.out.mb.row.cell (i:=18) (by omega);have d19:w3.cell? ⟨p,19,none⟩=some (.int .i64 y.head):=HB3.out.mb.row.cell (i:=19) (by omega);have d20:w3.cell? ⟨p,20,none⟩=some (.int .u8 y.hsum):=HB3.out.mb.row.cell (i:=20) (by omega);have d21:w3.cell? ⟨p,21,none⟩=some (.int .i64 y.sx):=HB3.out.mb.row.cell (i:=21) (by omega);have d22:w3.cell? ⟨p,22,none⟩=some (.int .i64 y.sy):=HB3.out.mb.row.cell (i:=22) (by omega);have d23:w3.cell? ⟨p,23,none⟩=some (.int .u16 y.size):=HB3.out.mb.row.cell (i:=23) (by omega);have d17:w3.cell? ⟨p,17,none⟩=some (.pointer (some ⟨L.c,0,none⟩)):=HB3.out.mb.row.cell (i:=17) (by omega);have z18:=HB3.out.mb.row.frozen 18;have z19:=HB3.out.mb.row.frozen 19;have z20:=HB3.out.mb.row.frozen 20;have z21:=HB3.out.mb.row.frozen 21;have z22:=HB3.out.mb.row.frozen 22;have z23:=HB3.out.mb.row.frozen 23;have HB4:Hid (Bh ρ w p { y with mb:=y.mb+1,marks:=0,head:=0,hsum:=0,sx:=1,sy:=0,size:=0 } y L ((((((w3.setCell ⟨p,18,none⟩ (.int .u8 0)).setCell ⟨p,19,none⟩ (.int .i64 0)).setCell ⟨p,20,none⟩ (.int .u8 0)).setCell ⟨p,21,none⟩ (.int .i64 1)).setCell ⟨p,22,none⟩ (.int .i64 0)).setCell ⟨p,23,none⟩ (.int .u16 0))):=HB3.out.next HB3.out.mb.member (Fr.member HB3.out.mb.rp _ _ _ _ _ _);go_wp2_with fail
   obtain ⟨o,f,k⟩:=HB4.out.mb.rc;refine (ve5 k).mono ?_;rintro v w5 ⟨rfl,r5,t5⟩;have HB5:Hid (Bh ρ w p { y with mb:=y.mb+1,marks:=0,head:=0,hsum:=0,sx:=1,sy:=0,size:=0,qc:=[] } y L w5):=HB4.out.next (HB4.out.mb.ringC r5 t5) (Fr.five t5 HB4.out.mb.rl.2.2.1 HB4.out.mb.rl.2.2.2 (by decide) (by decide));clear r5 t5 k;go_wp2_with fail
   go_ret
   unfold y0y;rw [HE.out];exact ⟨rfl,HB5.out.done rfl rfl rfl rfl ⟨rfl,rfl⟩⟩
 ·rw [if_neg h0] at HE;obtain ⟨t,ht⟩:∃ t,t=(MS.need 8 x).2:=⟨_,rfl⟩
  have HR:Hid (MM ρ w1 p (MS.need 8 x).1∧Fr (fun k=>1<=k∧k<=5) ρ w w1∧(MS.need 8 x).2=t):=⟨g1,g2,ht.symm⟩
  rw [← ht] at h0 ⊢;have h0':((t:Int)==0)=false:=by simp;exact h0
  clear g1 g2 ht;go_wp2_with fail
  go_ret
  unfold y0y;rw [HE.out,HR.out.2.2];exact ⟨rfl,HR.out.1,HR.out.2.1⟩
end Go.Proofs.YtbcjmakpempkiaaGreatDoor
