import Derived.Test.YtbcjmakpempkiaaGreatDoorX07
set_option maxRecDepth 100000
set_option maxHeartbeats 8000000
set_option linter.all false
namespace Go.Proofs.YtbcjmakpempkiaaGreatDoor
variable {t:Tr} {B n p:Nat} {va vo vs:Value} {a b w w':World}
open Go.Proofs.Tryz
open Go.RowKit
theorem lu(h:Kept B p vo va vs t a b)(n:Nat):Kept B p vo va vs { t with CY:=n } a (b.setCell ⟨p,9,none⟩ (.int .i64 n)):=
 h.set 9 _ rfl rfl rfl (fun j c=>by revert j;exact Ep rfl rfl rfl rfl rfl rfl rfl rfl rfl rfl rfl rfl rfl)
structure iU(B p:Nat)(vo va vs:Value)(w:World)(s:ByteArray)(fin:Tr)(wr:World)(last:Nat)(t1:Tr)(vo1 va1:Value):Prop where
 go:(last=0/\Tr.Bz t1=fin)\/(last=1/\(if t1.ended then t1 else t1.skip)=fin)
 Kz:EH B p vo va vs vo1 va1 t1 w wr
 CU:t1.Ao
 cost:t1.cost<=900000000000
 s:t1.s=s
 ord:Bs wr B
theorem Ft.YC{S:CF}{a1 a2:Option Addr}(h:Ft B p vo va vs t w)(a:JZ w' S a1 a2)(h1:Fl w.heap.size a1)(h2:Fl w.heap.size a2)(hl:0<S.l.length):Mn w' p vo va S a1 a2:=⟨a,Fs.new h h1 (a.len.lt hl),Fs.new h h2 (a.fB.lt (by rw [FP];exact hl))⟩
def RA(w:World)(ca cb:Array Value):World:=(((w.alloc (.cells Av 273)).alloc (.cells Av 273)).setRow w.heap.size ca).setRow (w.heap.size+1) cb
theorem Mi(w:World)(a b:Array Value):Below w.heap.size w (RA w a b)/\(RA w a b).heap[w.heap.size]?=some (.cells a 273 (0,0))/\(RA w a b).heap[w.heap.size+1]?=some (.cells b 273 (0,0))/\
  ((w.alloc (.cells Av 273)).alloc (.cells Av 273)).heap[w.heap.size]?=some (.cells Av 273 (0,0))/\
  (((w.alloc (.cells Av 273)).alloc (.cells Av 273)).setRow w.heap.size a).heap[w.heap.size+1]?=some (.cells Av 273 (0,0)):=by
 have g0:((w.alloc (.cells Av 273)).alloc (.cells Av 273)).heap[w.heap.size]?=some (.cells Av 273 (0,0)):=by
  rw [yK _ _ _ zS];exact zJ _ _
 have c:((w.alloc (.cells Av 273)).alloc (.cells Av 273)).heap[w.heap.size+1]?=some (.cells Av 273 (0,0)):=by
  have:=zJ (w.alloc (.cells Av 273)) (.cells Av 273);simpa using this
 have g2:=(xD ((w.alloc (.cells Av 273)).alloc (.cells Av 273)) w.heap.size (w.heap.size+1) a zO).trans c;refine ⟨?_,?_,?_,g0,g2⟩
 ·exact xN (xN ((zB.alloc zL _).alloc zS _) zL a) zO b
 ·exact (xD _ _ _ _ zO).trans (xK _ _ _ _ _ _ g0)
 ·exact xK _ _ _ _ _ _ g2
theorem Qz(w:World)(h:Ft B p vo va vs t w)(hf:t.Ao)(hs:t.s.size<=maxLen)(hc:t.cost<=900000000000)(hO:Bs w B) :
  Calls prog 179 #[.pointer (some ⟨p,0,none⟩)] w fun x N=>x= .returned (.tuple #[])/\∃ b9 b8,EH B p vo va vs b9 b8 t.blocks w N:=by
 obtain ⟨aO,cO,b5⟩:∃ aO cO,vo= .slice aO t.out.length cO:=by
  rcases h.out.2 with ⟨e,h0⟩ | ⟨g,cp,_,e,_⟩
  ·exact ⟨none,0,by rw [e,h0]⟩
  ·exact ⟨_,cp,e⟩
 have c0:w.cell? ⟨p,0,none⟩=some (.slice aO t.out.length cO):=by rw [<- b5];exact h.row.cell (i:=0) zO
 have f9:=h.row.frozen 9;have f8:=h.row.frozen 8;have c9:=h.row.cell (i:=9) zO;have c8:=h.row.cell (i:=8) zO;obtain ⟨t0,v⟩:=qe ({ t with CY:=t.out.length,left:=0 }:Tr);obtain ⟨W0,a7⟩:=qe ((w.setCell ⟨p,9,none⟩ (.int .i64 t.out.length)).setCell ⟨p,8,none⟩ (.int .i64 0));have K0:Kept B p vo va vs t0 w W0:=by rw [v,a7];exact JK (lu (Kept.refl h) t.out.length) 0
 have b7:t0.mu<=t.mu:=by
  cases he:t.ended
  ·rw [Tr.Ch he,Tr.Ch (t:=t0) (by rw [v];exact he),v];simp only;omega
  ·rw [Tr.Ef (t:=t0) (by rw [v];exact he)];omega
 have b3:t0.cost<=900000000000:=by
  have e:t0.out=t.out:=by rw [v]
  unfold Tr.cost at *;rw [e];omega
 have F0:t0.Ao:=by rw [v];exact ⟨zH _,hf.cur,hf.Aw,zE _,hf.Br,hf.err⟩
 have s0:t0.s=t.s:=by rw [v]
 have a3:t.blocks=Tr.Bz t0:=by rw [v];rfl
 have H0:Hid (iU B p vo va vs w t.s t.blocks W0 0 t0 vo va):=⟨Or.inl ⟨rfl,a3.symm⟩,K0.Dt,F0,b3,s0,hO.below K0.bel⟩
 have HZ:=hid hs;clear h hf hs hc hO b5 K0 b7 b3 F0 s0 a3 v;go_enter func179,ntmps179
 go_wp2_with fail
 rw [<- a7];clear a7 c0 c8 c9 f8 f9;go_loopw [2] (fun l wr=>∃ (last:Nat) (t1:Tr) (z y:Value),last<=1/\l= .int .i64 last/\Hid (iU B p vo va vs w t.s t.blocks wr last t1 z y)) (fun _ wr=>Ml p wr)
 case atStart=>exact ⟨0,t0,vo,va,zO,rfl,H0⟩
 case round=>
  obtain ⟨last,t1,z,y,b6,rfl,f⟩:=hrel;clear H0;have b4:last=0\/last=1:=zO;rcases b4 with rfl | rfl
  ·have F:Hid (Tr.Bz t1=t.blocks):=by
    rcases f.out.go with ⟨_,h⟩ | ⟨h,_⟩
    ·exact h
    ·omega
   cases he:t1.ended
   ·have M:=hid he;clear he;have a6:Hid (t1.s.size<=maxLen/\t1.bit.2.s.size<=maxLen):=by show _/\_;rw [(Tr.Fb t1).s,f.out.s];exact ⟨HZ.out,HZ.out⟩
    have Z:=Tr.bj t1;have a0:(t1.bit.2.number 2).1<4:=Tr.Dy t1.bit.2 2;have U:Hid (Tr.Df t1 (Tr.block (t1.bit.2.number 2).1 (t1.bit.2.number 2).2)/\(Tr.block (t1.bit.2.number 2).1 (t1.bit.2.number 2).2).Ao/\(Tr.block (t1.bit.2.number 2).1 (t1.bit.2.number 2).2).mu<t1.mu):=by
     have r:=Tr.NX (t1.bit.2.number 2).1 (t1.bit.2.number 2).2;exact ⟨((Tr.Fb t1).trans (Tr.Bb _ 2)).run.trans r.1,r.2 (f.out.CU.bit.number 2),Tr.MH M.out⟩
    have O:=CL ((Tr.Fb t1).trans (Tr.Bb _ 2)) (f.out.CU.bit.number 2);have a5:Hid ((t1.bit.2.number 2).2.ended=false->(t1.bit.1=0/\Tr.Bz (Tr.block (t1.bit.2.number 2).1 (t1.bit.2.number 2).2)=t.blocks)\/(t1.bit.1=1/\(if (Tr.block (t1.bit.2.number 2).1 (t1.bit.2.number 2).2).ended then (Tr.block (t1.bit.2.number 2).1 (t1.bit.2.number 2).2) else (Tr.block (t1.bit.2.number 2).1 (t1.bit.2.number 2).2).skip)=t.blocks)):=fun h2=>by
     by_cases h0:t1.bit.1=0
     ·left;exact ⟨h0,by rw [<- F.out,Tr.KC M.out h2 h0]⟩
     ·right;exact ⟨zO,by rw [<- F.out,Tr.IA M.out h2 h0]⟩
    have a9:Hid ((t1.bit.2.number 2).2.ended=true->(t1.bit.2.number 2).2=t.blocks):=fun h2=>by rw [<- F.out,Tr.Gt M.out h2]
    go_wp2_with (go_at_call 182;refine (Bc _ f.out.Kz.inv).mono ?_;rw [M.out];rintro e N ⟨rfl,rfl⟩)
    refine (eV _ f.out.Kz.inv f.out.CU a6.out.1).mono ?_;rintro e w1 ⟨rfl,q1⟩;have T:=hid q1;clear q1;go_wp2_with fail
    refine (FG 2 _ T.out.inv f.out.CU.bit a6.out.2 zO).mono ?_;rintro e w2 ⟨rfl,q2⟩;have c:=hid (T.out.trans q2);clear q2 T;obtain ⟨b,hb⟩:=qe t1.bit.1;rw [<- hb] at Z a5 |-;clear hb;generalize t1.bit.2.number 2=D at *;have L:Hid (D.2.s.size<=maxLen/\D.2.cost<=900000000000):=⟨by rw [O.out.1.s];exact a6.out.1,zG O.out.1.cost f.out.cost⟩
    have a8:=hid (f.out.ord.below c.out.bel);cases hd:D.2.ended
    ·have HD:=hid hd;clear hd;have d:Hid (∀ N k j,EH B p z y vs k j (Tr.block D.1 D.2) w2 N->iU B p vo va vs w t.s t.blocks N b (Tr.block D.1 D.2) k j):=fun N k j m=>⟨a5.out HD.out,(f.out.Kz.trans c.out.Dt).trans m,U.out.2.1,zG U.out.1.cost f.out.cost,U.out.1.s.trans f.out.s,a8.out.below m.bel⟩
     have A:=hid U.out.2.2;clear a5 a9 U;have hk:D.1=0\/D.1=1\/D.1=2\/D.1=3:=zO;rcases hk with h0 | h1 | h2 | h3
     ·have o:Tr.block D.1 D.2=D.2.plain:=by unfold Tr.block;rw [zC h0]
      rw [o] at d A;have k0:((D.1:Nat):Int)=0:=zO;rw [k0];clear k0 h0 o a0;go_wp2_with (first | (go_at_call 182;refine (Bc _ c.out.inv).mono ?_;rw [HD.out];rintro e N ⟨rfl,rfl⟩))
      refine (hU _ c.out.inv O.out.2 L.out.1 (by have:=L.out.2;omega)).mono ?_;rintro e C ⟨rfl,k,j,m3⟩;have n:Hid _:=d.out C k j m3;clear m3;go_wp2_with fail
      go_roundw
      case rel=>exact ⟨b,_,k,j,Z,rfl,n⟩
      case measure=>rw [n.out.Kz.inv.Ml,f.out.Kz.inv.Ml];exact A.out
     ·have o:Tr.block D.1 D.2=Tr.content (Ax Tr.Bi) (Ax Tr.Bw) D.2:=by unfold Tr.block;rw [zA zO,zC h1]
      rw [o] at d A;have k0:((D.1:Nat):Int)=1:=zO;rw [k0];clear k0 h1 o a0;go_wp2_with (first | (go_at_call 182;refine (Bc _ c.out.inv).mono ?_;rw [HD.out];rintro e N ⟨rfl,rfl⟩))
      refine (aB w2).mono ?_;rintro e C ⟨W,a2,X,Y,k1,k2,l1,l2,rfl,sA,sB,n1,n2,n3,n4,b0⟩;have a4:=hid ((Kept.refl c.out.inv).below b0);have V:=CL (c.out.inv.YC sA n1 n2 (by show 0<Tr.Bi.length;rw [Di];omega)) (c.out.inv.YC sB n3 n4 (by show 0<Tr.Bw.length;rw [Ey];omega));have E:=Ji O.out.2 L.out.1 L.out.2;have Q:Hid ((Ax Tr.Bi).l.length<=269/\(Ax Tr.Bw).l.length<=16):=⟨by show Tr.Bi.length<=269;rw [Di];omega,by show Tr.Bw.length<=16;rw [Ey];omega⟩
      clear sA sB n1 n2 n3 n4 b0;have G:=DN (Ax Tr.Bi) W a2 k1 k2;have H:=DN (Ax Tr.Bw) X Y l1 l2;have R:=GF (Ax Tr.Bi) W a2 k1 k2;have S:=GF (Ax Tr.Bw) X Y l1 l2;have I:Hid (Av.size=(ED (Ax Tr.Bi) W k1 a2 k2).size/\Av.size=(ED (Ax Tr.Bw) X l1 Y l2).size):=⟨rfl,rfl⟩
      obtain ⟨ca,q⟩:=qe (ED (Ax Tr.Bi) W k1 a2 k2);obtain ⟨cb,u⟩:=qe (ED (Ax Tr.Bw) X l1 Y l2);rw [<- q,<- u] at I;rw [<- q] at G R |-;rw [<- u] at H S |-;have HC:=CL q u;clear q u;have TB:=Mi C ca cb;have a:=hid TB;clear TB;go_wp2_with (first | (refine yS rfl 273 _ _ rfl C.heap.size ca rfl rfl 273 Av a.out.2.2.2.1 G I.out.1 R ?_) | (refine yS rfl 273 _ _ rfl (C.heap.size+1) cb rfl rfl 273 Av a.out.2.2.2.2 H I.out.2 S ?_) | (refine yT rfl 273 _ rfl C.heap.size rfl 273 ca (0,0) _ a.out.2.1 underlying273 rfl G ?_) | (refine yT rfl 273 _ rfl (C.heap.size+1) rfl 273 cb (0,0) _ a.out.2.2.1 underlying273 rfl H ?_))
      have P:=hid (a4.out.below a.out.1);have J:=Sv (Ax Tr.Bi) (Ax Tr.Bw) W a2 X Y k1 k2 l1 l2 (RA C ca cb) P.out.inv E.out.1 E.out.2.1 E.out.2.2 (V.out.1.below a.out.1) (V.out.2.below a.out.1) Q.out.1 Q.out.2;rw [<- HC.out.1,<- HC.out.2] at J;refine J.mono ?_;clear J;rintro e w4 ⟨rfl,k,j,m4⟩;have n:Hid _:=d.out w4 k j (P.out.Dt.trans m4);clear m4;go_wp2_with fail
      go_roundw
      case rel=>exact ⟨b,_,k,j,Z,rfl,n⟩
      case measure=>rw [n.out.Kz.inv.Ml,f.out.Kz.inv.Ml];exact A.out
     ·have o:Tr.block D.1 D.2=Tr.content D.2.own.1 D.2.own.2.1 D.2.own.2.2:=by unfold Tr.block;rw [zA zO,zA zO,zC h2]
      rw [o] at d A;have k0:((D.1:Nat):Int)=2:=zO;rw [k0];clear k0 h2 o a0;go_wp2_with (first | (go_at_call 182;refine (Bc _ c.out.inv).mono ?_;rw [HD.out];rintro e N ⟨rfl,rfl⟩))
      refine (nL w2 c.out.inv O.out.2 L.out.1 a8.out).mono ?_;rintro e C ⟨W,a2,X,Y,k1,k2,l1,l2,rfl,q3,sA,sB,n1,n2⟩;have a4:=hid q3;have V:=CL sA sB;have E:Hid (D.2.own.2.2.Ao/\D.2.own.2.2.s.size<=maxLen/\D.2.own.2.2.cost<=900000000000):=⟨O.out.2.own,by rw [(Tr.Oe D.2).s];exact L.out.1,zG (Tr.Oe D.2).cost L.out.2⟩
      have Q:=CL n1 n2;clear sA sB n1 n2 q3;generalize D.2.own=OW at *;have G:=DN (OW.1) W a2 k1 k2;have H:=DN (OW.2.1) X Y l1 l2;have R:=GF (OW.1) W a2 k1 k2;have S:=GF (OW.2.1) X Y l1 l2;have I:Hid (Av.size=(ED (OW.1) W k1 a2 k2).size/\Av.size=(ED (OW.2.1) X l1 Y l2).size):=⟨rfl,rfl⟩
      obtain ⟨ca,q⟩:=qe (ED (OW.1) W k1 a2 k2);obtain ⟨cb,u⟩:=qe (ED (OW.2.1) X l1 Y l2);rw [<- q,<- u] at I;rw [<- q] at G R |-;rw [<- u] at H S |-;have HC:=CL q u;clear q u;have TB:=Mi C ca cb;have a:=hid TB;clear TB;go_wp2_with (first | (refine yS rfl 273 _ _ rfl C.heap.size ca rfl rfl 273 Av a.out.2.2.2.1 G I.out.1 R ?_) | (refine yS rfl 273 _ _ rfl (C.heap.size+1) cb rfl rfl 273 Av a.out.2.2.2.2 H I.out.2 S ?_) | (refine yT rfl 273 _ rfl C.heap.size rfl 273 ca (0,0) _ a.out.2.1 underlying273 rfl G ?_) | (refine yT rfl 273 _ rfl (C.heap.size+1) rfl 273 cb (0,0) _ a.out.2.2.1 underlying273 rfl H ?_))
      have P:=hid (a4.out.below a.out.1);have J:=Sv (OW.1) (OW.2.1) W a2 X Y k1 k2 l1 l2 (RA C ca cb) P.out.inv E.out.1 E.out.2.1 E.out.2.2 (V.out.1.below a.out.1) (V.out.2.below a.out.1) Q.out.1 Q.out.2;rw [<- HC.out.1,<- HC.out.2] at J;refine J.mono ?_;clear J;rintro e w4 ⟨rfl,k,j,m4⟩;have n:Hid _:=d.out w4 k j (P.out.Dt.trans m4);clear m4;go_wp2_with fail
      go_roundw
      case rel=>exact ⟨b,_,k,j,Z,rfl,n⟩
      case measure=>rw [n.out.Kz.inv.Ml,f.out.Kz.inv.Ml];exact A.out
     ·have o:Tr.block D.1 D.2=D.2.fail 7:=by unfold Tr.block;rw [zA zO,zA zO,zA zO]
      rw [o] at d A;have k0:((D.1:Nat):Int)=3:=zO;rw [k0];clear k0 h3 o a0;go_wp2_with (first | (go_at_call 182;refine (Bc _ c.out.inv).mono ?_;rw [HD.out];rintro e N ⟨rfl,rfl⟩))
      refine (Dn 7 _ c.out.inv).mono ?_;rintro e C ⟨rfl,q3⟩;have n:Hid _:=d.out C z y q3.Dt;clear q3;go_wp2_with fail
      go_roundw
      case rel=>exact ⟨b,_,z,y,Z,rfl,n⟩
      case measure=>rw [n.out.Kz.inv.Ml,f.out.Kz.inv.Ml];exact A.out
    ·have HD:=hid hd;clear hd;go_wp2_with (first | (go_at_call 182;refine (Bc _ c.out.inv).mono ?_;rw [HD.out];rintro e N ⟨rfl,rfl⟩))
     refine zX (vM rfl _ _ _) rfl ?_;rw [<- a9.out HD.out];exact ⟨rfl,z,y,f.out.Kz.then c.out⟩
   ·have M:=hid he;clear he;go_wp2_with (go_at_call 182;refine (Bc _ f.out.Kz.inv).mono ?_;rw [M.out];rintro e N ⟨rfl,rfl⟩)
    go_end0
    have e1:=F.out;rw [Tr.Fe M.out] at e1;rw [<- e1];exact ⟨rfl,z,y,f.out.Kz⟩
  ·have F:Hid ((if t1.ended then t1 else t1.skip)=t.blocks):=by
    rcases f.out.go with ⟨h,_⟩ | ⟨_,h⟩
    ·omega
    ·exact h
   cases he:t1.ended
   ·have M:=hid he;clear he;go_wp2_with (go_at_call 182;refine (Bc _ f.out.Kz.inv).mono ?_;rw [M.out];rintro e N ⟨rfl,rfl⟩)
    refine (ea _ f.out.Kz.inv).mono ?_;rintro e w1 ⟨rfl,q1⟩;have T:=hid q1;clear q1;go_wp2
    go_end0
    have e1:=F.out;rw [zA (by rw [M.out];simp)] at e1;rw [<- e1];exact ⟨rfl,z,y,f.out.Kz.then T.out⟩
   ·have M:=hid he;clear he;go_wp2_with (go_at_call 182;refine (Bc _ f.out.Kz.inv).mono ?_;rw [M.out];rintro e N ⟨rfl,rfl⟩)
    go_end0
    have e1:=F.out;rw [zC M.out] at e1;rw [<- e1];exact ⟨rfl,z,y,f.out.Kz⟩
def Tr.start(s:ByteArray)(Ai:Nat):Tr:={ out:=[],Br:=[],Aw:=0,Aa:=[],err:=0,CZ:=false,s:=s,cur:=0,left:=0,CY:=0,head:=0,many:=0,Ai:=Ai }
def Tr.DP(t:Tr):Tr:=if t.ended=false/\t.Aw<t.s.size then ({ t with Aw:=t.Aw+1 }:Tr).fail 14 else t
def Tr.Gb(s:ByteArray)(Ai:Nat):Tr:=if s.size=0 then { Tr.start s Ai with CZ:=true } else ({ Tr.start s Ai with Aa:=[0] }:Tr).blocks.DP
def DD(l:List Nat):ByteArray:=strOfNums (l.map fun (n:Nat)=>(n:Int))
def Tr.Dg(t:Tr):ByteArray×Nat:=if t.err≠0 then (⟨#[]⟩,t.err) else if t.CZ then (⟨#[]⟩,15) else (DD t.out,0)
theorem Sx{vs':Value}{l:List Nat}(h:Ft B p vo va vs t w)(hk:Dv p w w')(a:w'.rowIs p 235 13 (bI { t with Aa:=l } vo va vs'))(hs:w'.ownsRow B 3 1 vs' l.length (GD l))(hp:vs'.ownBlock≠some p)(ho:∀ g,vo.ownBlock=some g->vs'.ownBlock≠some g)(b:∀ g,va.ownBlock=some g->vs'.ownBlock≠some g):Ft B p vo va vs' { t with Aa:=l } w' where
 pB:=h.pB
 hB:=zG h.hB hk.size
 row:=a
 out:=Hp h.out hk h.po
 Br:=Hp h.Br hk h.pa
 Ua:=hs
 po:=h.po
 pa:=h.pa
 ps:=hp
 oa:=h.oa
 os:=ho
 sa:=b
def Gq(s:ByteArray)(Ai:Nat):Array Value:=#[.slice none 0 0, .slice none 0 0, .int .i64 0, .slice none 0 0, .int .i64 0, .bool false, .string s, .int .i64 0, .int .i64 0, .int .i64 0, .int .i64 0, .int .i64 0, .int .i64 Ai]
theorem YK(s:ByteArray)(Ai:Nat)(i:Nat)(hi:i<13):(Gq s Ai)[i]?=some (bI (Tr.start s Ai) (.slice none 0 0) (.slice none 0 0) (.slice none 0 0) i):=by
 revert i
 exact Ep rfl rfl rfl rfl rfl rfl rfl rfl rfl rfl rfl rfl rfl
theorem YL(s:ByteArray)(Ai:Nat)(w:World):Ft w.heap.size w.heap.size (.slice none 0 0) (.slice none 0 0) (.slice none 0 0) (Tr.start s Ai) (w.alloc (.cells (Gq s Ai) 235)) where
 pB:=zE _
 hB:=zS
 row:=⟨Gq s Ai,zJ _ _,rfl,YK s Ai⟩
 out:=yU _ _ _ _
 Br:=yU _ _ _ _
 Ua:=yU _ _ _ _
 po:=by simp [Value.ownBlock]
 pa:=by simp [Value.ownBlock]
 ps:=by simp [Value.ownBlock]
 oa:=fun g h=>by simp [Value.ownBlock] at h
 os:=fun g h=>by simp [Value.ownBlock] at h
 sa:=fun g h=>by simp [Value.ownBlock] at h
theorem GW(s:ByteArray)(Ai:Nat):(Tr.start s Ai).Ao:=⟨by show 0<=8;omega,by show 0<256;omega,zH _,zE _,rfl,by show 0<=18;omega⟩
theorem Ht(s:ByteArray)(Ai:Nat)(hs:s.size<=1000000000):(Tr.start s Ai).cost<=900000000000:=by
 unfold Tr.cost Tr.mu Tr.ended Tr.start;simp;omega
def Uj(w:World)(t:Tr)(x:Ending)(w':World):Prop:=∃ p vo va vs,x= .returned (.pointer (some ⟨p,0,none⟩))/\Ft w.heap.size p vo va vs t w'/\Below w.heap.size w w'
theorem Nx(s:ByteArray)(m:Int)(Ai:Nat)(w:World)(hs:s.size<=1000000000)(W:Bs w w.heap.size) :
  Calls prog 155 #[.int .i64 0, .int .i64 m, .int .i64 Ai, .string s] w fun x L=>Uj w (Tr.Gb s Ai) x L:=by
 obtain ⟨c,b⟩:=qe (w.alloc (.cells (Gq s Ai) 235));have C:Ft w.heap.size w.heap.size (.slice none 0 0) (.slice none 0 0) (.slice none 0 0) (Tr.start s Ai) c:=by rw [b];exact YL s Ai w
 have M:Below w.heap.size w c:=by rw [b];exact zB.alloc zL _
 have J:c.heap.size=w.heap.size+1:=by rw [b];simp
 have c5:c.cell? ⟨w.heap.size,5,none⟩=some (.bool false):=C.row.cell (i:=5) zO;have f5:=C.row.frozen 5;have c3:c.cell? ⟨w.heap.size,3,none⟩=some (.slice none 0 0):=C.row.cell (i:=3) zO;have f3:=C.row.frozen 3;have k:=CL C M;have N:=hid (W.below M);have P:=hid hs;clear C M W hs;by_cases D:s.size=0
 ·have he:s=⟨#[]⟩:=by
   cases s with
   | mk d=>
    have:d.size=0:=D;rw [CC.1 this]
  subst he;have e:Tr.Gb ⟨#[]⟩ Ai={ Tr.start ⟨#[]⟩ Ai with CZ:=true }:=by unfold Tr.Gb;rw [zC (show (⟨#[]⟩:ByteArray).size=0 from rfl)]
  rw [e];have U:Hid (Kept w.heap.size w.heap.size (.slice none 0 0) (.slice none 0 0) (.slice none 0 0) { Tr.start ⟨#[]⟩ Ai with CZ:=true } c (c.setCell ⟨w.heap.size,5,none⟩ (.bool true))):=Mk (Kept.refl k.out.1);clear e D;go_enter func155,ntmps155
  go_upto_region 2 with fail
  change Code.wp _ _ _ _ (w.alloc (.cells (Gq ⟨#[]⟩ Ai) 235))
  rw [<- b];clear b;go_wp2
  go_ret
  exact ⟨w.heap.size,_,_,_,rfl,U.out.inv,k.out.2.trans U.out.bel⟩
 ·go_enter func155,ntmps155
  go_upto_region 2 with fail
  change Code.wp _ _ _ _ (w.alloc (.cells (Gq s Ai) 235))
  rw [<- b];clear b;have R:¬ s=⟨#[]⟩:=by
   intro e;rw [e] at D;exact D rfl
  have X:s.toList.isEmpty=false:=by
   rw [jZ];cases hl:s.data.toList with
   | nil=>exact absurd (by show s.data.size=0;rw [<- Array.length_toList,hl];rfl) D
   | cons _ _=>rfl
  obtain ⟨H,p⟩:=qe ((c.setCell ⟨w.heap.size,3,none⟩ (.slice (some ⟨w.heap.size+1,0,none⟩) 1 1)).alloc (.cells #[.int .i64 0] 3));have A:(c.setCell ⟨w.heap.size,3,none⟩ (.slice (some ⟨w.heap.size+1,0,none⟩) 1 1)).heap.size=w.heap.size+1:=by simp [World.setCell,J]
  have BW:Below (w.heap.size+1) (c.setCell ⟨w.heap.size,3,none⟩ (.slice (some ⟨w.heap.size+1,0,none⟩) 1 1)) H:=by rw [p];exact zB.alloc zO _
  have I:=(Dv.set _ _ _ _).trans (Dv.Bk (by rw [A];exact BW));have u:H.heap[w.heap.size+1]?=some (.cells #[.int .i64 0] 3 (0,0)):=by
   have h:=zJ (c.setCell ⟨w.heap.size,3,none⟩ (.slice (some ⟨w.heap.size+1,0,none⟩) 1 1)) (.cells #[.int .i64 0] 3);rw [A,<- p] at h;exact h
  have V:Ft w.heap.size w.heap.size (.slice none 0 0) (.slice none 0 0) (.slice (some ⟨w.heap.size+1,0,none⟩) 1 1) { Tr.start s Ai with Aa:=[0] } H:=by
   refine Sx k.out.1 I ?_ ?_ (by simp [Value.ownBlock]) (fun g h=>by simp [Value.ownBlock] at h) (fun g h=>by simp [Value.ownBlock] at h)
   ·have r:=(k.out.1.row.set 3 (.slice (some ⟨w.heap.size+1,0,none⟩) 1 1)).of_block (BW.block w.heap.size zO);refine r.congr ?_;intro j hj;revert j
    exact Ep rfl rfl rfl rfl rfl rfl rfl rfl rfl rfl rfl rfl rfl
   ·exact ⟨rfl,Or.inr ⟨w.heap.size+1,1,#[.int .i64 0],rfl,zO,u,zE _,by unfold maxLen;omega,rfl,rfl⟩⟩
  have v:Below w.heap.size c H:=(zB.setCell zL _).trans (BW.mono (show w.heap.size<=w.heap.size+1 by omega));have S:=k.out.2.trans v;have o:=CL V S;have O:=hid (N.out.below v);have y:Hid (({ Tr.start s Ai with Aa:=[0] }:Tr).Ao/\({ Tr.start s Ai with Aa:=[0] }:Tr).cost<=900000000000):=by
   have f:=GW s Ai;exact ⟨⟨f.left,f.cur,f.Aw,f.CY,f.Br,f.err⟩,Ht s Ai P.out⟩
  clear BW I u V S A v;have z:Hid (Tr.Gb s Ai=({ Tr.start s Ai with Aa:=[0] }:Tr).blocks.DP):=by show _=_;unfold Tr.Gb;rw [zA D]
  have G:Hid (({ Tr.start s Ai with Aa:=[0] }:Tr).s=s):=rfl;generalize ({ Tr.start s Ai with Aa:=[0] }:Tr)=t0 at *;go_upto_region 17 with fail
  rw [<- p];clear p c5 f5 c3 f3 R;go_wp2_with fail
  refine (Qz H o.out.1 y.out.1 (by rw [G.out];unfold maxLen;have:=P.out;omega) y.out.2 O.out).mono ?_;rintro e w2 ⟨rfl,t,q,Y⟩;have a:=hid Y;have n:Hid (t0.blocks.s=s/\t0.blocks.Ao):=by
   have f:=Tr.Lc y.out.1;exact ⟨f.1.trans G.out,f.2.2.2.2.1⟩
  clear Y;generalize t0.blocks=T at *;have c2:w2.cell? ⟨w.heap.size,2,none⟩=some (.int .i64 T.Aw):=a.out.inv.row.cell (i:=2) zO;have f2:=a.out.inv.row.frozen 2;have a0:T.Aw<=s.size:=by have:=n.out.2.Aw;rw [n.out.1] at this;exact this
  have a1:=P.out;cases he:T.ended
  ·have B:=hid he;clear he;by_cases Q:T.Aw<s.size
   ·have l:Hid (T.DP=({ T with Aw:=T.Aw+1 }:Tr).fail 14):=by show _=_;unfold Tr.DP;rw [zC ⟨B.out,by rw [n.out.1];exact Q⟩]
    have F:Hid (Kept w.heap.size w.heap.size t q (.slice (some ⟨w.heap.size+1,0,none⟩) 1 1) { T with Aw:=T.Aw+1 } w2 (w2.setCell ⟨w.heap.size,2,none⟩ (.int .i64 ((T.Aw:Int)+1)))):=UU (Kept.refl a.out.inv) (T.Aw+1);go_wp2_with (first | (go_at_call 182;refine (Bc _ a.out.inv).mono ?_;rw [B.out];rintro e L ⟨rfl,rfl⟩))
    refine (Dn 14 _ F.out.inv).mono ?_;rintro e w3 ⟨rfl,Z⟩;have E:=hid (F.out.trans Z);clear Z;go_wp2
    go_ret
    rw [z.out,l.out];exact ⟨w.heap.size,t,q,_,rfl,E.out.inv,o.out.2.trans (a.out.bel.trans E.out.bel)⟩
   ·have l:Hid (T.DP=T):=by show _=_;unfold Tr.DP;rw [zA (by rw [n.out.1];omega)]
    go_wp2_with (first | (go_at_call 182;refine (Bc _ a.out.inv).mono ?_;rw [B.out];rintro e L ⟨rfl,rfl⟩))
    go_ret
    rw [z.out,l.out];exact ⟨w.heap.size,t,q,_,rfl,a.out.inv,o.out.2.trans a.out.bel⟩
  ·have B:=hid he;clear he;have l:Hid (T.DP=T):=by show _=_;unfold Tr.DP;rw [zA (by rw [B.out];simp)]
   go_wp2_with (first | (go_at_call 182;refine (Bc _ a.out.inv).mono ?_;rw [B.out];rintro e L ⟨rfl,rfl⟩))
   go_ret
   rw [z.out,l.out];exact ⟨w.heap.size,t,q,_,rfl,a.out.inv,o.out.2.trans a.out.bel⟩
theorem gY(h:Ft B p vo va vs t w):∃ ad cap,vo= .slice ad t.out.length cap/\(convert 34 9 (.slice ad t.out.length cap)).run prog w= .ok (.string (DD t.out)) w:=by
 rcases h.out.2 with ⟨e,h0⟩ | ⟨g,a,cur,e,d,f,j,hm,hs,k⟩
 ·refine ⟨none,0,by rw [e,h0],?_⟩;have c:=vV.1 h0;rw [run_convert_bytes_nil w 34 5 underlying34 underlying5 _ _ 9 underlying9,c];rfl
 ·refine ⟨some ⟨g,0,none⟩,a,e,?_⟩;refine AD w 34 5 underlying34 underlying5 g 0 t.out.length a (t.out.map fun (n:Nat)=>(n:Int)) zS ?_ 9 underlying9;intro i hi;have b:=h.out;rw [e] at b;rw [yJ,xO b i zO];simp [EJ,hi]
def LX(w:World)(q:ByteArray×Nat)(x:Ending)(w':World):Prop:=x= .returned (.tuple #[.string q.1, .int .i64 q.2])/\Below w.heap.size w w'
namespace Tr
def Qp(l:List Nat):Int:=65536*(sxy (fun k=>((l.getD k 0:Nat):Int)) l.length).2+(sxy (fun k=>((l.getD k 0:Nat):Int)) l.length).1
def four(t:Tr):Nat->Nat×Tr
 | 0=>(0,t)
 | k+1=>(256*(t.four k).1+(t.four k).2.Ad.1,(t.four k).2.Ad.2)
def sum(t:Tr):Tr:=if ((t.four 4).1:Int)=Qp ((t.four 4).2.out.drop (t.four 4).2.CY) then (t.four 4).2 else (t.four 4).2.fail 12
def Dq(t:Tr)(b:Nat):Tr:={ (if t.Ai<=t.many then t.fail 5 else t) with many:=t.many+1,head:=(t.head+b)%256 }
def Au(t:Tr):Nat×Tr:=(t.Ad.1,t.Ad.2.Dq t.Ad.1)
def Ea(t:Tr)(b:Nat):Tr:=if t.Au.1=b then t.Au.2 else t.Au.2.fail 4
def text(t:Tr):Tr:=
 if t.ended then t
 else if t.Au.1=0 then t.Au.2
 else if _h:t.Au.2.mu<t.mu then text t.Au.2
 else t
 termination_by t.mu
def marked(t:Tr)(m:Nat):Tr:=
 let t2:=if 7<m then t.fail 4 else t
 let t3:=if m%2=1 then t2.text else t2
 let t4:=if m / 2%2=1 then t3.text else t3
 if m / 4=1 then t4.Ea t4.head else t4
def sized(t:Tr):Tr:=if t.Ad.1+256*t.Ad.2.Ad.1=(t.Ad.2.Ad.2.out.length - t.Ad.2.Ad.2.CY)%65536 then t.Ad.2.Ad.2 else t.Ad.2.Ad.2.fail 13
def DA(t:Tr):Tr:=((({ t with head:=0,many:=0 }:Tr).Ea 76).Ea 2)
def Dw(t:Tr):Tr:=(t.DA.Au.2.marked t.DA.Au.1).blocks.sum.sized
theorem Xb(t:Tr)(b:Nat):(t.Dq b).mu<=t.mu:=by
 have e:(t.Dq b).mu=(if t.Ai<=t.many then t.fail 5 else t).mu:=rfl;rw [e];split
 ·exact (CK t zD).mu
 ·exact zE _
theorem VM(t:Tr)(b:Nat):Da t (t.Dq b):=by
 have f:Da t (if t.Ai<=t.many then t.fail 5 else t):=Gu _ t zD;exact ⟨f.out,f.Br,f.Aa,f.s,f.CY,f.Ai,f.mu,f.ended⟩
theorem FK(t:Tr):Da t t.Au.2:=(CS t).trans (VM _ _)
theorem Vq(h:t.ended=false):t.Ad.2.mu<t.mu:=by
 cases h2:t.Ad.2.ended
 ·have:=MI h2;omega
 ·rw [Ef h2];exact IT h
theorem Jk(h:t.ended=false):t.Au.2.mu<t.mu:=vR (Xb _ _) (Vq h)
theorem Ao.Dq(h:Ao t)(b:Nat):Ao (t.Dq b):=by
 have f:Ao (if t.Ai<=t.many then t.fail 5 else t):=Ao.Vg _ h zD;exact ⟨f.left,f.cur,f.Aw,f.CY,f.Br,f.err⟩
theorem Ao.Au(h:Ao t):Ao t.Au.2:=h.Ad.Dq _
theorem GZ(t:Tr)(b:Nat):Da t (t.Ea b):=by
 unfold Ea;split
 ·exact FK t
 ·exact (FK t).trans (CK _ zD)
theorem Ao.Ea(h:Ao t)(b:Nat):Ao (t.Ea b):=by
 unfold Tr.Ea;split
 ·exact h.Au
 ·exact h.Au.fail zD
theorem Mg(h:t.ended=true):t.text=t:=by rw [text,zC h]
theorem Is(h:t.ended=false)(h2:t.Au.1=0):t.text=t.Au.2:=by rw [text,zA (by rw [h];simp),zC h2]
theorem KR(h:t.ended=false)(h2:t.Au.1≠0):t.text=t.Au.2.text:=by rw [text,zA (by rw [h];simp),zA h2,kH (Jk h)]
structure IN(n:Nat)(t:Tr):Prop where
 head:t.head<256
 many:t.many+t.mu<=n
theorem LC(t:Tr):t.Ad.2.head=t.head/\t.Ad.2.many=t.many:=by
 cases hd:t.ended
 ·by_cases hs:t.s.size<=t.Aw
  ·rw [Eb hd hs];exact ⟨rfl,rfl⟩
  ·rw [FB hd zO];exact ⟨rfl,rfl⟩
 ·rw [Fq hd];exact ⟨rfl,rfl⟩
theorem KI(t:Tr)(e:Nat):(t.fail e).head=t.head/\(t.fail e).many=t.many:=by
 cases hd:t.ended
 ·rw [GR hd];exact ⟨rfl,rfl⟩
 ·rw [EZ hd];exact ⟨rfl,rfl⟩
theorem IN.mono{m:Nat}(h:IN n t)(hm:n<=m):IN m t:=⟨h.head,zG h.many hm⟩
theorem IN.fail(h:IN n t){e:Nat}(he:e≠0):IN n (t.fail e):=⟨by rw [(KI t e).1];exact h.head,by rw [(KI t e).2,Oi t he];have:=h.many;omega⟩
theorem IN.Au(h:IN n t):IN (n+1) t.Au.2:=by
 refine ⟨yC _ zD,?_⟩;have h1:t.Au.2.many=t.many+1:=by show t.Ad.2.many+1=_;rw [(LC t).2]
 have h2:=(FK t).mu;have h3:=h.many;omega
theorem IN.Pm(h:IN n t)(he:t.ended=false):IN n t.Au.2:=by
 refine ⟨yC _ zD,?_⟩;have h1:t.Au.2.many=t.many+1:=by show t.Ad.2.many+1=_;rw [(LC t).2]
 have h2:=Jk he;have h3:=h.many;omega
theorem IN.Ea(h:IN n t)(b:Nat):IN (n+1) (t.Ea b):=by
 unfold Tr.Ea;split
 ·exact h.Au
 ·exact h.Au.fail zD
theorem LQ:∀ (m:Nat) (t:Tr),t.mu<=m->Da t t.text/\(Ao t->Ao t.text)/\(∀ n,IN n t->IN n t.text):=by
 intro m;induction m with
 | zero=>
  intro t hm;have he:t.ended=true:=by
   cases h:t.ended
   ·have:=IT h;omega
   ·rfl
  rw [Mg he];exact ⟨Da.refl t,fun h=>h,fun _ h=>h⟩
 | succ m ih=>
  intro t hm;cases he:t.ended
  ·by_cases h0:t.Au.1=0
   ·rw [Is he h0];exact ⟨FK t,fun h=>h.Au,fun _ h=>h.Pm he⟩
   ·rw [KR he h0];have d:=Jk he;obtain ⟨a,b,c⟩:=ih t.Au.2 zO;exact ⟨(FK t).trans a,fun h=>b h.Au,fun n h=>c n (h.Pm he)⟩
  ·rw [Mg he];exact ⟨Da.refl t,fun h=>h,fun _ h=>h⟩
theorem Lv(t:Tr):Da t t.text:=(LQ t.mu t zL).1
theorem Ao.text(h:Ao t):Ao t.text:=(LQ t.mu t zL).2.1 h
theorem IN.text(h:IN n t):IN n t.text:=(LQ t.mu t zL).2.2 n h
theorem Lq(t:Tr)(k:Nat):Da t (t.four k).2:=by
 induction k with
 | zero=>exact Da.refl t
 | succ k ih=>exact ih.trans (CS _)
theorem Ao.four(h:Ao t)(k:Nat):Ao (t.four k).2:=by
 induction k with
 | zero=>exact h
 | succ k ih=>exact ih.Ad
theorem fN(t:Tr)(k:Nat):(t.four k).1<256^k:=by
 induction k with
 | zero=>simp [four]
 | succ k ih=>
  have h1:=Dl (t.four k).2;show 256*(t.four k).1+(t.four k).2.Ad.1<256^(k+1);rw [yN];omega
theorem Lu(t:Tr):Da t t.sum:=by
 unfold sum;split
 ·exact Lq t 4
 ·exact (Lq t 4).trans (CK _ zD)
theorem Ao.sum(h:Ao t):Ao t.sum:=by
 unfold Tr.sum;split
 ·exact h.four 4
 ·exact (h.four 4).fail zD
end Tr
theorem UT(h:Kept B p vo va vs t a b)(n:Nat):Kept B p vo va vs { t with head:=n } a (b.setCell ⟨p,10,none⟩ (.int .i64 n)):=
 h.set 10 _ rfl rfl rfl (fun j c=>by revert j;exact Ep rfl rfl rfl rfl rfl rfl rfl rfl rfl rfl rfl rfl rfl)
theorem UW(h:Kept B p vo va vs t a b)(n:Nat):Kept B p vo va vs { t with many:=n } a (b.setCell ⟨p,11,none⟩ (.int .i64 n)):=
 h.set 11 _ rfl rfl rfl (fun j c=>by revert j;exact Ep rfl rfl rfl rfl rfl rfl rfl rfl rfl rfl rfl rfl rfl)
theorem UP(n:Nat)(w:World)(h:Ft B p vo va vs t w)(hs:t.s.size<=maxLen)(hl:t.IN n)(E:n<=1000000000000000) :
  Calls prog 204 #[.pointer (some ⟨p,0,none⟩)] w fun x F=>x= .returned (.int .i64 t.Au.1)/\Kept B p vo va vs t.Au.2 w F:=by
 have y:=hid h;have z:=hid hs;have D:=hl.head;have hm:t.many<=1000000000000000:=by have:=hl.many;omega
 have ho:=Tr.LC t;have G:=Tr.Dl t;clear h hs hl E;go_enter func204,ntmps204
 go_wp2_with fail
 refine (Gc _ y.out z.out).mono ?_;rintro e w1 ⟨rfl,v⟩;rw [<- ho.1] at D;rw [<- ho.2] at hm;have u:Hid (t.Au=(t.Ad.1,t.Ad.2.Dq t.Ad.1)):=by show _=_;rfl
 have a:=hid v;clear v ho;generalize t.Ad=o at *;have j:w1.cell? ⟨p,10,none⟩=some (.int .i64 o.2.head):=a.out.inv.row.cell (i:=10) zO;have k:w1.cell? ⟨p,11,none⟩=some (.int .i64 o.2.many):=a.out.inv.row.cell (i:=11) zO;have l:w1.cell? ⟨p,12,none⟩=some (.int .i64 o.2.Ai):=a.out.inv.row.cell (i:=12) zO;have f:((o.2.many+1:Nat):Int)=(o.2.many:Int)+1:=zO;have c:(((o.2.head+o.1)%256:Nat):Int)=((o.2.head:Int)+o.1)%256:=zO;by_cases d:o.2.Ai<=o.2.many
 ·have hd:decide ((o.2.Ai:Int)<=(o.2.many:Int))=true:=by simp;omega
  have g:Hid (o.2.Dq o.1={ o.2.fail 5 with many:=o.2.many+1,head:=(o.2.head+o.1)%256 }):=by show _=_;unfold Tr.Dq;rw [zC d]
  go_wp2_with fail
  go_quiet (fail)
  go_wp2_with fail
  refine (Dn 5 _ (a.out.inv.drewN _)).mono ?_;rintro e w2 ⟨rfl,k2⟩;have b:=hid ((a.out.drewN _).trans k2);have A:w2.cell? ⟨p,10,none⟩=some (.int .i64 o.2.head):=by have:=b.out.inv.row.cell (i:=10) zO;rw [this];show some (Value.int .i64 ((o.2.fail 5).head:Int))=_;rw [(Tr.KI o.2 5).1]
  have C:w2.cell? ⟨p,11,none⟩=some (.int .i64 o.2.many):=by have:=b.out.inv.row.cell (i:=11) zO;rw [this];show some (Value.int .i64 ((o.2.fail 5).many:Int))=_;rw [(Tr.KI o.2 5).2]
  have q:=b.out.inv.row.frozen 10;have r:=b.out.inv.row.frozen 11;clear k2 j k l hd;go_wp2
  go_ret
  rw [u.out,g.out];have K:=UT (UW b.out (o.2.many+1)) ((o.2.head+o.1)%256);rw [f,c] at K;exact ⟨rfl,K⟩
 ·have hd:decide ((o.2.Ai:Int)<=(o.2.many:Int))=false:=by simp;omega
  have g:Hid (o.2.Dq o.1={ o.2 with many:=o.2.many+1,head:=(o.2.head+o.1)%256 }):=by show _=_;unfold Tr.Dq;rw [zA d]
  have q:=a.out.inv.row.frozen 10;have r:=a.out.inv.row.frozen 11;go_wp2_with fail
  go_quiet (fail)
  go_wp2
  go_ret
  rw [u.out,g.out];have K:=UT (UW (a.out.drewN nq) (o.2.many+1)) ((o.2.head+o.1)%256);rw [f,c] at K;exact ⟨rfl,K⟩
theorem eX(n b:Nat)(w:World)(h:Ft B p vo va vs t w)(hs:t.s.size<=maxLen)(hl:t.IN n)(k:n<=1000000000000000) :
  Calls prog 180 #[.pointer (some ⟨p,0,none⟩), .int .i64 b] w fun x l=>x= .returned (.tuple #[])/\Kept B p vo va vs (t.Ea b) w l:=by
 have d:=Ji h hs hl;have g:Hid (t.Ea b=if t.Au.1=b then t.Au.2 else t.Au.2.fail 4):=by show _=_;rfl
 clear h hs hl;go_enter func180,ntmps180
 go_wp2_with fail
 refine (UP n _ d.out.1 d.out.2.1 d.out.2.2 k).mono ?_;rintro e w1 ⟨rfl,i⟩;have a:=hid i;clear i d;generalize t.Au=c at *;by_cases he:c.1=b
 ·have hd:((c.1:Int) !=(b:Int))=false:=by simp;omega
  have j:=hid he;clear he;go_wp2
  go_end0
  rw [g.out,zC j.out];exact ⟨rfl,a.out⟩
 ·have hd:((c.1:Int) !=(b:Int))=true:=by simp;omega
  go_wp2_with fail
  refine (Dn 4 _ a.out.inv).mono ?_;rintro e w2 ⟨rfl,k2⟩;have f:=hid (a.out.trans k2);clear k2;go_wp2
  go_end0
  rw [g.out,zA he];exact ⟨rfl,f.out⟩
theorem eb(n:Nat)(w:World)(h:Ft B p vo va vs t w)(hs:t.s.size<=maxLen)(hl:t.IN n)(y:n<=1000000000000000) :
  Calls prog 206 #[.pointer (some ⟨p,0,none⟩)] w fun x k=>x= .returned (.tuple #[])/\Kept B p vo va vs t.text w k:=by
 have g:=CL (Kept.refl h) hl;have u:=hid hs;clear h hs hl;go_enter func206,ntmps206
 go_wp2_with fail
 go_loopw [2] (fun _ wr=>∃ t1:Tr,Hid (t1.text=t.text/\Kept B p vo va vs t1 w wr/\t1.s=t.s/\t1.IN n)) (fun _ wr=>Ml p wr)
 case atStart=>exact ⟨t,⟨rfl,g.out.1,rfl,g.out.2⟩⟩
 case round=>
  obtain ⟨t1,a⟩:=hrel;clear g;cases he:t1.ended
  ·have b:=hid he;clear he;go_wp2_with (go_at_call 182;refine (Bc _ a.out.2.1.inv).mono ?_;rw [b.out];rintro e k ⟨rfl,rfl⟩)
   refine (UP n _ a.out.2.1.inv (by rw [a.out.2.2.1];exact u.out) a.out.2.2.2 y).mono ?_;rintro e w1 ⟨rfl,o⟩;have d:=hid (a.out.2.1.trans o);have q:=hid (Tr.Jk b.out);have j:Hid (t1.Au.1=0->t1.Au.2=t.text):=fun h0=>by rw [<- a.out.1,Tr.Is b.out h0]
   have i:Hid (t1.Au.1≠0->t1.Au.2.text=t.text):=fun h0=>by rw [<- a.out.1,Tr.KR b.out h0]
   have f:=CL (a.out.2.2.2.Pm b.out) ((Tr.FK t1).s.trans a.out.2.2.1);clear o;generalize t1.Au=c at *;by_cases h0:c.1=0
   ·have hd:((c.1:Int)==0)=true:=by simp;omega
    have v:=hid h0;clear h0;go_wp2_with fail
    refine zX (vM rfl _ _ _) rfl ?_;rw [<- j.out v.out];exact ⟨rfl,d.out⟩
   ·have hd:((c.1:Int)==0)=false:=by simp;omega
    have r:=IQ (i.out h0) d.out f.out.2 f.out.1;go_wp2_with fail
    go_roundw
    case rel=>exact ⟨c.2,r⟩
    case measure=>rw [d.out.inv.Ml,a.out.2.1.inv.Ml];exact q.out
  ·have b:=hid he;clear he;go_wp2_with (go_at_call 182;refine (Bc _ a.out.2.1.inv).mono ?_;rw [b.out];rintro e k ⟨rfl,rfl⟩)
   go_end0
   have l:=a.out.1;rw [Tr.Mg b.out] at l;rw [<- l];exact ⟨rfl,a.out.2.1⟩
end Go.Proofs.YtbcjmakpempkiaaGreatDoor
