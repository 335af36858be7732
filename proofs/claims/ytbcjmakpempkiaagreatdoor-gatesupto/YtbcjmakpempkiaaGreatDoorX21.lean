import Derived.Test.YtbcjmakpempkiaaGreatDoorX19
set_option maxRecDepth 100000
set_option maxHeartbeats 8000000
set_option linter.all false
namespace Go.Proofs.YtbcjmakpempkiaaGreatDoor
variable {g:RG} {B D e k p r:Nat} {va vo vs vt:Value} {w wx:World} {m m':MG} {a b s:ByteArray} {T:Tr} {q:Cm} {n:Int} {P:List ByteArray} {l pre:List Nat} {c c':Cf}
open Go.Proofs.Tryz
open Go.RowKit
theorem Fa{P:Nat->Prop}(h0:P 0)(h1:P 1)(h2:P 2)(h3:P 3)(h4:P 4)(h5:P 5)(h6:P 6)(g:P 7)(h:P 8)(j:P 9)(a:P 10)(b:P 11)(c:P 12)(d:P 13)(e:P 14)(f:P 15)(i:Nat)(hi:i<16):P i:=by
 have:i=0\/i=1\/i=2\/i=3\/i=4\/i=5\/i=6\/i=7\/i=8\/i=9\/i=10\/i=11\/i=12\/i=13\/i=14\/i=15:=zO;rcases this with rfl | rfl | rfl | rfl | rfl | rfl | rfl | rfl | rfl | rfl | rfl | rfl | rfl | rfl | rfl | rfl <;> assumption
def ef(v:Value)(w:World):Prop:=∀ k,v.ownBlock=some k->w.heap.size<=k
def PJ(B p:Nat)(g:RG)(s:ByteArray)(w:World)(e:Ending)(w':World):Prop:=
 e= .returned (.int .i64 (g.DI s).1)/\(∃ va',JM B p va' (g.DK s) w'/\ef va' w)/\Dv p w w'/\Below B w w'
theorem Bs.drew(h:Bs w w.heap.size):Bs w.drew w.drew.heap.size:=h
structure FQ(B p r:Nat)(va vo vt vs:Value)(g:RG)(T:Tr)(w wx:World):Prop where
 hp:p<w.heap.size
 gt:JM B p va g wx
 tr:Ft w.heap.size r vo vt vs T wx
 JJ:Dv p w wx
 bel:Below B w wx
theorem FQ.drewN(h:FQ B p r va vo vt vs g T w wx)(n:Nat):FQ B p r va vo vt vs g T w (wx.drewN n):=⟨h.hp,⟨h.gt.pB,h.gt.hB,h.gt.row,h.gt.all,h.gt.pa⟩,⟨h.tr.pB,h.tr.hB,h.tr.row,h.tr.out,h.tr.Br,h.tr.Ua,h.tr.po,h.tr.pa,h.tr.ps,h.tr.oa,h.tr.os,h.tr.sa⟩,⟨h.JJ.size,h.JJ.block⟩,⟨h.bel.os,h.bel.tape,h.bel.output,h.bel.size,h.bel.block⟩⟩
theorem Oq{e:TypeId}{sz:Nat}{v:Value}{n:Nat}{xs:List Value}(h:w.ownsRow B e sz v n xs)(hp:p<B):v.ownBlock≠some p:=fun e=>by
 have:=(h.lt p e).1;omega
theorem FQ.set(h:FQ B p r va vo vt vs g T w wx)(i:Nat)(v a:Value)(d:RG)(e:∀ j,j<16->(if j=i then v else cV g va j)=cV d a j)(b:wx.ownsRow B 5 1 a d.all.length (EJ d.all))(c:a.ownBlock≠some p):FQ B p r a vo vt vs d T w (wx.setCell ⟨p,i,none⟩ v):=by
 have k:=Dv.set p wx i v;have f:r≠p:=by have:=h.tr.pB;have:=h.hp;omega
 refine ⟨h.hp,⟨h.gt.pB,zG h.gt.hB k.size,(h.gt.row.set i v).congr e,Hp b k c,c⟩,?_,h.JJ.trans k,h.bel.setCell h.gt.pB v⟩;exact ⟨h.tr.pB,zG h.tr.hB k.size,h.tr.row.of_block (k.block r h.tr.row.lt f),Hp h.tr.out k (Oq h.tr.out h.hp),Hp h.tr.Br k (Oq h.tr.Br h.hp),Hp h.tr.Ua k (Oq h.tr.Ua h.hp),h.tr.po,h.tr.pa,h.tr.ps,h.tr.oa,h.tr.os,h.tr.sa⟩
theorem FQ.OP(h:FQ B p r va vo vt vs g T w wx)(e:Nat):FQ B p r va vo vt vs { g with err:=e } T w (wx.setCell ⟨p,14,none⟩ (.int .i64 e)):=
 h.set 14 _ va { g with err:=e } (Fa rfl rfl rfl rfl rfl rfl rfl rfl rfl rfl rfl rfl rfl rfl rfl rfl) h.gt.all h.gt.pa
theorem FQ.YC(h:FQ B p r va vo vt vs g T w wx)(a:Bool):FQ B p r va vo vt vs { g with acc:=a } T w (wx.setCell ⟨p,13,none⟩ (.bool a)):=
 h.set 13 _ va { g with acc:=a } (Fa rfl rfl rfl rfl rfl rfl rfl rfl rfl rfl rfl rfl rfl rfl rfl rfl) h.gt.all h.gt.pa
structure JY(B p r:Nat)(va vo vt vs:Value)(g:RG)(T:Tr)(w wx:World)(i o e:Nat)(a:Option Bool):Prop where
 res:play (Tr.DJ T) g.q g.Ac g.closed (T.Aw+T.out.length+1) 0 0=(i,o,e,a)
 inv:FQ B p r va vo vt vs { g with err:=e,acc:=a.getD g.acc } T w wx
 hi:i<=T.Aw
 ho:o<=T.out.length
theorem Ys(s:ByteArray)(w:World)(h:JM B p va g w)(k:eo g)(he:g.err=0)(hs:s.size<=1000000000)(hd:g.Ac<=1000000000000)(hO:Bs w w.heap.size) :
  Calls prog 126 #[.pointer (some ⟨p,0,none⟩), .string s] w fun e w'=>PJ B p g s w e w':=by
 have c0:w.cell? ⟨p,0,none⟩=some (.int .i64 g.fm):=h.row.cell (i:=0) zO;have c4:w.cell? ⟨p,4,none⟩=some (.int .i64 g.mem):=h.row.cell (i:=4) zO;have c5:w.cell? ⟨p,5,none⟩=some (.int .i64 g.lim):=h.row.cell (i:=5) zO;have HI:=hid h;have HO:=hid hO;have HK:=hid k;have HS:=hid hs;have HE:=hid he;have M:=Tr.sound g.fm g.mem g.lim s hs k.mem.1;obtain ⟨T,A⟩:=qe (Tr.read g.fm g.mem g.lim s);have HT:=hid A.symm;rw [<- A] at M;have d5:=M.Aw;have hlen:=M.len;have V:=hid M;clear h hO k hs he A M;go_enter func126,ntmps126
 go_upto_region 1 with fail
 go_cut [5] (fun s5 wx=>∃ (r:Nat) (u y v:Value),s5= .pointer (some ⟨r,0,none⟩)/\Hid (FQ B p r va u y v g T w wx))
 case first=>
  go_region_with (go_at_call 155;refine (dk g.fm g.mem g.lim s w.drew HK.out.fm HS.out HO.out.drew).mono ?_;rintro e w1 ⟨r,u,y,v,rfl,A,hB⟩)
  all_goals
   have Z:Hid (FQ B p r va u y v g T w w1):=by
    have hg:=HI.out;have hl:=hg.row.lt;have kk:Kp (fun k=>k=p) (fun k=>k) w w1:=⟨hB.size,fun k hk _=>hB.block k hk⟩
    refine ⟨hl,⟨hg.pB,zG hg.hB hB.size,hg.row.of_block (hB.block p hl),?_,hg.pa⟩,by rw [<- HT.out];exact A,kk,?_⟩
    ·exact As (R:=fun _=>False) (ρ:=fun k=>k) hg.all ⟨hB.size,fun k hk _=>hB.block k hk⟩ (fun _ _ h=>h)
    ·exact (show Below w.heap.size w w1 from ⟨hB.os,hB.tape,hB.output,hB.size,hB.block⟩).mono hg.hB
   clear A hB;go_wp2_with fail
   go_meet
   exact ⟨r,u,y,v,rfl,Z⟩
 case rest=>
 obtain ⟨r,u,y,v,rfl,Z⟩:=hcut;clear c0 c4 c5;go_upto_block 0 with fail
 go_cut [6,7] (fun U so wx=>∃ (i o e:Nat) (a:Option Bool),U= .int .i64 i/\so= .int .i64 o/\Hid (JY B p r va u y v g T w wx i o e a))
 case first=>
  have HD:=hid hd;have HQ:=hid HK.out.steps;obtain ⟨G,H,J⟩:=Jp Z.out.tr.out;obtain ⟨aA,cA,d1⟩:=Jp Z.out.tr.Br;have c9:=HS.out;have e2:=HQ.out;have b4:=hid V.out.CU.Br;go_wp2_with fail
  go_loopw [6,7] (fun U so wr=>∃ i o:Nat,U= .int .i64 i/\so= .int .i64 o/\i<=T.Aw/\o<=T.out.length/\Hid (FQ B p r va u y v g T w wr)/\Hid (play (Tr.DJ T) g.q g.Ac g.closed (T.Aw+T.out.length+1) 0 0=play (Tr.DJ T) g.q g.Ac g.closed (T.Aw+T.out.length+1 - i - o) i o)) (fun U so _=>T.Aw+T.out.length - (intOf U).toNat - (intOf so).toNat)
  case atStart=>exact ⟨0,0,rfl,rfl,zH _,zH _,Z,rfl⟩
  case round=>
   obtain ⟨i,o,rfl,rfl,hi,ho,c,HW⟩:=hrel;clear Z;have t0:wr.cell? ⟨r,0,none⟩=some (.slice G T.out.length H):=by rw [<- J];exact c.out.tr.row.cell (i:=0) zO
   have t1:wr.cell? ⟨r,1,none⟩=some (.slice aA T.Br.length cA):=by rw [<- d1];exact c.out.tr.row.cell (i:=1) zO
   have t2:wr.cell? ⟨r,2,none⟩=some (.int .i64 T.Aw):=c.out.tr.row.cell (i:=2) zO;have t4:wr.cell? ⟨r,4,none⟩=some (.int .i64 T.err):=c.out.tr.row.cell (i:=4) zO;have t5:wr.cell? ⟨r,5,none⟩=some (.bool T.CZ):=c.out.tr.row.cell (i:=5) zO;have g6:wr.cell? ⟨p,6,none⟩=some (.int .i64 g.q.steps):=c.out.gt.row.cell (i:=6) zO;have g8:wr.cell? ⟨p,8,none⟩=some (.int .i64 g.Ac):=c.out.gt.row.cell (i:=8) zO;have S:wr.cell? ⟨p,12,none⟩=some (.bool g.closed):=c.out.gt.row.cell (i:=12) zO;have d9:wr.cell? ⟨p,13,none⟩=some (.bool g.acc):=c.out.gt.row.cell (i:=13) zO;have e0:wr.cell? ⟨p,14,none⟩=some (.int .i64 0):=by
    have:=c.out.gt.row.cell (i:=14) zO;rw [this];show some (Value.int .i64 (g.err:Nat))=_;rw [HE.out];rfl
   have d7:=c.out.gt.row.frozen 13;have d8:=c.out.gt.row.frozen 14;obtain ⟨f,HF,a7⟩:∃ f,Hid (T.Aw+T.out.length+1 - i - o=f+1)/\f=T.Aw+T.out.length - i - o:=⟨_,by show _=_;omega,rfl⟩
   have Y:=hid a7;have l:Hid (play (Tr.DJ T) g.q g.Ac g.closed (T.Aw+T.out.length+1) 0 0=play (Tr.DJ T) g.q g.Ac g.closed (f+1) i o):=by show _=_;rw [HW.out,HF.out]
   clear HW HF a7;by_cases hA:o<T.out.length/\T.Br.getD o 0=i
   ·obtain ⟨D,a1⟩:=hA;have N:o<T.Br.length:=by rw [b4.out];exact D
    obtain ⟨ga,ca,O,xa⟩:=Tp c.out.tr.Br N;have d4:wr.cell? ⟨r,1,none⟩=some (.slice (some ⟨ga,0,none⟩) T.Br.length ca):=by rw [<- O];exact c.out.tr.row.cell (i:=1) zO
    rw [a1] at xa;have X:=hid a1;clear t1 a1 O;by_cases F:g.Ac+64<=o
    ·have b:=l.out.trans (ah D X.out F);have b5:Hid (JY B p r va u y v g T w wr i o 0 none):=⟨b,by rw [RG.nV HE.out];exact c.out,hi,ho⟩
     clear b;go_wp2_with fail
     go_meet
     exact ⟨i,o,0,none,rfl,rfl,b5⟩
    ·by_cases hq:Cl g.q i o=0
     ·have b:=hid (l.out.trans (df D X.out F hq));have b8:=hid hq;clear hq;go_wp2_with (go_at_call 158;refine (VR i o _ c.out.gt HK.out zO zO).mono ?_;rw [b8.out];rintro e w' ⟨rfl,n,rfl⟩)
      go_roundw
      case rel=>
       have a5:=(c.out.drewN n).OP 0;rw [RG.nW HE.out] at a5;exact ⟨i,o+1,rfl,by go_num,hi,zO,a5,by show _=_;rw [b.out];congr 1;have:=Y.out;omega⟩
      case measure=>simp [intOf];omega
     ·have b:=l.out.trans (Xk D X.out F hq);have e1:=Xp g.q i o;have b6:Hid (Calls prog 158 #[.pointer (some ⟨p,0,none⟩), .int .i64 i, .int .i64 o] wr fun e w'=>e= .returned (.int .i64 (Cl g.q i o))/\∃ n,w'=wr.drewN n):=VR i o wr c.out.gt HK.out zO zO;generalize Cl g.q i o=E at *;have b2:((E:Int) !=0)=true:=by simp;omega
      have b7:Hid (∀ n,JY B p r va u y v g T w ((wr.drewN n).setCell ⟨p,14,none⟩ (.int .i64 E)) i o E none):=fun n=>⟨b,(c.out.drewN n).OP E,hi,ho⟩
      clear b;go_wp2_with (go_at_call 158;refine b6.out.mono ?_;rintro e w' ⟨rfl,n,rfl⟩)
      go_meet
      exact ⟨i,o,E,none,rfl,rfl,b7.out n⟩
   ·have C:=hid hA;have a3:¬ r=p:=by have:=c.out.tr.pB;have:=c.out.hp;omega
    have c8:¬ p=r:=fun e=>a3 e.symm
    by_cases D:o<T.out.length
    ·have N:o<T.Br.length:=by rw [b4.out];exact D
     obtain ⟨ga,ca,O,xa⟩:=Tp c.out.tr.Br N;have d4:wr.cell? ⟨r,1,none⟩=some (.slice (some ⟨ga,0,none⟩) T.Br.length ca):=by rw [<- O];exact c.out.tr.row.cell (i:=1) zO
     have d2:¬ T.Br.getD o 0=i:=fun e=>hA ⟨D,e⟩
     clear t1 O hA;generalize T.Br.getD o 0=x at xa d2;have e3:((x:Int)==(i:Int))=false:=by simp;omega
     by_cases t:i<T.Aw
     ·by_cases P:g.q.steps<=i+o
      ·have b:Hid (JY B p r va u y v g T w (wr.setCell ⟨p,14,none⟩ (.int .i64 16)) i o 16 none):=⟨l.out.trans (SX C.out t P),c.out.OP 16,hi,ho⟩
       go_wp2_with fail
       go_meet
       exact ⟨i,o,16,none,rfl,rfl,b⟩
      ·have b:=hid (l.out.trans (SY C.out t P));go_wp2_with fail
       go_roundw
       case rel=>exact ⟨i+1,o,by go_num,rfl,zO,ho,c,by show _=_;rw [b.out];congr 1;have:=Y.out;omega⟩
       case measure=>simp [intOf];omega
     ·by_cases A:T.err=0/\g.closed=true
      ·obtain ⟨d,j⟩:=A;rw [d] at t4;rw [j] at S;cases I:T.CZ
       ·rw [I] at t5;have b:Hid (JY B p r va u y v g T w ((wr.setCell ⟨p,14,none⟩ (.int .i64 0)).setCell ⟨p,13,none⟩ (.bool true)) i o 0 (some true)):=⟨(l.out.trans (KO C.out t ⟨d,j⟩)).trans (by show (i,o,(if T.CZ=true then 15 else 0),some (!T.CZ))=_;rw [I];rfl),(c.out.OP 0).YC true,hi,ho⟩
        clear d j I;go_wp2_with fail
        go_meet
        exact ⟨i,o,0,some true,rfl,rfl,b⟩
       ·rw [I] at t5;have b:Hid (JY B p r va u y v g T w (((wr.setCell ⟨p,14,none⟩ (.int .i64 0)).setCell ⟨p,13,none⟩ (.bool false)).setCell ⟨p,14,none⟩ (.int .i64 15)) i o 15 (some false)):=⟨(l.out.trans (KO C.out t ⟨d,j⟩)).trans (by show (i,o,(if T.CZ=true then 15 else 0),some (!T.CZ))=_;rw [I];rfl),((c.out.OP 0).YC false).OP 15,hi,ho⟩
        clear d j I;go_wp2_with fail
        go_meet
        exact ⟨i,o,15,some false,rfl,rfl,b⟩
      ·have b:Hid (JY B p r va u y v g T w (wr.setCell ⟨p,14,none⟩ (.int .i64 T.err)) i o T.err none):=⟨l.out.trans (SW C.out t A),c.out.OP T.err,hi,ho⟩
       by_cases d:T.err=0
       ·have j:g.closed=false:=by
         cases hc:g.closed
         ·rfl
         ·exact absurd ⟨d,hc⟩ A
        rw [d] at t4 b;rw [j] at S;clear A d j;go_wp2_with fail
        go_meet
        exact ⟨i,o,0,none,rfl,rfl,b⟩
       ·have b2:((T.err:Int)==0)=false:=by simp;omega
        clear A;go_wp2_with fail
        go_meet
        exact ⟨i,o,T.err,none,rfl,rfl,b⟩
    ·clear hA;by_cases t:i<T.Aw
     ·by_cases P:g.q.steps<=i+o
      ·have b:Hid (JY B p r va u y v g T w (wr.setCell ⟨p,14,none⟩ (.int .i64 16)) i o 16 none):=⟨l.out.trans (SX C.out t P),c.out.OP 16,hi,ho⟩
       go_wp2_with fail
       go_meet
       exact ⟨i,o,16,none,rfl,rfl,b⟩
      ·have b:=hid (l.out.trans (SY C.out t P));go_wp2_with fail
       go_roundw
       case rel=>exact ⟨i+1,o,by go_num,rfl,zO,ho,c,by show _=_;rw [b.out];congr 1;have:=Y.out;omega⟩
       case measure=>simp [intOf];omega
     ·by_cases A:T.err=0/\g.closed=true
      ·obtain ⟨d,j⟩:=A;rw [d] at t4;rw [j] at S;cases I:T.CZ
       ·rw [I] at t5;have b:Hid (JY B p r va u y v g T w ((wr.setCell ⟨p,14,none⟩ (.int .i64 0)).setCell ⟨p,13,none⟩ (.bool true)) i o 0 (some true)):=⟨(l.out.trans (KO C.out t ⟨d,j⟩)).trans (by show (i,o,(if T.CZ=true then 15 else 0),some (!T.CZ))=_;rw [I];rfl),(c.out.OP 0).YC true,hi,ho⟩
        clear d j I;go_wp2_with fail
        go_meet
        exact ⟨i,o,0,some true,rfl,rfl,b⟩
       ·rw [I] at t5;have b:Hid (JY B p r va u y v g T w (((wr.setCell ⟨p,14,none⟩ (.int .i64 0)).setCell ⟨p,13,none⟩ (.bool false)).setCell ⟨p,14,none⟩ (.int .i64 15)) i o 15 (some false)):=⟨(l.out.trans (KO C.out t ⟨d,j⟩)).trans (by show (i,o,(if T.CZ=true then 15 else 0),some (!T.CZ))=_;rw [I];rfl),((c.out.OP 0).YC false).OP 15,hi,ho⟩
        clear d j I;go_wp2_with fail
        go_meet
        exact ⟨i,o,15,some false,rfl,rfl,b⟩
      ·have b:Hid (JY B p r va u y v g T w (wr.setCell ⟨p,14,none⟩ (.int .i64 T.err)) i o T.err none):=⟨l.out.trans (SW C.out t A),c.out.OP T.err,hi,ho⟩
       by_cases d:T.err=0
       ·have j:g.closed=false:=by
         cases hc:g.closed
         ·rfl
         ·exact absurd ⟨d,hc⟩ A
        rw [d] at t4 b;rw [j] at S;clear A d j;go_wp2_with fail
        go_meet
        exact ⟨i,o,0,none,rfl,rfl,b⟩
       ·have b2:((T.err:Int)==0)=false:=by simp;omega
        clear A;go_wp2_with fail
        go_meet
        exact ⟨i,o,T.err,none,rfl,rfl,b⟩
 case rest=>
 obtain ⟨i,o,e,a,rfl,rfl,z⟩:=hcut;clear Z;have hi:=z.out.hi;have ho:=z.out.ho;have c9:=HS.out;have f7:=z.out.inv.gt.row.frozen 7;have f9:=z.out.inv.gt.row.frozen 9;have b9:=z.out.inv.gt.row.frozen 10;have a6:=z.out.inv.gt.row.frozen 11;have c1:=z.out.inv.gt.row.frozen 15;obtain ⟨G,H,J⟩:=Jp z.out.inv.tr.out;have t0:=z.out.inv.tr.row.cell (i:=0) zO;have d3:wc.cell? ⟨r,0,none⟩=some (.slice G T.out.length H):=by rw [<- J];exact t0
 have a3:¬ r=p:=by have:=z.out.inv.tr.pB;have:=z.out.inv.hp;omega
 have c8:¬ p=r:=fun e=>a3 e.symm
 have g7:wc.cell? ⟨p,7,none⟩=some (.string g.taken):=z.out.inv.gt.row.cell (i:=7) zO;have g9:wc.cell? ⟨p,9,none⟩=some (.int .i64 g.out):=z.out.inv.gt.row.cell (i:=9) zO;have c2:wc.cell? ⟨p,10,none⟩=some (.int .i64 g.steps):=z.out.inv.gt.row.cell (i:=10) zO;have a0:wc.cell? ⟨p,11,none⟩=some (.int .i64 g.members):=z.out.inv.gt.row.cell (i:=11) zO;have c3:wc.cell? ⟨p,15,none⟩=some va:=z.out.inv.gt.row.cell (i:=15) zO;obtain ⟨L,a8⟩:=qe ({ g with err:=e,acc:=a.getD g.acc }:RG);obtain ⟨W3,a2⟩:=qe ((((wc.setCell ⟨p,9,none⟩ (.int .i64 o)).setCell ⟨p,10,none⟩ (.int .i64 ((i:Int)+o))).setCell ⟨p,15,none⟩ (.slice G T.out.length H)).setCell ⟨p,11,none⟩ (.int .i64 0));have HJ:Hid (FQ B p r (.slice G T.out.length H) u y v { L with out:=o,steps:=i+o,all:=T.out,members:=RG.Cs (T.Aa.take 0) i } T w W3):=by
  have W:=z.out.inv;rw [<- a8] at W;have h1:=W.set 9 (.int .i64 o) va { L with out:=o } (Fa rfl rfl rfl rfl rfl rfl rfl rfl rfl rfl rfl rfl rfl rfl rfl rfl) W.gt.all W.gt.pa;have h2:=h1.set 10 (.int .i64 ((i:Int)+o)) va { L with out:=o,steps:=i+o } (Fa rfl rfl rfl rfl rfl rfl rfl rfl rfl rfl (by show Value.int .i64 ((i:Int)+o)= .int .i64 ((i+o:Nat):Int);simp) rfl rfl rfl rfl rfl) h1.gt.all h1.gt.pa;have b3:=W.tr.out;rw [J] at b3;have h3:=h2.set 15 (.slice G T.out.length H) (.slice G T.out.length H) { L with out:=o,steps:=i+o,all:=T.out } (Fa rfl rfl rfl rfl rfl rfl rfl rfl rfl rfl rfl rfl rfl rfl rfl rfl) (MO (by have:=h2.tr.out;rw [J] at this;exact this) (zG W.gt.pB (Nat.le_of_lt W.hp))) (Oq b3 W.hp);have h4:=h3.set 11 (.int .i64 0) (.slice G T.out.length H) { L with out:=o,steps:=i+o,all:=T.out,members:=RG.Cs (T.Aa.take 0) i } (Fa rfl rfl rfl rfl rfl rfl rfl rfl rfl rfl rfl rfl rfl rfl rfl rfl) h3.gt.all h3.gt.pa;rw [a2];exact h4
 clear t0;go_upto_block 2 with fail
 rw [<- a2];clear a2 f7 f9 b9 a6 c1 g7 g9 c2 a0 c3 d3;obtain ⟨aS,cS,d0⟩:=Jp HJ.out.tr.Ua;have d6:=zG V.out.Aa HK.out.mem.2;go_wp2_with fail
 go_loopw [8] (fun U wr=>∃ k:Nat,U= .int .i64 k/\k<=T.Aa.length/\Hid (FQ B p r (.slice G T.out.length H) u y v { L with out:=o,steps:=i+o,all:=T.out,members:=RG.Cs (T.Aa.take k) i } T w wr)) (fun U _=>T.Aa.length - (intOf U).toNat)
 case atStart=>exact ⟨0,rfl,zH _,HJ⟩
 case round=>
  obtain ⟨k,rfl,hk,c⟩:=hrel;clear HJ;have t3:wr.cell? ⟨r,3,none⟩=some (.slice aS T.Aa.length cS):=by rw [<- d0];exact c.out.tr.row.cell (i:=3) zO
  have a0:wr.cell? ⟨p,11,none⟩=some (.int .i64 (RG.Cs (T.Aa.take k) i)):=c.out.gt.row.cell (i:=11) zO;have a6:=c.out.gt.row.frozen 11;have g7:wr.cell? ⟨p,7,none⟩=some (.string L.taken):=c.out.gt.row.cell (i:=7) zO;have f7:=c.out.gt.row.frozen 7;have c6:RG.Cs (T.Aa.take k) i<=100:=zG (Wg _ _) (zG (jR _ _) zO);by_cases b1:k<T.Aa.length
  ·obtain ⟨gs,cs,a9,xs⟩:=Tp c.out.tr.Ua b1;have e4:wr.cell? ⟨r,3,none⟩=some (.slice (some ⟨gs,0,none⟩) T.Aa.length cs):=by rw [<- a9];exact c.out.tr.row.cell (i:=3) zO
   have C:=TK (i:=i) b1;clear t3 a9;generalize T.Aa.getD k 0=x at *;by_cases hx:x<i
   ·rw [zC hx] at C;have HN:Hid (FQ B p r (.slice G T.out.length H) u y v { L with out:=o,steps:=i+o,all:=T.out,members:=RG.Cs (T.Aa.take (k+1)) i } T w (wr.setCell ⟨p,11,none⟩ (.int .i64 ((RG.Cs (T.Aa.take k) i:Int)+1)))):=by
     refine c.out.set 11 _ (.slice G T.out.length H) _ (Fa rfl rfl rfl rfl rfl rfl rfl rfl rfl rfl rfl ?_ rfl rfl rfl rfl) c.out.gt.all c.out.gt.pa;show Value.int .i64 _= .int .i64 ((RG.Cs (T.Aa.take (k+1)) i:Nat):Int);rw [C];simp
    clear C;generalize RG.Cs (T.Aa.take k) i=m at *;go_wp2_with fail
    go_roundw
    case rel=>exact ⟨k+1,by go_num,zO,HN⟩
    case measure=>simp [intOf];omega
   ·rw [zA hx,vS] at C;have HN:Hid (FQ B p r (.slice G T.out.length H) u y v { L with out:=o,steps:=i+o,all:=T.out,members:=RG.Cs (T.Aa.take (k+1)) i } T w wr):=by show FQ _ _ _ _ _ _ _ _ _ _ _;rw [C];exact c.out
    clear C;go_wp2_with fail
    go_roundw
    case rel=>exact ⟨k+1,by go_num,zO,HN⟩
    case measure=>simp [intOf];omega
  ·have b0:T.Aa.take k=T.Aa:=xU zO;have Q:Hid (FQ B p r (.slice G T.out.length H) u y v { L with out:=o,steps:=i+o,all:=T.out,members:=RG.Cs T.Aa i } T w wr):=by have:=c.out;rw [b0] at this;exact this
   clear a0 c6 b0;go_wp2
   go_ret
   have a4:g.DI s=(i,o,e,a):=by unfold RG.DI RG.trace;rw [HT.out];exact z.out.res
   have c7:g.DK s={ L with out:=o,steps:=i+o,all:=T.out,members:=RG.Cs T.Aa i,taken:=s.extract 0 i }:=by unfold RG.DK RG.trace;rw [a4,HT.out,a8];rfl
   have HF:=Q.out.set 7 (.string (s.extract 0 i)) (.slice G T.out.length H) { L with out:=o,steps:=i+o,all:=T.out,members:=RG.Cs T.Aa i,taken:=s.extract 0 i } (Fa rfl rfl rfl rfl rfl rfl rfl rfl rfl rfl rfl rfl rfl rfl rfl rfl) Q.out.gt.all Q.out.gt.pa;exact ⟨by rw [a4];rfl,⟨_,by rw [c7];exact HF.gt,fun k e=>(Q.out.tr.out.lt k (by rw [J];exact e)).1⟩,HF.JJ,HF.bel⟩
theorem EX{w':World}(h:Below B w w')(n:Nat):Below B w (w'.drewN n):=⟨h.os,h.tape,h.output,h.size,h.block⟩
def RG.close(g:RG):Nat×RG:=if g.err≠0 then (g.err,g) else if g.closed=true then (3,g) else ((({ g with closed:=true }:RG).DK g.taken).err,({ g with closed:=true }:RG).DK g.taken)
structure JL(B p:Nat)(g:RG)(w w':World):Prop where
 inv:∃ va',JM B p va' g w'/\(w.cell? ⟨p,15,none⟩=some va'\/ef va' w)
 JJ:Dv p w w'
 bel:Below B w w'
theorem JL.refl(h:JM B p va g w):JL B p g w w:=⟨⟨va,h,Or.inl (h.row.cell (i:=15) zO)⟩,Dv.refl _ _,zF _ _⟩
theorem JM.set(h:JM B p va g w)(i:Nat)(v:Value)(a:RG)(c:∀ j,j<16->(if j=i then v else cV g va j)=cV a va j)(b:a.all=g.all):JM B p va a (w.setCell ⟨p,i,none⟩ v)/\Dv p w (w.setCell ⟨p,i,none⟩ v)/\Below B w (w.setCell ⟨p,i,none⟩ v):=by
 have k:=Dv.set p w i v;exact ⟨⟨h.pB,zG h.hB k.size,(h.row.set i v).congr c,by rw [b];exact Hp h.all k h.pa,h.pa⟩,k,zB.setCell h.pB v⟩
theorem Bs.up{B':Nat}(h:Bs w B)(hB:B<=B'):Bs w B':=⟨zM h.1 hB,h.2⟩
theorem ik(w:World)(h:JM B p va g w)(k:eo g)(hs:g.taken.size<=1000000000)(hd:g.Ac<=1000000000000)(u:Bs w B) :
  Calls prog 94 #[.pointer (some ⟨p,0,none⟩)] w fun e l=>e= .returned (.int .i64 g.close.1)/\JL B p g.close.2 w l:=by
 have c:w.cell? ⟨p,14,none⟩=some (.int .i64 g.err):=h.row.cell (i:=14) zO;have b:w.cell? ⟨p,12,none⟩=some (.bool g.closed):=h.row.cell (i:=12) zO;have z:w.cell? ⟨p,7,none⟩=some (.string g.taken):=h.row.cell (i:=7) zO;have t:=h.row.frozen 12;have n:=hid h;by_cases he:g.err=0
 ·cases hc:g.closed
  ·have a:Hid (g.close=((({ g with closed:=true }:RG).DK g.taken).err,({ g with closed:=true }:RG).DK g.taken)):=by show _=_;unfold RG.close;rw [zA zO,hc];rfl
   rw [he] at c;rw [hc] at b;obtain ⟨f,i2,i3⟩:=h.set 12 (.bool true) { g with closed:=true } (Fa rfl rfl rfl rfl rfl rfl rfl rfl rfl rfl rfl rfl rfl rfl rfl rfl) rfl;have q:Hid (Calls prog 126 #[.pointer (some ⟨p,0,none⟩), .string g.taken] (w.setCell ⟨p,12,none⟩ (.bool true)) fun e l=>PJ B p { g with closed:=true } g.taken (w.setCell ⟨p,12,none⟩ (.bool true)) e l):=
    Ys g.taken _ f ⟨k.fm,k.out,k.ratio,k.CH,k.mem,k.lim,k.steps⟩ he hs hd ((u.below i3).up f.hB)
   have d:=CL i2 i3;clear f i2 i3 h k he hc;go_enter func94,ntmps94
   go_wp2_with (go_at_call 126;refine q.out.mono ?_;rintro e w1 ⟨rfl,⟨j,h1,s⟩,y,r⟩;have o:=h1.row.cell (i:=14) zO)
   go_ret
   rw [a.out];exact ⟨rfl,⟨j,h1,Or.inr fun k e=>zG d.out.1.size (s k e)⟩,d.out.1.trans y,d.out.2.trans r⟩
  ·have a:Hid (g.close=(3,g)):=by show _=_;unfold RG.close;rw [zA zO,zC hc]
   rw [he] at c;rw [hc] at b;clear h he hc;go_enter func94,ntmps94
   go_wp2
   go_ret
   rw [a.out];exact ⟨rfl,JL.refl n.out⟩
 ·have a:Hid (g.close=(g.err,g)):=by show _=_;unfold RG.close;rw [zC he]
  have v:((g.err:Int) !=0)=true:=by simp;omega
  clear h;go_enter func94,ntmps94
  go_wp2
  go_ret
  rw [a.out];exact ⟨rfl,JL.refl n.out⟩
def RG.Fj(g:RG):Value:= .agg #[.int .i64 g.taken.size, .int .i64 g.out, .int .i64 (if g.err≠0 then 0 else g.out - g.Ac:Nat), .int .i64 g.members, .int .i64 g.steps, .bool g.acc, .int .i64 g.err]
theorem mR(w:World)(h:JM B p va g w)(hd:g.Ac<=g.out)(ho:g.out<=1000000000000) :
  Calls prog 95 #[.pointer (some ⟨p,0,none⟩)] w fun e l=>e= .returned g.Fj/\Below w.heap.size w l:=by
 have n:w.cell? ⟨p,7,none⟩=some (.string g.taken):=h.row.cell (i:=7) zO;have o:w.cell? ⟨p,8,none⟩=some (.int .i64 g.Ac):=h.row.cell (i:=8) zO;have q:w.cell? ⟨p,9,none⟩=some (.int .i64 g.out):=h.row.cell (i:=9) zO;have b:w.cell? ⟨p,10,none⟩=some (.int .i64 g.steps):=h.row.cell (i:=10) zO;have c:w.cell? ⟨p,11,none⟩=some (.int .i64 g.members):=h.row.cell (i:=11) zO;have d:w.cell? ⟨p,13,none⟩=some (.bool g.acc):=h.row.cell (i:=13) zO;have a:w.cell? ⟨p,14,none⟩=some (.int .i64 g.err):=h.row.cell (i:=14) zO;have j:=h.row.lt;have k:¬ p=w.heap.size:=zO;clear h;by_cases he:g.err=0
 ·rw [he] at a;go_enter func95,ntmps95
  go_wp2_with fail
  go_quiet (fail)
  go_wp2_with fail
  go_region
  go_wp2_with fail
  refine zX (v:= .agg #[.int .i64 g.taken.size, .int .i64 g.out, .int .i64 ((g.out:Int) - g.Ac), .int .i64 g.members, .int .i64 g.steps, .bool g.acc, .int .i64 0]) (by simp [results,results95,go_sem]) rfl ⟨?_,?_⟩
  ·unfold RG.Fj;rw [zA zO,he,Int.ofNat_sub hd];rfl
  ·exact (((((((EX (zB.alloc zL _) _).setCell zL _).setCell zL _).setCell zL _).setCell zL _).setCell zL _).setCell zL _).setCell zL _
 ·have f:((g.err:Int) !=0)=true:=by simp;omega
  go_enter func95,ntmps95
  go_wp2_with fail
  go_quiet (fail)
  go_wp2_with fail
  go_region
  go_wp2_with fail
  refine zX (v:= .agg #[.int .i64 g.taken.size, .int .i64 g.out, .int .i64 0, .int .i64 g.members, .int .i64 g.steps, .bool g.acc, .int .i64 g.err]) (by simp [results,results95,go_sem]) rfl ⟨?_,?_⟩
  ·unfold RG.Fj;rw [zC he];rfl
  ·exact (((((((EX (zB.alloc zL _) _).setCell zL _).setCell zL _).setCell zL _).setCell zL _).setCell zL _).setCell zL _).setCell zL _
def wi(n lo hi:Int):Bool:=decide (lo<=n/\n<=hi)
theorem FH(n lo hi:Int)(w:World):Calls prog 156 #[.int .i64 n, .int .i64 lo, .int .i64 hi] w fun e b=>e= .returned (.bool (wi n lo hi))/\w=b:=by
 by_cases h1:lo<=n
 ·by_cases h2:n<=hi
  ·have a:Hid (wi n lo hi=true):=by show _=_;simp [wi,h1,h2]
   go_enter func156,ntmps156
   go_wp2
   go_ret
   exact ⟨by rw [a.out];rfl,rfl⟩
  ·have a:Hid (wi n lo hi=false):=by show _=_;simp [wi,h2]
   go_enter func156,ntmps156
   go_wp2
   go_ret
   exact ⟨by rw [a.out];rfl,rfl⟩
 ·have a:Hid (wi n lo hi=false):=by show _=_;simp [wi,h1]
  go_enter func156,ntmps156
  go_wp2
  go_ret
  exact ⟨by rw [a.out];rfl,rfl⟩
structure Gm where
 fm:Int
 out:Int
 ratio:Int
 CH:Int
 mem:Int
 lim:Int
 steps:Int
def Gm.val(c:Gm):Value:= .agg #[.int .i64 c.fm, .int .i64 c.out, .int .i64 c.ratio, .int .i64 c.CH, .int .i64 c.mem, .int .i64 c.lim, .int .i64 c.steps]
def Gm.right(c:Gm):Bool:=wi c.fm 0 2 && wi c.out 0 100000 && wi c.ratio 0 1000 && wi c.CH 0 100000 && (wi c.mem 1 100 && wi c.lim 0 100 && wi c.steps 0 1000000)
theorem Sc(c:Gm)(w:World):Calls prog 122 #[c.val] w fun e d=>e= .returned (.bool c.right)/\Below w.heap.size w d:=by
 unfold Gm.val;have b:Hid (c.right=(wi c.fm 0 2 && wi c.out 0 100000 && wi c.ratio 0 1000 && wi c.CH 0 100000 && (wi c.mem 1 100 && wi c.lim 0 100 && wi c.steps 0 1000000))):=rfl;generalize c.right=res at *;obtain ⟨fm,out,ratio,CH,mem,lim,steps⟩:=c;simp only at b |-;cases h1:wi fm 0 2
 ·rw [h1] at b;have a:Hid (res=false):=by show _=_;rw [b.out];rfl
  clear b;go_enter func122,ntmps122
  go_wp2_with (go_at_call 156;refine (FH _ _ _ _).mono ?_;rintro e d ⟨rfl,rfl⟩)
  go_ret
  exact ⟨by rw [a.out];rfl,zB.alloc zL _⟩
 ·skip
  cases h2:wi out 0 100000
  ·rw [h1,h2] at b;have a:Hid (res=false):=by show _=_;rw [b.out];rfl
   clear b;go_enter func122,ntmps122
   go_wp2_with (go_at_call 156;refine (FH _ _ _ _).mono ?_;rintro e d ⟨rfl,rfl⟩)
   go_ret
   exact ⟨by rw [a.out];rfl,zB.alloc zL _⟩
  ·skip
   cases h3:wi ratio 0 1000
   ·rw [h1,h2,h3] at b;have a:Hid (res=false):=by show _=_;rw [b.out];rfl
    clear b;go_enter func122,ntmps122
    go_wp2_with (go_at_call 156;refine (FH _ _ _ _).mono ?_;rintro e d ⟨rfl,rfl⟩)
    go_ret
    exact ⟨by rw [a.out];rfl,zB.alloc zL _⟩
   ·skip
    cases h4:wi CH 0 100000
    ·rw [h1,h2,h3,h4] at b;have a:Hid (res=false):=by show _=_;rw [b.out];rfl
     clear b;go_enter func122,ntmps122
     go_wp2_with (go_at_call 156;refine (FH _ _ _ _).mono ?_;rintro e d ⟨rfl,rfl⟩)
     go_ret
     exact ⟨by rw [a.out];rfl,zB.alloc zL _⟩
    ·skip
     cases h5:wi mem 1 100
     ·rw [h1,h2,h3,h4,h5] at b;have a:Hid (res=false):=by show _=_;rw [b.out];rfl
      clear b;go_enter func122,ntmps122
      go_wp2_with (go_at_call 156;refine (FH _ _ _ _).mono ?_;rintro e d ⟨rfl,rfl⟩)
      go_ret
      exact ⟨by rw [a.out];rfl,zB.alloc zL _⟩
     ·skip
      cases h6:wi lim 0 100
      ·rw [h1,h2,h3,h4,h5,h6] at b;have a:Hid (res=false):=by show _=_;rw [b.out];rfl
       clear b;go_enter func122,ntmps122
       go_wp2_with (go_at_call 156;refine (FH _ _ _ _).mono ?_;rintro e d ⟨rfl,rfl⟩)
       go_ret
       exact ⟨by rw [a.out];rfl,zB.alloc zL _⟩
      ·skip
       cases f:wi steps 0 1000000
       ·rw [h1,h2,h3,h4,h5,h6,f] at b;have a:Hid (res=false):=by show _=_;rw [b.out];rfl
        clear b;go_enter func122,ntmps122
        go_wp2_with (go_at_call 156;refine (FH _ _ _ _).mono ?_;rintro e d ⟨rfl,rfl⟩)
        go_ret
        exact ⟨by rw [a.out];rfl,zB.alloc zL _⟩
       ·rw [h1,h2,h3,h4,h5,h6,f] at b;have a:Hid (res=true):=by show _=_;rw [b.out];rfl
        clear b;go_enter func122,ntmps122
        go_wp2_with (go_at_call 156;refine (FH _ _ _ _).mono ?_;rintro e d ⟨rfl,rfl⟩)
        go_ret
        exact ⟨by rw [a.out];rfl,zB.alloc zL _⟩
theorem gO(c:Gm)(w:World)(h:c.right=false):Calls prog 90 #[c.val] w fun e a=>e= .returned (.tuple #[.pointer none, .int .i64 1])/\Below w.heap.size w a:=by
 have b:Hid (∀ w,Calls prog 122 #[c.val] w fun e a=>e= .returned (.bool false)/\Below w.heap.size w a):=by
  intro w;have:=Sc c w;rw [h] at this;exact this
 unfold Gm.val at b |-;clear h;go_enter func90,ntmps90
 go_wp2_with (go_at_call 122;refine (b.out _).mono ?_;rintro e a ⟨rfl,d⟩)
 go_ret2
 exact ⟨rfl,(zB.alloc zL _).trans (d.mono zS)⟩
theorem YY{lo hi:Int}:wi n lo hi=true↔lo<=n/\n<=hi:=by simp [wi]
theorem KQ{c:Gm}:c.right=true↔(0<=c.fm/\c.fm<=2)/\(0<=c.out/\c.out<=100000)/\(0<=c.ratio/\c.ratio<=1000)/\(0<=c.CH/\c.CH<=100000)/\(1<=c.mem/\c.mem<=100)/\(0<=c.lim/\c.lim<=100)/\(0<=c.steps/\c.steps<=1000000):=by
 simp only [Gm.right,Bool.and_eq_true,YY];omega
theorem Sd{c:Gm}(h:c.right=true):c.fm=(c.fm.toNat:Int)/\c.out=(c.out.toNat:Int)/\c.ratio=(c.ratio.toNat:Int)/\c.CH=(c.CH.toNat:Int)/\c.mem=(c.mem.toNat:Int)/\c.lim=(c.lim.toNat:Int)/\c.steps=(c.steps.toNat:Int):=by
 have:=KQ.1 h;omega
def RG.fresh(c:Gm):RG:={ fm:=c.fm.toNat,mem:=c.mem.toNat,lim:=c.lim.toNat,q:=⟨c.out.toNat,c.ratio.toNat,c.CH.toNat,c.steps.toNat⟩,taken:=⟨#[]⟩,Ac:=0,out:=0,steps:=0,members:=0,closed:=false,acc:=false,err:=0,all:=[] }
theorem VG{c:Gm}(h:c.right=true):eo (RG.fresh c):=by
 have:=KQ.1 h;exact ⟨by show c.fm.toNat<=2;omega,by show c.out.toNat<=100000;omega,by show c.ratio.toNat<=1000;omega,by show c.CH.toNat<=100000;omega,by show 1<=c.mem.toNat/\c.mem.toNat<=100;omega,by show c.lim.toNat<=100;omega,by show c.steps.toNat<=1000000;omega⟩
theorem db(c:Gm)(w:World)(h:c.right=true):Calls prog 90 #[c.val] w fun e b=>∃ r,e= .returned (.tuple #[.pointer (some ⟨r,0,none⟩), .int .i64 0])/\JM w.heap.size r (.slice none 0 0) (RG.fresh c) b/\Below w.heap.size w b:=by
 have g:Hid (∀ w,Calls prog 122 #[c.val] w fun e b=>e= .returned (.bool true)/\Below w.heap.size w b):=by
  intro w;have:=Sc c w;rw [h] at this;exact this
 have i:=hid h;unfold Gm.val at g |-;clear h;go_enter func90,ntmps90
 go_wp2_with (go_at_call 122;refine (g.out _).mono ?_;rintro e b ⟨rfl,d⟩;have j:=fun o=>d.cell (p:=⟨w.heap.size,o,none⟩) zS;have f:=d.size)
 go_ret2
 obtain ⟨r1,r2,r3,r4,r5,r6,r7⟩:=Sd i.out;have a:w.heap.size<=b.heap.size:=by simp at f;omega
 refine ⟨b.heap.size,rfl,⟨a,by simp;omega,⟨_,zJ _ _,rfl,?_⟩,yU _ _ _ _,by simp [Value.ownBlock]⟩,?_⟩
 ·refine Fa ?_ ?_ ?_ ?_ ?_ ?_ ?_ rfl rfl rfl rfl rfl rfl rfl rfl rfl
  ·exact yH (fun x=>some (Value.int .i64 x)) r1
  ·exact yH (fun x=>some (Value.int .i64 x)) r2
  ·exact yH (fun x=>some (Value.int .i64 x)) r3
  ·exact yH (fun x=>some (Value.int .i64 x)) r4
  ·exact yH (fun x=>some (Value.int .i64 x)) r5
  ·exact yH (fun x=>some (Value.int .i64 x)) r6
  ·exact yH (fun x=>some (Value.int .i64 x)) r7
 ·exact ((zB.alloc zL _).trans (d.mono zS)).alloc a _
def IC(s:ByteArray)(P:List ByteArray)(k:Nat):ByteArray:=(P.take k).foldl (·++·) s
theorem Ws(s:ByteArray)(hk:k<P.length):IC s P (k+1)=IC s P k++P[k]:=by
 unfold IC;rw [vA hk,BU];rfl
theorem Uv(P:List ByteArray):∀ s:ByteArray,s.size<=(P.foldl (·++·) s).size:=by
 induction P with
 | nil=>intro s;exact zE _
 | cons x xs ih=>
  intro s;have:=ih (s++x);rw [vX] at this;show s.size<=(xs.foldl (·++·) (s++x)).size;omega
theorem bq(s:ByteArray)(P:List ByteArray)(k:Nat):(IC s P k).size<=(P.foldl (·++·) s).size:=by
 have h:P.foldl (·++·) s=(P.drop k).foldl (·++·) (IC s P k):=by
  unfold IC;rw [<- List.foldl_append,List.take_append_drop]
 rw [h];exact Uv _ _
def RG.write(g:RG)(P:List ByteArray):Int×Nat×RG:=
 if g.err≠0 then (0,g.err,g) else if g.closed=true then (0,3,g)
 else ((((g.DI (P.foldl (·++·) g.taken)).1:Nat):Int) - (g.taken.size:Int),(g.DK (P.foldl (·++·) g.taken)).err,g.DK (P.foldl (·++·) g.taken))
theorem ai{T:Tr.Ob}{cl:Bool}(f:Nat):∀ i o,i<=T.Aw->(play T q D cl f i o).1<=T.Aw:=by
 induction f with
 | zero=>intro i o h;exact h
 | succ f ih=>
  intro i o h;rw [play];split
  ·split
   ·exact h
   ·split
    ·exact h
    ·exact ih i (o+1) h
  ·split
   ·split
    ·exact h
    ·exact ih (i+1) o zO
   ·split
    ·exact h
    ·exact h
theorem im(P:List ByteArray)(ad:Option Addr)(cap:Nat)(w:World)(h:JM B p va g w)(k:eo g)(hP:Kk w ad P)(hl:P.length<=maxLen)(hs:(P.foldl (·++·) g.taken).size<=1000000000)(hd:g.Ac<=1000000000000)(J:Bs w B) :
  Calls prog 124 #[.pointer (some ⟨p,0,none⟩), .slice ad P.length cap] w fun e y=>e= .returned (.tuple #[.int .i64 (g.write P).1, .int .i64 (g.write P).2.1])/\JL B p (g.write P).2.2 w y:=by
 have r:w.cell? ⟨p,14,none⟩=some (.int .i64 g.err):=h.row.cell (i:=14) zO;have n:w.cell? ⟨p,12,none⟩=some (.bool g.closed):=h.row.cell (i:=12) zO;have O:w.cell? ⟨p,7,none⟩=some (.string g.taken):=h.row.cell (i:=7) zO;have c:=hid h;unfold maxLen at hl;by_cases he:g.err=0
 ·cases hc:g.closed
  ·have f:Hid (g.write P=((((g.DI (P.foldl (·++·) g.taken)).1:Nat):Int) - (g.taken.size:Int),(g.DK (P.foldl (·++·) g.taken)).err,g.DK (P.foldl (·++·) g.taken))):=by show _=_;unfold RG.write;rw [zA zO,hc];rfl
   rw [he] at r;rw [hc] at n;have G:Hid (Calls prog 126 #[.pointer (some ⟨p,0,none⟩), .string (P.foldl (·++·) g.taken)] w fun e y=>PJ B p g (P.foldl (·++·) g.taken) w e y):=
    Ys _ w h k he hs hd (J.up h.hB)
   have l:Hid (∀ j,(IC g.taken P j).size<=1000000000):=fun j=>zG (bq _ _ _) hs
   have d:Hid (IC g.taken P P.length=P.foldl (·++·) g.taken):=by show _=_;unfold IC;rw [vG]
   have N:g.taken.size<=1000000000:=l.out 0;have M:(g.DI (P.foldl (·++·) g.taken)).1<=1000000000:=by
    have h1:=ai (T:=g.trace (P.foldl (·++·) g.taken)) (q:=g.q) (D:=g.Ac) (cl:=g.closed) ((g.trace (P.foldl (·++·) g.taken)).Aw+(g.trace (P.foldl (·++·) g.taken)).out.length+1) 0 0 (zH _);have h2:=(Tr.sound g.fm g.mem g.lim (P.foldl (·++·) g.taken) hs k.mem.1).Aw;exact zG h1 (zG h2 hs)
   have H:=hid hP;clear h k he hc hP hs;generalize P.foldl (·++·) g.taken=S at *;go_enter func124,ntmps124
   go_wp2_with fail
   go_loop [6,8] (fun s i=>∃ j:Nat,j<=P.length/\i= .int .i64 j/\s= .string (IC g.taken P j)) (fun _ i=>P.length - (intOf i).toNat)
   case atStart=>exact ⟨0,zH _,rfl,rfl⟩
   case round=>
    obtain ⟨j,R,rfl,rfl⟩:=hrel;by_cases t:j<P.length
    ·obtain ⟨b,o,rfl,Q,u⟩:=H.out j t;have z:Hid (IC g.taken P (j+1)=IC g.taken P j++P[j]):=Ws _ t;have U:(IC g.taken P j).size+P[j].size<=1000000000:=by
      have:=l.out (j+1);rw [z.out,vX] at this;exact this
     generalize IC g.taken P j=X at *;generalize P[j]=Y at *;go_wp2_with fail
     go_round
     case rel=>exact ⟨j+1,zO,by go_num,by rw [z.out]⟩
     case measure=>simp [intOf];omega
    ·obtain rfl:j=P.length:=zO;rw [d.out];go_wp2_with (go_at_call 126;refine G.out.mono ?_;rintro e w1 ⟨rfl,⟨v,h1,E⟩,F,A⟩;have C:w1.cell? ⟨p,14,none⟩=some (.int .i64 (g.DK S).err):=h1.row.cell (i:=14) zO;have I:=IQ h1 F A E;clear h1 F A E)
     go_quiet (fail)
     go_wp2_with fail
     go_ret2
     rw [f.out];have a:=I.out;exact ⟨rfl,⟨v,⟨a.1.pB,a.1.hB,a.1.row,a.1.all,a.1.pa⟩,Or.inr a.2.2.2⟩,⟨a.2.1.size,a.2.1.block⟩,EX a.2.2.1 _⟩
  ·have f:Hid (g.write P=(0,3,g)):=by show _=_;unfold RG.write;rw [zA zO,zC hc]
   rw [he] at r;rw [hc] at n;clear h he hc;go_enter func124,ntmps124
   go_wp2_with fail
   go_ret2
   rw [f.out];exact ⟨rfl,JL.refl c.out⟩
 ·have f:Hid (g.write P=(0,g.err,g)):=by show _=_;unfold RG.write;rw [zC he]
  have L:((g.err:Int) !=0)=true:=by simp;omega
  clear h;go_enter func124,ntmps124
  go_wp2_with fail
  go_quiet (fail)
  go_wp2_with fail
  go_ret2
  rw [f.out];exact ⟨rfl,⟨va,⟨c.out.pB,c.out.hB,c.out.row,c.out.all,c.out.pa⟩,Or.inl (c.out.row.cell (i:=15) zO)⟩,⟨zE _,fun _ _ _=>rfl⟩,EX zB _⟩
def RG.many(g:RG)(n:Int):Nat:=min n.toNat (g.out - g.Ac)
def RG.drain(g:RG)(n:Int):ByteArray×Nat×RG:=
 if g.err≠0 then (⟨#[]⟩,g.err,g) else if n<0 then (⟨#[]⟩,2,g)
 else (DD ((g.all.drop g.Ac).take (g.many n)),0,({ g with Ac:=g.Ac+g.many n }:RG).DK g.taken)
theorem au(h:w.ownsRow B 5 1 va l.length (EJ l)){d:Nat}(hk:0<k)(hd:d+k<=l.length):∃ gb cap,va= .slice (some ⟨gb,0,none⟩) l.length cap/\l.length<=cap/\∀ n,(convert 34 9 (.slice (some ⟨gb,d,none⟩) k (cap - d))).run prog (w.drewN n)= .ok (.string (DD ((l.drop d).take k))) (w.drewN n):=by
 rcases h.2 with ⟨e,h0⟩ | ⟨g,b,cur,e,j,o,f,hm,hs,p⟩
 ·omega
 ·refine ⟨g,b,e,f,fun n=>?_⟩;refine AD (w.drewN n) 34 5 underlying34 underlying5 g d k (b - d) (((l.drop d).take k).map fun (n:Nat)=>(n:Int)) (by simp;omega) ?_ 9 underlying9;intro i hi;have c:=h;rw [e] at c;have a:=hi;show w.cell? ⟨g,d+i,none⟩=_;rw [xO c (d+i) zO];simp [EJ];rw [xR zO];simp [a,xR (show d+i<l.length by omega)]
theorem VQ(n:Int)(w:World)(h:JM B p va g w)(k:eo g)(he:g.err=0)(W:0<=n)(hk:0<g.many n)(M:g.Ac<=g.out)(ho:g.out<=g.all.length)(J:g.all.length<=900000000000)(hs:g.taken.size<=1000000000)(I:Bs w B) :
  Calls prog 93 #[.pointer (some ⟨p,0,none⟩), .int .i64 n] w fun e l=>e= .returned (.tuple #[.string (g.drain n).1, .int .i64 0])/\JL B p (g.drain n).2.2 w l:=by
 have C:g.Ac+g.many n<=g.all.length:=by unfold RG.many;omega
 obtain ⟨gb,cap,u,E,a⟩:=au h.all hk C;have F:w.cell? ⟨p,14,none⟩=some (.int .i64 0):=by
  rw [h.row.cell (i:=14) zO];show some (Value.int .i64 (g.err:Nat))=_;rw [he];rfl
 have S:w.cell? ⟨p,7,none⟩=some (.string g.taken):=h.row.cell (i:=7) zO;have T:w.cell? ⟨p,8,none⟩=some (.int .i64 g.Ac):=h.row.cell (i:=8) zO;have U:w.cell? ⟨p,9,none⟩=some (.int .i64 g.out):=h.row.cell (i:=9) zO;have G:w.cell? ⟨p,15,none⟩=some (.slice (some ⟨gb,0,none⟩) g.all.length cap):=by rw [<- u];exact h.row.cell (i:=15) zO
 have V:=h.row.frozen 8;have R:=hid h;have D:Hid (g.drain n=(DD ((g.all.drop g.Ac).take (g.many n)),0,({ g with Ac:=g.Ac+g.many n }:RG).DK g.taken)):=by show _=_;unfold RG.drain;rw [zA zO,zA zO]
 have t:(g.many n:Int)=if (g.out:Int) - g.Ac<n then (g.out:Int) - g.Ac else n:=by unfold RG.many;split <;> omega
 have o:Hid (∀ m,JM B p va { g with Ac:=g.Ac+g.many n } ((w.drewN m).setCell ⟨p,8,none⟩ (.int .i64 ((g.Ac:Int)+g.many n)))/\Dv p w ((w.drewN m).setCell ⟨p,8,none⟩ (.int .i64 ((g.Ac:Int)+g.many n)))/\Below B w ((w.drewN m).setCell ⟨p,8,none⟩ (.int .i64 ((g.Ac:Int)+g.many n)))):=by
  intro m;have H:JM B p va g (w.drewN m):=⟨h.pB,h.hB,h.row,h.all,h.pa⟩
  obtain ⟨A,i2,i3⟩:=H.set 8 (.int .i64 ((g.Ac:Int)+g.many n)) { g with Ac:=g.Ac+g.many n } (Fa rfl rfl rfl rfl rfl rfl rfl rfl (by show Value.int .i64 ((g.Ac:Int)+g.many n)= .int .i64 ((g.Ac+g.many n:Nat):Int);simp) rfl rfl rfl rfl rfl rfl rfl) rfl;exact ⟨A,⟨i2.size,i2.block⟩,(EX (zF B w) m).trans i3⟩
 have y:Hid (∀ m,Calls prog 126 #[.pointer (some ⟨p,0,none⟩), .string g.taken] ((w.drewN m).setCell ⟨p,8,none⟩ (.int .i64 ((g.Ac:Int)+g.many n))) fun e l=>PJ B p { g with Ac:=g.Ac+g.many n } g.taken ((w.drewN m).setCell ⟨p,8,none⟩ (.int .i64 ((g.Ac:Int)+g.many n))) e l):=by
  intro m;obtain ⟨A,i2,i3⟩:=o.out m;exact Ys g.taken _ A ⟨k.fm,k.out,k.ratio,k.CH,k.mem,k.lim,k.steps⟩ he hs (by show g.Ac+g.many n<=_;omega) ((I.below i3).up A.hB)
 have L:¬ cap=g.Ac:=zO;clear h k he u;obtain ⟨m,rfl⟩:∃ m:Nat,n=(m:Int):=⟨n.toNat,zO⟩
 have Q:Hid (g.Ac+g.many m<=900000000000):=by show _<=_;omega
 by_cases N:(g.out:Int) - g.Ac<(m:Int)
 ·have z:g.many m=g.out - g.Ac:=by unfold RG.many;omega
  have f:∀ n,(convert 34 9 (.slice (some ⟨gb,g.Ac,none⟩) (g.out - g.Ac) (cap - g.Ac))).run prog (w.drewN n)= .ok (.string (DD ((g.all.drop g.Ac).take (g.many m)))) (w.drewN n):=by
   rw [show g.out - g.Ac=g.many m by omega];exact a
  have j:Hid (∀ q,Calls prog 126 #[.pointer (some ⟨p,0,none⟩), .string g.taken] ((w.drewN q).setCell ⟨p,8,none⟩ (.int .i64 ((g.Ac:Int)+((g.out:Int) - g.Ac)))) fun e l=>PJ B p { g with Ac:=g.Ac+g.many m } g.taken ((w.drewN q).setCell ⟨p,8,none⟩ (.int .i64 ((g.Ac:Int)+((g.out:Int) - g.Ac)))) e l):=by
   have e:(g.Ac:Int)+((g.out:Int) - g.Ac)=(g.Ac:Int)+g.many m:=zO;rw [e];exact y.out
  have b:Hid (∀ q,JM B p va { g with Ac:=g.Ac+g.many m } ((w.drewN q).setCell ⟨p,8,none⟩ (.int .i64 ((g.Ac:Int)+((g.out:Int) - g.Ac))))/\Dv p w ((w.drewN q).setCell ⟨p,8,none⟩ (.int .i64 ((g.Ac:Int)+((g.out:Int) - g.Ac))))/\Below B w ((w.drewN q).setCell ⟨p,8,none⟩ (.int .i64 ((g.Ac:Int)+((g.out:Int) - g.Ac))))):=by
   have e:(g.Ac:Int)+((g.out:Int) - g.Ac)=(g.Ac:Int)+g.many m:=zO;rw [e];exact o.out
  clear a y t z o;generalize DD ((g.all.drop g.Ac).take (g.many m))=X at *;go_enter func93,ntmps93
  go_wp2_with fail
  go_quiet (fail)
  go_wp2_with fail
  go_quiet (fail)
  go_wp2_with fail
  go_region
  go_wp2_with fail
  refine (j.out _).mono ?_;rintro e w1 ⟨rfl,⟨c,h1,s⟩,v,r⟩;have d:Hid ((JM B p c (({ g with Ac:=g.Ac+g.many m }:RG).DK g.taken) w1/\ef c w)/\Dv p w w1/\Below B w w1):=⟨⟨h1,fun k e=>zG (b.out _).2.1.size (s k e)⟩,(b.out _).2.1.trans v,(b.out _).2.2.trans r⟩
  clear h1 v r s;go_wp2_with fail
  go_ret2
  rw [D.out];exact ⟨rfl,⟨c,d.out.1.1,Or.inr d.out.1.2⟩,d.out.2.1,d.out.2.2⟩
 ·have z:g.many m=m:=by unfold RG.many;omega
  have f:∀ n,(convert 34 9 (.slice (some ⟨gb,g.Ac,none⟩) m (cap - g.Ac))).run prog (w.drewN n)= .ok (.string (DD ((g.all.drop g.Ac).take (g.many m)))) (w.drewN n):=by
   have:=a;rw [z] at this |-;exact this
  have j:Hid (∀ q,Calls prog 126 #[.pointer (some ⟨p,0,none⟩), .string g.taken] ((w.drewN q).setCell ⟨p,8,none⟩ (.int .i64 ((g.Ac:Int)+(m:Int)))) fun e l=>PJ B p { g with Ac:=g.Ac+g.many m } g.taken ((w.drewN q).setCell ⟨p,8,none⟩ (.int .i64 ((g.Ac:Int)+(m:Int)))) e l):=by
   have e:(g.Ac:Int)+(m:Int)=(g.Ac:Int)+g.many m:=zO;rw [e];exact y.out
  have b:Hid (∀ q,JM B p va { g with Ac:=g.Ac+g.many m } ((w.drewN q).setCell ⟨p,8,none⟩ (.int .i64 ((g.Ac:Int)+(m:Int))))/\Dv p w ((w.drewN q).setCell ⟨p,8,none⟩ (.int .i64 ((g.Ac:Int)+(m:Int))))/\Below B w ((w.drewN q).setCell ⟨p,8,none⟩ (.int .i64 ((g.Ac:Int)+(m:Int))))):=by
   have e:(g.Ac:Int)+(m:Int)=(g.Ac:Int)+g.many m:=zO;rw [e];exact o.out
  have P:m<=900000000000:=zO;have O:g.Ac+m<=g.all.length:=zO;clear a y t z o;generalize DD ((g.all.drop g.Ac).take (g.many m))=X at *;go_enter func93,ntmps93
  go_wp2_with fail
  go_quiet (fail)
  go_wp2_with fail
  go_region
  go_wp2_with fail
  refine (j.out _).mono ?_;rintro e w1 ⟨rfl,⟨c,h1,s⟩,v,r⟩;have d:Hid ((JM B p c (({ g with Ac:=g.Ac+g.many m }:RG).DK g.taken) w1/\ef c w)/\Dv p w w1/\Below B w w1):=⟨⟨h1,fun k e=>zG (b.out _).2.1.size (s k e)⟩,(b.out _).2.1.trans v,(b.out _).2.2.trans r⟩
  clear h1 v r s;go_wp2_with fail
  go_ret2
  rw [D.out];exact ⟨rfl,⟨c,d.out.1.1,Or.inr d.out.1.2⟩,d.out.2.1,d.out.2.2⟩
theorem VP(n:Int)(w:World)(h:JM B p va g w)(k:eo g)(he:g.err=0)(Y:0<=n)(hk:g.many n=0)(U:g.Ac<=g.out)(ho:g.out<=g.all.length)(S:g.all.length<=900000000000)(hs:g.taken.size<=1000000000)(R:Bs w B) :
  Calls prog 93 #[.pointer (some ⟨p,0,none⟩), .int .i64 n] w fun e M=>e= .returned (.tuple #[.string (g.drain n).1, .int .i64 0])/\JL B p (g.drain n).2.2 w M:=by
 have O:w.cell? ⟨p,14,none⟩=some (.int .i64 0):=by
  rw [h.row.cell (i:=14) zO];show some (Value.int .i64 (g.err:Nat))=_;rw [he];rfl
 have W:w.cell? ⟨p,7,none⟩=some (.string g.taken):=h.row.cell (i:=7) zO;have P:w.cell? ⟨p,8,none⟩=some (.int .i64 g.Ac):=h.row.cell (i:=8) zO;have F:w.cell? ⟨p,9,none⟩=some (.int .i64 g.out):=h.row.cell (i:=9) zO;have X:=h.row.frozen 8;have v:Hid (g.drain n=(⟨#[]⟩,0,g.DK g.taken)):=by
  show _=_;unfold RG.drain;rw [zA zO,zA zO,hk];rfl
 have b:Hid (∀ m,JM B p va g ((w.drewN m).setCell ⟨p,8,none⟩ (.int .i64 g.Ac))/\Dv p w ((w.drewN m).setCell ⟨p,8,none⟩ (.int .i64 g.Ac))/\Below B w ((w.drewN m).setCell ⟨p,8,none⟩ (.int .i64 g.Ac))):=by
  intro m;have Q:JM B p va g (w.drewN m):=⟨h.pB,h.hB,h.row,h.all,h.pa⟩
  obtain ⟨E,i2,i3⟩:=Q.set 8 (.int .i64 g.Ac) g (Fa rfl rfl rfl rfl rfl rfl rfl rfl rfl rfl rfl rfl rfl rfl rfl rfl) rfl;exact ⟨E,⟨i2.size,i2.block⟩,(EX (zF B w) m).trans i3⟩
 have o:Hid (∀ m,Calls prog 126 #[.pointer (some ⟨p,0,none⟩), .string g.taken] ((w.drewN m).setCell ⟨p,8,none⟩ (.int .i64 g.Ac)) fun e M=>PJ B p g g.taken ((w.drewN m).setCell ⟨p,8,none⟩ (.int .i64 g.Ac)) e M):=by
  intro m;obtain ⟨E,i2,i3⟩:=b.out m;exact Ys g.taken _ E k he hs zO ((R.below i3).up E.hB)
 obtain ⟨m,rfl⟩:∃ m:Nat,n=(m:Int):=⟨n.toNat,zO⟩
 have r:(m=0/\¬ (g.out:Int) - g.Ac<(m:Int))\/(g.out=g.Ac/\0<m):=by unfold RG.many at hk;omega
 have t:=h.all;have y:w.cell? ⟨p,15,none⟩=some va:=h.row.cell (i:=15) zO;clear h k he hk;have D:∀ (gb off c q:Nat),(convert 34 9 (.slice (some ⟨gb,off,none⟩) 0 c)).run prog (w.drewN q)= .ok (.string ⟨#[]⟩) (w.drewN q):=by
  intro gb off c q;exact AD (w.drewN q) 34 5 underlying34 underlying5 gb off 0 c [] rfl (fun i hi=>zO) 9 underlying9
 have C:∀ (q:Nat),(convert 34 9 (.slice none 0 0)).run prog (w.drewN q)= .ok (.string ⟨#[]⟩) (w.drewN q):=by
  intro q;exact run_convert_bytes_nil (w.drewN q) 34 5 underlying34 underlying5 _ _ 9 underlying9
 rcases t.2 with ⟨hv,h0⟩ | ⟨gb,cap,cur,hv,T,V,N,hm,J,L⟩
 ·have H:g.Ac=0:=zO;have I:g.out=0:=zO;rw [hv] at y;rw [I] at F;rw [H] at P b o;clear t hv h0;rcases r with ⟨rfl,u⟩ | ⟨s,z⟩
  ·clear u;go_enter func93,ntmps93
   go_wp2_with fail
   go_quiet (fail)
   go_wp2_with fail
   go_region
   go_wp2_with fail
   refine (o.out _).mono ?_;rintro e w1 ⟨rfl,⟨a,h1,j⟩,l,f⟩;have d:Hid ((JM B p a (g.DK g.taken) w1/\ef a w)/\Dv p w w1/\Below B w w1):=⟨⟨h1,fun k e=>zG (b.out _).2.1.size (j k e)⟩,(b.out _).2.1.trans l,(b.out _).2.2.trans f⟩
   clear h1 l f j;go_wp2_with fail
   go_ret2
   rw [v.out];exact ⟨rfl,⟨a,d.out.1.1,Or.inr d.out.1.2⟩,d.out.2.1,d.out.2.2⟩
  ·skip
   go_enter func93,ntmps93
   go_wp2_with fail
   go_quiet (fail)
   go_wp2_with fail
   go_quiet (fail)
   go_wp2_with fail
   go_region
   go_wp2_with fail
   refine (o.out _).mono ?_;rintro e w1 ⟨rfl,⟨a,h1,j⟩,l,f⟩;have d:Hid ((JM B p a (g.DK g.taken) w1/\ef a w)/\Dv p w w1/\Below B w w1):=⟨⟨h1,fun k e=>zG (b.out _).2.1.size (j k e)⟩,(b.out _).2.1.trans l,(b.out _).2.2.trans f⟩
   clear h1 l f j;go_wp2_with fail
   go_ret2
   rw [v.out];exact ⟨rfl,⟨a,d.out.1.1,Or.inr d.out.1.2⟩,d.out.2.1,d.out.2.2⟩
 ·rw [hv] at y;clear t hv V T hm J L;by_cases G:cap=g.Ac
  ·subst G;have s:g.out=g.Ac:=zO;rw [s] at F;clear s;rcases r with ⟨rfl,u⟩ | ⟨A,z⟩
   ·clear u;go_enter func93,ntmps93
    go_wp2_with fail
    go_quiet (fail)
    go_wp2_with fail
    go_region
    go_wp2_with fail
    refine (o.out _).mono ?_;rintro e w1 ⟨rfl,⟨a,h1,j⟩,l,f⟩;have d:Hid ((JM B p a (g.DK g.taken) w1/\ef a w)/\Dv p w w1/\Below B w w1):=⟨⟨h1,fun k e=>zG (b.out _).2.1.size (j k e)⟩,(b.out _).2.1.trans l,(b.out _).2.2.trans f⟩
    clear h1 l f j;go_wp2_with fail
    go_ret2
    rw [v.out];exact ⟨rfl,⟨a,d.out.1.1,Or.inr d.out.1.2⟩,d.out.2.1,d.out.2.2⟩
   ·clear A;go_enter func93,ntmps93
    go_wp2_with fail
    go_quiet (fail)
    go_wp2_with fail
    go_quiet (fail)
    go_wp2_with fail
    go_region
    go_wp2_with fail
    refine (o.out _).mono ?_;rintro e w1 ⟨rfl,⟨a,h1,j⟩,l,f⟩;have d:Hid ((JM B p a (g.DK g.taken) w1/\ef a w)/\Dv p w w1/\Below B w w1):=⟨⟨h1,fun k e=>zG (b.out _).2.1.size (j k e)⟩,(b.out _).2.1.trans l,(b.out _).2.2.trans f⟩
    clear h1 l f j;go_wp2_with fail
    go_ret2
    rw [v.out];exact ⟨rfl,⟨a,d.out.1.1,Or.inr d.out.1.2⟩,d.out.2.1,d.out.2.2⟩
  ·rcases r with ⟨rfl,u⟩ | ⟨s,z⟩
   ·skip
    go_enter func93,ntmps93
    go_wp2_with fail
    go_quiet (fail)
    go_wp2_with fail
    go_region
    go_wp2_with fail
    refine (o.out _).mono ?_;rintro e w1 ⟨rfl,⟨a,h1,j⟩,l,f⟩;have d:Hid ((JM B p a (g.DK g.taken) w1/\ef a w)/\Dv p w w1/\Below B w w1):=⟨⟨h1,fun k e=>zG (b.out _).2.1.size (j k e)⟩,(b.out _).2.1.trans l,(b.out _).2.2.trans f⟩
    clear h1 l f j;go_wp2_with fail
    go_ret2
    rw [v.out];exact ⟨rfl,⟨a,d.out.1.1,Or.inr d.out.1.2⟩,d.out.2.1,d.out.2.2⟩
   ·rw [s] at F;clear s;go_enter func93,ntmps93
    go_wp2_with fail
    go_quiet (fail)
    go_wp2_with fail
    go_quiet (fail)
    go_wp2_with fail
    go_region
    go_wp2_with fail
    refine (o.out _).mono ?_;rintro e w1 ⟨rfl,⟨a,h1,j⟩,l,f⟩;have d:Hid ((JM B p a (g.DK g.taken) w1/\ef a w)/\Dv p w w1/\Below B w w1):=⟨⟨h1,fun k e=>zG (b.out _).2.1.size (j k e)⟩,(b.out _).2.1.trans l,(b.out _).2.2.trans f⟩
    clear h1 l f j;go_wp2_with fail
    go_ret2
    rw [v.out];exact ⟨rfl,⟨a,d.out.1.1,Or.inr d.out.1.2⟩,d.out.2.1,d.out.2.2⟩
theorem il(n:Int)(w:World)(h:JM B p va g w)(k:eo g)(c:g.Ac<=g.out)(ho:g.out<=g.all.length)(b:g.all.length<=900000000000)(hs:g.taken.size<=1000000000)(l:Bs w B) :
  Calls prog 93 #[.pointer (some ⟨p,0,none⟩), .int .i64 n] w fun e s=>e= .returned (.tuple #[.string (g.drain n).1, .int .i64 (g.drain n).2.1])/\JL B p (g.drain n).2.2 w s:=by
 have f:w.cell? ⟨p,14,none⟩=some (.int .i64 g.err):=h.row.cell (i:=14) zO;by_cases he:g.err=0
 ·by_cases j:0<=n
  ·have o:(g.drain n).2.1=0:=by unfold RG.drain;rw [zA zO,zA zO]
   rw [o];by_cases hk:g.many n=0
   ·exact VP n w h k he j hk c ho b hs l
   ·exact VQ n w h k he j zO c ho b hs l
  ·have d:Hid (g.drain n=(⟨#[]⟩,2,g)):=by show _=_;unfold RG.drain;rw [zA zO,zC zO]
   have a:=hid h;have q:n<0:=zO;rw [he] at f;clear h k j;go_enter func93,ntmps93
   go_wp2_with fail
   go_ret2
   rw [d.out];exact ⟨rfl,JL.refl a.out⟩
 ·have d:Hid (g.drain n=(⟨#[]⟩,g.err,g)):=by show _=_;unfold RG.drain;rw [zC he]
  have a:=hid h;have r:((g.err:Int) !=0)=true:=by simp;omega
  clear h k;go_enter func93,ntmps93
  go_wp2_with fail
  go_quiet (fail)
  go_wp2_with fail
  go_ret2
  rw [d.out];exact ⟨rfl,⟨va,⟨a.out.pB,a.out.hB,a.out.row,a.out.all,a.out.pa⟩,Or.inl (a.out.row.cell (i:=15) zO)⟩,⟨zE _,fun _ _ _=>rfl⟩,EX zB _⟩
structure TC(m:MG)(s:ByteArray)(m':MG):Prop where
 run:∃ c' e a,Steps m.q m.Ac s m.c c'/\Halt m.q m.Ac s m.closed c' e a/\m'={ m with c:=c',err:=e,acc:=a.getD m.acc }
theorem Twin.DK(w:Twin g m)(b:CI m.c.pre s)(h:TC m s m'):(g.DI s).1=m'.c.pre.length/\Twin (g.DK s) m':=by
 obtain ⟨d,e,a,h1,h2,rfl⟩:=h.run;exact aH w b h1 h2
theorem KE(P:List ByteArray):∀ {s:ByteArray},CI pre s->CI pre (P.foldl (·++·) s):=by
 induction P with
 | nil=>exact fun h=>h
 | cons x xs ih=>exact fun h=>ih (h.append x)
inductive Hf(m:MG)(P:List ByteArray):MG->Int->Nat->Prop
 | refused:m.err≠0->Hf m P m 0 m.err
 | closed:m.err=0->m.closed=true->Hf m P m 0 3
 | DK (s:ByteArray) (m':MG):m.err=0->m.closed=false->CI m.c.pre s->s.size=m.c.pre.length->TC m (P.foldl (·++·) s) m'->Hf m P m' ((m'.c.pre.length:Int) - m.c.pre.length) m'.err
theorem Zh(hs:a.size=b.size)(h:∀ k,k<a.size->Bm a k=Bm b k):a=b:=by
 apply ByteArray.ext;apply Array.ext
 ·exact hs
 ·intro i h1 h2;have:=h i h1;rw [Hb a i h1,Hb b i h2] at this;exact UInt8.toNat_inj.1 this
theorem Qv(c:CI pre a)(d:CI pre b)(h1:a.size=pre.length)(h2:b.size=pre.length):a=b:=
 Zh (h1.trans h2.symm) fun k hk=>(c.at_ k zO).trans (d.at_ k zO).symm
theorem Twin.write(w:Twin g m)(h:Hf m P m' n e):(g.write P).1=n/\(g.write P).2.1=e/\Twin (g.write P).2.2 m':=by
 cases h with
 | refused h1=>
  have a:g.write P=(0,g.err,g):=by unfold RG.write;rw [zC (by rw [w.err];exact h1)]
  rw [a];exact ⟨rfl,w.err,w⟩
 | closed h1 h2=>
  have a:g.write P=(0,3,g):=by unfold RG.write;rw [zA (by rw [w.err];omega),zC (by rw [w.closed];exact h2)]
  rw [a];exact ⟨rfl,rfl,w⟩
 | DK s _ h1 h2 h3 h4 h5=>
  have b:=Qv h3 w.taken.1 h4 w.taken.2;subst b;obtain ⟨t1,t2⟩:=w.DK (KE P h3) h5;have a:g.write P=((((g.DI (P.foldl (·++·) g.taken)).1:Nat):Int) - (g.taken.size:Int),(g.DK (P.foldl (·++·) g.taken)).err,g.DK (P.foldl (·++·) g.taken)):=by
   unfold RG.write;rw [zA (by rw [w.err];omega),zA (by rw [w.closed,h2];simp)]
  rw [a,t1,h4];exact ⟨rfl,t2.err,t2⟩
inductive Ki(m:MG)(n:Int):MG->List Nat->Nat->Prop
 | refused:m.err≠0->Ki m n m [] m.err
 | iS:m.err=0->n<0->Ki m n m [] 2
 | DK (s:ByteArray) (m':MG):m.err=0->0<=n->CI m.c.pre s->s.size=m.c.pre.length->TC { m with Ac:=m.Ac+min n.toNat (m.c.outs.length - m.Ac) } s m'->Ki m n m' ((m.c.outs.drop m.Ac).take (min n.toNat (m.c.outs.length - m.Ac))) 0
theorem Twin.TV(w:Twin g m)(hk:m.Ac+k<=m.c.outs.length):Twin ({ g with Ac:=g.Ac+k }:RG) { m with Ac:=m.Ac+k }:=⟨w.Hv,w.mem,w.q,w.closed,w.err,w.acc,by show g.Ac+k=m.Ac+k;rw [w.Ac],hk,w.taken,w.out,w.steps,w.members,w.all,fun s D b a=>w.path s D b (by have:m.Ac+k<=D:=a;omega)⟩
theorem Twin.drain(w:Twin g m)(h:Ki m n m' l e):(g.drain n).1=DD l/\(g.drain n).2.1=e/\Twin (g.drain n).2.2 m':=by
 cases h with
 | refused h1=>
  have a:g.drain n=(⟨#[]⟩,g.err,g):=by unfold RG.drain;rw [zC (by rw [w.err];exact h1)]
  rw [a];exact ⟨rfl,w.err,w⟩
 | iS h1 h2=>
  have a:g.drain n=(⟨#[]⟩,2,g):=by unfold RG.drain;rw [zA (by rw [w.err];omega),zC h2]
  rw [a];exact ⟨rfl,rfl,w⟩
 | DK s _ h1 h2 h3 h4 h5=>
  have d:=Qv h3 w.taken.1 h4 w.taken.2;subst d;have hm:g.many n=min n.toNat (m.c.outs.length - m.Ac):=by unfold RG.many;rw [w.out,w.Ac]
  have b:=w.le;have w2:=w.TV (k:=min n.toNat (m.c.outs.length - m.Ac)) zO;obtain ⟨t1,t2⟩:=w2.DK h3 h5;have a:g.drain n=(DD ((g.all.drop g.Ac).take (g.many n)),0,({ g with Ac:=g.Ac+g.many n }:RG).DK g.taken):=by
   unfold RG.drain;rw [zA (by rw [w.err];omega),zA zO]
  rw [a,hm];refine ⟨?_,rfl,t2⟩;obtain ⟨l,hl⟩:=w.all;show DD _=DD _;rw [hl,w.Ac,kR b,BN (by rw [xI];omega)]
inductive Kh(m:MG):MG->Nat->Prop
 | refused:m.err≠0->Kh m m m.err
 | closed:m.err=0->m.closed=true->Kh m m 3
 | DK (s:ByteArray) (m':MG):m.err=0->m.closed=false->CI m.c.pre s->s.size=m.c.pre.length->TC { m with closed:=true } s m'->Kh m m' m'.err
theorem Twin.close(w:Twin g m)(h:Kh m m' e):g.close.1=e/\Twin g.close.2 m':=by
 cases h with
 | refused h1=>
  have a:g.close=(g.err,g):=by unfold RG.close;rw [zC (by rw [w.err];exact h1)]
  rw [a];exact ⟨w.err,w⟩
 | closed h1 h2=>
  have a:g.close=(3,g):=by unfold RG.close;rw [zA (by rw [w.err];omega),zC (by rw [w.closed];exact h2)]
  rw [a];exact ⟨rfl,w⟩
 | DK s _ h1 h2 h3 h4 h5=>
  have b:=Qv h3 w.taken.1 h4 w.taken.2;subst b;have w2:Twin ({ g with closed:=true }:RG) { m with closed:=true }:=⟨w.Hv,w.mem,w.q,rfl,w.err,w.acc,w.Ac,w.le,w.taken,w.out,w.steps,w.members,w.all,w.path⟩
  obtain ⟨t1,t2⟩:=w2.DK h3 h5;have a:g.close=((({ g with closed:=true }:RG).DK g.taken).err,({ g with closed:=true }:RG).DK g.taken):=by
   unfold RG.close;rw [zA (by rw [w.err];omega),zA (by rw [w.closed,h2];simp)]
  rw [a];exact ⟨t2.err,t2⟩
theorem Twin.fresh{c:Gm}(h:c.right=true):Twin (RG.fresh c) ⟨Cf.begin c.fm.toNat c.mem.toNat c.lim.toNat,⟨c.out.toNat,c.ratio.toNat,c.CH.toNat,c.steps.toNat⟩,0,false,0,false⟩:=by
 have k:=VG h;exact ⟨Dr.begin (by have:=k.fm;show c.fm.toNat<3;have:c.fm.toNat<=2:=this;omega) k.mem.1,k.mem.1,rfl,rfl,rfl,rfl,rfl,zH _,⟨CI.nil _,rfl⟩,rfl,rfl,rfl,⟨[],rfl⟩,fun s D _ _=> .refl _⟩
structure PE(q:Cm)(D:Nat)(c:Cf):Prop where
 st:c.pre.length+c.outs.length<=q.steps
 ou:c.outs.length<=q.out
 ra:c.outs.length<=q.ratio*c.pre.length+q.CH
 ro:c.outs.length<=D+64
theorem Tt{i o:Nat}(h:Cl q i o=0):i+o<q.steps/\o<q.out/\o<q.ratio*i+q.CH:=by
 unfold Cl at h;split at h
 ·cases h
 ·split at h
  ·cases h
  ·split at h
   ·cases h
   ·omega
theorem PE.step(h:PE q D c)(k:DL q D s c c'):PE q D c':=by
 obtain ⟨h1,h2,h3,h4⟩:=h;cases k with
 | take g1 g2 g3=>
  refine ⟨?_,h2,?_,h4⟩
  ·show (c.pre++[_]).length+c.outs.length<=_;rw [zI];simp only [yG,xA];omega
  ·show c.outs.length<=q.ratio*(c.pre++[_]).length+q.CH;rw [zI];have h5:q.ratio*c.pre.length<=q.ratio*(c.pre.length+1):=Nat.mul_le_mul zL zO;show c.outs.length<=q.ratio*(c.pre.length+1)+q.CH;omega
 | put b σ' g1 g2 g3=>
  obtain ⟨a,k2,k3⟩:=Tt g3;refine ⟨?_,?_,?_,?_⟩
  ·show c.pre.length+(c.outs++[b]).length<=_;rw [zI];simp only [yG,xA];omega
  ·show (c.outs++[b]).length<=_;rw [zI];simp only [yG,xA];omega
  ·show (c.outs++[b]).length<=q.ratio*c.pre.length+q.CH;rw [zI];simp only [yG,xA];omega
  ·show (c.outs++[b]).length<=_;rw [zI];simp only [yG,xA];omega
 | DF σ' g1=>exact ⟨h1,h2,h3,h4⟩
theorem PE.steps(k:Steps q D s c c'):PE q D c->PE q D c':=by
 induction k with
 | refl=>exact fun h=>h
 | step a b c h1 _ ih=>exact fun h=>ih (h.step h1)
structure JN(m:MG):Prop where
 ck:PE m.q m.Ac m.c
 dr:m.Ac<=m.c.outs.length
theorem TC.kept(h:TC m s m')(k:JN m):JN m'/\m'.q=m.q/\m'.Ac=m.Ac/\m'.closed=m.closed/\KW m.c m'.c:=by
 obtain ⟨b,e,a,h1,h2,rfl⟩:=h.run;have g:=h1.Lx;refine ⟨⟨k.ck.steps h1,?_⟩,rfl,rfl,rfl,g⟩;obtain ⟨l,hl⟩:=g.outs;show m.Ac<=b.outs.length;rw [hl,zI];have:=k.dr;omega
theorem TC.Hv{fm mem lim:Nat}(h:TC m s m')(G:Dr fm mem lim m.c)(b:CI m.c.pre s):Dr fm mem lim m'.c:=by
 obtain ⟨d,e,a,h1,h2,rfl⟩:=h.run;exact (Dr.steps h1 G b).1
def MG.fresh(c:Gm):MG:=⟨Cf.begin c.fm.toNat c.mem.toNat c.lim.toNat,⟨c.out.toNat,c.ratio.toNat,c.CH.toNat,c.steps.toNat⟩,0,false,0,false⟩
end Go.Proofs.YtbcjmakpempkiaaGreatDoor
