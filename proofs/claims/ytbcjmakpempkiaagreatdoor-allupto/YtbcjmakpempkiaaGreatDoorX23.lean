import Derived.Test.YtbcjmakpempkiaaGreatDoorX18
set_option maxRecDepth 100000
set_option maxHeartbeats 8000000
set_option linter.all false
namespace Go.Proofs.YtbcjmakpempkiaaGreatDoor
variable {x:MS} {q:Cm} {D g p:Nat} {s:ByteArray} {c c':Cf} {W w w':World} {ρ:Nat->Nat} {l:List Int} {σ:St}
open Go.Proofs.Tryz
theorem YV{σ':St}{b:Nat}(W:St.Wf σ)(a:σ.act= .put b σ'):St.Wf σ':=by
 have N:=St.next W;rw [a] at N;exact N.1
theorem ay(N:Sn q D s x c):x={ x with held:=c.σ.held,count:=c.σ.count }:=by rw [<- N.sm.held,<- N.sm.count]
theorem KV.left(F:KV c c'):c'.σ.left=c.σ.left:=by rw [F.σ]
theorem bC(n:Nat):∀ {x:MS} {c:Cf},Sn q D s x c->c.σ.st=8->x.left=n->Out q D s c (MS.IV n x):=by
 induction n with
 | zero=>
  intro x c N d hl;have b:c.σ.left=0:=by rw [<- N.sm.left];exact hl
  refine MZ N c.σ x rfl (ay N) ?_ zO N.sm.wf.held;rw [St.Af d];exact zC b
 | succ n ih=>
  intro x c N d hl;have b:c.σ.left=n+1:=by rw [<- N.sm.left];exact hl
  refine Ei N (Dz d fun h C hk=>by simp only [St.actAt];rw [zA (by rw [b];omega)];exact zC hk) _ fun y a Y F hk=>?_
  have f:=F.st.trans d;have i:=F.left.trans b;have g:y.num 8=a.σ.num 8:=by unfold MS.num St.num;rw [Y.sm.held]
  have e:a.σ.act= .put (y.num 8) { a.σ.rd 8 with left:=a.σ.left - 1,om:=a.σ.om++[y.num 8] }:=by
   rw [St.Af f];simp only [St.actAt,St.Ab];rw [zA zO,zA zO,g]
  refine Qc Y e _ fun P=>ih ?_ f rfl
  exact ⟨{ Y.sm with
   wf:=YV Y.sm.wf e
   sum:=fun _=>P.sum
   held:=by show y.held / 2^8=a.σ.held / 2^8;rw [Y.sm.held]
   count:=by show y.count - 8=a.σ.count - 8;rw [Y.sm.count]
   pu:=P.pu
   qa:=P.qa
   Zu:=P.Zu
   qc:=P.qc
   Jx:=P.Jx
   size:=P.size
   ej:=P.ej
   left:=by show n=a.σ.left - 1;omega
   nl:=fun h=>absurd h (show ¬ (10<=a.σ.st/\a.σ.st<=14) by omega)
   nd:=fun h=>absurd h (show ¬ (11<=a.σ.st/\a.σ.st<=14) by omega)
   told:=fun h=>absurd h (show ¬ (12<=a.σ.st/\a.σ.st<=14) by omega)
   hs:=fun h=>absurd h (show ¬ (13<=a.σ.st/\a.σ.st<=14) by omega)
   hk:=fun h=>absurd h (show ¬ (a.σ.st=14) by omega)
   la:=fun h=>absurd h (show ¬ (15<=a.σ.st/\a.σ.st<=20) by omega) },Y.st,Y.mb,Y.pre⟩
theorem eC(N:Sn q D s x c)(a:c.σ.st=8):Out q D s c x.b9:=bC x.left N a rfl
theorem lk(N:Sn q D s x c)(d:c.σ.st=7):Out q D s c x.b8:=by
 refine Ei N (Dz d fun h C hk=>zC hk) _ fun y b Y F hk=>?_
 have e:=F.st.trans d;have f:y.num 16=b.σ.num 16:=by unfold MS.num St.num;rw [Y.sm.held]
 have a:b.σ.act=if b.σ.held / 65536%65536=65535 - b.σ.num 16 then .DF { b.σ.rd 32 with left:=b.σ.num 16,st:=8 } else .fail 9:=by
  rw [St.Af e];simp only [St.actAt,St.Ab];rw [zA zO]
 rw [Y.sm.held,f];by_cases h3:b.σ.held / 65536%65536=65535 - b.σ.num 16
 ·rw [zC h3] at a |-;refine CV Y.sm.wf a zO (eC ?_ rfl);exact ⟨{ Y.sm with
   wf:=CW Y.sm.wf a
   sum:=fun _=>Y.sm.sum (by rw [Y.st];omega)
   held:=by show y.held / 2^32=b.σ.held / 2^32;rw [Y.sm.held]
   count:=by show y.count - 32=b.σ.count - 32;rw [Y.sm.count]
   left:=rfl
   nl:=fun h=>absurd h (show ¬ (10<=8/\8<=14) by decide)
   nd:=fun h=>absurd h (show ¬ (11<=8/\8<=14) by decide)
   told:=fun h=>absurd h (show ¬ (12<=8/\8<=14) by decide)
   hs:=fun h=>absurd h (show ¬ (13<=8/\8<=14) by decide)
   hk:=fun h=>absurd h (show ¬ (8=14) by decide)
   la:=fun h=>absurd h (show ¬ (15<=8/\8<=20) by decide) },rfl,Y.mb,Y.pre⟩
 ·rw [zA h3] at a |-;exact Cn Y a zD rfl rfl rfl
theorem lh(N:Sn q D s x c)(e:c.σ.st=6):Out q D s c x.b7:=by
 refine Ei N (Dz e fun h C hk=>zC hk) _ fun y b Y F hk=>?_
 have f:=F.st.trans e;have g:y.num 1=b.σ.num 1:=by unfold MS.num St.num;rw [Y.sm.held]
 have a:b.σ.act=b.σ.kind:=by
  rw [St.Af f];simp only [St.actAt,St.Ab];rw [zA zO]
 unfold MS.kind;unfold St.kind at a;rw [Y.sm.held];have k:=Y.sm.wf.held;by_cases h0:b.σ.held / 2%4=0
 ·rw [zC h0] at a |-;unfold MS.EE;have j:({ y.rd 3 with last:=y.num 1==1,st:=8 }:MS).num ({ y.rd 3 with last:=y.num 1==1,st:=8 }:MS).count=b.σ.held / 2^3:=by
   show y.held / 2^3%2^(y.count - 3)=b.σ.held / 2^3;rw [Y.sm.held,Y.sm.count];exact yR (St.DM Y.sm.wf hk)
  rw [j];by_cases h2:b.σ.held / 2^3=0
  ·rw [zA (by show ¬ b.σ.held / 2^3≠0;simp [h2])] at a;rw [zC h2];refine go_now Y.sm.wf a zO ?_
   have i:({ y.rd 3 with last:=y.num 1==1,st:=8 }:MS).rd ({ y.rd 3 with last:=y.num 1==1,st:=8 }:MS).count={ y with held:=0,count:=0,last:=y.num 1==1,st:=8 }:=by
    unfold MS.rd;simp [Y.sm.held,h2]
   rw [i,g];exact ⟨{ Y.sm with
    wf:=CW Y.sm.wf a
    sum:=fun _=>Y.sm.sum (by rw [Y.st];omega)
    held:=rfl
    count:=rfl
    last:=rfl
    nl:=fun h=>absurd h (show ¬ (10<=7/\7<=14) by decide)
    nd:=fun h=>absurd h (show ¬ (11<=7/\7<=14) by decide)
    told:=fun h=>absurd h (show ¬ (12<=7/\7<=14) by decide)
    hs:=fun h=>absurd h (show ¬ (13<=7/\7<=14) by decide)
    hk:=fun h=>absurd h (show ¬ (7=14) by decide)
    la:=fun h=>absurd h (show ¬ (15<=7/\7<=20) by decide) },rfl,Y.mb,Y.pre⟩
  ·have d:b.σ.act= .fail 8:=by rw [a];exact zC h2
   rw [zA h2];exact Cn Y d zD rfl rfl rfl
 ·rw [zA h0] at a |-;by_cases h1:b.σ.held / 2%4=1
  ·rw [zC h1] at a |-;refine go_now Y.sm.wf a zO ?_
   rw [g];exact ⟨{ Y.sm with
    wf:=CW Y.sm.wf a
    sum:=fun _=>Y.sm.sum (by rw [Y.st];omega)
    held:=by show y.held / 2^3=b.σ.held / 2^3;rw [Y.sm.held]
    count:=by show y.count - 3=b.σ.count - 3;rw [Y.sm.count]
    last:=rfl
    nl:=fun h=>absurd h (show ¬ (10<=16/\16<=14) by decide)
    nd:=fun h=>absurd h (show ¬ (11<=16/\16<=14) by decide)
    told:=fun h=>absurd h (show ¬ (12<=16/\16<=14) by decide)
    hs:=fun h=>absurd h (show ¬ (13<=16/\16<=14) by decide)
    hk:=fun h=>absurd h (show ¬ (16=14) by decide)
    la:=fun _=>⟨rfl,rfl⟩ },rfl,Y.mb,Y.pre⟩
  ·rw [zA h1] at a |-;by_cases h2:b.σ.held / 2%4=2
   ·rw [zC h2] at a |-;refine go_now Y.sm.wf a zO ?_
    rw [g];exact ⟨{ Y.sm with
     wf:=CW Y.sm.wf a
     sum:=fun _=>Y.sm.sum (by rw [Y.st];omega)
     held:=by show y.held / 2^3=b.σ.held / 2^3;rw [Y.sm.held]
     count:=by show y.count - 3=b.σ.count - 3;rw [Y.sm.count]
     last:=rfl
     nl:=fun h=>absurd h (show ¬ (10<=9/\9<=14) by decide)
     nd:=fun h=>absurd h (show ¬ (11<=9/\9<=14) by decide)
     told:=fun h=>absurd h (show ¬ (12<=9/\9<=14) by decide)
     hs:=fun h=>absurd h (show ¬ (13<=9/\9<=14) by decide)
     hk:=fun h=>absurd h (show ¬ (9=14) by decide)
     la:=fun h=>absurd h (show ¬ (15<=9/\9<=20) by decide) },rfl,Y.mb,Y.pre⟩
   ·rw [zA h2] at a |-;exact Cn Y a zD rfl rfl rfl
open Go.RowKit
theorem cL(h:MM ρ w p x)(m:Ni w w' g Tr.Bi Tr.Bw) :
  By ρ w p { x with la:=Tr.Bi,lb:=Tr.Bw } ((w'.setCell ⟨p,36,none⟩ (.pointer (some ⟨g,0,none⟩))).setCell ⟨p,37,none⟩ (.pointer (some ⟨g,0,none⟩))):=by
 obtain ⟨ρ',d,e,j,S⟩:=m.Ev (ρ:=ρ) zD zD zD zD (fun k hk=>h.new k hk);obtain ⟨L,B,T⟩:=h.below m.bel;have c:=B.Sb e;have b:=T.Sb e (fun k hk=>by rcases j k hk with h | h;exact T.lt k h;exact h);have f:=c.set (y:=x) (M:={ L with fx:= .pointer (some ⟨g,0,none⟩) }) 36 (.pointer (some ⟨g,0,none⟩)) rfl ⟨rfl,rfl,rfl,rfl⟩ ⟨rfl,rfl⟩;have a:=f.set (y:=x) (M:={ L with fx:= .pointer (some ⟨g,0,none⟩),Ev:= .pointer (some ⟨g,0,none⟩) }) 37 (.pointer (some ⟨g,0,none⟩)) rfl ⟨rfl,rfl,rfl,rfl⟩ ⟨rfl,rfl⟩;have rp:=c.rp;have F:Fr V5 ρ' w' ((w'.setCell ⟨p,36,none⟩ (.pointer (some ⟨g,0,none⟩))).setCell ⟨p,37,none⟩ (.pointer (some ⟨g,0,none⟩))):=(Fr.own w' p 36 _ rp).trans (Fr.own _ p 37 _ rp);have i:MT ρ' w' { x with la:=Tr.Bi,lb:=Tr.Bw } { L with fx:= .pointer (some ⟨g,0,none⟩),Ev:= .pointer (some ⟨g,0,none⟩) }:=⟨b.sup,b.hl,b.rw,b.hp,Or.inr ⟨g,rfl,S⟩,Or.inr ⟨g,rfl,S⟩,b.lt⟩
 refine ⟨⟨ρ',d,{ L with fx:= .pointer (some ⟨g,0,none⟩),Ev:= .pointer (some ⟨g,0,none⟩) },⟨a.row,a.ra,a.rc,a.rp,a.rl⟩,(i.bO F).same rfl rfl rfl rfl ⟨rfl,rfl⟩⟩,?_⟩;exact (Fr.below (ρ:=ρ) m.bel).ext F.Ba d
theorem VD(h:MM ρ w p x) :
  ∃ v,w.cell? ⟨p,36,none⟩=some v/\(v= .pointer none\/∃ g,v= .pointer (some ⟨g,0,none⟩)/\By ρ w p { x with la:=Tr.Bi,lb:=Tr.Bw } (w.setCell ⟨p,37,none⟩ v)):=by
 obtain ⟨L,B,T⟩:=h;refine ⟨L.fx,B.row.cell (i:=36) zO,?_⟩;rcases T.fx with e | ⟨g,e,S⟩
 ·exact Or.inl e
 ·refine Or.inr ⟨g,e,?_⟩;rw [e];have a:=B.set (y:=x) (M:={ L with Ev:= .pointer (some ⟨g,0,none⟩) }) 37 (.pointer (some ⟨g,0,none⟩)) rfl ⟨rfl,rfl,rfl,rfl⟩ ⟨rfl,rfl⟩;have F:=Fr.own w p 37 (.pointer (some ⟨g,0,none⟩)) B.rp;have b:MT ρ w { x with la:=Tr.Bi,lb:=Tr.Bw } { L with Ev:= .pointer (some ⟨g,0,none⟩) }:=⟨T.sup,T.hl,T.rw,T.hp,Or.inr ⟨g,rfl,S⟩,Or.inr ⟨g,e,S⟩,T.lt⟩
  exact ⟨⟨ρ,Ext.refl _ _,{ L with Ev:= .pointer (some ⟨g,0,none⟩) },⟨a.row,a.ra,a.rc,a.rp,a.rl⟩,(b.bO F).same rfl rfl rfl rfl ⟨rfl,rfl⟩⟩,F.Ba⟩
theorem LG(b:Nat)(v:Int)(N:Nat)(w:World)(c:N=243\/N=26\/N=16)(hc:w.cell? ⟨b,0,none⟩=some (.int .i64 v))(d:b<w.heap.size) :
  Calls prog 162 #[.slice (some ⟨b,0,none⟩) 1 1, .int .i64 N] w fun e a=>∃ g,e= .returned (.slice (some ⟨g,0,none⟩) N N)/\Hid (w.heap.size<=g/\JU a g (List.replicate N v)/\Below w.heap.size w a):=by
 refine (Xv b v N w zO hc d ?_).mono ?_
 ·rcases c with rfl | rfl | rfl
  ·exact ft w
  ·exact km w
  ·exact kl w
 ·rintro e a ⟨g,h1,h2,h3,h4,h5⟩;refine ⟨g,h1,h2,?_,h5⟩;unfold JU Al;rw [h4];unfold JE;simp
theorem JU.cells(h:JU w g l):Ap w (some ⟨g,0,none⟩) l:=fun k hk=>by
 refine ⟨g,0,rfl,h.lt,?_⟩;rw [yJ,yA _ _ _ _ _ _ h];simp [Al,hk]
theorem ae{base n cap:Nat}(h:w.ownsRow base 3 1 (.slice (some ⟨g,0,none⟩) n cap) n (Al l)):Ap w (some ⟨g,0,none⟩) l:=fun k hk=>by
 rcases h.2 with ⟨e,_⟩ | ⟨b,a,cur,e,h1,h2,h3,h4,h5,h6⟩
 ·cases e
 ·injection e with e1
  injection e1 with e1
  injection e1 with e1
  subst e1;refine ⟨g,0,rfl,(yQ.1 h2).1,?_⟩;rw [yJ,yA _ _ _ _ _ _ h2];have hl:l.length=n*1:=by have:=h.1;simpa [Al] using this
  have e:(cur.toList.take (n*1))[k]?=(Al l)[k]?:=by rw [h6]
  rw [jU,zC zO] at e;rw [<- Array.getElem?_toList,e];simp [Al,hk]
theorem jq(h:MM ρ w p x) :
  Calls prog 136 #[.pointer (some ⟨p,0,none⟩)] w fun e V=>e= .returned (.tuple #[])/\By ρ w p { x with la:=Tr.Bi,lb:=Tr.Bw } V:=by
 have S:=hid h;obtain ⟨v,j,hv⟩:=VD h;obtain ⟨u,l,q,z37,c⟩:∃ u,w.cell? ⟨p,37,none⟩=some u/\w.frozen? ⟨p,36,none⟩=false/\w.frozen? ⟨p,37,none⟩=false/\p<w.heap.size:=by
  obtain ⟨L,B,_⟩:=h;exact ⟨_,B.row.cell (i:=37) zO,B.row.frozen 36,B.row.frozen 37,B.row.lt⟩
 clear h;rcases hv with rfl | ⟨g,rfl,G⟩
 ·go_enter func136,ntmps136
  go_wp2_with fail
  refine (LG w.heap.size 8 243 (w.alloc (.cells #[.int .i64 8] 3)) zO (yX w _ _ 0 _ rfl) zS).mono ?_;rintro e w1 ⟨N,rfl,s⟩;go_wp2_with fail
  refine (LG w1.heap.size 9 26 (w1.alloc (.cells #[.int .i64 9] 3)) zO (yX w1 _ _ 0 _ rfl) zS).mono ?_;rintro e w2 ⟨g2,rfl,C⟩;go_wp2_with fail
  have f:Hid (JU w2 N (List.replicate 243 8)/\JU w2 g2 (List.replicate 26 9)/\Below w.heap.size w w2/\w.heap.size<=w2.heap.size):=by
   have H:=s.out.2.2;have I:=C.out.2.2;have J:w.heap.size+1<=w1.heap.size:=by have:=H.size;simpa using this
   have Y:w1.heap.size+1<=w2.heap.size:=by have:=I.size;simpa using this
   have z:=(((zF w.heap.size w).alloc zL _).trans (H.mono zS))
   have k2:=(((zF w1.heap.size w1).alloc zL _).trans (I.mono zS))
   exact ⟨s.out.2.1.kept k2 s.out.2.1.lt,C.out.2.1,z.trans (k2.mono zO),zO⟩
  clear s C;refine (Wy (w:=w2.alloc (.cells #[.slice (some ⟨N,0,none⟩) 243 243, .slice (some ⟨g2,0,none⟩) 26 26] 69)) (zJ _ _) (f.out.1.kept ((zF w2.heap.size w2).alloc zL _) f.out.1.lt) (f.out.2.1.kept ((zF w2.heap.size w2).alloc zL _) f.out.2.1.lt) zS zS).mono ?_;rintro e b ⟨y,cap,rfl,Q,P,F⟩;have t:Hid (Ap b (some ⟨y,0,none⟩) Tr.Bi/\y<b.heap.size/\Below w.heap.size w b):=by
   have J:w2.heap.size+1<=b.heap.size:=by have:=F.size;simpa using this
   exact ⟨ae Q,P,f.out.2.2.1.trans ((((zF w2.heap.size w2).alloc zL _).trans (F.mono zS)).mono f.out.2.2.2)⟩
  clear Q P F f;go_wp2_with fail
  refine (LG b.heap.size 4 16 (b.alloc (.cells #[.int .i64 4] 3)) zO (yX b _ _ 0 _ rfl) zS).mono ?_;rintro e n ⟨O,rfl,D⟩;go_wp2_with fail
  have d:Hid (Ap n (some ⟨y,0,none⟩) Tr.Bi/\Ap n (some ⟨O,0,none⟩) Tr.Bw/\Below w.heap.size w n):=by
   have b4:=D.out.2.2;have J:b.heap.size+1<=n.heap.size:=by have:=b4.size;simpa using this
   have z:=(((zF b.heap.size b).alloc zL _).trans (b4.mono zS))
   exact ⟨t.out.1.below z zL,D.out.2.1.cells,t.out.2.2.trans (z.mono t.out.2.2.size)⟩
  clear t D;have EF:=Qj (some ⟨y,0,none⟩) (some ⟨O,0,none⟩) cap 16 Tr.Bi Tr.Bw n zD zD d.out.1 d.out.2.1 zD zD;refine EF.mono ?_;rintro e o ⟨g,rfl,M⟩;have R:Hid (By ρ w p { x with la:=Tr.Bi,lb:=Tr.Bw } ((o.setCell ⟨p,36,none⟩ (.pointer (some ⟨g,0,none⟩))).setCell ⟨p,37,none⟩ (.pointer (some ⟨g,0,none⟩)))):=by
   have A:=cL (S.out.below d.out.2.2) M;exact ⟨let ⟨r,e,m⟩:=A.ex;⟨r,fun k hk=>e k (zM hk d.out.2.2.size),m⟩,(Fr.below (ρ:=ρ) d.out.2.2).trans A.fr⟩
  have a:=d.out.2.2.trans (M.bel.mono d.out.2.2.size);have T:o.cell? ⟨p,36,none⟩=some (.pointer none):=by rw [<- j];exact a.cell c
  have U:o.cell? ⟨p,37,none⟩=some u:=by rw [<- l];exact a.cell c
  have W:o.frozen? ⟨p,36,none⟩=false:=by rw [<- q];exact a.frozen c
  have X:o.frozen? ⟨p,37,none⟩=false:=by rw [<- z37];exact a.frozen c
  clear a M EF d j l q z37;go_wp2
  go_end0
  exact ⟨rfl,R.out⟩
 ·have E:=hid G;clear G;go_enter func136,ntmps136
  go_wp2
  go_end0
  exact ⟨rfl,E.out⟩
theorem KV.told(F:KV c c'):c'.σ.told=c.σ.told:=by rw [F.σ]
theorem KV.hl(F:KV c c'):c'.σ.hl=c.σ.hl:=by rw [F.σ]
theorem ll(n:Nat):∀ {x:MS} {c:Cf},Sn q D s x c->c.σ.st=12->x.told - x.hl.length=n->Out q D s c (MS.iG n x):=by
 induction n with
 | zero=>
  intro x c N d hl;have f:=N.sm.told (by rw [d];decide);rw [f,N.sm.hl] at hl;have a:c.σ.act=if sumOf gw (EF c.σ.hl)=2048 then .DF { c.σ with hs:=EF c.σ.hl,st:=13 } else .fail 10:=by
   rw [St.Af d];simp only [St.actAt];rw [zA zO]
  show Out q D s c (MS.IF x);unfold MS.IF;rw [N.sm.hl];by_cases h1:sumOf gw (EF c.σ.hl)=2048
  ·rw [zC h1] at a |-;refine go_now N.sm.wf a zO ?_
   exact ⟨{ N.sm with
    wf:=CW N.sm.wf a
    sum:=fun _=>N.sm.sum (by rw [N.st];omega)
    hl:=rfl
    nl:=fun _=>N.sm.nl (by rw [d];decide)
    nd:=fun _=>N.sm.nd (by rw [d];decide)
    told:=fun _=>N.sm.told (by rw [d];decide)
    hs:=fun _=>rfl
    hk:=fun h=>absurd h (show ¬ (13=14) by decide)
    la:=fun h=>absurd h (show ¬ (15<=13/\13<=20) by decide) },rfl,N.mb,N.pre⟩
  ·rw [zA h1] at a |-;exact Cn N a zD rfl rfl rfl
 | succ n ih=>
  intro x c N d hl;have f:=N.sm.told (by rw [d];decide);rw [f,N.sm.hl] at hl;refine Ei N (Dz d fun h C hk=>by simp only [St.actAt];rw [zC zO];exact zC hk) _ fun y e Y F hk=>?_
  have b:=F.st.trans d;have i:y.num 3=e.σ.num 3:=by unfold MS.num St.num;rw [Y.sm.held]
  have a:e.σ.act= .DF { e.σ.rd 3 with hl:=e.σ.hl++[(e.σ.num 3:Int)] }:=by
   rw [St.Af b];simp only [St.actAt,St.Ab];rw [zC (by rw [F.hl,F.told];omega),zA zO]
  have g:=Y.sm.told (by rw [b];decide);refine CV Y.sm.wf a zO (ih ?_ b ?_)
  ·rw [i];exact ⟨{ Y.sm with
    wf:=CW Y.sm.wf a
    sum:=fun _=>Y.sm.sum (by rw [Y.st];omega)
    held:=by show y.held / 2^3=e.σ.held / 2^3;rw [Y.sm.held]
    count:=by show y.count - 3=e.σ.count - 3;rw [Y.sm.count]
    hl:=by show y.hl++[_]=e.σ.hl++[_];rw [Y.sm.hl]
    nl:=fun _=>Y.sm.nl (by rw [b];decide)
    nd:=fun _=>Y.sm.nd (by rw [b];decide)
    told:=fun _=>Y.sm.told (by rw [b];decide)
    hs:=fun h=>absurd h (show ¬ (13<=e.σ.st/\e.σ.st<=14) by omega)
    hk:=fun h=>absurd h (show ¬ (e.σ.st=14) by omega)
    la:=fun h=>absurd h (show ¬ (15<=e.σ.st/\e.σ.st<=20) by omega) },Y.st,Y.mb,Y.pre⟩
  ·show y.told - (y.hl++[_]).length=n;rw [g,Y.sm.hl,F.told,F.hl,zI,yO];omega
theorem ZR(N:Sn q D s x c)(a:c.σ.st=12):Out q D s c x.lB:=ll _ N a rfl
theorem ZQ(N:Sn q D s x c)(e:c.σ.st=11):Out q D s c x.iJ:=by
 refine Ei N (Dz e fun h C hk=>zC hk) _ fun y d Y F hk=>?_
 have b:=F.st.trans e;have f:y.num 4=d.σ.num 4:=by unfold MS.num St.num;rw [Y.sm.held]
 have a:d.σ.act=if 11<d.σ.num 4 then .fail 10 else .DF { d.σ.rd 4 with told:=4+d.σ.num 4,st:=12 }:=by
  rw [St.Af b];simp only [St.actAt,St.Ab];rw [zA zO]
 rw [f];by_cases h1:11<d.σ.num 4
 ·rw [zC h1] at a |-;exact Cn Y a zD rfl rfl rfl
 ·rw [zA h1] at a |-;refine CV Y.sm.wf a zO (ZR ?_ rfl);exact ⟨{ Y.sm with
   wf:=CW Y.sm.wf a
   sum:=fun _=>Y.sm.sum (by rw [Y.st];omega)
   held:=by show y.held / 2^4=d.σ.held / 2^4;rw [Y.sm.held]
   count:=by show y.count - 4=d.σ.count - 4;rw [Y.sm.count]
   nl:=fun _=>Y.sm.nl (by rw [b];decide)
   nd:=fun _=>Y.sm.nd (by rw [b];decide)
   told:=fun _=>rfl
   hs:=fun h=>absurd h (show ¬ (13<=12/\12<=14) by decide)
   hk:=fun h=>absurd h (show ¬ (12=14) by decide)
   la:=fun h=>absurd h (show ¬ (15<=12/\12<=20) by decide) },rfl,Y.mb,Y.pre⟩
theorem ZP(N:Sn q D s x c)(e:c.σ.st=10):Out q D s c x.iI:=by
 refine Ei N (Dz e fun h C hk=>zC hk) _ fun y d Y F hk=>?_
 have b:=F.st.trans e;have f:y.num 4=d.σ.num 4:=by unfold MS.num St.num;rw [Y.sm.held]
 have a:d.σ.act= .DF { d.σ.rd 4 with nd:=1+d.σ.num 4,st:=11 }:=by
  rw [St.Af b];simp only [St.actAt,St.Ab];rw [zA zO]
 rw [f];refine CV Y.sm.wf a zO (ZQ ?_ rfl);exact ⟨{ Y.sm with
  wf:=CW Y.sm.wf a
  sum:=fun _=>Y.sm.sum (by rw [Y.st];omega)
  held:=by show y.held / 2^4=d.σ.held / 2^4;rw [Y.sm.held]
  count:=by show y.count - 4=d.σ.count - 4;rw [Y.sm.count]
  nl:=fun _=>Y.sm.nl (by rw [b];decide)
  nd:=fun _=>rfl
  told:=fun h=>absurd h (show ¬ (12<=11/\11<=14) by decide)
  hs:=fun h=>absurd h (show ¬ (13<=11/\11<=14) by decide)
  hk:=fun h=>absurd h (show ¬ (11=14) by decide)
  la:=fun h=>absurd h (show ¬ (15<=11/\11<=20) by decide) },rfl,Y.mb,Y.pre⟩
theorem gp(N:Sn q D s x c)(d:c.σ.st=9):Out q D s c x.mh:=by
 refine Ei N (Dz d fun h C hk=>zC hk) _ fun y b Y F hk=>?_
 have e:=F.st.trans d;have f:y.num 4=b.σ.num 4:=by unfold MS.num St.num;rw [Y.sm.held]
 have a:b.σ.act=if 12<b.σ.num 4 then .fail 10 else .DF { b.σ.rd 4 with nl:=257+b.σ.num 4,st:=10 }:=by
  rw [St.Af e];simp only [St.actAt,St.Ab];rw [zA zO]
 rw [f];by_cases h1:12<b.σ.num 4
 ·rw [zC h1] at a |-;exact Cn Y a zD rfl rfl rfl
 ·rw [zA h1] at a |-;refine CV Y.sm.wf a zO (ZP ?_ rfl);exact ⟨{ Y.sm with
   wf:=CW Y.sm.wf a
   sum:=fun _=>Y.sm.sum (by rw [Y.st];omega)
   held:=by show y.held / 2^4=b.σ.held / 2^4;rw [Y.sm.held]
   count:=by show y.count - 4=b.σ.count - 4;rw [Y.sm.count]
   nl:=fun _=>rfl
   nd:=fun h=>absurd h (show ¬ (11<=10/\10<=14) by decide)
   told:=fun h=>absurd h (show ¬ (12<=10/\10<=14) by decide)
   hs:=fun h=>absurd h (show ¬ (13<=10/\10<=14) by decide)
   hk:=fun h=>absurd h (show ¬ (10=14) by decide)
   la:=fun h=>absurd h (show ¬ (15<=10/\10<=20) by decide) },rfl,Y.mb,Y.pre⟩
theorem ZS(N:Sn q D s x c)(j:c.σ.st=14):Out q D s c x.Vx:=by
 obtain ⟨J,k2,k3,k4⟩:=N.sm.hk j;unfold MS.Vx;rw [k3,k4];refine Nc (k:=Am c.σ.hk) _ N (Dz j fun h C hk=>zC hk) _ fun y a Y F hk=>?_
 have e:=F.st.trans j;have u:a.σ.hk=c.σ.hk:=by rw [F.σ]
 rw [<- u] at hk |-;obtain ⟨G,z,H,I⟩:=Y.sm.hk e;have W:=Y.sm.wf;have A:∀ k,y.num k=a.σ.num k:=fun k=>by unfold MS.num St.num;rw [Y.sm.held]
 have g:=Y.sm.nl (by rw [e];decide);have i:=Y.sm.nd (by rw [e];decide);have b:a.σ.act=a.σ.Ek:=by
  rw [St.Af e];simp only [St.actAt,St.Ab];rw [zA zO]
 obtain ⟨T,E⟩:=qe (Aq a.σ.hk+a.σ.num (Am a.σ.hk));unfold St.Ek at b;rw [A];simp only [<- E] at b |-;have v:(y.rd (Am a.σ.hk)).rowLen=hval a.σ.hk a.σ.row:=by
  unfold MS.rowLen hval;show (if y.En=true then y.row.getD (y.row.length - 1) 0 else (y.hlen:Int))=_;rw [z,Y.sm.row,G];by_cases p:a.σ.hk=12
  ·simp [p]
  ·by_cases r:a.σ.hk=13
   ·simp [r]
   ·by_cases t:a.σ.hk=14
    ·simp [t]
    ·simp [p,r,t]
 have w:((y.rd (Am a.σ.hk)).En=true/\(y.rd (Am a.σ.hk)).row.length=0)↔(a.σ.hk=12/\a.σ.row.length=0):=by
  show (y.En=true/\y.row.length=0)↔_;rw [z,Y.sm.row];simp
 have n:((y.rd (Am a.σ.hk)).nl+(y.rd (Am a.σ.hk)).nd<(y.rd (Am a.σ.hk)).row.length+T)↔(a.σ.nl+a.σ.nd<a.σ.row.length+T):=by
  show (y.nl+y.nd<y.row.length+T)↔_;rw [g,i,Y.sm.row]
 by_cases h1:a.σ.hk=12/\a.σ.row.length=0
 ·rw [zC h1] at b;rw [zC (Or.inl (w.2 h1))];exact Cn Y b zD rfl rfl rfl
 ·rw [zA h1] at b;by_cases h2:a.σ.nl+a.σ.nd<a.σ.row.length+T
  ·rw [zC h2] at b;rw [zC (Or.inr (n.2 h2))];exact Cn Y b zD rfl rfl rfl
  ·rw [zA h2] at b;rw [zA (fun h=>h.elim (fun h=>h1 (w.1 h)) (fun h=>h2 (n.1 h))),v];have o:(y.rd (Am a.σ.hk)).row=a.σ.row:=Y.sm.row;rw [o];obtain ⟨R,B⟩:=qe (a.σ.row++List.replicate T (hval a.σ.hk a.σ.row));rw [<- B] at b |-;show Out q D s a (if R.length=y.nl+y.nd then MS.EM { y.rd (Am a.σ.hk) with row:=R,st:=14 } else ({ y.rd (Am a.σ.hk) with row:=R,st:=14 },0));by_cases h3:R.length=a.σ.nl+a.σ.nd
   ·have d:a.σ.act=({ a.σ.rd (Am a.σ.hk) with row:=R,st:=13 }:St).EM:=by rw [b];exact zC h3
    rw [zC (by rw [g,i];exact h3)];unfold St.EM at d;rw [show MS.EM { y.rd (Am a.σ.hk) with row:=R,st:=14 }=if EA (R.take y.nl) (R.drop y.nl) then ({ y.rd (Am a.σ.hk) with row:=R,st:=14 }:MS).refuse 10 else ({ y.rd (Am a.σ.hk) with la:=R.take y.nl,lb:=R.drop y.nl,nl:=0,nd:=0,told:=0,hl:=[],hs:=[],hlen:=0,En:=false,Aq:=0,Am:=0,row:=[],st:=17 },0) from rfl];have l:EA (R.take y.nl) (R.drop y.nl)↔EA (R.take a.σ.nl) (R.drop a.σ.nl):=by rw [g]
    by_cases h4:EA (R.take a.σ.nl) (R.drop a.σ.nl)
    ·have f:a.σ.act= .fail 10:=by rw [d];exact zC h4
     rw [zC (l.2 h4)];exact Cn Y f zD rfl rfl rfl
    ·have f:a.σ.act= .DF { a.σ.rd (Am a.σ.hk) with la:=R.take a.σ.nl,lb:=R.drop a.σ.nl,hl:=[],hs:=[],row:=[],st:=16 }:=by rw [d];exact zA h4
     rw [zA (fun h=>h4 (l.1 h))];refine go_now W f zO ?_
     exact ⟨{ Y.sm with
      wf:=CW Y.sm.wf f
      sum:=fun _=>Y.sm.sum (by rw [Y.st];omega)
      held:=by show y.held / 2^(Am a.σ.hk)=a.σ.held / 2^(Am a.σ.hk);rw [Y.sm.held]
      count:=by show y.count - (Am a.σ.hk)=a.σ.count - (Am a.σ.hk);rw [Y.sm.count]
      hl:=rfl
      row:=rfl
      nl:=fun h=>absurd h (show ¬ (10<=16/\16<=14) by decide)
      nd:=fun h=>absurd h (show ¬ (11<=16/\16<=14) by decide)
      told:=fun h=>absurd h (show ¬ (12<=16/\16<=14) by decide)
      hs:=fun h=>absurd h (show ¬ (13<=16/\16<=14) by decide)
      hk:=fun h=>absurd h (show ¬ (16=14) by decide)
      la:=fun _=>⟨by show R.take y.nl=R.take a.σ.nl;rw [g],by show R.drop y.nl=R.drop a.σ.nl;rw [g]⟩ },rfl,Y.mb,Y.pre⟩
   ·have d:a.σ.act= .DF { a.σ.rd (Am a.σ.hk) with row:=R,st:=13 }:=by rw [b];exact zA h3
    rw [zA (by rw [g,i];exact h3)];refine go_now W d zO ?_
    exact ⟨{ Y.sm with
     wf:=CW Y.sm.wf d
     sum:=fun _=>Y.sm.sum (by rw [Y.st];omega)
     held:=by show y.held / 2^(Am a.σ.hk)=a.σ.held / 2^(Am a.σ.hk);rw [Y.sm.held]
     count:=by show y.count - (Am a.σ.hk)=a.σ.count - (Am a.σ.hk);rw [Y.sm.count]
     row:=rfl
     nl:=fun _=>Y.sm.nl (by rw [e];decide)
     nd:=fun _=>Y.sm.nd (by rw [e];decide)
     told:=fun _=>Y.sm.told (by rw [e];decide)
     hs:=fun _=>Y.sm.hs (by rw [e];decide)
     hk:=fun h=>absurd h (show ¬ (13=14) by decide)
     la:=fun h=>absurd h (show ¬ (15<=13/\13<=20) by decide) },rfl,Y.mb,Y.pre⟩
theorem Te{g:St->Nat->Act}{k m:Nat}(h:EW l σ.held σ.count= .hit k m):σ.symbol l g=g (σ.rd m) k:=by
 unfold St.symbol;rw [h]
theorem gq(N:Sn q D s x c)(e:c.σ.st=13):Out q D s c x.Xq:=by
 have i:=N.sm.hs (by rw [e];decide);unfold MS.Xq;rw [i];refine Qs (g:=fun τ k=> .DF { τ with hk:=k,st:=14 }) N (fun h C=>by rw [St.Af (show ({ c.σ with held:=h,count:=C }:St).st=13 from e)];rfl) _ fun y d k m Y F hk=>?_
 have a:=F.st.trans e;have f:d.σ.hs=c.σ.hs:=by rw [F.σ]
 have b:d.σ.act= .DF { d.σ.rd m with hk:=k,st:=14 }:=by
  rw [St.Af a];show d.σ.symbol d.σ.hs (fun τ k=> .DF { τ with hk:=k,st:=14 })=_;rw [f,Te hk]
 refine CV Y.sm.wf b zO (ZS ?_ rfl);exact ⟨{ Y.sm with
  wf:=CW Y.sm.wf b
  sum:=fun _=>Y.sm.sum (by rw [Y.st];omega)
  held:=by show y.held / 2^m=d.σ.held / 2^m;rw [Y.sm.held]
  count:=by show y.count - m=d.σ.count - m;rw [Y.sm.count]
  nl:=fun _=>Y.sm.nl (by rw [a];decide)
  nd:=fun _=>Y.sm.nd (by rw [a];decide)
  told:=fun _=>Y.sm.told (by rw [a];decide)
  hs:=fun _=>Y.sm.hs (by rw [a];decide)
  hk:=fun _=>⟨rfl,rfl,rfl,rfl⟩
  la:=fun h=>absurd h (show ¬ (15<=14/\14<=20) by decide) },rfl,Y.mb,Y.pre⟩
theorem MM.bt(h:MM ρ w p x):w.cell? ⟨p,24,none⟩=some (.bool x.last)/\w.frozen? ⟨p,24,none⟩=false:=by
 obtain ⟨L,B,_⟩:=h;exact ⟨B.row.cell (i:=24) zO,B.row.frozen 24⟩
theorem MM.dz(h:MM ρ w p x)(b:Bool):MM ρ (w.setCell ⟨p,24,none⟩ (.bool b)) p { x with last:=b }/\Fr V5 ρ w (w.setCell ⟨p,24,none⟩ (.bool b)):=by
 obtain ⟨L,B,T⟩:=h;exact ⟨⟨L,B.set (y:={ x with last:=b }) 24 (.bool b) rfl ⟨rfl,rfl,rfl,rfl⟩ ⟨rfl,rfl⟩,(T.set B.rp 24 _).same rfl rfl rfl rfl ⟨rfl,rfl⟩⟩,Fr.own w p 24 _ B.rp⟩
theorem MM.cF(h:MM ρ w p x):w.cell? ⟨p,7,none⟩=some (.int .i64 x.st)/\w.frozen? ⟨p,7,none⟩=false/\p<w.heap.size:=⟨h.Bt.1,h.Bt.2,by obtain ⟨L,B,_⟩:=h;exact B.row.lt⟩
theorem Ok.last(h:Ok x)(b:Bool):Ok { x with last:=b }:={ h with }
theorem gU(q:MS)(B:Bool):({ q.rd 1 with last:=B }:MS).num 2=q.held / 2%4/\({ q.rd 1 with last:=B }:MS).rd 2={ q.rd 3 with last:=B }:=by
 refine ⟨rfl,?_⟩;have:=MS.dj q 1 2;unfold MS.rd at this |-;injection this;simp_all
theorem jl(h:MM ρ w p x)(ok:Ok x)(hx:x.count<=32) :
  Calls prog 101 #[.pointer (some ⟨p,0,none⟩)] w fun v V=>CJ ρ w p x.b7 v V:=by
 have o:=CL h ok;have j:Hid (x.b7=if (MS.Ab 3 x).2=0 then MS.kind (MS.Ab 3 x).1 else MS.Ab 3 x):=rfl;clear h ok;go_enter func101,ntmps101
 go_wp2_with fail
 refine (GC 3 o.out.1 o.out.2 zO zO).mono ?_;rintro v w1 ⟨rfl,a,g2⟩;by_cases h0:(MS.Ab 3 x).2=0
 ·have U:=MS.Ci o.out.2 h0;have k3:=MS.Ck (k:=3) o.out.2;rw [h0];rw [zC h0] at j;obtain ⟨q,hq⟩:=qe ((MS.Ab 3 x).1);rw [<- hq] at a j U k3;have l:Hid (MM ρ w1 p q/\Ok q/\Fr V5 ρ w w1):=⟨a,k3,g2⟩
  clear a g2 hq k3 h0 o;go_wp2_with fail
  refine (Gg 1 l.out.1 l.out.2.1 zO zO).mono ?_;rintro v w2 ⟨rfl,a,g2⟩;obtain ⟨B,hB⟩:=qe (q.num 1==1);have hv:q.num 1=0\/q.num 1=1:=by have:q.num 1<2:=yC _ zD;omega
  have F:=a.bt.1;have M:=a.bt.2;have D:=a.dz B;have O:Hid (x.b7=if q.held / 2%4=0 then MS.EE { q.rd 3 with last:=B,st:=8 }
   else if q.held / 2%4=1 then ({ q.rd 3 with last:=B,la:=Tr.Bi,lb:=Tr.Bw,st:=17 },0)
   else if q.held / 2%4=2 then ({ q.rd 3 with last:=B,st:=10 },0)
   else ({ q.rd 3 with last:=B }:MS).refuse 7):=by show x.b7=_;rw [j.out,hB];rfl
  have t:Hid (MM ρ (w2.setCell ⟨p,24,none⟩ (.bool B)) p { q.rd 1 with last:=B }/\Ok { q.rd 1 with last:=B }/\Fr V5 ρ w (w2.setCell ⟨p,24,none⟩ (.bool B))):=⟨D.1,(l.out.2.1.rd (k:=1) zO).last B,(l.out.2.2.trans g2).trans D.2⟩
  have I:({ q.rd 1 with last:=B }:MS).count=q.count - 1:=rfl;obtain ⟨r1,r2⟩:=gU q B;obtain ⟨z,R⟩:=qe ({ q.rd 1 with last:=B }:MS);rw [<- R] at t r1 r2 I;have r:Hid (Ok ({ q.rd 3 with last:=B }:MS)):=(l.out.2.1.rd (k:=3) zO).last B;have f:Hid (z.num 2=q.held / 2%4/\z.rd 2={ q.rd 3 with last:=B }):=⟨r1,r2⟩
  have H:({ q.rd 3 with last:=B }:MS).count=q.count - 3:=rfl;obtain ⟨u,L⟩:=qe ({ q.rd 3 with last:=B }:MS);have b:Hid (x.b7=if z.num 2=0 then MS.EE { u with st:=8 }
   else if z.num 2=1 then ({ u with la:=Tr.Bi,lb:=Tr.Bw,st:=17 },0)
   else if z.num 2=2 then ({ u with st:=10 },0)
   else u.refuse 7):=by show x.b7=_;rw [O.out,L,r1]
  rw [<- L] at f r H;clear R a g2 D j O r1 r2 L;generalize G:z.num 2=N at f b;have P:=hid G;have T:N<4:=by rw [<- G];exact yC _ zD
  clear G;rcases hv with e | e
  all_goals
   rw [e] at hB |-;obtain rfl:=hB;clear e;go_wp2_with fail
   refine (Gg 2 t.out.1 t.out.2.1 zO zO).mono ?_;rintro v y ⟨rfl,a,g2⟩;rw [P.out];rw [f.out.2] at a;have c:Hid (MM ρ y p u/\Fr V5 ρ w y):=⟨a,t.out.2.2.trans g2⟩
   obtain ⟨S,W,J⟩:=a.cF;clear a g2 P t l f F M;obtain rfl | rfl | rfl | rfl:N=0\/N=1\/N=2\/N=3:=zO
   ·have i:Hid (x.b7=MS.EE { u with st:=8 }):=b.out;clear b;have E:=c.out.1.st 8;have g:Hid (MM ρ (y.setCell ⟨p,7,none⟩ (.int .i64 8)) p { u with st:=8 }/\Fr V5 ρ w (y.setCell ⟨p,7,none⟩ (.int .i64 8))):=⟨E.1,c.out.2.trans E.2⟩
    clear E;go_wp2_with fail
    refine (SM g.out.1 (r.out.st 8) (by show u.count<=63;omega)).mono ?_;rintro v C ⟨rfl,a,g2⟩;have d:Hid (CJ ρ w p x.b7 (.returned (.int .i64 ({ u with st:=8 }:MS).EE.2)) C):=by
     show CJ _ _ _ _ _ _;rw [i.out];exact Ak.fg ⟨rfl,a,g.out.2.trans g2⟩
    clear a g2 i g;generalize ({ u with st:=8 }:MS).EE.2=n at *;go_wp2
    go_ret
    exact d.out
   ·have i:Hid (x.b7=({ u with la:=Tr.Bi,lb:=Tr.Bw,st:=17 },0)):=b.out;clear b;go_wp2_with fail
    refine (jq c.out.1).mono ?_;rintro v C ⟨rfl,A⟩;obtain ⟨ρ',Q,m⟩:=A.ex;obtain ⟨S,W,J⟩:=m.cF;have d:Hid (CJ ρ w p x.b7 (.returned (.int .i64 0)) (C.setCell ⟨p,7,none⟩ (.int .i64 17))):=by
     show CJ _ _ _ _ _ _;rw [i.out];have s:=m.st 17;exact ⟨rfl,⟨ρ',fun k hk=>Q k (zM hk c.out.2.kp.size),s.1⟩,(c.out.2.Ba.trans A.fr).ext s.2.Ba (fun k hk=>Q k (zM hk c.out.2.kp.size))⟩
    clear A m;go_wp2
    go_ret
    exact d.out
   ·have d:Hid (CJ ρ w p x.b7 (.returned (.int .i64 0)) (y.setCell ⟨p,7,none⟩ (.int .i64 10))):=by
     show CJ _ _ _ _ _ _;rw [show x.b7=({ u with st:=10 },0) from b.out];have s:=c.out.1.st 10;exact Ak.fg ⟨rfl,s.1,c.out.2.trans s.2⟩
    go_wp2
    go_ret
    exact d.out
   ·have i:Hid (x.b7=u.refuse 7):=b.out;clear b;go_wp2_with fail
    refine (Cd 7 c.out.1).mono ?_;rintro v C ⟨rfl,a,g2⟩;have d:Hid (CJ ρ w p x.b7 (.returned (.int .i64 (u.refuse 7).2)) C):=by
     show CJ _ _ _ _ _ _;rw [i.out];exact Ak.fg ⟨rfl,a,c.out.2.trans g2⟩
    clear a g2 i;generalize (u.refuse 7).2=n at *;go_wp2
    go_ret
    exact d.out
 ·have d:Hid (CJ ρ w p x.b7 (.returned (.int .i64 (MS.Ab 3 x).2)) w1):=by
   show CJ _ _ _ _ _ _;rw [j.out,zA h0];exact Ak.fg ⟨rfl,a,g2⟩
  clear a g2 j;generalize (MS.Ab 3 x).2=n at *;have X:¬ ((n:Int)=0):=zO;go_wp2
  go_ret
  exact d.out
theorem bK{om:List Nat}{d:Nat}(h1:1<=d)(h2:d<=om.length)(h3:d<=256):(om.drop (om.length - 256)).getD ((om.drop (om.length - 256)).length - d) 0=om.getD (om.length - d) 0:=by
 rw [yF,yF,jV,xI];congr 2
 omega
theorem eD(n:Nat):∀ {x:MS} {c:Cf},Sn q D s x c->c.σ.st=20->x.left=n->Out q D s c (MS.Hj n x):=by
 induction n with
 | zero=>
  intro x c N d hl;have f:c.σ.left=0:=by rw [<- N.sm.left];exact hl
  have a:c.σ.act= .DF { c.σ with st:=16 }:=by
   rw [St.Af d];exact zC f
  refine go_now N.sm.wf a zO ?_
  exact ⟨{ N.sm with
   wf:=CW N.sm.wf a
   sum:=fun _=>N.sm.sum (by rw [N.st];omega)
   nl:=fun h=>absurd h (show ¬ (10<=16/\16<=14) by decide)
   nd:=fun h=>absurd h (show ¬ (11<=16/\16<=14) by decide)
   told:=fun h=>absurd h (show ¬ (12<=16/\16<=14) by decide)
   hs:=fun h=>absurd h (show ¬ (13<=16/\16<=14) by decide)
   hk:=fun h=>absurd h (show ¬ (16=14) by decide)
   la:=fun _=>N.sm.la (by rw [d];decide) },rfl,N.mb,N.pre⟩
 | succ n ih=>
  intro x c N d hl;have f:c.σ.left=n+1:=by rw [<- N.sm.left];exact hl
  have e:=N.sm.wf.at_;rw [d] at e;obtain ⟨_,d1,d2,i⟩:=e;have j:x.qc.getD (x.qc.length - x.Cc) 0=c.σ.om.getD (c.σ.om.length - c.σ.Cc) 0:=by
   rw [N.sm.qc,N.sm.Cc];exact bK d1 d2 i
  obtain ⟨b,g⟩:=qe (c.σ.om.getD (c.σ.om.length - c.σ.Cc) 0);have a:c.σ.act= .put b { c.σ with left:=c.σ.left - 1,om:=c.σ.om++[b] }:=by
   rw [St.Af d,g];exact zA zO
  show Out q D s c (MS.andThen (x.put (x.qc.getD (x.qc.length - x.Cc) 0)) fun y=>MS.Hj n { y with left:=n });rw [j,<- g];refine Qc N a _ fun P=>ih ?_ d rfl
  exact ⟨{ N.sm with
   wf:=YV N.sm.wf a
   sum:=fun _=>P.sum
   pu:=P.pu
   qa:=P.qa
   Zu:=P.Zu
   qc:=P.qc
   Jx:=P.Jx
   size:=P.size
   ej:=P.ej
   left:=by show n=c.σ.left - 1;omega
   nl:=fun h=>absurd h (show ¬ (10<=c.σ.st/\c.σ.st<=14) by omega)
   nd:=fun h=>absurd h (show ¬ (11<=c.σ.st/\c.σ.st<=14) by omega)
   told:=fun h=>absurd h (show ¬ (12<=c.σ.st/\c.σ.st<=14) by omega)
   hs:=fun h=>absurd h (show ¬ (13<=c.σ.st/\c.σ.st<=14) by omega)
   hk:=fun h=>absurd h (show ¬ (c.σ.st=14) by omega)
   la:=fun _=>N.sm.la (by rw [d];decide) },N.st,N.mb,N.pre⟩
theorem ZO(N:Sn q D s x c)(a:c.σ.st=20):Out q D s c x.iZ:=eD _ N a rfl
theorem ZN(N:Sn q D s x c)(g:c.σ.st=19):Out q D s c x.fA:=by
 unfold MS.fA;rw [N.sm.span.1,N.sm.span.2];refine Nc (k:=c.σ.bits) _ N (Dz g fun h C hk=>zC hk) _ fun y a Y F hk=>?_
 have d:=F.st.trans g;have j:a.σ.bits=c.σ.bits:=by rw [F.σ]
 have l:a.σ.least=c.σ.least:=by rw [F.σ]
 rw [<- j] at hk |-;rw [<- l];have n:y.num a.σ.bits=a.σ.num a.σ.bits:=by unfold MS.num St.num;rw [Y.sm.held]
 have e:=Y.sm.wf.at_;rw [d] at e;obtain ⟨_,d1,d2,p⟩:=e;have o:=St.NR a.σ a.σ.bits;obtain ⟨T,i⟩:=qe (a.σ.least+a.σ.num a.σ.bits);have b:a.σ.act=if a.σ.om.length<T then .fail 11 else .DF { a.σ.rd a.σ.bits with Cc:=T,st:=20 }:=by
  rw [St.Af d,i];simp only [St.actAt,St.Ab];rw [zA zO]
 have f:(y.rd a.σ.bits).qc.length<T↔a.σ.om.length<T:=by
  show y.qc.length<T↔_;rw [Y.sm.qc,xI];omega
 rw [n,<- i];by_cases h1:a.σ.om.length<T
 ·rw [zC h1] at b;rw [zC (f.2 h1)];exact Cn Y b zD rfl rfl rfl
 ·rw [zA h1] at b;rw [zA (fun h=>h1 (f.1 h))];refine CV Y.sm.wf b zO (ZO ?_ rfl);exact ⟨{ Y.sm with
   wf:=CW Y.sm.wf b
   sum:=fun _=>Y.sm.sum (by rw [Y.st];omega)
   held:=by show y.held / 2^a.σ.bits=a.σ.held / 2^a.σ.bits;rw [Y.sm.held]
   count:=by show y.count - a.σ.bits=a.σ.count - a.σ.bits;rw [Y.sm.count]
   Cc:=rfl
   nl:=fun h=>absurd h (show ¬ (10<=20/\20<=14) by decide)
   nd:=fun h=>absurd h (show ¬ (11<=20/\20<=14) by decide)
   told:=fun h=>absurd h (show ¬ (12<=20/\20<=14) by decide)
   hs:=fun h=>absurd h (show ¬ (13<=20/\20<=14) by decide)
   hk:=fun h=>absurd h (show ¬ (20=14) by decide)
   la:=fun _=>Y.sm.la (by rw [d];decide) },rfl,Y.mb,Y.pre⟩
theorem ZM(N:Sn q D s x c)(e:c.σ.st=18):Out q D s c x.ez:=by
 have i:=N.sm.la (by rw [e];decide);unfold MS.ez;rw [i.2];refine Qs (g:=fun τ k=> .DF { τ with least:=Tr.Ar 1 k,bits:=Tr.Ag k,st:=19 }) N (fun h C=>by rw [St.Af (show ({ c.σ with held:=h,count:=C }:St).st=18 from e)];rfl) _ fun y d k m Y F hk=>?_
 have b:=F.st.trans e;have f:d.σ.lb=c.σ.lb:=by rw [F.σ]
 have a:d.σ.act= .DF { d.σ.rd m with least:=Tr.Ar 1 k,bits:=Tr.Ag k,st:=19 }:=by
  rw [St.Af b];show d.σ.symbol d.σ.lb (fun τ k=> .DF { τ with least:=Tr.Ar 1 k,bits:=Tr.Ag k,st:=19 })=_;rw [f,Te hk]
 refine CV Y.sm.wf a zO (ZN ?_ rfl);exact ⟨{ Y.sm with
  wf:=CW Y.sm.wf a
  sum:=fun _=>Y.sm.sum (by rw [Y.st];omega)
  held:=by show y.held / 2^m=d.σ.held / 2^m;rw [Y.sm.held]
  count:=by show y.count - m=d.σ.count - m;rw [Y.sm.count]
  span:=⟨rfl,rfl⟩
  nl:=fun h=>absurd h (show ¬ (10<=19/\19<=14) by decide)
  nd:=fun h=>absurd h (show ¬ (11<=19/\19<=14) by decide)
  told:=fun h=>absurd h (show ¬ (12<=19/\19<=14) by decide)
  hs:=fun h=>absurd h (show ¬ (13<=19/\19<=14) by decide)
  hk:=fun h=>absurd h (show ¬ (19=14) by decide)
  la:=fun _=>Y.sm.la (by rw [b];decide) },rfl,Y.mb,Y.pre⟩
theorem ZL(N:Sn q D s x c)(e:c.σ.st=17):Out q D s c x.bN:=by
 unfold MS.bN;rw [N.sm.span.1,N.sm.span.2];refine Nc (k:=c.σ.bits) _ N (Dz e fun h C hk=>zC hk) _ fun y a Y F hk=>?_
 have d:=F.st.trans e;have f:a.σ.bits=c.σ.bits:=by rw [F.σ]
 have g:a.σ.least=c.σ.least:=by rw [F.σ]
 rw [<- f] at hk |-;rw [<- g];have i:y.num a.σ.bits=a.σ.num a.σ.bits:=by unfold MS.num St.num;rw [Y.sm.held]
 have b:a.σ.act= .DF { a.σ.rd a.σ.bits with left:=a.σ.least+a.σ.num a.σ.bits,st:=18 }:=by
  rw [St.Af d];simp only [St.actAt,St.Ab];rw [zA zO]
 rw [i];refine CV Y.sm.wf b zO (ZM ?_ rfl);exact ⟨{ Y.sm with
  wf:=CW Y.sm.wf b
  sum:=fun _=>Y.sm.sum (by rw [Y.st];omega)
  held:=by show y.held / 2^a.σ.bits=a.σ.held / 2^a.σ.bits;rw [Y.sm.held]
  count:=by show y.count - a.σ.bits=a.σ.count - a.σ.bits;rw [Y.sm.count]
  left:=rfl
  nl:=fun h=>absurd h (show ¬ (10<=18/\18<=14) by decide)
  nd:=fun h=>absurd h (show ¬ (11<=18/\18<=14) by decide)
  told:=fun h=>absurd h (show ¬ (12<=18/\18<=14) by decide)
  hs:=fun h=>absurd h (show ¬ (13<=18/\18<=14) by decide)
  hk:=fun h=>absurd h (show ¬ (18=14) by decide)
  la:=fun _=>Y.sm.la (by rw [d];decide) },rfl,Y.mb,Y.pre⟩
theorem ZK(N:Sn q D s x c)(e:c.σ.st=16):Out q D s c x.bp:=by
 have i:=N.sm.la (by rw [e];decide);unfold MS.bp;rw [i.1];refine Qs (g:=fun τ k=>τ.literal k) N (fun h C=>by rw [St.Af (show ({ c.σ with held:=h,count:=C }:St).st=16 from e)];rfl) _ fun y d k m Y F hk=>?_
 have b:=F.st.trans e;have f:d.σ.la=c.σ.la:=by rw [F.σ]
 have a:d.σ.act=(d.σ.rd m).literal k:=by
  rw [St.Af b];show d.σ.symbol d.σ.la (fun τ k=>τ.literal k)=_;rw [f,Te hk]
 have hm:=(St.KM hk).2.1;unfold St.literal at a;by_cases h1:k<256
 ·rw [zC h1] at a |-;refine go_now Y.sm.wf a zO ?_
  exact ⟨{ Y.sm with
   wf:=CW Y.sm.wf a
   sum:=fun _=>Y.sm.sum (by rw [Y.st];omega)
   held:=by show y.held / 2^m=d.σ.held / 2^m;rw [Y.sm.held]
   count:=by show y.count - m=d.σ.count - m;rw [Y.sm.count]
   lit:=rfl
   nl:=fun h=>absurd h (show ¬ (10<=15/\15<=14) by decide)
   nd:=fun h=>absurd h (show ¬ (11<=15/\15<=14) by decide)
   told:=fun h=>absurd h (show ¬ (12<=15/\15<=14) by decide)
   hs:=fun h=>absurd h (show ¬ (13<=15/\15<=14) by decide)
   hk:=fun h=>absurd h (show ¬ (15=14) by decide)
   la:=fun _=>Y.sm.la (by rw [b];decide) },rfl,Y.mb,Y.pre⟩
 ·rw [zA h1] at a |-;by_cases h2:k=256
  ·rw [zC h2] at a |-;refine MZ Y (d.σ.rd m) (y.rd m) rfl ?_ a zO (St.DM Y.sm.wf hm);unfold MS.rd St.rd;rw [Y.sm.held,Y.sm.count]
  ·rw [zA h2] at a |-;refine CV Y.sm.wf a zO (ZL ?_ rfl);exact ⟨{ Y.sm with
    wf:=CW Y.sm.wf a
    sum:=fun _=>Y.sm.sum (by rw [Y.st];omega)
    held:=by show y.held / 2^m=d.σ.held / 2^m;rw [Y.sm.held]
    count:=by show y.count - m=d.σ.count - m;rw [Y.sm.count]
    span:=⟨rfl,rfl⟩
    nl:=fun h=>absurd h (show ¬ (10<=17/\17<=14) by decide)
    nd:=fun h=>absurd h (show ¬ (11<=17/\17<=14) by decide)
    told:=fun h=>absurd h (show ¬ (12<=17/\17<=14) by decide)
    hs:=fun h=>absurd h (show ¬ (13<=17/\17<=14) by decide)
    hk:=fun h=>absurd h (show ¬ (17=14) by decide)
    la:=fun _=>Y.sm.la (by rw [b];decide) },rfl,Y.mb,Y.pre⟩
theorem gm(N:Sn q D s x c)(b:c.σ.st=15):Out q D s c x.TN:=by
 have a:c.σ.act= .put x.lit { c.σ with om:=c.σ.om++[x.lit],st:=16 }:=by
  rw [St.Af b,N.sm.lit];rfl
 refine Qc N a _ fun P=>ZK ?_ rfl
 exact ⟨{ N.sm with
  wf:=YV N.sm.wf a
  sum:=fun _=>P.sum
  pu:=P.pu
  qa:=P.qa
  Zu:=P.Zu
  qc:=P.qc
  Jx:=P.Jx
  size:=P.size
  ej:=P.ej
  nl:=fun h=>absurd h (show ¬ (10<=16/\16<=14) by decide)
  nd:=fun h=>absurd h (show ¬ (11<=16/\16<=14) by decide)
  told:=fun h=>absurd h (show ¬ (12<=16/\16<=14) by decide)
  hs:=fun h=>absurd h (show ¬ (13<=16/\16<=14) by decide)
  hk:=fun h=>absurd h (show ¬ (16=14) by decide)
  la:=fun _=>N.sm.la (by rw [b];decide) },rfl,N.mb,N.pre⟩
theorem Sn.lim{y:MS}(Y:Sn q D s y c):y.head=y.he↔c.σ.lim<=c.σ.Bq:=by
 have h:=Y.sm.head;rw [h.1,Y.sm.he];omega
theorem Yn{A:St->Act}(F:KV c c')(a:∀ h C,({ c.σ with held:=h,count:=C }:St).act=A { c.σ with held:=h,count:=C }):c'.σ.act=A c'.σ:=by
 have:=a c'.σ.held c'.σ.count;rw [<- F.σ] at this;exact this
theorem Mq(N:Sn q D s x c)(b next:Nat)
  (e:∀ h C,({ c.σ with held:=h,count:=C }:St).act=({ c.σ with held:=h,count:=C }:St).Ab 8 (({ c.σ with held:=h,count:=C }:St).DG b next)) (g:MS->MS×Nat)
  (i:∀ y d,Sn q D s y d->KV c d->d.σ.act= .DF { d.σ.Au with st:=next }->¬ d.σ.lim<=d.σ.Bq->Out q D s d (g y.Ez)):Out q D s c (MS.andThen (MS.DH b x) g):=by
 unfold MS.DH;rw [Nj];refine ND N (fun h C _ _ _ hk=>by rw [e h C];exact zC hk) _ fun y d Y F hk _=>?_
 have a:=Yn (A:=fun σ=>σ.Ab 8 (σ.DG b next)) F e;unfold St.Ab St.DG at a;rw [zA zO] at a;have f:y.num 8=d.σ.num 8:=by unfold MS.num St.num;rw [Y.sm.held]
 by_cases h5:d.σ.lim<=d.σ.Bq
 ·rw [zC h5] at a;rw [zC (Y.lim.2 h5)];exact Cn Y a zD rfl rfl rfl
 ·rw [zA h5] at a;rw [zA (fun h=>h5 (Y.lim.1 h)),f];by_cases h6:d.σ.num 8=b
  ·rw [zC h6] at a |-;exact i y d Y F a h5
  ·rw [zA h6] at a |-;rw [Hg];exact Cn Y a zD rfl rfl rfl
theorem YJ(N:Sn q D s x c)(d:c.σ.st=5):Out q D s c x.h6:=by
 unfold MS.h6 MS.Ce;have hm:=N.sm.wf.marks.1;rw [N.sm.marks,N.sm.Az];by_cases h0:c.σ.marks / 4%2=0
 ·rw [zC h0,CM];have a:c.σ.act= .DF { c.σ with st:=6 }:=by
   rw [St.Af d];exact zA zO
  refine go_now N.sm.wf a zO ?_
  exact ⟨{ N.sm with
   wf:=CW N.sm.wf a
   sum:=fun _=>N.sm.sum (by rw [N.st];omega)
   nl:=fun h=>absurd h (show ¬ (10<=6/\6<=14) by decide)
   nd:=fun h=>absurd h (show ¬ (11<=6/\6<=14) by decide)
   told:=fun h=>absurd h (show ¬ (12<=6/\6<=14) by decide)
   hs:=fun h=>absurd h (show ¬ (13<=6/\6<=14) by decide)
   hk:=fun h=>absurd h (show ¬ (6=14) by decide)
   la:=fun h=>absurd h (show ¬ (15<=6/\6<=20) by decide) },rfl,N.mb,N.pre⟩
 ·rw [zA h0];refine Mq N c.σ.Az 6 (fun h C=>by rw [St.Af (show ({ c.σ with held:=h,count:=C }:St).st=5 from d)];exact zC (show c.σ.marks / 4=1 by omega)) _ fun y b Y F a h5=>?_
  have e:=F.st.trans d;refine go_now Y.sm.wf a zO ?_
  exact ⟨{ Y.sm with
   wf:=CW Y.sm.wf a
   sum:=fun _=>Y.sm.sum (by rw [Y.st];omega)
   held:=by show y.held / 2^8=b.σ.held / 2^8;rw [Y.sm.held]
   count:=by show y.count - 8=b.σ.count - 8;rw [Y.sm.count]
   head:=⟨by show y.head+1=b.σ.Bq+1;rw [Y.sm.head.1],by show b.σ.Bq+1<=b.σ.lim;omega⟩
   Az:=by show (y.Az+y.num 8)%256=(b.σ.Az+b.σ.num 8)%256;rw [Y.sm.Az];unfold MS.num St.num;rw [Y.sm.held]
   nl:=fun h=>absurd h (show ¬ (10<=6/\6<=14) by decide)
   nd:=fun h=>absurd h (show ¬ (11<=6/\6<=14) by decide)
   told:=fun h=>absurd h (show ¬ (12<=6/\6<=14) by decide)
   hs:=fun h=>absurd h (show ¬ (13<=6/\6<=14) by decide)
   hk:=fun h=>absurd h (show ¬ (6=14) by decide)
   la:=fun h=>absurd h (show ¬ (15<=6/\6<=20) by decide) },rfl,Y.mb,Y.pre⟩
theorem gz(f:Nat)(x:MS)(g:MS->MS×Nat):MS.andThen (MS.textL (f+1) x) g=MS.DY x.Ah (fun y b=>if b=0 then g y else MS.andThen (MS.textL f y) g):=by
 rw [MS.textL];unfold MS.DY;by_cases h1:x.Ah.2.1=0
 ·rw [zC h1];by_cases h2:x.Ah.2.2=0
  ·rw [zC (Or.inr h2),h1];exact (zC h2).symm
  ·rw [zA (fun h=>h.elim (fun h=>h h1) h2)];exact (zA h2).symm
 ·rw [zA h1,zC (Or.inl h1)];unfold MS.andThen;rw [zA h1]
theorem Sn.more(N:Sn q D s x c):x.more=(s.size - c.pre.length)+c.σ.count / 8:=by
 unfold MS.more;rw [N.sm.rest,Kd,N.sm.count]
theorem KR(n next:Nat)(v:n=3\/n=4)(g:MS->MS×Nat)(f:Nat):∀ {x:MS} {c:Cf},Sn q D s x c->c.σ.st=n->x.more<f->
  (∀ h C,({ c.σ with held:=h,count:=C }:St).act=({ c.σ with held:=h,count:=C }:St).Ab 8 (({ c.σ with held:=h,count:=C }:St).text next))->
  (∀ y a,Sn q D s y a->a.σ.st=n->a.σ.act= .DF { a.σ.Au with st:=next }->¬ a.σ.lim<=a.σ.Bq->Out q D s a (g y.Ez))->
  (∀ (σ:St),σ.st=n->σ.marks=c.σ.marks->∀ h C,({ σ with held:=h,count:=C }:St).act=({ σ with held:=h,count:=C }:St).Ab 8 (({ σ with held:=h,count:=C }:St).text next))->Out q D s c (MS.andThen (MS.textL f x) g):=by
 induction f with
 | zero=>intro x c N i k;omega
 | succ f ih=>
  intro x c N i k j l e;rw [gz];refine ND N (fun h C _ _ _ hk=>by rw [j h C];exact zC hk) _ fun y a Y F hk _=>?_
  have b:=Yn (A:=fun σ=>σ.Ab 8 (σ.text next)) F j;have d:=F.st.trans i;unfold St.Ab St.text at b;rw [zA zO] at b;have r:y.num 8=a.σ.num 8:=by unfold MS.num St.num;rw [Y.sm.held]
  by_cases h5:a.σ.lim<=a.σ.Bq
  ·rw [zC h5] at b;rw [zC (Y.lim.2 h5)];exact Cn Y b zD rfl rfl rfl
  ·rw [zA h5] at b;rw [zA (fun h=>h5 (Y.lim.1 h)),r];by_cases h6:a.σ.num 8=0
   ·rw [zC h6] at b |-;exact l y a Y d b h5
   ·rw [zA h6] at b |-;have hm:a.σ.marks=c.σ.marks:=by rw [F.σ]
    refine CV Y.sm.wf b zO (ih ?_ d ?_ (e _ d hm) l (fun σ h1 h2=>e σ h1 (h2.trans hm)))
    ·exact ⟨{ Y.sm with
      wf:=CW Y.sm.wf b
      sum:=fun _=>Y.sm.sum (by rw [Y.st];omega)
      held:=by show y.held / 2^8=a.σ.held / 2^8;rw [Y.sm.held]
      count:=by show y.count - 8=a.σ.count - 8;rw [Y.sm.count]
      head:=⟨by show y.head+1=a.σ.Bq+1;rw [Y.sm.head.1],by show a.σ.Bq+1<=a.σ.lim;omega⟩
      Az:=by show (y.Az+y.num 8)%256=(a.σ.Az+a.σ.num 8)%256;rw [Y.sm.Az];unfold MS.num St.num;rw [Y.sm.held]
      nl:=fun h=>absurd h (show ¬ (10<=a.σ.st/\a.σ.st<=14) by omega)
      nd:=fun h=>absurd h (show ¬ (11<=a.σ.st/\a.σ.st<=14) by omega)
      told:=fun h=>absurd h (show ¬ (12<=a.σ.st/\a.σ.st<=14) by omega)
      hs:=fun h=>absurd h (show ¬ (13<=a.σ.st/\a.σ.st<=14) by omega)
      hk:=fun h=>absurd h (show ¬ (a.σ.st=14) by omega)
      la:=fun h=>absurd h (show ¬ (15<=a.σ.st/\a.σ.st<=20) by omega) },Y.st,Y.mb,Y.pre⟩
    ·have o:=N.more;have p:(y.Ez).more=(s.size - a.pre.length)+(a.σ.count - 8) / 8:=by
      unfold MS.more;show y.rest.length+(y.count - 8) / 8=_;rw [Y.sm.rest,Kd,Y.sm.count]
     have t:=F.nm;have u:=Y.sm.le;rw [o] at k;rw [p];omega
theorem Su(N:Sn q D s x c)(n next mark:Nat)(e:n=3/\mark=1/\next=4\/n=4/\mark=2/\next=5)(d:c.σ.st=n)(g:MS->MS×Nat)
  (h0:c.σ.act= .DF { c.σ with st:=next }->Out q D s c (g x))
  (f:∀ y b,Sn q D s y b->b.σ.st=n->b.σ.act= .DF { b.σ.Au with st:=next }->¬ b.σ.lim<=b.σ.Bq->Out q D s b (g y.Ez)):Out q D s c (MS.andThen (MS.CE mark x) g):=by
 unfold MS.CE;rw [N.sm.marks];by_cases h1:c.σ.marks / mark%2=0
 ·rw [zC h1,CM];refine h0 ?_;rw [St.Af d];rcases e with ⟨rfl,rfl,rfl⟩ | ⟨rfl,rfl,rfl⟩
  ·exact zA zO
  ·exact zA zO
 ·rw [zA h1];have a:∀ (σ:St),σ.st=n->σ.marks=c.σ.marks->∀ h C,({ σ with held:=h,count:=C }:St).act=({ σ with held:=h,count:=C }:St).Ab 8 (({ σ with held:=h,count:=C }:St).text next):=fun σ hs hm h C=>by
   rw [St.Af (show ({ σ with held:=h,count:=C }:St).st=n from hs)];rcases e with ⟨rfl,rfl,rfl⟩ | ⟨rfl,rfl,rfl⟩
   ·exact zC (show σ.marks%2=1 by rw [hm];omega)
   ·exact zC (show σ.marks / 2%2=1 by rw [hm];omega)
  exact KR n next zO g _ N d (Nat.lt_succ_self _) (a _ d rfl) f a
theorem YI(N:Sn q D s x c)(d:c.σ.st=4):Out q D s c x.h5:=by
 unfold MS.h5;refine Su N 4 5 2 zO d _ (fun a=>?_) (fun y b Y e a h5=>?_)
 ·refine CV N.sm.wf a zO (YJ ?_ rfl);exact ⟨{ N.sm with
   wf:=CW N.sm.wf a
   sum:=fun _=>N.sm.sum (by rw [N.st];omega)
   nl:=fun h=>absurd h (show ¬ (10<=5/\5<=14) by decide)
   nd:=fun h=>absurd h (show ¬ (11<=5/\5<=14) by decide)
   told:=fun h=>absurd h (show ¬ (12<=5/\5<=14) by decide)
   hs:=fun h=>absurd h (show ¬ (13<=5/\5<=14) by decide)
   hk:=fun h=>absurd h (show ¬ (5=14) by decide)
   la:=fun h=>absurd h (show ¬ (15<=5/\5<=20) by decide) },rfl,N.mb,N.pre⟩
 ·refine CV Y.sm.wf a zO (YJ ?_ rfl);exact ⟨{ Y.sm with
   wf:=CW Y.sm.wf a
   sum:=fun _=>Y.sm.sum (by rw [Y.st];omega)
   held:=by show y.held / 2^8=b.σ.held / 2^8;rw [Y.sm.held]
   count:=by show y.count - 8=b.σ.count - 8;rw [Y.sm.count]
   head:=⟨by show y.head+1=b.σ.Bq+1;rw [Y.sm.head.1],by show b.σ.Bq+1<=b.σ.lim;omega⟩
   Az:=by show (y.Az+y.num 8)%256=(b.σ.Az+b.σ.num 8)%256;rw [Y.sm.Az];unfold MS.num St.num;rw [Y.sm.held]
   nl:=fun h=>absurd h (show ¬ (10<=5/\5<=14) by decide)
   nd:=fun h=>absurd h (show ¬ (11<=5/\5<=14) by decide)
   told:=fun h=>absurd h (show ¬ (12<=5/\5<=14) by decide)
   hs:=fun h=>absurd h (show ¬ (13<=5/\5<=14) by decide)
   hk:=fun h=>absurd h (show ¬ (5=14) by decide)
   la:=fun h=>absurd h (show ¬ (15<=5/\5<=20) by decide) },rfl,Y.mb,Y.pre⟩
theorem YH(N:Sn q D s x c)(d:c.σ.st=3):Out q D s c x.h4:=by
 unfold MS.h4;refine Su N 3 4 1 zO d _ (fun a=>?_) (fun y b Y e a h5=>?_)
 ·refine CV N.sm.wf a zO (YI ?_ rfl);exact ⟨{ N.sm with
   wf:=CW N.sm.wf a
   sum:=fun _=>N.sm.sum (by rw [N.st];omega)
   nl:=fun h=>absurd h (show ¬ (10<=4/\4<=14) by decide)
   nd:=fun h=>absurd h (show ¬ (11<=4/\4<=14) by decide)
   told:=fun h=>absurd h (show ¬ (12<=4/\4<=14) by decide)
   hs:=fun h=>absurd h (show ¬ (13<=4/\4<=14) by decide)
   hk:=fun h=>absurd h (show ¬ (4=14) by decide)
   la:=fun h=>absurd h (show ¬ (15<=4/\4<=20) by decide) },rfl,N.mb,N.pre⟩
 ·refine CV Y.sm.wf a zO (YI ?_ rfl);exact ⟨{ Y.sm with
   wf:=CW Y.sm.wf a
   sum:=fun _=>Y.sm.sum (by rw [Y.st];omega)
   held:=by show y.held / 2^8=b.σ.held / 2^8;rw [Y.sm.held]
   count:=by show y.count - 8=b.σ.count - 8;rw [Y.sm.count]
   head:=⟨by show y.head+1=b.σ.Bq+1;rw [Y.sm.head.1],by show b.σ.Bq+1<=b.σ.lim;omega⟩
   Az:=by show (y.Az+y.num 8)%256=(b.σ.Az+b.σ.num 8)%256;rw [Y.sm.Az];unfold MS.num St.num;rw [Y.sm.held]
   nl:=fun h=>absurd h (show ¬ (10<=4/\4<=14) by decide)
   nd:=fun h=>absurd h (show ¬ (11<=4/\4<=14) by decide)
   told:=fun h=>absurd h (show ¬ (12<=4/\4<=14) by decide)
   hs:=fun h=>absurd h (show ¬ (13<=4/\4<=14) by decide)
   hk:=fun h=>absurd h (show ¬ (4=14) by decide)
   la:=fun h=>absurd h (show ¬ (15<=4/\4<=20) by decide) },rfl,Y.mb,Y.pre⟩
theorem eF(N:Sn q D s x c)(d:c.σ.st=2):Out q D s c x.h3:=by
 unfold MS.h3 MS.Ca;by_cases h2:x.fm=2
 ·have e:c.σ.fmt=2:=by rw [<- N.sm.fm];exact h2
  rw [zC h2,Nj];refine ND N (Dz d fun h C hk=>by simp only [St.actAt];rw [zC e];exact zC hk) _ fun y b Y F hk _=>?_
  have f:=F.st.trans d;have a:b.σ.act=if b.σ.lim<=b.σ.Bq then .fail 5 else if 7<b.σ.num 8 then .fail 4 else .DF { b.σ.Au with marks:=b.σ.num 8,st:=3 }:=by
   rw [St.Af f];simp only [St.actAt,St.Ab];rw [zC (F.fmt.trans e),zA zO]
  have g:y.num 8=b.σ.num 8:=by unfold MS.num St.num;rw [Y.sm.held]
  by_cases h5:b.σ.lim<=b.σ.Bq
  ·rw [zC h5] at a;rw [zC (Y.lim.2 h5)];exact Cn Y a zD rfl rfl rfl
  ·rw [zA h5] at a;rw [zA (fun h=>h5 (Y.lim.1 h)),g];by_cases h6:7<b.σ.num 8
   ·rw [zC h6] at a |-;exact Cn Y a zD rfl rfl rfl
   ·rw [zA h6] at a |-;rw [CM];refine CV Y.sm.wf a zO (YH ?_ rfl);exact ⟨{ Y.sm with
     wf:=CW Y.sm.wf a
     sum:=fun _=>Y.sm.sum (by rw [Y.st];omega)
     held:=by show y.held / 2^8=b.σ.held / 2^8;rw [Y.sm.held]
     count:=by show y.count - 8=b.σ.count - 8;rw [Y.sm.count]
     head:=⟨by show y.head+1=b.σ.Bq+1;rw [Y.sm.head.1],by show b.σ.Bq+1<=b.σ.lim;omega⟩
     Az:=by show (y.Az+y.num 8)%256=(b.σ.Az+b.σ.num 8)%256;rw [Y.sm.Az];unfold MS.num St.num;rw [Y.sm.held]
     marks:=rfl
     nl:=fun h=>absurd h (show ¬ (10<=3/\3<=14) by decide)
     nd:=fun h=>absurd h (show ¬ (11<=3/\3<=14) by decide)
     told:=fun h=>absurd h (show ¬ (12<=3/\3<=14) by decide)
     hs:=fun h=>absurd h (show ¬ (13<=3/\3<=14) by decide)
     hk:=fun h=>absurd h (show ¬ (3=14) by decide)
     la:=fun h=>absurd h (show ¬ (15<=3/\3<=20) by decide) },rfl,Y.mb,Y.pre⟩
 ·rw [zA h2,CM];have a:c.σ.act= .DF { c.σ with st:=3 }:=by
   rw [St.Af d];exact zA (by rw [<- N.sm.fm];exact h2)
  refine CV N.sm.wf a zO (YH ?_ rfl);exact ⟨{ N.sm with
   wf:=CW N.sm.wf a
   sum:=fun _=>N.sm.sum (by rw [N.st];omega)
   nl:=fun h=>absurd h (show ¬ (10<=3/\3<=14) by decide)
   nd:=fun h=>absurd h (show ¬ (11<=3/\3<=14) by decide)
   told:=fun h=>absurd h (show ¬ (12<=3/\3<=14) by decide)
   hs:=fun h=>absurd h (show ¬ (13<=3/\3<=14) by decide)
   hk:=fun h=>absurd h (show ¬ (3=14) by decide)
   la:=fun h=>absurd h (show ¬ (15<=3/\3<=20) by decide) },rfl,N.mb,N.pre⟩
theorem eE(N:Sn q D s x c)(d:c.σ.st=1):Out q D s c x.h2:=by
 have f:=St.Oa N.sm.wf zO;unfold MS.h2 MS.Bo;rw [N.sm.fm,zA f];refine Mq N (MS.second c.σ.fmt) 2 (fun h C=>by rw [St.Af (show ({ c.σ with held:=h,count:=C }:St).st=1 from d)];rfl) _ fun y b Y F a h5=>?_
 have e:=F.st.trans d;refine CV Y.sm.wf a zO (eF ?_ rfl);exact ⟨{ Y.sm with
  wf:=CW Y.sm.wf a
  sum:=fun _=>Y.sm.sum (by rw [Y.st];omega)
  held:=by show y.held / 2^8=b.σ.held / 2^8;rw [Y.sm.held]
  count:=by show y.count - 8=b.σ.count - 8;rw [Y.sm.count]
  head:=⟨by show y.head+1=b.σ.Bq+1;rw [Y.sm.head.1],by show b.σ.Bq+1<=b.σ.lim;omega⟩
  Az:=by show (y.Az+y.num 8)%256=(b.σ.Az+b.σ.num 8)%256;rw [Y.sm.Az];unfold MS.num St.num;rw [Y.sm.held]
  nl:=fun h=>absurd h (show ¬ (10<=2/\2<=14) by decide)
  nd:=fun h=>absurd h (show ¬ (11<=2/\2<=14) by decide)
  told:=fun h=>absurd h (show ¬ (12<=2/\2<=14) by decide)
  hs:=fun h=>absurd h (show ¬ (13<=2/\2<=14) by decide)
  hk:=fun h=>absurd h (show ¬ (2=14) by decide)
  la:=fun h=>absurd h (show ¬ (15<=2/\2<=20) by decide) },rfl,Y.mb,Y.pre⟩
theorem YF(N:Sn q D s x c)(d:c.σ.st=0):Out q D s c x.h1:=by
 have f:=St.Oa N.sm.wf zO;unfold MS.h1 MS.Bo;rw [N.sm.fm,zA f];refine Mq N (MS.first c.σ.fmt) 1 (fun h C=>by rw [St.Af (show ({ c.σ with held:=h,count:=C }:St).st=0 from d)];rfl) _ fun y b Y F a h5=>?_
 have e:=F.st.trans d;refine CV Y.sm.wf a zO (eE ?_ rfl);exact ⟨{ Y.sm with
  wf:=CW Y.sm.wf a
  sum:=fun _=>Y.sm.sum (by rw [Y.st];omega)
  held:=by show y.held / 2^8=b.σ.held / 2^8;rw [Y.sm.held]
  count:=by show y.count - 8=b.σ.count - 8;rw [Y.sm.count]
  head:=⟨by show y.head+1=b.σ.Bq+1;rw [Y.sm.head.1],by show b.σ.Bq+1<=b.σ.lim;omega⟩
  Az:=by show (y.Az+y.num 8)%256=(b.σ.Az+b.σ.num 8)%256;rw [Y.sm.Az];unfold MS.num St.num;rw [Y.sm.held]
  nl:=fun h=>absurd h (show ¬ (10<=1/\1<=14) by decide)
  nd:=fun h=>absurd h (show ¬ (11<=1/\1<=14) by decide)
  told:=fun h=>absurd h (show ¬ (12<=1/\1<=14) by decide)
  hs:=fun h=>absurd h (show ¬ (13<=1/\1<=14) by decide)
  hk:=fun h=>absurd h (show ¬ (1=14) by decide)
  la:=fun h=>absurd h (show ¬ (15<=1/\1<=20) by decide) },rfl,Y.mb,Y.pre⟩
theorem Tf{P:Program}{w:World}:∀ {l:List (String×DataW Unit)} {ps:List MemPlace},DataW.LaidVars P w l ps->∀ n d,(n,d)∈l->∃ g t cs a p,P.globalNamed n=some g/\(P.globals[g]?).map (·.type)=some t/\w.var? P n=some cs/\DataW.trod (fun _=>()) P w 0 (fun _=>true) false a t cs.toList=some (d,p)
 | [],_,_,_,_,hm=>by cases hm
 | (n',d') :: r,ps,h,n,d,hm=>by
  obtain ⟨g,t,cs,a,p,q,h1,h2,h3,h4,h5,_⟩:=h;rcases xB.1 hm with e | hm
  ·injection e with e1 e2
   subst e1;subst e2;exact ⟨g,t,cs,a,p,h1,h2,h3,h4⟩
  ·exact Tf h5 n d hm
def QW:List Int:=[13,14,12,0,7,8,6,9,5,10,4,11,3,2,1]
theorem To:QW.map (fun z=>Value.int .i64 z)=QV.toList:=rfl
theorem Zm:prog.cellsOf 3=1:=zK
theorem bu:prog.cellsOf 245=15:=zK
theorem QX{laid:List (String×DataW Unit)}{name:String}{g0:Nat}(hl:laidMetH prog laid W)(j:(laid.filter fun x=>x.2.handleName?.isSome)=[])(hm:(name,Lib.tabData .i64 QW)∈laid)(d:prog.globalNamed name=some g0)(k:(prog.globals[g0]?).map (·.type)=some 245)(b:g0<prog.globals.size)
  (a:∃ z,(((begin prog (fun _ _=>0) default).world.heap[g0]?).bind Obj.row?)=some (z,245)) (hs:W.ShapedOpen prog):∃ fr,W.heap[g0]?=some (.cells QV 245 fr):=by
 unfold laidMetH at hl;rw [j] at hl;obtain ⟨ps,i,_,_⟩:=hl;obtain ⟨g,t,cs,c,p,h1,h2,h3,h4⟩:=Tf i _ _ hm;rw [d] at h1;injection h1 with h1
 subst h1;rw [k] at h2;injection h2 with h2
 subst h2;have e:=Lib.cells_of_tab (zs:=QW) underlying245 underlying3 Zm bu h4;rw [To] at e;have h:=Array.ext' e;obtain ⟨z,l⟩:=a;obtain ⟨f,hc,_,_⟩:=hs.1 g0 z 245 b l;refine ⟨(0,0),?_⟩;unfold World.var? at h3;rw [d] at h3;simp only [BM,hc,xP] at h3;rw [hc,h3,h]
structure TE(w:World):Prop where
 ref:Bs w w.heap.size
 prog:EG w
theorem TE.below(h:TE w)(b:Below w.heap.size w w'):TE w':=⟨⟨zM h.ref.1 b.size,(h.ref.below b).2⟩,h.prog.below b⟩
theorem SU{laid:List (String × DataW Unit)}(hl : laidMetH prog laid W)(hf : (laid.filter fun x => x.2.handleName?.isSome) = [])(h1 : ("floodgate/floodgateref.order", Lib.tabData .i64 QW) ∈ laid)(h2 : ("floodgate/floodgate.helperOrder", Lib.tabData .i64 QW) ∈ laid)(hs : W.ShapedOpen prog) : TE W := by
 obtain ⟨fr,h⟩:=QX (g0:=1) hl hf h1 zK zK (kV zK) ⟨#[.int .i64 0, .int .i64 0, .int .i64 0, .int .i64 0, .int .i64 0, .int .i64 0, .int .i64 0, .int .i64 0, .int .i64 0, .int .i64 0, .int .i64 0, .int .i64 0, .int .i64 0, .int .i64 0, .int .i64 0],zK⟩ hs;obtain ⟨fr',h'⟩:=QX (g0:=0) hl hf h2 zK zK (kV zK) ⟨#[.int .i64 0, .int .i64 0, .int .i64 0, .int .i64 0, .int .i64 0, .int .i64 0, .int .i64 0, .int .i64 0, .int .i64 0, .int .i64 0, .int .i64 0, .int .i64 0, .int .i64 0, .int .i64 0, .int .i64 0],zK⟩ hs;exact ⟨⟨(yQ.1 h).1,fr,h⟩,fr',h'⟩
def Vi:Go.Shelf.Ren:=⟨fun | 171=>157 | 243=>185 | 246=>207 | 283=>217 | 284=>218 | 285=>219 | 286=>220 | 129=>224 | 317=>223 | 318=>225 | 319=>226 | 320=>227 | 337=>228 | 338=>229 | n=>n,fun | 3=>3 | 9=>9 | 2=>2 | 4=>4 | 171=>289 | 0=>0 | 53=>114 | 37=>34 | 5=>5 | 173=>292 | 212=>296 | 51=>279 | 20=>20 | 213=>297 | 46=>248 | 232=>300 | 233=>301 | n=>n,fun | 17=>2 | 18=>3 | 19=>4 | n=>n⟩
theorem fY:Go.Proofs.LaysM.n171 prog Vi:={
 mixed:=zK
 f129:=func224.trans (yH some zK)
 f171:=func157.trans (yH some zK)
 f243:=func185.trans (yH some zK)
 f246:=func207.trans (yH some zK)
 f283:=func217.trans (yH some zK)
 f284:=func218.trans (yH some zK)
 f285:=func219.trans (yH some zK)
 f286:=func220.trans (yH some zK)
 f317:=func223.trans (yH some zK)
 f318:=func225.trans (yH some zK)
 f319:=func226.trans (yH some zK)
 f320:=func227.trans (yH some zK)
 f337:=func228.trans (yH some zK)
 f338:=func229.trans (yH some zK)
 t0:=underlying0
 a0:=isAgg0
 z0:=sizeOf0
 v0:=Tryz.zeroValue0
 t2:=underlying2
 a2:=isAgg2
 z2:=sizeOf2
 v2:=Tryz.zeroValue2
 t3:=underlying3
 a3:=isAgg3
 z3:=sizeOf3
 v3:=Tryz.zeroValue3
 t4:=underlying4
 a4:=isAgg4
 z4:=sizeOf4
 v4:=Tryz.zeroValue4
 t5:=underlying5
 a5:=isAgg5
 z5:=sizeOf5
 v5:=Tryz.zeroValue5
 t9:=underlying9
 a9:=isAgg9
 z9:=sizeOf9
 v9:=Tryz.zeroValue9
 t20:=underlying20
 a20:=isAgg20
 z20:=sizeOf20
 v20:=Tryz.zeroValue20
 t37:=underlying34
 a37:=isAgg34
 z37:=sizeOf34
 v37:=Tryz.zeroValue34
 t46:=underlying248
 a46:=isAgg248
 z46:=sizeOf248
 v46:=Tryz.zeroValue248
 t51:=underlying279
 a51:=isAgg279
 z51:=sizeOf279
 v51:=Tryz.zeroValue279
 t53:=underlying114
 a53:=isAgg114
 z53:=sizeOf114
 v53:=Tryz.zeroValue114
 t171:=underlying289
 a171:=isAgg289
 z171:=sizeOf289
 v171:=Tryz.zeroValue289
 t173:=underlying292
 a173:=isAgg292
 z173:=sizeOf292
 v173:=Tryz.zeroValue292
 t212:=underlying296
 a212:=isAgg296
 z212:=sizeOf296
 v212:=Tryz.zeroValue296
 t213:=underlying297
 a213:=isAgg297
 z213:=sizeOf297
 t232:=underlying300
 a232:=isAgg300
 z232:=sizeOf300
 v232:=Tryz.zeroValue300
 t233:=underlying301
 a233:=isAgg301
 z233:=sizeOf301
 v233:=Tryz.zeroValue301
 g17:=zK
 g18:=zK
 g19:=zK
 i0:=zK
 i2:=zK
 i3:=zK
 i4:=zK
 i5:=zK
 i9:=zK
 i20:=zK
 i37:=zK
 i46:=zK
 i51:=zK
 i53:=zK
 i171:=zK
 i173:=zK
 i212:=zK
 i232:=zK
 i233:=zK
 m17:=zK
 m18:=zK
 m19:=by kernel_rfl }
def powC:Array Value:=(Lib.pow10Tab.map fun z=>Value.int .u64 z).toArray
def Kj(w:World):Prop:=∃ fr,w.heap[2]?=some (.cells powC 296 fr)
theorem Kj.below(h:Kj w)(a:Below w.heap.size w w'):Kj w':=by
 obtain ⟨fr,h1⟩:=h;exact ⟨fr,(a.block _ (yQ.1 h1).1).trans h1⟩
theorem Kj.PU{B:Nat}(h:Kj w)(a:Below B w w')(b:2<B):Kj w':=by
 obtain ⟨fr,h1⟩:=h;exact ⟨fr,(a.block _ b).trans h1⟩
theorem Kj.Oy(h : Kj w) : Lib.TabIs prog w "internal/strconv.uint64pow10" .u64 Lib.pow10Tab := by
 obtain ⟨fr,h⟩:=h;unfold Lib.TabIs World.var?;rw [show prog.globalNamed "internal/strconv.uint64pow10" = some 2 by kernel_rfl]
 simp only [BM,h];rfl
theorem XC(u:Nat):(Lib.decDigits u).length<=u+1:=by
 induction u using Nat.strongRecOn with
 | _ u ih=>
  rw [Lib.decDigits];split
  ·simp
  ·have:=ih (u / 10) zO;rw [zI];simp only [yG,xA];omega
theorem dA(n:Nat)(b:n<=1000000000)(w:World)(h:Kj w) :
  Calls prog 157 #[.int .i64 n] w fun e a=>∃ t:ByteArray,e= .returned (.string t)/\t.size<=1000000001/\Below w.heap.size w a:=by
 refine (Any.strconv_Itoa fY n zO zO w h.Oy).mono ?_;rintro e a ⟨rfl,k,os,rfl⟩;refine ⟨_,rfl,?_,⟨rfl,rfl,rfl,by simp [Sort.grow],fun k hk=>?_⟩⟩
 ·have h1:=XC n;have h2:Lib.itoa (n:Int)=Lib.decDigits n:=by unfold Lib.itoa;rw [zA zO];simp
  rw [h2];show (Lib.decDigits n).toArray.size<=_;rw [List.size_toArray];omega
 ·show (w.heap++os)[k]?=_;rw [Array.getElem?_append_left hk]
theorem Zn:prog.cellsOf 114=1:=zK
theorem bw:prog.cellsOf 296=20:=zK
theorem Vv{laid:List (String × DataW Unit)}(hl : laidMetH prog laid W)(hf : (laid.filter fun x => x.2.handleName?.isSome) = [])(hm : ("internal/strconv.uint64pow10", Lib.tabData .u64 Lib.pow10Tab) ∈ laid)(hs : W.ShapedOpen prog) : Kj W := by
 unfold laidMetH at hl;rw [hf] at hl;obtain ⟨ps,hL,_,_⟩:=hl;obtain ⟨g,t,cs,fuel,p,h1,h2,h3,h4⟩:=Tf hL _ _ hm;have hg : prog.globalNamed "internal/strconv.uint64pow10" = some 2 := zK
 have ht:(prog.globals[2]?).map (·.type)=some 296:=zK;rw [hg] at h1;injection h1 with h1
 subst h1;rw [ht] at h2;injection h2 with h2
 subst h2;have e:=Lib.cells_of_tab (zs:=Lib.pow10Tab) underlying296 underlying114 Zn bw h4;have e':cs=powC:=Array.ext' e;obtain ⟨z,hz⟩:∃ z,(((begin prog (fun _ _=>0) default).world.heap[2]?).bind Obj.row?)=some (z,296):=⟨Array.replicate 20 (.int .u64 0),zK⟩
 obtain ⟨cs',hc,_,_⟩:=hs.1 2 z 296 (kV zK) hz;refine ⟨(0,0),?_⟩;unfold World.var? at h3;rw [hg] at h3;simp only [BM,hc,xP] at h3;rw [hc,h3,e']
end Go.Proofs.YtbcjmakpempkiaaGreatDoor
