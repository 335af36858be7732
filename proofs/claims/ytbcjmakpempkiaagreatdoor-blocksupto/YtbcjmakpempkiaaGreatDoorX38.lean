import Derived.Deep.Slices
import Derived.Lib.LaidTab
import Derived.Test.YtbcjmakpempkiaaGreatDoorX37
set_option maxRecDepth 100000
set_option maxHeartbeats 8000000
set_option linter.all false
namespace Go.Proofs.YtbcjmakpempkiaaGreatDoor
open Go.RowKit
def jh4(w0:World)(p b:Nat)(s:ByteArray)(res:ByteArray×Nat)(w:World)(n:Nat):Prop:=∃ ρ x pb vb l,xpd w0 p b s res ρ x pb vb l w∧x0d s n x l res
open Classical in
noncomputable def jv8(w0:World)(p b:Nat)(s:ByteArray)(res:ByteArray×Nat)(w:World):Nat:=if h:∃ n,jh4 w0 p b s res w n then Classical.choose (least h) else 0
theorem v90{w0:World}{p b:Nat}{s:ByteArray}{res:ByteArray×Nat}{w:World}{n:Nat}(h:jh4 w0 p b s res w n):jh4 w0 p b s res w (jv8 w0 p b s res w)∧jv8 w0 p b s res w<=n:=by
 have h':∃ n,jh4 w0 p b s res w n:=⟨n,h⟩
 unfold jv8;rw [dif_pos h'];have:=Classical.choose_spec (least h');exact ⟨this.1,this.2 n h⟩
theorem x0d.turn{s:ByteArray}{n:Nat}{x:MS}{l:List Nat}{res:ByteArray×Nat}(h:x0d s n x l res):∃ j r,x.tk<=s.size∧vgc j { x with rest:=jlo s x.tk } r∧r.1.qa.length<=64∧(∀ y∈l++r.1.qa,y<256)∧l.length+64<=10000000000000∧
  ((r.2=2∧∃ k,n=k+1∧x0d s k { r.1 with rest:=[],qa:=[] } (l++r.1.qa) res)∨(r.2≠2∧res=if MS.verdict r.1≠0 then (⟨#[]⟩,MS.verdict r.1) else (xu6 (l++r.1.qa),0))):=by
 cases h with
 | go k j _ _ r _ h1 h2 h3 h4 h5 h6 h7=>exact ⟨j,r,h1,h2,h4,h5,h6,Or.inl ⟨h3,k,rfl,h7⟩⟩
 | stop j _ _ r h1 h2 h3 h4 h5 h6=>exact ⟨j,r,h1,h2,h4,h5,h6,Or.inr ⟨h3,rfl⟩⟩
theorem vzf(fm:Int)(s:ByteArray)(w:World)(hfm:fm<0∨2<fm) :
  Calls Tryz.prog 24 #[.int .i64 fm, .string s] w fun x w'=>vht w (⟨#[]⟩,1) x w':=by
 have hw:wi fm 0 2=false:=by
  cases e:wi fm 0 2 with
  | false=>rfl
  | true=>have:=xaq.1 e;omega
 go_enter Tryz.func24,Tryz.ntmps24
 go_wp2_with fail
 refine (ykv fm w).mono ?_;rintro e w1 ⟨rfl,rfl⟩;rw [hw];go_wp2_with fail
 go_ret2
 exact ⟨rfl,Below.refl _ _⟩
theorem zpf(fm:Nat)(s:ByteArray)(w:World)(hfm:fm<=2)(hs:s.size<=1000000000)(hO:OrdP w) :
  Calls Tryz.prog 24 #[.int .i64 fm, .string s] w fun x w'=>vht w (Tr.readAll fm s).mean x w':=by
 have hw:wi fm 0 2=true:=xaq.2 ⟨by omega,by omega⟩;obtain ⟨k0,hK⟩:=y1x (fm:=fm) (by omega) hs;generalize (Tr.readAll fm s).mean=res at *;have HK:Hid (x0d s k0 (MS.fresh fm 9223372036854775807 0 9223372036854775807 9223372036854775807 9223372036854775807 9223372036854775807) [] res):=hK;have HO:Hid (OrdP w):=hO;clear hK hO;go_enter Tryz.func24,Tryz.ntmps24
 go_wp2_with fail
 refine (ykv fm w).mono ?_;rintro e w1 ⟨rfl,rfl⟩;rw [hw];clear hw;go_wp2_with fail
 refine (kec fm w).mono ?_;rintro e w1 ⟨rfl,b1⟩;have H1:Hid (Below w.heap.size w w1):=b1;clear b1;go_wp2_with fail
 refine (j54 fm 9223372036854775807 0 9223372036854775807 9223372036854775807 9223372036854775807 9223372036854775807 w1).mono ?_;rintro e w2 ⟨p,ρ,rfl,M,hk,b2⟩;have H2:Hid (MQ ρ w2 p (MS.fresh fm 9223372036854775807 0 9223372036854775807 9223372036854775807 9223372036854775807 9223372036854775807)∧(∀ k,ρ k≠0->w1.heap.size<=k)∧Below w1.heap.size w1 w2):=⟨M,hk,b2⟩
 clear M hk b2;have HI0:Hid (jh4 w p w2.heap.size s res (w2.alloc (.cells #[.pointer none, .slice none 0 0] 106)) k0):=by
  obtain ⟨M,hk,b2⟩:=H2.out;have hsz1:=H1.out.size;have hsz2:=b2.size;have al:Below w2.heap.size w2 (w2.alloc (.cells #[.pointer none, .slice none 0 0] 106)):=(Below.refl _ _).alloc (Nat.le_refl _) _;refine ⟨ρ,_, .pointer none, .slice none 0 0,[],⟨M.below al,⟨by omega,?_,World.ownsRow_nil _ _ _ _,by simp [Value.ownBlock],Or.inl rfl⟩,?_,fun g hg=>by simp [Value.ownBlock] at hg,fun k hk'=>by have:=hk k hk';omega,(H1.out.trans (b2.mono hsz1)).trans (al.mono (by omega))⟩,HK.out⟩
  ·exact World.rowIs_alloc w2 _ _ _ (fun i hi=>by
    simp at hi;have:i=0∨i=1:=by omega
    rcases this with rfl | rfl <;> rfl)
  ·exact Classical.byContradiction fun hc=>by have:=M.lt.1 _ hc;omega
 have hlb:w.heap.size<=w2.heap.size:=Nat.le_trans H1.out.size H2.out.2.2.size;clear H1 H2 HK;go_wp2_with fail
 go_loopw [] (fun wr=>Hid (∃ k,jh4 w p w2.heap.size s res wr k)) (fun wr=>jv8 w p w2.heap.size s res wr)
 case atStart=>exact ⟨k0,HI0.out⟩
 case round=>
  clear HI0;obtain ⟨k,hk⟩:=hrel.out;obtain ⟨⟨ρ1,x,pb,vb,l,I,MN⟩,_⟩:=v90 hk;obtain ⟨j,r,ht,R,hq,hby,hll,hc⟩:=MN.turn;have HI:Hid (xpd w p w2.heap.size s res ρ1 x pb vb l wr):=I;have HR:Hid (vgc j { x with rest:=jlo s x.tk } r∧(∀ y∈l++r.1.qa,y<256)∧((r.2=2∧∃ k,jv8 w p w2.heap.size s res wr=k+1∧x0d s k { r.1 with rest:=[],qa:=[] } (l++r.1.qa) res)∨(r.2≠2∧res=if MS.verdict r.1≠0 then (⟨#[]⟩,MS.verdict r.1) else (xu6 (l++r.1.qa),0)))):=⟨R,hby,hc⟩
  have ctk:=I.mq.tk;clear hk I MN R hby hc hrel;have al:Below wr.heap.size wr (wr.alloc (.cells #[.string (s.extract x.tk s.size)] 9)):=(Below.refl _ _).alloc (Nat.le_refl _) _;have HI1:Hid (xpd w p w2.heap.size s res ρ1 x pb vb l (wr.alloc (.cells #[.string (s.extract x.tk s.size)] 9))):=HI.out.below al;have HP1:Hid (Pcs ρ1 (wr.alloc (.cells #[.string (s.extract x.tk s.size)] 9)) (.slice (some ⟨wr.heap.size,0,none⟩) 1 1) [s.extract x.tk s.size]):=by
   have hO':=HO.out.lt;have hszz:=HI.out.bel.size;refine ⟨some ⟨wr.heap.size,0,none⟩,1,rfl,fun k hk=>?_,Nat.le_refl _,by unfold maxLen;omega,fun t ht'=>?_,fun b o e=>?_⟩
   ·have hk0:k=0:=by simp at hk;omega
    subst hk0;refine ⟨wr.heap.size,0,rfl,by simp,?_⟩;rw [cell_of_row _ _ (0+0) _ _ _ (heap_alloc_new wr _)];rfl
   ·rw [List.mem_singleton.1 ht',ByteArray.size_extract];unfold maxLen;omega
   ·injection e with e
    injection e with e1 e2
    subst e1;refine ⟨⟨Classical.byContradiction fun hc=>by have:=HI.out.mq.lt.1 _ hc;omega,by omega⟩,by simp⟩
  have HR1:Hid (vgc j { x with rest:=[s.extract x.tk s.size].flatMap strN } r):=by
   have e:[s.extract x.tk s.size].flatMap strN=jlo s x.tk:=by rw [List.flatMap_cons,List.flatMap_nil,List.append_nil,x2f ht]
   rw [e];exact HR.out.1
  clear al;go_wp2_with fail
  have hOP:=HO.out.below (HI1.out.bel);have hG0:ρ1 0=0:=Classical.byContradiction fun hc=>by have:=HI1.out.nw _ hc;have:=HO.out.lt;omega
  refine (mRun HI1.out.mq HP1.out HR1.out hOP hG0).mono ?_;rintro e w3 ⟨rfl,A3⟩;obtain ⟨ρ2,I3⟩:=HI1.out.ran A3;have HI3:Hid (xpd w p w2.heap.size s res ρ2 { r.1 with rest:=[] } pb vb l w3):=I3;clear I3 A3 hOP hG0 HR1 HP1 HI1 HI ctk;rcases HR.out.2.2 with ⟨h2,k',hk',MN'⟩ | ⟨h2,hres⟩
  ·have HM:Hid (jv8 w p w2.heap.size s res wr=k'+1∧x0d s k' { r.1 with rest:=[],qa:=[] } (l++r.1.qa) res):=⟨hk',MN'⟩
   clear hk' MN';rw [h2];obtain ⟨rr,c16,TK⟩:=(show MQ ρ2 w3 p { r.1 with rest:=[] } from HI3.out.mq).taken 64 (by decide);have HTK:Hid _:=TK;clear TK;go_wp2_with fail
   refine Calls.mono HTK.out ?_;rintro e w4 ⟨g,rfl,hg,hrow,M4,F4⟩;have hmin:min 64 r.1.qa.length=r.1.qa.length:=by omega
   have hdrop:r.1.qa.drop (min 64 r.1.qa.length)=[]:=by rw [hmin,List.drop_length]
   have HI4:Hid (xpd w p w2.heap.size s res ρ2 { r.1 with rest:=[],qa:=[] } pb vb l w4):=by
    have M4':MQ ρ2 w4 p { r.1 with rest:=[],qa:=[] }:=by
     have h:=M4;simp only [hdrop] at h;exact h
    exact HI3.out.took M4' F4
   have HR4:Hid (w4.rowIs g 5 r.1.qa.length (fun j=> .int .u8 (r.1.qa.getD j 0:Nat))∧g≠w2.heap.size):=⟨by rw [← hmin];exact hrow,fun e=>by have:=HI3.out.bl.lt;omega⟩
   clear M4 F4 hrow HTK c16 hg;rw [show min 64 ({ r.1 with rest:=[] }:MS).qa.length=r.1.qa.length from hmin];clear hmin hdrop;go_wp2_with fail
   refine (x4f HI4.out.bl HI4.out.bel.size HR4.out.1 rfl HR4.out.2 (by omega)).mono ?_;rintro e w5 ⟨v5,rfl,B5,hv5,F5⟩;have HI5:Hid (xpd w p w2.heap.size s res ρ2 { r.1 with rest:=[],qa:=[] } (.pointer (some ⟨w2.heap.size,0,none⟩)) v5 (l++r.1.qa) w5):=HI4.out.wrote B5 hv5 F5;clear B5 hv5 F5 HR4 HI4;have HL5:Hid (jh4 w p w2.heap.size s res w5 k'):=⟨_,_,_,_,_,HI5.out,HM.out.2⟩
   go_wp2_with fail
   go_roundw
   case rel=>exact ⟨k',HL5.out⟩
   case measure=>
    have h1:=(v90 HL5.out).2;have h2:=HM.out.1;omega
  ·have HM:Hid (res=if MS.verdict r.1≠0 then (⟨#[]⟩,MS.verdict r.1) else (xu6 (l++r.1.qa),0)):=hres;clear hres;have h2i:¬ ((r.2:Nat):Int)=2:=by omega
   obtain ⟨rr,c16,TK⟩:=(show MQ ρ2 w3 p { r.1 with rest:=[] } from HI3.out.mq).taken 64 (by decide);have HTK:Hid _:=TK;clear TK;go_wp2_with fail
   refine Calls.mono HTK.out ?_;rintro e w4 ⟨g,rfl,hg,hrow,M4,F4⟩;have hmin:min 64 r.1.qa.length=r.1.qa.length:=by omega
   have hdrop:r.1.qa.drop (min 64 r.1.qa.length)=[]:=by rw [hmin,List.drop_length]
   have HI4:Hid (xpd w p w2.heap.size s res ρ2 { r.1 with rest:=[],qa:=[] } pb vb l w4):=by
    have M4':MQ ρ2 w4 p { r.1 with rest:=[],qa:=[] }:=by
     have h:=M4;simp only [hdrop] at h;exact h
    exact HI3.out.took M4' F4
   have HR4:Hid (w4.rowIs g 5 r.1.qa.length (fun j=> .int .u8 (r.1.qa.getD j 0:Nat))∧g≠w2.heap.size):=⟨by rw [← hmin];exact hrow,fun e=>by have:=HI3.out.bl.lt;omega⟩
   clear M4 F4 hrow HTK c16 hg;rw [show min 64 ({ r.1 with rest:=[] }:MS).qa.length=r.1.qa.length from hmin];clear hmin hdrop;go_wp2_with fail
   refine (x4f HI4.out.bl HI4.out.bel.size HR4.out.1 rfl HR4.out.2 (by omega)).mono ?_;rintro e w5 ⟨v5,rfl,B5,hv5,F5⟩;have HI5:Hid (xpd w p w2.heap.size s res ρ2 { r.1 with rest:=[],qa:=[] } (.pointer (some ⟨w2.heap.size,0,none⟩)) v5 (l++r.1.qa) w5):=HI4.out.wrote B5 hv5 F5;clear B5 hv5 F5 HR4 HI4;go_wp2_with fail
   refine (z9n HI5.out.mq.mm).mono ?_;rintro e w6 ⟨rfl,rfl⟩;rw [show MS.verdict ({ r.1 with rest:=[],qa:=[] }:MS)=MS.verdict r.1 from rfl];by_cases hv:MS.verdict r.1=0
   ·have HM2:Hid (res=(xu6 (l++r.1.qa),0)):=by show _=_;rw [show res=_ from HM.out,if_neg (by rw [hv];simp)]
    rw [hv];go_wp2_with fail
    refine (vfo HI5.out.bl HI5.out.bel.size HR.out.2.1).mono ?_;rintro e w7 ⟨rfl,b7⟩;have HB7:Hid (Below w.heap.size w w7):=HI5.out.bel.trans b7;clear b7;go_wp2_with fail
    go_ret2
    rw [HM2.out];exact ⟨rfl,HB7.out⟩
   ·have HM2:Hid (res=(⟨#[]⟩,MS.verdict r.1)):=by show _=_;rw [show res=_ from HM.out,if_pos hv]
    have hvi:¬ ((MS.verdict r.1:Nat):Int)=0:=by omega
    go_wp2_with fail
    go_ret2
    rw [HM2.out];exact ⟨rfl,HI5.out.bel⟩
theorem x6l{P:Program}{w:World}:∀ {l:List (String×DataW Unit)} {ps:List MemPlace},DataW.LaidVars P w l ps->∀ n d,(n,d)∈l->∃ g t cs fuel p,P.globalNamed n=some g∧(P.globals[g]?).map (·.type)=some t∧w.var? P n=some cs∧DataW.trod (fun _=>()) P w 0 (fun _=>true) false fuel t cs.toList=some (d,p)
 | [],_,_,_,_,hm=>by cases hm
 | (n',d') :: r,ps,h,n,d,hm=>by
  obtain ⟨g,t,cs,fuel,p,q,h1,h2,h3,h4,h5,_⟩:=h;rcases List.mem_cons.1 hm with e | hm
  ·injection e with e1 e2
   subst e1;subst e2;exact ⟨g,t,cs,fuel,p,h1,h2,h3,h4⟩
  ·exact x6l h5 n d hm
def xm6:List Int:=[13,14,12,0,7,8,6,9,5,10,4,11,3,2,1]
theorem xp9:xm6.map (fun z=>Value.int .i64 z)=zn4.toList:=rfl
theorem yip:Tryz.prog.cellsOf 3=1:=by kernel_rfl
theorem knh:Tryz.prog.cellsOf 245=15:=by kernel_rfl
theorem zpy{W:World}{laid:List (String×DataW Unit)}{name:String}{g0:Nat}(hl:laidMetH Tryz.prog laid W)(hf:(laid.filter fun x=>x.2.handleName?.isSome)=[])(hm:(name,Lib.tabData .i64 xm6)∈laid)(hg:Tryz.prog.globalNamed name=some g0)(ht:(Tryz.prog.globals[g0]?).map (·.type)=some 245)(hgl:g0<Tryz.prog.globals.size)
  (hrow:∃ z,(((begin Tryz.prog (fun _ _=>0) default).world.heap[g0]?).bind Obj.row?)=some (z,245)) (hs:W.ShapedOpen Tryz.prog):∃ fr,W.heap[g0]?=some (.cells zn4 245 fr):=by
 unfold laidMetH at hl;rw [hf] at hl;obtain ⟨ps,hL,_,_⟩:=hl;obtain ⟨g,t,cs,fuel,p,h1,h2,h3,h4⟩:=x6l hL _ _ hm;rw [hg] at h1;injection h1 with h1
 subst h1;rw [ht] at h2;injection h2 with h2
 subst h2;have e:=Lib.cells_of_tab (zs:=xm6) Tryz.underlying245 Tryz.underlying3 yip knh h4;rw [xp9] at e;have e':cs=zn4:=Array.ext' e;obtain ⟨z,hz⟩:=hrow;obtain ⟨cs',hc,_,_⟩:=hs.1 g0 z 245 hgl hz;refine ⟨(0,0),?_⟩;unfold World.var? at h3;rw [hg] at h3;simp only [Option.bind_some,hc,Option.some.injEq] at h3;rw [hc,h3,e']
structure Ords(w:World):Prop where
 ref:y4t w w.heap.size
 prog:OrdP w
theorem Ords.below{w w':World}(h:Ords w)(b:Below w.heap.size w w'):Ords w':=⟨⟨Nat.lt_of_lt_of_le h.ref.1 b.size,(h.ref.below b).2⟩,h.prog.below b⟩
theorem kl0 {W : World} {laid : List (String × DataW Unit)} (hl : laidMetH Tryz.prog laid W) (hf : (laid.filter fun x => x.2.handleName?.isSome) = []) (h1 : ("floodgate/floodgateref.order", Lib.tabData .i64 xm6) ∈ laid) (h2 : ("floodgate/floodgate.helperOrder", Lib.tabData .i64 xm6) ∈ laid) (hs : W.ShapedOpen Tryz.prog) : Ords W := by
 obtain ⟨fr,h⟩:=zpy (g0:=1) hl hf h1 (by kernel_rfl) (by kernel_rfl) (of_decide_eq_true (by kernel_rfl)) ⟨#[.int .i64 0, .int .i64 0, .int .i64 0, .int .i64 0, .int .i64 0, .int .i64 0, .int .i64 0, .int .i64 0, .int .i64 0, .int .i64 0, .int .i64 0, .int .i64 0, .int .i64 0, .int .i64 0, .int .i64 0],by kernel_rfl⟩ hs;obtain ⟨fr',h'⟩:=zpy (g0:=0) hl hf h2 (by kernel_rfl) (by kernel_rfl) (of_decide_eq_true (by kernel_rfl)) ⟨#[.int .i64 0, .int .i64 0, .int .i64 0, .int .i64 0, .int .i64 0, .int .i64 0, .int .i64 0, .int .i64 0, .int .i64 0, .int .i64 0, .int .i64 0, .int .i64 0, .int .i64 0, .int .i64 0, .int .i64 0],by kernel_rfl⟩ hs;exact ⟨⟨(Array.getElem?_eq_some_iff.1 h).1,fr,h⟩,fr',h'⟩
theorem laid_blocks{W:World}(hl:laidMetH Tryz.prog Rows.blocksUptoRow.laid W)(hs:W.ShapedOpen Tryz.prog):Ords W:=
 kl0 hl rfl (List.mem_cons_self ..) (by unfold Rows.blocksUptoRow;simp only [List.mem_cons,Prod.mk.injEq];right;right;right;right;left;exact ⟨trivial,rfl⟩) hs
theorem laid_means{W:World}(hl:laidMetH Tryz.prog Rows.meansUptoRow.laid W)(hs:W.ShapedOpen Tryz.prog):Ords W:=
 kl0 hl rfl (List.mem_cons_self ..) (by unfold Rows.meansUptoRow;simp only [List.mem_cons,Prod.mk.injEq];right;right;right;right;left;exact ⟨trivial,rfl⟩) hs
theorem v18(fm:Int)(s:ByteArray)(hs:s.size<=1000000000):∃ res:ByteArray×Nat,(∀ W,OrdP W->Calls Tryz.prog 24 #[.int .i64 fm, .string s] W fun x w'=>vht W res x w')∧(∀ W,y4t W W.heap.size->Calls Tryz.prog 121 #[.int .i64 fm, .string s] W fun x w'=>vht W res x w'):=by
 by_cases h:0<=fm∧fm<=2
 ·obtain ⟨n,rfl⟩:∃ n:Nat,fm=n:=⟨fm.toNat,by omega⟩
  exact ⟨(Tr.readAll n s).mean,fun W hO=>zpf n s W (by omega) hs hO,fun W hO=>zys n s W (by omega) (by omega) hO⟩
 ·exact ⟨(⟨#[]⟩,1),fun W _=>vzf fm s W (by omega),fun W _=>ynr fm s W (by omega)⟩
theorem v3b(fm:Int)(s:ByteArray)(w:World)(hs:s.size<=1000000000)(hO:y4t w w.heap.size)(hP:OrdP w) :
  Calls Tryz.prog 88 #[.int .i64 fm, .string s] w fun e w'=>e= .returned (.bool true)∧Below w.heap.size w w':=by
 obtain ⟨res,h1,h2⟩:=v18 fm s hs;have H:Hid ((∀ W,OrdP W->Calls Tryz.prog 24 #[.int .i64 fm, .string s] W fun x w'=>vht W res x w')∧(∀ W,y4t W W.heap.size->Calls Tryz.prog 121 #[.int .i64 fm, .string s] W fun x w'=>vht W res x w')∧y4t w w.heap.size∧OrdP w):=⟨h1,h2,hO,hP⟩
 clear h1 h2 hO hP;obtain ⟨u,v⟩:=res;go_enter Tryz.func88,Tryz.ntmps88
 go_wp2_with fail
 refine (H.out.1 w H.out.2.2.2).mono ?_;rintro e w1 ⟨rfl,b1⟩;have H1:Hid (Below w.heap.size w w1):=b1;clear b1;go_wp2_with fail
 have hO1:y4t w1 w1.heap.size:=by
  have h:=H.out.2.2.1.below H1.out;exact ⟨Nat.lt_of_lt_of_le h.1 H1.out.size,h.2⟩
 refine (H.out.2.1 w1 hO1).mono ?_;rintro e w2 ⟨rfl,b2⟩;have H2:Hid (Below w.heap.size w w2):=y6y H1.out b2;clear b2 hO1;go_wp2_with (go_at_call 86;refine (y44 _ _).mono ?_;rintro e w' ⟨rfl,rfl⟩)
 go_ret
 exact ⟨by simp,H2.out⟩
theorem yul(gW:Nat)(a b c:Int)(s:ByteArray)(ap:Option Addr)(np cp:Nat)(w:World)(hs:s.size<=1000000000)(hO:Ords w) :
  Calls Tryz.prog 59 #[.pointer (some ⟨gW,0,none⟩), .agg (opV 5 a b c s (.slice ap np cp))] w fun e w'=>e= .returned (.bool true)∧Below w.heap.size w w':=by
 have B0:Hid (Below w.heap.size w (w.alloc (.cells #[.int .i64 5, .int .i64 a, .int .i64 b, .int .i64 c, .string s, .slice ap np cp] 79))):=(Below.refl _ _).alloc (Nat.le_refl _) _;have HO:Hid (Ords w):=hO;clear hO;unfold opV;go_enter Tryz.func59,Tryz.ntmps59
 go_wp2_with fail
 refine (v3b 0 s _ hs (HO.out.below B0.out).ref (HO.out.below B0.out).prog).mono ?_;rintro e w1 ⟨rfl,hb1⟩;have HB1:Hid (Below w.heap.size w w1):=y6y B0.out hb1;clear hb1;go_wp2_with fail
 go_ret
 exact ⟨rfl,HB1.out⟩
theorem knn(gW:Nat)(a b c:Int)(s:ByteArray)(ap:Option Addr)(np cp:Nat)(w:World)(hs:s.size<=1000000000)(hO:Ords w) :
  Calls Tryz.prog 59 #[.pointer (some ⟨gW,0,none⟩), .agg (opV 7 a b c s (.slice ap np cp))] w fun e w'=>e= .returned (.bool true)∧Below w.heap.size w w':=by
 have B0:Hid (Below w.heap.size w (w.alloc (.cells #[.int .i64 7, .int .i64 a, .int .i64 b, .int .i64 c, .string s, .slice ap np cp] 79))):=(Below.refl _ _).alloc (Nat.le_refl _) _;have HO:Hid (Ords w):=hO;clear hO;unfold opV;go_enter Tryz.func59,Tryz.ntmps59
 go_wp2_with fail
 refine (v3b a s _ hs (HO.out.below B0.out).ref (HO.out.below B0.out).prog).mono ?_;rintro e w1 ⟨rfl,hb1⟩;have HB1:Hid (Below w.heap.size w w1):=y6y B0.out hb1;clear hb1;go_wp2_with fail
 go_ret
 exact ⟨rfl,HB1.out⟩
def ownC:Array Value:=#[.int .i64 0, .int .i64 9, .int .i64 9, .int .i64 9, .int .i64 1, .int .i64 9, .int .i64 99]
theorem za1(w:World):Calls Tryz.prog 32 #[] w fun e w'=>e= .returned (.agg ownC)∧w'=w.alloc (.cells ownC 42):=by
 go_enter Tryz.func32,Tryz.ntmps32
 go_wp2_with fail
 exact bodyPost_ret (v:= .agg ownC) (by simp [results,Tryz.results32,go_sem,ownC]) rfl ⟨rfl,rfl⟩
def z0j:List (Int×Int×Int×Int×ByteArray):=
 [(3,0,0,0,⟨#[97]⟩),(1,1,0,0,⟨#[]⟩),(1,1,0,0,⟨#[]⟩),(4,0,0,0,⟨#[]⟩),(1,1,0,0,⟨#[]⟩),(4,0,0,0,⟨#[]⟩),(2,0,0,0,⟨#[]⟩),
  (5,0,0,0,⟨#[1,2,0,253,255,104,105]⟩),(5,0,0,0,⟨#[7]⟩),(7, -1,0,0,⟨#[1,2,0,253,255,104,105]⟩),(7,1,0,0,⟨#[115,1,1,2,0,253,255,104,105,1,59,0,210]⟩),
  (8, -1, -1,0,⟨#[]⟩),(10,0,6,2,⟨#[]⟩),(11,0,1,0,⟨#[]⟩),(10,0,1,0,⟨#[]⟩),(12,0,0,0,⟨#[]⟩),(13,0,0,0,⟨#[]⟩),(11,0,9,0,⟨#[]⟩)]
def y89(l:List (Int×Int×Int×Int×ByteArray)):List Value:=l.flatMap fun x=>[.int .i64 x.1, .int .i64 x.2.1, .int .i64 x.2.2.1, .int .i64 x.2.2.2.1, .string x.2.2.2.2, .slice none 0 0]
def vuj:Array Value:=(y89 z0j).toArray
theorem xxy(w:World):Calls Tryz.prog 33 #[] w fun e w'=>e= .returned (.slice (some ⟨w.heap.size,0,none⟩) 18 18)∧w'=w.alloc (.cells vuj 79):=by
 go_enter Tryz.func33,Tryz.ntmps33
 go_wp2_with fail
 go_ret
 exact ⟨rfl,rfl⟩
theorem ymd:(Tryz.prog.info? 42).map (fun i=>(i.zero,i.size,i.bytes))=some (some (.agg #[.int .i64 0, .int .i64 0, .int .i64 0, .int .i64 0, .int .i64 0, .int .i64 0, .int .i64 0]),7,56):=by kernel_rfl
theorem jjg:(Tryz.prog.info? 9).map (fun i=>(i.zero,i.size,i.bytes))=some (some (.string ⟨#[]⟩),1,16):=by kernel_rfl
theorem jr0{P:Program}{ops:Array Oper}{o:Oper}{a:Go.Act}{w:World}{K:Go.Act->World->Prop}{Q:Exit->Go.Act->World->Prop}{E:Prop}(hg:o.guard=none)
  (f:FuncId) (args:Array Value) (hrun:(execOp a.eval o).run P w= .ok (.enter f args) w) (v:Value) (w':World)
  (hc:Calls P f args w fun e w''=>e= .returned v∧w''=w') (h:K (a.put o.dst v) w') :
  if Region.wanted o (yielded ops a.tmps)=true then Oper.wp P o a w K Q else E:=by
 have hw:Region.wanted o (yielded ops a.tmps)=true:=by simp [Region.wanted,hg]
 rw [if_pos hw];unfold Oper.wp;rw [hrun,Oper.upon_enter];refine hc.mono fun e w'' hh=>?_
 obtain ⟨rfl,rfl⟩:=hh;exact h
theorem z0e{ops:Array Oper}{o:Oper}{a:Go.Act}{w:World}{K:Go.Act->World->Prop}{Q:Exit->Go.Act->World->Prop}{E:Prop}(hg:o.guard=none)(_ho:o.op= .call { callee:= .value (.func 32),args:=#[],argTypes:=#[] })
  (hrun:(execOp a.eval o).run Tryz.prog w= .ok (.enter 32 #[]) w)
  (h:K (a.put o.dst (.agg #[.int .i64 0, .int .i64 9, .int .i64 9, .int .i64 9, .int .i64 1, .int .i64 9, .int .i64 99])) (w.alloc (.cells #[.int .i64 0, .int .i64 9, .int .i64 9, .int .i64 9, .int .i64 1, .int .i64 9, .int .i64 99] 42))) :
  if Region.wanted o (yielded ops a.tmps)=true then Oper.wp Tryz.prog o a w K Q else E:=
 jr0 hg _ _ hrun _ _ (za1 w) h
def yw2(vcs vss:Value)(still:List (Nat×Obj)):kuu:={ vcs:=vcs,vss:=vss,vl:= .slice none 0 0,lens:=[],mks:=0,vw:= .slice none 0 0,waits:=[],vr:= .slice none 0 0,weres:=[],vb:= .slice none 0 0,books:=[],still:=still,vrn:= .slice none 0 0,vtx:= .slice none 0 0 }
theorem Inv.ini{w W:World}{ρ:Nat->Nat}{vcs vss:Value}{still:List (Nat×Obj)}(h5:ρ w.heap.size=5)(h9:∀ x∈still,ρ x.1=9)(hb:Below w.heap.size w W)(hrow:W.rowIs w.heap.size 75 9 (fld (yw2 vcs vss still)))
  (hst:∀ x∈still,W.heap[x.1]?=some x.2):Inv w.heap.size w.heap.size 0 ρ (yw2 vcs vss still) W where
 gB:=Nat.le_refl _
 hB:=hb.size
 row:=hrow
 len:=OI.nil _ _
 wts:=World.ownsRow_nil _ _ _ _
 wrs:=World.ownsRow_nil _ _ _ _
 bks:=World.ownsRow_nil _ _ _ _
 lenw:=rfl
 wt:=fun i hi=>by simp [yw2] at hi
 wr:=fun i hi=>by simp [yw2] at hi
 bk:=fun b hb=>by simp [yw2] at hb
 rW:=h5
 rl:=fun g hg=>by simp [yw2,Value.ownBlock] at hg
 rwv:=fun g hg=>by simp [yw2,Value.ownBlock] at hg
 rr:=fun g hg=>by simp [yw2,Value.ownBlock] at hg
 rb:=fun g hg=>by simp [yw2,Value.ownBlock] at hg
 rwt:=fun i hi=>by simp [yw2] at hi
 rwr:=fun v hv=>by simp [yw2] at hv
 rbk:=fun b hb=>by simp [yw2] at hb
 mkB:=by simp [yw2]
 lnB:=by simp [yw2]
 lnN:=Or.inl rfl
 wlB:=fun i hi=>by simp [yw2] at hi
 stl:=hst
 rst:=h9
theorem zfn(W:World)(o o':Obj):((W.alloc o).alloc o').drew.heap[W.heap.size+1]?=some o':=by
 have h:=heap_alloc_new (W.alloc o) o';have e:(W.alloc o).heap.size=W.heap.size+1:=by simp
 rw [e] at h;exact h
theorem jsf{W w':World}{o o':Obj}{row:Option Nat}{g k:Nat}{v:Value}(h:((W.alloc o).alloc o').drew.grownBy w' row)(hg:g<W.heap.size)(hr:row≠some g)(hc:W.cell? ⟨g,k,none⟩=some v):w'.cell? ⟨g,k,none⟩=some v:=by
 rw [World.cell?_of_block ((h.block g (by simp;omega) (fun e=>hr e.symm)).trans ((Below.heap_alloc (W.alloc o) o' g (by simp;omega)).trans (Below.heap_alloc W o g hg)))];exact hc
theorem zwy{W w':World}{o o':Obj}{row:Option Nat}{g k:Nat}(h:((W.alloc o).alloc o').drew.grownBy w' row)(hg:g<W.heap.size)(hr:row≠some g)(hc:W.frozen? ⟨g,k,none⟩=false):w'.frozen? ⟨g,k,none⟩=false:=by
 rw [World.frozen?_of_block ((h.block g (by simp;omega) (fun e=>hr e.symm)).trans ((Below.heap_alloc (W.alloc o) o' g (by simp;omega)).trans (Below.heap_alloc W o g hg)))];exact hc
def kki:Nat->Value:=fld (yw2 (.slice none 0 0) (.slice none 0 0) [])
theorem jl6(w:World):(w.alloc (.cells #[.slice none 0 0, .slice none 0 0, .slice none 0 0, .slice none 0 0, .int .i64 0, .slice none 0 0, .slice none 0 0, .slice none 0 0, .slice none 0 0] 75)).rowIs w.heap.size 75 9 kki:=
 World.rowIs_alloc w _ _ _ (fun i hi=>by
  simp at hi;have:i=0∨i=1∨i=2∨i=3∨i=4∨i=5∨i=6∨i=7∨i=8:=by omega
  rcases this with rfl | rfl | rfl | rfl | rfl | rfl | rfl | rfl | rfl <;> rfl)
theorem zgo{w:World}{B:Nat}{e:TypeId}{sz:Nat}{x:Addr}{n cap:Nat}{xs:List Value}(h:w.ownsRow B e sz (.slice (some x) n cap) n xs):n<=cap:=by
 rcases h.2 with ⟨hv,_⟩ | ⟨g,c,cur,hv,_,_,hnc,_⟩
 ·simp at hv
 ·simp at hv;omega
theorem koz(a b v:Value)(st:List (Nat×Obj))(i:Nat)(hi:i<9):(if i=0 then v else fld (yw2 a b st) i)=fld (yw2 v b st) i:=by
 have:i=0∨i=1∨i=2∨i=3∨i=4∨i=5∨i=6∨i=7∨i=8:=by omega
 rcases this with rfl | rfl | rfl | rfl | rfl | rfl | rfl | rfl | rfl <;> simp [fld,yw2]
theorem x38(a b v:Value)(st:List (Nat×Obj))(i:Nat)(hi:i<9):(if i=1 then v else fld (yw2 a b st) i)=fld (yw2 a v st) i:=by
 have:i=0∨i=1∨i=2∨i=3∨i=4∨i=5∨i=6∨i=7∨i=8:=by omega
 rcases this with rfl | rfl | rfl | rfl | rfl | rfl | rfl | rfl | rfl <;> simp [fld,yw2]
theorem y5z{w W w1:World}{o o':Obj}{a b v:Value}{st:List (Nat×Obj)}(hr:W.rowIs w.heap.size 75 9 (fld (yw2 a b st)))(hb:Below w.heap.size w W)(hgrow:((W.alloc o).alloc o').drew.grownBy w1 none) :
  (w1.setCell ⟨w.heap.size,0,none⟩ v).rowIs w.heap.size 75 9 (fld (yw2 v b st))∧Below w.heap.size w (w1.setCell ⟨w.heap.size,0,none⟩ v):=by
 have hlt:=hr.lt;refine ⟨((hr.of_block ((hgrow.block _ (by simp;omega) (by simp)).trans ((Below.heap_alloc (W.alloc o) o' _ (by simp;omega)).trans (Below.heap_alloc W o _ hlt)))).set 0 v).congr (fun i hi=>koz a b v st i hi),?_⟩;have b1:Below w.heap.size w ((W.alloc o).alloc o').drew:=((hb.alloc hb.size o).alloc (by have:=hb.size;simp;omega) o').drew;exact (b1.grown hgrow (by have:=hb.size;simp;omega) (fun g hg=>by simp at hg)).setCell (Nat.le_refl _) v
theorem jvy{w W w1:World}{o:Obj}{a b v:Value}{st:List (Nat×Obj)}(hr:W.rowIs w.heap.size 75 9 (fld (yw2 a b st)))(hb:Below w.heap.size w W)(hgrow:(W.alloc o).grownBy w1 none) :
  (w1.setCell ⟨w.heap.size,1,none⟩ v).rowIs w.heap.size 75 9 (fld (yw2 a v st))∧Below w.heap.size w (w1.setCell ⟨w.heap.size,1,none⟩ v):=by
 have hlt:=hr.lt;refine ⟨((hr.of_block ((hgrow.block _ (by simp;omega) (by simp)).trans (Below.heap_alloc W o _ hlt))).set 1 v).congr (fun i hi=>x38 a b v st i hi),?_⟩;have b1:Below w.heap.size w (W.alloc o):=hb.alloc hb.size o;exact (b1.grown hgrow (by have:=hb.size;simp;omega) (fun g hg=>by simp at hg)).setCell (Nat.le_refl _) v
theorem ydi(k:Nat)(hk:k<18):∃ (kd a b c:Int) (t:ByteArray),vuj[k*6]?=some (.int .i64 kd)∧vuj[k*6+1]?=some (.int .i64 a)∧vuj[k*6+2]?=some (.int .i64 b)∧vuj[k*6+3]?=some (.int .i64 c)∧vuj[k*6+4]?=some (.string t)∧vuj[k*6+5]?=some (.slice none 0 0)∧t.size<=maxLen:=by
 have:k=0∨k=1∨k=2∨k=3∨k=4∨k=5∨k=6∨k=7∨k=8∨k=9∨k=10∨k=11∨k=12∨k=13∨k=14∨k=15∨k=16∨k=17:=by omega
 rcases this with rfl | rfl | rfl | rfl | rfl | rfl | rfl | rfl | rfl | rfl | rfl | rfl | rfl | rfl | rfl | rfl | rfl | rfl <;> exact ⟨_,_,_,_,_,rfl,rfl,rfl,rfl,rfl,rfl,by decide⟩
theorem Inv.same{B gW:Nat}{ρ:Nat->Nat}{s:kuu}{w:World}{i:Nat}(h:Inv B gW 0 ρ s w):Inv B gW 0 ρ s (w.setCell ⟨gW,i,none⟩ (fld s i))∧Below B w (w.setCell ⟨gW,i,none⟩ (fld s i)):=by
 refine ⟨h.marked (m:=s.mks) (R:=fun r=>r=5) (Kp.of_set w _ _ h.rW) (fun r hr=>by omega) (Nat.le_refl _) ((h.row.set i _).congr (fun j _=>?_)) h.mkB,(Below.refl _ _).setCell h.gB _⟩;by_cases e:j=i
 ·rw [if_pos e,e]
 ·rw [if_neg e]
structure Few(k:Nat)(s:kuu):Prop where
 ln:s.lens.length<=k+18
 wt:s.waits.length<=2*k+36
 mm:s.mks+s.waits.length<=3*k+54
 bk:s.books.length+s.waits.length<=3*k+54
 tx:s.vtx= .slice none 0 0∧s.vrn= .slice none 0 0
open Go.RowKit Go.Deep
theorem ybc:Tryz.prog.cellsOf 3=1:=by kernel_rfl
theorem kwi:Tryz.prog.cellsOf 9=1:=by kernel_rfl
theorem j0p:Tryz.prog.cellsOf 30=1:=by kernel_rfl
theorem ys6:Tryz.prog.cellsOf 79=6:=by kernel_rfl
theorem x1j{H:Type}(d:DataW H):1<=Rows.uptoBulk d:=by
 cases d with
 | lit l=>cases l <;> simp [Rows.uptoBulk]
 | _=>simp [Rows.uptoBulk]
theorem jvo{H:Type}(l:List (DataW H)):l.length<=Rows.uptoBulkAll l:=by
 induction l with
 | nil=>simp [Rows.uptoBulkAll]
 | cons x r ih=>have:=x1j x;simp only [Rows.uptoBulkAll,List.length_cons];omega
theorem x9b{H:Type}{enc:TypeId×Value->H}{W:World}{base:Nat}{spare:Nat->Bool}{held:Bool}{n:Nat}{cs:List Value}{x:DataW H×List MemPlace}(h:DataW.trod enc Tryz.prog W base spare held n 79 cs=some x) :
  ∃ (kd a b c:Int) (t:ByteArray) (ap:Option Addr) (np cp:Nat),cs=[.int .i64 kd, .int .i64 a, .int .i64 b, .int .i64 c, .string t, .slice ap np cp]∧t.size<=maxLen:=by
 obtain ⟨xs,k,hk,hxy,hlen,hxl,hf⟩:=DataW.trod_struct Tryz.underlying79 h;rw [ys6] at hlen;have hxl6:xs.length=6:=hxl;match xs,hxl6,cs,hlen with
 | [y0,y1,y2,y3,y4,y5],_,[v0,v1,v2,v3,v4,v5],_=>
  have g0:=hf 0 _ rfl;have g1:=hf 1 _ rfl;have g2:=hf 2 _ rfl;have g3:=hf 3 _ rfl;have g4:=hf 4 _ rfl;have g5:=hf 5 _ rfl;simp [ybc,kwi,j0p] at g0 g1 g2 g3 g4 g5;obtain ⟨z0,e0,_,_⟩:=DataW.trod_int Tryz.underlying3 g0;obtain ⟨z1,e1,_,_⟩:=DataW.trod_int Tryz.underlying3 g1;obtain ⟨z2,e2,_,_⟩:=DataW.trod_int Tryz.underlying3 g2;obtain ⟨z3,e3,_,_⟩:=DataW.trod_int Tryz.underlying3 g3;obtain ⟨t,e4,_,ht⟩:=DataW.trod_string Tryz.underlying9 g4;obtain ⟨ap,np,cp,e5⟩:∃ ap np cp,v5= .slice ap np cp:=by
   rcases DataW.trod_slice Tryz.underlying30 g5 with ⟨e,_⟩ | ⟨a,len,cap,_,_,_,_,e,_⟩
   ·exact ⟨none,0,0,by simpa using e⟩
   ·exact ⟨some a,len,cap,by simpa using e⟩
  simp at e0 e1 e2 e3 e4;exact ⟨z0,z1,z2,z3,t,ap,np,cp,by rw [e0,e1,e2,e3,e4,e5],ht⟩
def inI(z:Int):Prop:= -9223372036854775808<=z∧z<=9223372036854775807
theorem zu0{z:Int}(h:(Lit.int .i64 z).wf=true):inI z:=by
 have h':decide (IntKind.i64.min<=z)=true∧decide (z<=IntKind.i64.max)=true:=by
  have h2:(decide (IntKind.i64.min<=z) && decide (z<=IntKind.i64.max))=true:=h;exact Bool.and_eq_true_iff.1 h2
 exact ⟨of_decide_eq_true h'.1,of_decide_eq_true h'.2⟩
def zz5(P:List ByteArray):Nat:=P.foldr (fun s n=>s.size+n) 0
theorem y5w{P:List ByteArray}{s:ByteArray}(h:s∈P):s.size<=zz5 P:=by
 induction P with
 | nil=>cases h
 | cons x xs ih=>
  show _<=x.size+zz5 xs;rcases List.mem_cons.1 h with rfl | h
  ·omega
  ·have:=ih h;omega
theorem ke1{H:Type}{l:List (DataW H)}{d:DataW H}(h:d∈l):Rows.uptoBulk d<=Rows.uptoBulkAll l:=by
 induction l with
 | nil=>cases h
 | cons x r ih=>
  simp only [Rows.uptoBulkAll];rcases List.mem_cons.1 h with rfl | h
  ·omega
  ·have:=ih h;omega
structure Txts(w:World)(N:Nat)(ad:Option Addr)(n cap:Nat)(P:List ByteArray):Prop where
 len:P.length=n
 at_:StrO w ad P
 caps:n<=cap∧cap<=maxLen
 nil:ad=none->n=0∧cap=0
 spot:∀ x,ad=some x->0<n->x.spot=none
 small:n<=N∧zz5 P<=N
theorem vzg{H:Type}(D:Nat->DataW H)(t:Nat->ByteArray)(len:Nat):∀ k,k<=len->(∀ i,i<len->D i= .lit (.string (t i).data.toList))->k+zz5 ((List.range k).map t)<=Rows.uptoBulkAll ((List.range k).map D):=by
 intro k;induction k with
 | zero=>intros;simp [zz5,Rows.uptoBulkAll]
 | succ k ih=>
  intro hk h;have h1:=ih (by omega) h;have e1:zz5 ((List.range (k+1)).map t)=zz5 ((List.range k).map t)+(t k).size:=by
   rw [List.range_succ,List.map_append];generalize (List.range k).map t=P;induction P with
   | nil=>simp [zz5]
   | cons x xs ih=>
    show x.size+zz5 (xs++_)=x.size+zz5 xs+(t k).size;rw [ih];omega
  have e2:Rows.uptoBulkAll ((List.range (k+1)).map D)=Rows.uptoBulkAll ((List.range k).map D)+Rows.uptoBulk (D k):=by
   rw [List.range_succ,List.map_append];generalize (List.range k).map D=P;induction P with
   | nil=>simp [Rows.uptoBulkAll]
   | cons x xs ih=>
    show Rows.uptoBulk x+Rows.uptoBulkAll (xs++_)=Rows.uptoBulk x+Rows.uptoBulkAll xs+Rows.uptoBulk (D k);rw [ih];omega
  have e3:Rows.uptoBulk (D k)=(t k).size+1:=by
   rw [h k (by omega)];show (t k).data.toList.length+1=_;rw [Array.length_toList];rfl
  omega
theorem texts_of{H:Type}{enc:TypeId×Value->H}{W:World}{base:Nat}{spare:Nat->Bool}{held:Bool}{fuel:Nat}{cs:List Value}{x:DataW H×List MemPlace}(h:DataW.trod enc Tryz.prog W base spare held fuel 30 cs=some x) :
  ∃ ad n cap P,cs=[.slice ad n cap]∧Txts W (Rows.uptoBulk x.1) ad n cap P:=by
 rcases open_slice1 Tryz.underlying30 kwi h with ⟨hcs,rfl⟩ | ⟨a,len,cp,m,f,V,D,Pl,hcs,hb,hl,hm,hmm,rfl,hx⟩
 ·refine ⟨none,0,0,[],hcs,rfl,fun k hk=>by simp at hk,⟨Nat.le_refl _,by unfold maxLen;omega⟩,fun _=>⟨rfl,rfl⟩,fun _ e=>(by cases e),Nat.zero_le _,Nat.zero_le _⟩
 ·have hlm:len<=m:=by rw [hmm];split <;> omega
  have hs:∀ i,i<len->∃ s:ByteArray,V i= .string s∧D i= .lit (.string s.data.toList):=fun i hi=>by
   obtain ⟨s,e1,e2,_⟩:=DataW.trod_string Tryz.underlying9 (hx i (by omega)).2;exact ⟨s,by simpa using e1,congrArg Prod.fst e2⟩
  obtain ⟨t,ht⟩:∃ t:Nat->ByteArray,∀ i,i<len->V i= .string (t i)∧D i= .lit (.string (t i).data.toList):=by
   refine ⟨fun i=>match V i with | .string s=>s | _=>⟨#[]⟩,fun i hi=>?_⟩;obtain ⟨s,e1,e2⟩:=hs i hi;simp only [e1];exact ⟨trivial,e2⟩
  have hsp:0<len->a.spot=none:=fun h0=>by
   have:=(hx 0 (by omega)).1;simpa [Addr.add] using World.cell?_spot this
  refine ⟨some a,len,cp,(List.range len).map t,hcs,by simp,fun k hk=>?_,⟨hl,hm⟩,fun e=>(by cases e),fun x e h0=>(by injection e with e;subst e;exact hsp h0),?_⟩
  ·have hk':k<len:=by simpa using hk
   have h1:=(hx k (by omega)).1;obtain ⟨b,o,sp⟩:=a;have:sp=none:=hsp (by omega);subst this;rw [Go.WideShapes.add_plain] at h1;refine ⟨b,o,rfl,World.block_lt_of_cell? W _ h1,?_⟩;rw [h1,(ht k hk').1];simp
  ·have hB:=vzg D t len len (Nat.le_refl _) (fun i hi=>(ht i hi).2);have hle:Rows.uptoBulk (.slice ((List.range len).map D) ((List.range (m - len)).map fun j=>D (len+j)))=Rows.uptoBulkAll ((List.range len).map D)+Rows.uptoBulkAll ((List.range (m - len)).map fun j=>D (len+j))+1:=by simp only [Rows.uptoBulk]
   show len<=Rows.uptoBulk _∧zz5 _<=Rows.uptoBulk _;rw [hle];constructor <;> omega
structure OpI(w:World)(N:Nat)(kd a b c:Int)(t:ByteArray)(ap:Option Addr)(np cp:Nat):Prop where
 kd:inI kd
 a:inI a
 b:inI b
 c:inI c
 t:t.size<=N
 p:∃ P,Txts w N ap np cp P
theorem Txts.mono{w:World}{N M:Nat}{ad:Option Addr}{n cap:Nat}{P:List ByteArray}(h:Txts w N ad n cap P)(hM:N<=M):Txts w M ad n cap P:={ h with small:=⟨by have:=h.small.1;omega,by have:=h.small.2;omega⟩ }
theorem yyp{H:Type}{enc:TypeId×Value->H}{W:World}{base:Nat}{spare:Nat->Bool}{held:Bool}{n:Nat}{cs:List Value}{x:DataW H×List MemPlace}(h:DataW.trod enc Tryz.prog W base spare held n 79 cs=some x) :
  ∃ (kd a b c:Int) (t:ByteArray) (ap:Option Addr) (np cp:Nat),cs=[.int .i64 kd, .int .i64 a, .int .i64 b, .int .i64 c, .string t, .slice ap np cp]∧OpI W (Rows.uptoBulk x.1) kd a b c t ap np cp:=by
 obtain ⟨xs,k,hk,hxy,hlen,hxl,hf⟩:=DataW.trod_struct Tryz.underlying79 h;rw [ys6] at hlen;have hxl6:xs.length=6:=hxl;match xs,hxl6,cs,hlen with
 | [y0,y1,y2,y3,y4,y5],_,[v0,v1,v2,v3,v4,v5],_=>
  have g0:=hf 0 _ rfl;have g1:=hf 1 _ rfl;have g2:=hf 2 _ rfl;have g3:=hf 3 _ rfl;have g4:=hf 4 _ rfl;have g5:=hf 5 _ rfl;simp [ybc,kwi,j0p] at g0 g1 g2 g3 g4 g5;obtain ⟨z0,e0,_,w0⟩:=DataW.trod_int Tryz.underlying3 g0;obtain ⟨z1,e1,_,w1⟩:=DataW.trod_int Tryz.underlying3 g1;obtain ⟨z2,e2,_,w2⟩:=DataW.trod_int Tryz.underlying3 g2;obtain ⟨z3,e3,_,w3⟩:=DataW.trod_int Tryz.underlying3 g3;obtain ⟨t,e4,x4,ht⟩:=DataW.trod_string Tryz.underlying9 g4;obtain ⟨ap,np,cp,P,e5,hP⟩:=texts_of g5;simp at e0 e1 e2 e3 e4 e5;have hb4:Rows.uptoBulk y4.1<=Rows.uptoBulk x.1:=by
   rw [hxy];simp only [Rows.uptoBulk];exact Nat.le_succ_of_le (ke1 (by simp))
  have hb5:Rows.uptoBulk y5.1<=Rows.uptoBulk x.1:=by
   rw [hxy];simp only [Rows.uptoBulk];exact Nat.le_succ_of_le (ke1 (by simp))
  have ht4:t.size<=Rows.uptoBulk y4.1:=by
   rw [x4];show _<=t.data.toList.length+1;rw [Array.length_toList];exact Nat.le_succ _
  exact ⟨z0,z1,z2,z3,t,ap,np,cp,by rw [e0,e1,e2,e3,e4,e5],⟨zu0 w0,zu0 w1,zu0 w2,zu0 w3,by omega,P,hP.mono hb5⟩⟩
def Scr(N:Nat)(w:World)(ad:Option Addr)(n:Nat):Prop:=∀ k,k<n->∃ (b0 o0:Nat) (kd a b c:Int) (t:ByteArray) (ap:Option Addr) (np cp:Nat),ad=some ⟨b0,o0,none⟩∧b0<w.heap.size∧
 w.cell? ⟨b0,o0+k*6,none⟩=some (.int .i64 kd)∧w.cell? ⟨b0,o0+k*6+1,none⟩=some (.int .i64 a)∧w.cell? ⟨b0,o0+k*6+2,none⟩=some (.int .i64 b)∧w.cell? ⟨b0,o0+k*6+3,none⟩=some (.int .i64 c)∧w.cell? ⟨b0,o0+k*6+4,none⟩=some (.string t)∧w.cell? ⟨b0,o0+k*6+5,none⟩=some (.slice ap np cp)∧OpI w N kd a b c t ap np cp
theorem scr_of{H:Type}{enc:TypeId×Value->H}{W:World}{base:Nat}{spare:Nat->Bool}{held:Bool}{fuel:Nat}{ad:Option Addr}{n cap:Nat}{x:DataW H×List MemPlace}(h:DataW.trod enc Tryz.prog W base spare held fuel 22 [.slice ad n cap]=some x) :
  Scr (Rows.uptoBulk x.1) W ad n∧n<=Rows.uptoBulk x.1:=by
 rcases open_slice Tryz.underlying22 h with ⟨hcs,rfl⟩ | ⟨a,len,cp,m,f,D,Pl,hcs,hb,hl,hm,hmm,rfl,hx⟩
 ·simp at hcs;obtain ⟨rfl,rfl,rfl⟩:=hcs;exact ⟨fun k hk=>by omega,Nat.zero_le _⟩
 ·simp at hcs;obtain ⟨rfl,rfl,rfl⟩:=hcs;have hlm:n<=m:=by rw [hmm];split <;> omega
  refine ⟨fun k hk=>?_,?_⟩
  ·obtain ⟨cs',h1,h2⟩:=hx k (by omega);obtain ⟨kd,xa,xb,xc,t,ap,np,cp,rfl,hO⟩:=yyp h2;have hbk:Rows.uptoBulk (D k)<=Rows.uptoBulk (.slice ((List.range n).map D) ((List.range (m - n)).map fun j=>D (n+j))):=by
    have:=ke1 (l:=(List.range n).map D) (d:=D k) (List.mem_map.2 ⟨k,List.mem_range.2 hk,rfl⟩);simp only [Rows.uptoBulk];omega
   rw [ys6] at h1;obtain ⟨_,_,hcell⟩:=World.cells?_some h1;simp only [add_add] at hcell;obtain ⟨b0,o0,spot⟩:=a;have hspot:spot=none:=by
    obtain ⟨cs0,h10,h20⟩:=hx 0 (by omega);rw [ys6] at h10;obtain ⟨_,_,hcell0⟩:=World.cells?_some h10;obtain ⟨_,_,_,_,_,_,_,_,rfl,_⟩:=x9b h20;have:=hcell0 0 (by omega);simp [add_add] at this;simpa [Addr.add] using World.cell?_spot this
   subst hspot;have e0:=hcell 0 (by omega);have e1:=hcell 1 (by omega);have e2:=hcell 2 (by omega);have e3:=hcell 3 (by omega);have e4:=hcell 4 (by omega);have e5:=hcell 5 (by omega);rw [Go.WideShapes.add_plain] at e0 e1 e2 e3 e4 e5;simp only [← Nat.add_assoc] at e1 e2 e3 e4 e5;obtain ⟨P,hP⟩:=hO.p;refine ⟨b0,o0,kd,xa,xb,xc,t,ap,np,cp,rfl,World.block_lt_of_cell? W _ e0,?_,?_,?_,?_,?_,?_,⟨hO.kd,hO.a,hO.b,hO.c,Nat.le_trans hO.t hbk,P,hP.mono hbk⟩⟩
   ·simpa using e0
   ·simpa using e1
   ·simpa using e2
   ·simpa using e3
   ·simpa using e4
   ·simpa using e5
  ·have:=jvo ((List.range n).map D);simp only [Rows.uptoBulk];simp at this;omega
theorem Scr.mono{N M:Nat}{w:World}{ad:Option Addr}{n:Nat}(h:Scr N w ad n)(hM:N<=M):Scr M w ad n:=fun k hk=>by
 obtain ⟨b0,o0,kd,a,b,c,t,ap,np,cp,h1,h2,h3,h4,h5,h6,h7,h8,hO⟩:=h k hk;obtain ⟨P,hP⟩:=hO.p;exact ⟨b0,o0,kd,a,b,c,t,ap,np,cp,h1,h2,h3,h4,h5,h6,h7,h8,⟨hO.kd,hO.a,hO.b,hO.c,Nat.le_trans hO.t hM,P,hP.mono hM⟩⟩
end Go.Proofs.YtbcjmakpempkiaaGreatDoor
