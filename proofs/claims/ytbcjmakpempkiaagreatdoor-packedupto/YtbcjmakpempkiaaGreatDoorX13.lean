import Derived.Lib.LaidTab
import Derived.Test.YtbcjmakpempkiaaGreatDoorX09
set_option maxRecDepth 100000
set_option maxHeartbeats 8000000
set_option linter.all false
namespace Go.Proofs.YtbcjmakpempkiaaGreatDoor
open Go.RowKit
theorem yum{P:Program}{w:World}:∀ {l:List (String×DataW Unit)} {ps:List MemPlace},DataW.LaidVars P w l ps->∀ n d,(n,d)∈l->∃ g t cs fuel p,P.globalNamed n=some g∧(P.globals[g]?).map (·.type)=some t∧w.var? P n=some cs∧DataW.trod (fun _=>()) P w 0 (fun _=>true) false fuel t cs.toList=some (d,p)
 | [],_,_,_,_,hm=>by cases hm
 | (n',d') :: r,ps,h,n,d,hm=>by
  obtain ⟨g,t,cs,fuel,p,q,h1,h2,h3,h4,h5,_⟩:=h;rcases List.mem_cons.1 hm with e | hm
  ·injection e with e1 e2
   subst e1;subst e2;exact ⟨g,t,cs,fuel,p,h1,h2,h3,h4⟩
  ·exact yum h5 n d hm
def xm6:List Int:=[13,14,12,0,7,8,6,9,5,10,4,11,3,2,1]
theorem v18:xm6.map (fun z=>Value.int .i64 z)=zn4.toList:=rfl
theorem yip:Tryz.prog.cellsOf 3=1:=by kernel_rfl
theorem knh:Tryz.prog.cellsOf 245=15:=by kernel_rfl
theorem zpy{W:World}{laid:List (String×DataW Unit)}{name:String}{g0:Nat}(hl:laidMetH Tryz.prog laid W)(hf:(laid.filter fun x=>x.2.handleName?.isSome)=[])(hm:(name,Lib.tabData .i64 xm6)∈laid)(hg:Tryz.prog.globalNamed name=some g0)(ht:(Tryz.prog.globals[g0]?).map (·.type)=some 245)(hgl:g0<Tryz.prog.globals.size)
  (hrow:∃ z,(((begin Tryz.prog (fun _ _=>0) default).world.heap[g0]?).bind Obj.row?)=some (z,245)) (hs:W.ShapedOpen Tryz.prog):∃ fr,W.heap[g0]?=some (.cells zn4 245 fr):=by
 unfold laidMetH at hl;rw [hf] at hl;obtain ⟨ps,hL,_,_⟩:=hl;obtain ⟨g,t,cs,fuel,p,h1,h2,h3,h4⟩:=yum hL _ _ hm;rw [hg] at h1;injection h1 with h1
 subst h1;rw [ht] at h2;injection h2 with h2
 subst h2;have e:=Lib.cells_of_tab (zs:=xm6) Tryz.underlying245 Tryz.underlying3 yip knh h4;rw [v18] at e;have e':cs=zn4:=Array.ext' e;obtain ⟨z,hz⟩:=hrow;obtain ⟨cs',hc,_,_⟩:=hs.1 g0 z 245 hgl hz;refine ⟨(0,0),?_⟩;unfold World.var? at h3;rw [hg] at h3;simp only [Option.bind_some,hc,Option.some.injEq] at h3;rw [hc,h3,e']
theorem ordp_laid {W : World} {laid : List (String × DataW Unit)} (hl : laidMetH Tryz.prog laid W) (hf : (laid.filter fun x => x.2.handleName?.isSome) = []) (h2 : ("floodgate/floodgate.helperOrder", Lib.tabData .i64 xm6) ∈ laid) (hs : W.ShapedOpen Tryz.prog) : OrdP W := by
 obtain ⟨fr',h'⟩:=zpy (g0:=0) hl hf h2 (by kernel_rfl) (by kernel_rfl) (of_decide_eq_true (by kernel_rfl)) ⟨#[.int .i64 0, .int .i64 0, .int .i64 0, .int .i64 0, .int .i64 0, .int .i64 0, .int .i64 0, .int .i64 0, .int .i64 0, .int .i64 0, .int .i64 0, .int .i64 0, .int .i64 0, .int .i64 0, .int .i64 0],by kernel_rfl⟩ hs;exact ⟨fr',h'⟩
end Go.Proofs.YtbcjmakpempkiaaGreatDoor
