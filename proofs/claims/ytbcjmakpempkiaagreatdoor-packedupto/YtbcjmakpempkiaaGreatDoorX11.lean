import Derived.Test.YtbcjmakpempkiaaGreatDoorX09
import Derived.Test.YtbcjmakpempkiaaGreatDoorX10
set_option maxRecDepth 100000
set_option maxHeartbeats 8000000
set_option linter.all false
namespace Go.Proofs.YtbcjmakpempkiaaGreatDoor
open Go.RowKit
def vbd(n:Nat)(x:MS):Prop:=
 match n with
 | 0=>Hc x
 | 1=>Hc x
 | 2=>Hc x
 | 3=>Hc x
 | 4=>Hc x
 | 5=>Hc x
 | 6=>Hc x
 | 7=>True
 | 8=>True
 | 9=>x.left<=65535
 | 10=>x.hl=[]
 | 11=>x.hl=[]
 | 12=>x.hl=[]
 | 13=>x.told<=15∧x.hl.length<=x.told∧∀ b∈x.hl,0<=b∧b<8
 | 14=>Rok x∧x.hs≠[]∧x.hs.length<=15
 | 15=>Rok x∧x.hbits<=6∧x.hleast<=11∧x.hlen<=11
 | 16=>x.la≠[]∧x.lb.length<=16∧(∀ b∈x.qc,b<256)∧x.la.length<=269∧x.lit<256
 | 17=>x.la≠[]∧x.lb.length<=16∧(∀ b∈x.qc,b<256)∧x.la.length<=269
 | 18=>x.la≠[]∧x.lb.length<=16∧(∀ b∈x.qc,b<256)∧(x.bits<=16∧x.least<=1000000∧x.least+2^x.bits<=65535)
 | 19=>x.la≠[]∧x.lb.length<=16∧(∀ b∈x.qc,b<256)∧x.left<=65535
 | 20=>x.la≠[]∧x.lb.length<=16∧(∀ b∈x.qc,b<256)∧(x.bits<=16∧x.least<=1000000∧1<=x.least)∧x.left<=65535
 | 21=>x.left<=65535∧1<=x.dist∧x.dist<=x.qc.length∧(∀ b∈x.qc,b<256)
 | 22=>True
 | 23=>True
 | 24=>True
 | _=>False
structure Pre(x:MS):Prop where
 ok:Ok x
 cnt:x.count<=32
 st:x.st<=24
 at_:vbd x.st x
theorem zdj{ρ:Nat->Nat}{w:World}{p:Nat}{x:MS}(h:MM ρ w p x)(pr:Pre x)(hO:OrdP w)(hG:ρ 0=0)(hst:x.st=0) :
  Calls Tryz.prog 76 #[.pointer (some ⟨p,0,none⟩)] w fun v w'=>xxu ρ w p x.advance v w':=by
 have HA:Hid (x.advance=x.h0):=by show x.advance=_;unfold MS.advance;simp only [hst]
 have HM:Hid (MM ρ w p x∧Pre x):=⟨h,pr⟩
 have HO:Hid (OrdP w∧ρ 0=0):=⟨hO,hG⟩
 have HPR:Hid (vbd 0 x):=by have:=pr.at_;rw [hst] at this;exact this
 have HS:Hid (x.st=0):=hst;have c7:=h.cell7.1;rw [hst] at c7;clear h pr hO hG hst;go_enter Tryz.func76,Tryz.ntmps76
 go_wp2_with fail
 refine (z54 HM.out.1 HPR.out HS.out).mono ?_;rintro v w1 H1;have H2:Hid (xxu ρ w p x.h0 v w1):=H1.x;obtain rfl:=H2.out.1;clear H1;rw [← HA.out] at H2 ⊢;generalize x.advance.2=n at H2 ⊢;go_wp2_with fail
 go_ret
 exact H2.out
theorem xso{ρ:Nat->Nat}{w:World}{p:Nat}{x:MS}(h:MM ρ w p x)(pr:Pre x)(hO:OrdP w)(hG:ρ 0=0)(hst:x.st=1) :
  Calls Tryz.prog 76 #[.pointer (some ⟨p,0,none⟩)] w fun v w'=>xxu ρ w p x.advance v w':=by
 have HA:Hid (x.advance=x.h1):=by show x.advance=_;unfold MS.advance;simp only [hst]
 have HM:Hid (MM ρ w p x∧Pre x):=⟨h,pr⟩
 have HO:Hid (OrdP w∧ρ 0=0):=⟨hO,hG⟩
 have HPR:Hid (vbd 1 x):=by have:=pr.at_;rw [hst] at this;exact this
 have HS:Hid (x.st=1):=hst;have c7:=h.cell7.1;rw [hst] at c7;clear h pr hO hG hst;go_enter Tryz.func76,Tryz.ntmps76
 go_wp2_with fail
 refine (y1s HM.out.1 HPR.out HS.out).mono ?_;rintro v w1 H1;have H2:Hid (xxu ρ w p x.h1 v w1):=H1.x;obtain rfl:=H2.out.1;clear H1;rw [← HA.out] at H2 ⊢;generalize x.advance.2=n at H2 ⊢;go_wp2_with fail
 go_ret
 exact H2.out
theorem vuw{ρ:Nat->Nat}{w:World}{p:Nat}{x:MS}(h:MM ρ w p x)(pr:Pre x)(hO:OrdP w)(hG:ρ 0=0)(hst:x.st=2) :
  Calls Tryz.prog 76 #[.pointer (some ⟨p,0,none⟩)] w fun v w'=>xxu ρ w p x.advance v w':=by
 have HA:Hid (x.advance=x.h2):=by show x.advance=_;unfold MS.advance;simp only [hst]
 have HM:Hid (MM ρ w p x∧Pre x):=⟨h,pr⟩
 have HO:Hid (OrdP w∧ρ 0=0):=⟨hO,hG⟩
 have HPR:Hid (vbd 2 x):=by have:=pr.at_;rw [hst] at this;exact this
 have HS:Hid (x.st=2):=hst;have c7:=h.cell7.1;rw [hst] at c7;clear h pr hO hG hst;go_enter Tryz.func76,Tryz.ntmps76
 go_wp2_with fail
 refine (vr2 HM.out.1 HPR.out HS.out).mono ?_;rintro v w1 H1;have H2:Hid (xxu ρ w p x.h2 v w1):=H1.x;obtain rfl:=H2.out.1;clear H1;rw [← HA.out] at H2 ⊢;generalize x.advance.2=n at H2 ⊢;go_wp2_with fail
 go_ret
 exact H2.out
theorem xhr{ρ:Nat->Nat}{w:World}{p:Nat}{x:MS}(h:MM ρ w p x)(pr:Pre x)(hO:OrdP w)(hG:ρ 0=0)(hst:x.st=3) :
  Calls Tryz.prog 76 #[.pointer (some ⟨p,0,none⟩)] w fun v w'=>xxu ρ w p x.advance v w':=by
 have HA:Hid (x.advance=x.h3):=by show x.advance=_;unfold MS.advance;simp only [hst]
 have HM:Hid (MM ρ w p x∧Pre x):=⟨h,pr⟩
 have HO:Hid (OrdP w∧ρ 0=0):=⟨hO,hG⟩
 have HPR:Hid (vbd 3 x):=by have:=pr.at_;rw [hst] at this;exact this
 have HS:Hid (x.st=3):=hst;have c7:=h.cell7.1;rw [hst] at c7;clear h pr hO hG hst;go_enter Tryz.func76,Tryz.ntmps76
 go_wp2_with fail
 refine (x0l HM.out.1 HPR.out HS.out).mono ?_;rintro v w1 H1;have H2:Hid (xxu ρ w p x.h3 v w1):=H1.x;obtain rfl:=H2.out.1;clear H1;rw [← HA.out] at H2 ⊢;generalize x.advance.2=n at H2 ⊢;go_wp2_with fail
 go_ret
 exact H2.out
theorem jl0{ρ:Nat->Nat}{w:World}{p:Nat}{x:MS}(h:MM ρ w p x)(pr:Pre x)(hO:OrdP w)(hG:ρ 0=0)(hst:x.st=4) :
  Calls Tryz.prog 76 #[.pointer (some ⟨p,0,none⟩)] w fun v w'=>xxu ρ w p x.advance v w':=by
 have HA:Hid (x.advance=x.h4):=by show x.advance=_;unfold MS.advance;simp only [hst]
 have HM:Hid (MM ρ w p x∧Pre x):=⟨h,pr⟩
 have HO:Hid (OrdP w∧ρ 0=0):=⟨hO,hG⟩
 have HPR:Hid (vbd 4 x):=by have:=pr.at_;rw [hst] at this;exact this
 have HS:Hid (x.st=4):=hst;have c7:=h.cell7.1;rw [hst] at c7;clear h pr hO hG hst;go_enter Tryz.func76,Tryz.ntmps76
 go_wp2_with fail
 refine (zqf HM.out.1 HPR.out HS.out).mono ?_;rintro v w1 H1;have H2:Hid (xxu ρ w p x.h4 v w1):=H1.x;obtain rfl:=H2.out.1;clear H1;rw [← HA.out] at H2 ⊢;generalize x.advance.2=n at H2 ⊢;go_wp2_with fail
 go_ret
 exact H2.out
theorem joe{ρ:Nat->Nat}{w:World}{p:Nat}{x:MS}(h:MM ρ w p x)(pr:Pre x)(hO:OrdP w)(hG:ρ 0=0)(hst:x.st=5) :
  Calls Tryz.prog 76 #[.pointer (some ⟨p,0,none⟩)] w fun v w'=>xxu ρ w p x.advance v w':=by
 have HA:Hid (x.advance=x.h5):=by show x.advance=_;unfold MS.advance;simp only [hst]
 have HM:Hid (MM ρ w p x∧Pre x):=⟨h,pr⟩
 have HO:Hid (OrdP w∧ρ 0=0):=⟨hO,hG⟩
 have HPR:Hid (vbd 5 x):=by have:=pr.at_;rw [hst] at this;exact this
 have HS:Hid (x.st=5):=hst;have c7:=h.cell7.1;rw [hst] at c7;clear h pr hO hG hst;go_enter Tryz.func76,Tryz.ntmps76
 go_wp2_with fail
 refine (jqj HM.out.1 HPR.out HS.out).mono ?_;rintro v w1 H1;have H2:Hid (xxu ρ w p x.h5 v w1):=H1.x;obtain rfl:=H2.out.1;clear H1;rw [← HA.out] at H2 ⊢;generalize x.advance.2=n at H2 ⊢;go_wp2_with fail
 go_ret
 exact H2.out
theorem kkt{ρ:Nat->Nat}{w:World}{p:Nat}{x:MS}(h:MM ρ w p x)(pr:Pre x)(hO:OrdP w)(hG:ρ 0=0)(hst:x.st=6) :
  Calls Tryz.prog 76 #[.pointer (some ⟨p,0,none⟩)] w fun v w'=>xxu ρ w p x.advance v w':=by
 have HA:Hid (x.advance=x.h6):=by show x.advance=_;unfold MS.advance;simp only [hst]
 have HM:Hid (MM ρ w p x∧Pre x):=⟨h,pr⟩
 have HO:Hid (OrdP w∧ρ 0=0):=⟨hO,hG⟩
 have HPR:Hid (vbd 6 x):=by have:=pr.at_;rw [hst] at this;exact this
 have HS:Hid (x.st=6):=hst;have c7:=h.cell7.1;rw [hst] at c7;clear h pr hO hG hst;go_enter Tryz.func76,Tryz.ntmps76
 go_wp2_with fail
 refine (vkj HM.out.1 HPR.out HS.out).mono ?_;rintro v w1 H1;have H2:Hid (xxu ρ w p x.h6 v w1):=H1.x;obtain rfl:=H2.out.1;clear H1;rw [← HA.out] at H2 ⊢;generalize x.advance.2=n at H2 ⊢;go_wp2_with fail
 go_ret
 exact H2.out
theorem ycz{ρ:Nat->Nat}{w:World}{p:Nat}{x:MS}(h:MM ρ w p x)(pr:Pre x)(hO:OrdP w)(hG:ρ 0=0)(hst:x.st=7) :
  Calls Tryz.prog 76 #[.pointer (some ⟨p,0,none⟩)] w fun v w'=>xxu ρ w p x.advance v w':=by
 have HA:Hid (x.advance=x.b7):=by show x.advance=_;unfold MS.advance;simp only [hst]
 have HM:Hid (MM ρ w p x∧Pre x):=⟨h,pr⟩
 have HO:Hid (OrdP w∧ρ 0=0):=⟨hO,hG⟩
 have HPR:Hid (vbd 7 x):=by have:=pr.at_;rw [hst] at this;exact this
 have HS:Hid (x.st=7):=hst;have c7:=h.cell7.1;rw [hst] at c7;clear h pr hO hG hst;go_enter Tryz.func76,Tryz.ntmps76
 go_wp2_with fail
 refine (kvf HM.out.1 HM.out.2.ok HM.out.2.cnt).mono ?_;rintro v w1 H1;have H2:Hid (xxu ρ w p x.b7 v w1):=H1;obtain rfl:=H2.out.1;clear H1;rw [← HA.out] at H2 ⊢;generalize x.advance.2=n at H2 ⊢;go_wp2_with fail
 go_ret
 exact H2.out
theorem yq2{ρ:Nat->Nat}{w:World}{p:Nat}{x:MS}(h:MM ρ w p x)(pr:Pre x)(hO:OrdP w)(hG:ρ 0=0)(hst:x.st=8) :
  Calls Tryz.prog 76 #[.pointer (some ⟨p,0,none⟩)] w fun v w'=>xxu ρ w p x.advance v w':=by
 have HA:Hid (x.advance=x.b8):=by show x.advance=_;unfold MS.advance;simp only [hst]
 have HM:Hid (MM ρ w p x∧Pre x):=⟨h,pr⟩
 have HO:Hid (OrdP w∧ρ 0=0):=⟨hO,hG⟩
 have HPR:Hid (vbd 8 x):=by have:=pr.at_;rw [hst] at this;exact this
 have HS:Hid (x.st=8):=hst;have c7:=h.cell7.1;rw [hst] at c7;clear h pr hO hG hst;go_enter Tryz.func76,Tryz.ntmps76
 go_wp2_with fail
 refine (xz4 HM.out.1 HM.out.2.ok HM.out.2.cnt HS.out).mono ?_;rintro v w1 H1;have H2:Hid (xxu ρ w p x.b8 v w1):=H1.x;obtain rfl:=H2.out.1;clear H1;rw [← HA.out] at H2 ⊢;generalize x.advance.2=n at H2 ⊢;go_wp2_with fail
 go_ret
 exact H2.out
theorem xgi{ρ:Nat->Nat}{w:World}{p:Nat}{x:MS}(h:MM ρ w p x)(pr:Pre x)(hO:OrdP w)(hG:ρ 0=0)(hst:x.st=9) :
  Calls Tryz.prog 76 #[.pointer (some ⟨p,0,none⟩)] w fun v w'=>xxu ρ w p x.advance v w':=by
 have HA:Hid (x.advance=x.b9):=by show x.advance=_;unfold MS.advance;simp only [hst]
 have HM:Hid (MM ρ w p x∧Pre x):=⟨h,pr⟩
 have HO:Hid (OrdP w∧ρ 0=0):=⟨hO,hG⟩
 have HPR:Hid (vbd 9 x):=by have:=pr.at_;rw [hst] at this;exact this
 have HS:Hid (x.st=9):=hst;have c7:=h.cell7.1;rw [hst] at c7;clear h pr hO hG hst;go_enter Tryz.func76,Tryz.ntmps76
 go_wp2_with fail
 refine (x1y HM.out.1 HM.out.2.ok HM.out.2.cnt HPR.out HS.out).mono ?_;rintro v w1 H1;have H2:Hid (xxu ρ w p x.b9 v w1):=H1.x;obtain rfl:=H2.out.1;clear H1;rw [← HA.out] at H2 ⊢;generalize x.advance.2=n at H2 ⊢;go_wp2_with fail
 go_ret
 exact H2.out
theorem j78{ρ:Nat->Nat}{w:World}{p:Nat}{x:MS}(h:MM ρ w p x)(pr:Pre x)(hO:OrdP w)(hG:ρ 0=0)(hst:x.st=10) :
  Calls Tryz.prog 76 #[.pointer (some ⟨p,0,none⟩)] w fun v w'=>xxu ρ w p x.advance v w':=by
 have HA:Hid (x.advance=x.o10):=by show x.advance=_;unfold MS.advance;simp only [hst]
 have HM:Hid (MM ρ w p x∧Pre x):=⟨h,pr⟩
 have HO:Hid (OrdP w∧ρ 0=0):=⟨hO,hG⟩
 have HPR:Hid (vbd 10 x):=by have:=pr.at_;rw [hst] at this;exact this
 have HS:Hid (x.st=10):=hst;have c7:=h.cell7.1;rw [hst] at c7;clear h pr hO hG hst;go_enter Tryz.func76,Tryz.ntmps76
 go_wp2_with fail
 refine (v5j HM.out.1 HM.out.2.ok (by have:=HM.out.2.cnt;omega) HO.out.1 HO.out.2 HPR.out HS.out).mono ?_;rintro v w1 H1;have H2:Hid (xxu ρ w p x.o10 v w1):=H1;obtain rfl:=H2.out.1;clear H1;rw [← HA.out] at H2 ⊢;generalize x.advance.2=n at H2 ⊢;go_wp2_with fail
 go_ret
 exact H2.out
theorem yrm{ρ:Nat->Nat}{w:World}{p:Nat}{x:MS}(h:MM ρ w p x)(pr:Pre x)(hO:OrdP w)(hG:ρ 0=0)(hst:x.st=11) :
  Calls Tryz.prog 76 #[.pointer (some ⟨p,0,none⟩)] w fun v w'=>xxu ρ w p x.advance v w':=by
 have HA:Hid (x.advance=x.o11):=by show x.advance=_;unfold MS.advance;simp only [hst]
 have HM:Hid (MM ρ w p x∧Pre x):=⟨h,pr⟩
 have HO:Hid (OrdP w∧ρ 0=0):=⟨hO,hG⟩
 have HPR:Hid (vbd 11 x):=by have:=pr.at_;rw [hst] at this;exact this
 have HS:Hid (x.st=11):=hst;have c7:=h.cell7.1;rw [hst] at c7;clear h pr hO hG hst;go_enter Tryz.func76,Tryz.ntmps76
 go_wp2_with fail
 refine (z5n HM.out.1 HM.out.2.ok (by have:=HM.out.2.cnt;omega) HO.out.1 HO.out.2 HPR.out HS.out).mono ?_;rintro v w1 H1;have H2:Hid (xxu ρ w p x.o11 v w1):=H1;obtain rfl:=H2.out.1;clear H1;rw [← HA.out] at H2 ⊢;generalize x.advance.2=n at H2 ⊢;go_wp2_with fail
 go_ret
 exact H2.out
theorem kca{ρ:Nat->Nat}{w:World}{p:Nat}{x:MS}(h:MM ρ w p x)(pr:Pre x)(hO:OrdP w)(hG:ρ 0=0)(hst:x.st=12) :
  Calls Tryz.prog 76 #[.pointer (some ⟨p,0,none⟩)] w fun v w'=>xxu ρ w p x.advance v w':=by
 have HA:Hid (x.advance=x.o12):=by show x.advance=_;unfold MS.advance;simp only [hst]
 have HM:Hid (MM ρ w p x∧Pre x):=⟨h,pr⟩
 have HO:Hid (OrdP w∧ρ 0=0):=⟨hO,hG⟩
 have HPR:Hid (vbd 12 x):=by have:=pr.at_;rw [hst] at this;exact this
 have HS:Hid (x.st=12):=hst;have c7:=h.cell7.1;rw [hst] at c7;clear h pr hO hG hst;go_enter Tryz.func76,Tryz.ntmps76
 go_wp2_with fail
 refine (y4i HM.out.1 HM.out.2.ok (by have:=HM.out.2.cnt;omega) HO.out.1 HO.out.2 HPR.out HS.out).mono ?_;rintro v w1 H1;have H2:Hid (xxu ρ w p x.o12 v w1):=H1;obtain rfl:=H2.out.1;clear H1;rw [← HA.out] at H2 ⊢;generalize x.advance.2=n at H2 ⊢;go_wp2_with fail
 go_ret
 exact H2.out
theorem kld{ρ:Nat->Nat}{w:World}{p:Nat}{x:MS}(h:MM ρ w p x)(pr:Pre x)(hO:OrdP w)(hG:ρ 0=0)(hst:x.st=13) :
  Calls Tryz.prog 76 #[.pointer (some ⟨p,0,none⟩)] w fun v w'=>xxu ρ w p x.advance v w':=by
 have HA:Hid (x.advance=x.o13):=by show x.advance=_;unfold MS.advance;simp only [hst]
 have HM:Hid (MM ρ w p x∧Pre x):=⟨h,pr⟩
 have HO:Hid (OrdP w∧ρ 0=0):=⟨hO,hG⟩
 have HPR:Hid (vbd 13 x):=by have:=pr.at_;rw [hst] at this;exact this
 have HS:Hid (x.st=13):=hst;have c7:=h.cell7.1;rw [hst] at c7;clear h pr hO hG hst;go_enter Tryz.func76,Tryz.ntmps76
 go_wp2_with fail
 refine (ylo HM.out.1 HM.out.2.ok (by have:=HM.out.2.cnt;omega) HO.out.1 HO.out.2 HPR.out.1 HPR.out.2.1 HPR.out.2.2 HS.out).mono ?_;rintro v w1 H1;have H2:Hid (xxu ρ w p x.o13 v w1):=H1;obtain rfl:=H2.out.1;clear H1;rw [← HA.out] at H2 ⊢;generalize x.advance.2=n at H2 ⊢;go_wp2_with fail
 go_ret
 exact H2.out
theorem jam{ρ:Nat->Nat}{w:World}{p:Nat}{x:MS}(h:MM ρ w p x)(pr:Pre x)(hO:OrdP w)(hG:ρ 0=0)(hst:x.st=14) :
  Calls Tryz.prog 76 #[.pointer (some ⟨p,0,none⟩)] w fun v w'=>xxu ρ w p x.advance v w':=by
 have HA:Hid (x.advance=x.r14):=by show x.advance=_;unfold MS.advance;simp only [hst]
 have HM:Hid (MM ρ w p x∧Pre x):=⟨h,pr⟩
 have HO:Hid (OrdP w∧ρ 0=0):=⟨hO,hG⟩
 have HPR:Hid (vbd 14 x):=by have:=pr.at_;rw [hst] at this;exact this
 have HS:Hid (x.st=14):=hst;have c7:=h.cell7.1;rw [hst] at c7;clear h pr hO hG hst;go_enter Tryz.func76,Tryz.ntmps76
 go_wp2_with fail
 refine (xsa HM.out.1 HM.out.2.ok (by have:=HM.out.2.cnt;omega) HPR.out.1 HPR.out.2.1 HPR.out.2.2 HS.out).mono ?_;rintro v w1 H1;have H2:Hid (xxu ρ w p x.r14 v w1):=H1;obtain rfl:=H2.out.1;clear H1;rw [← HA.out] at H2 ⊢;generalize x.advance.2=n at H2 ⊢;go_wp2_with fail
 go_ret
 exact H2.out
theorem k6p{ρ:Nat->Nat}{w:World}{p:Nat}{x:MS}(h:MM ρ w p x)(pr:Pre x)(hO:OrdP w)(hG:ρ 0=0)(hst:x.st=15) :
  Calls Tryz.prog 76 #[.pointer (some ⟨p,0,none⟩)] w fun v w'=>xxu ρ w p x.advance v w':=by
 have HA:Hid (x.advance=x.r15):=by show x.advance=_;unfold MS.advance;simp only [hst]
 have HM:Hid (MM ρ w p x∧Pre x):=⟨h,pr⟩
 have HO:Hid (OrdP w∧ρ 0=0):=⟨hO,hG⟩
 have HPR:Hid (vbd 15 x):=by have:=pr.at_;rw [hst] at this;exact this
 have HS:Hid (x.st=15):=hst;have c7:=h.cell7.1;rw [hst] at c7;clear h pr hO hG hst;go_enter Tryz.func76,Tryz.ntmps76
 go_wp2_with fail
 refine (yf3 HM.out.1 HM.out.2.ok (by have:=HM.out.2.cnt;omega) HPR.out.1 HPR.out.2.1 HPR.out.2.2.1 HPR.out.2.2.2 HS.out).mono ?_;rintro v w1 H1;have H2:Hid (xxu ρ w p x.r15 v w1):=H1;obtain rfl:=H2.out.1;clear H1;rw [← HA.out] at H2 ⊢;generalize x.advance.2=n at H2 ⊢;go_wp2_with fail
 go_ret
 exact H2.out
theorem vay{ρ:Nat->Nat}{w:World}{p:Nat}{x:MS}(h:MM ρ w p x)(pr:Pre x)(hO:OrdP w)(hG:ρ 0=0)(hst:x.st=16) :
  Calls Tryz.prog 76 #[.pointer (some ⟨p,0,none⟩)] w fun v w'=>xxu ρ w p x.advance v w':=by
 have HA:Hid (x.advance=x.c16):=by show x.advance=_;unfold MS.advance;simp only [hst]
 have HM:Hid (MM ρ w p x∧Pre x):=⟨h,pr⟩
 have HO:Hid (OrdP w∧ρ 0=0):=⟨hO,hG⟩
 have HPR:Hid (vbd 16 x):=by have:=pr.at_;rw [hst] at this;exact this
 have HS:Hid (x.st=16):=hst;have c7:=h.cell7.1;rw [hst] at c7;clear h pr hO hG hst;go_enter Tryz.func76,Tryz.ntmps76
 go_wp2_with fail
 refine (xoi HM.out.1 HM.out.2.ok (by have:=HM.out.2.cnt;omega) HPR.out.1 HPR.out.2.1 HPR.out.2.2.1 HPR.out.2.2.2.1 HPR.out.2.2.2.2 HS.out).mono ?_;rintro v w1 H1;have H2:Hid (xxu ρ w p x.c16 v w1):=H1.x;obtain rfl:=H2.out.1;clear H1;rw [← HA.out] at H2 ⊢;generalize x.advance.2=n at H2 ⊢;go_wp2_with fail
 go_ret
 exact H2.out
theorem jxx{ρ:Nat->Nat}{w:World}{p:Nat}{x:MS}(h:MM ρ w p x)(pr:Pre x)(hO:OrdP w)(hG:ρ 0=0)(hst:x.st=17) :
  Calls Tryz.prog 76 #[.pointer (some ⟨p,0,none⟩)] w fun v w'=>xxu ρ w p x.advance v w':=by
 have HA:Hid (x.advance=x.c17):=by show x.advance=_;unfold MS.advance;simp only [hst]
 have HM:Hid (MM ρ w p x∧Pre x):=⟨h,pr⟩
 have HO:Hid (OrdP w∧ρ 0=0):=⟨hO,hG⟩
 have HPR:Hid (vbd 17 x):=by have:=pr.at_;rw [hst] at this;exact this
 have HS:Hid (x.st=17):=hst;have c7:=h.cell7.1;rw [hst] at c7;clear h pr hO hG hst;go_enter Tryz.func76,Tryz.ntmps76
 go_wp2_with fail
 refine (vqc HM.out.1 HM.out.2.ok (by have:=HM.out.2.cnt;omega) HPR.out.1 HPR.out.2.1 HPR.out.2.2.1 HPR.out.2.2.2 HS.out).mono ?_;rintro v w1 H1;have H2:Hid (xxu ρ w p x.c17 v w1):=H1.x;obtain rfl:=H2.out.1;clear H1;rw [← HA.out] at H2 ⊢;generalize x.advance.2=n at H2 ⊢;go_wp2_with fail
 go_ret
 exact H2.out
theorem kwb{ρ:Nat->Nat}{w:World}{p:Nat}{x:MS}(h:MM ρ w p x)(pr:Pre x)(hO:OrdP w)(hG:ρ 0=0)(hst:x.st=18) :
  Calls Tryz.prog 76 #[.pointer (some ⟨p,0,none⟩)] w fun v w'=>xxu ρ w p x.advance v w':=by
 have HA:Hid (x.advance=x.c18):=by show x.advance=_;unfold MS.advance;simp only [hst]
 have HM:Hid (MM ρ w p x∧Pre x):=⟨h,pr⟩
 have HO:Hid (OrdP w∧ρ 0=0):=⟨hO,hG⟩
 have HPR:Hid (vbd 18 x):=by have:=pr.at_;rw [hst] at this;exact this
 have HS:Hid (x.st=18):=hst;have c7:=h.cell7.1;rw [hst] at c7;clear h pr hO hG hst;go_enter Tryz.func76,Tryz.ntmps76
 go_wp2_with fail
 refine (z0y HM.out.1 HM.out.2.ok (by have:=HM.out.2.cnt;omega) HPR.out.1 HPR.out.2.1 HPR.out.2.2.1 HPR.out.2.2.2 HS.out).mono ?_;rintro v w1 H1;have H2:Hid (xxu ρ w p x.c18 v w1):=H1.x;obtain rfl:=H2.out.1;clear H1;rw [← HA.out] at H2 ⊢;generalize x.advance.2=n at H2 ⊢;go_wp2_with fail
 go_ret
 exact H2.out
theorem ycr{ρ:Nat->Nat}{w:World}{p:Nat}{x:MS}(h:MM ρ w p x)(pr:Pre x)(hO:OrdP w)(hG:ρ 0=0)(hst:x.st=19) :
  Calls Tryz.prog 76 #[.pointer (some ⟨p,0,none⟩)] w fun v w'=>xxu ρ w p x.advance v w':=by
 have HA:Hid (x.advance=x.c19):=by show x.advance=_;unfold MS.advance;simp only [hst]
 have HM:Hid (MM ρ w p x∧Pre x):=⟨h,pr⟩
 have HO:Hid (OrdP w∧ρ 0=0):=⟨hO,hG⟩
 have HPR:Hid (vbd 19 x):=by have:=pr.at_;rw [hst] at this;exact this
 have HS:Hid (x.st=19):=hst;have c7:=h.cell7.1;rw [hst] at c7;clear h pr hO hG hst;go_enter Tryz.func76,Tryz.ntmps76
 go_wp2_with fail
 refine (j5a HM.out.1 HM.out.2.ok (by have:=HM.out.2.cnt;omega) HPR.out.1 HPR.out.2.1 HPR.out.2.2.1 HPR.out.2.2.2 HS.out).mono ?_;rintro v w1 H1;have H2:Hid (xxu ρ w p x.c19 v w1):=H1.x;obtain rfl:=H2.out.1;clear H1;rw [← HA.out] at H2 ⊢;generalize x.advance.2=n at H2 ⊢;go_wp2_with fail
 go_ret
 exact H2.out
theorem zqb{ρ:Nat->Nat}{w:World}{p:Nat}{x:MS}(h:MM ρ w p x)(pr:Pre x)(hO:OrdP w)(hG:ρ 0=0)(hst:x.st=20) :
  Calls Tryz.prog 76 #[.pointer (some ⟨p,0,none⟩)] w fun v w'=>xxu ρ w p x.advance v w':=by
 have HA:Hid (x.advance=x.c20):=by show x.advance=_;unfold MS.advance;simp only [hst]
 have HM:Hid (MM ρ w p x∧Pre x):=⟨h,pr⟩
 have HO:Hid (OrdP w∧ρ 0=0):=⟨hO,hG⟩
 have HPR:Hid (vbd 20 x):=by have:=pr.at_;rw [hst] at this;exact this
 have HS:Hid (x.st=20):=hst;have c7:=h.cell7.1;rw [hst] at c7;clear h pr hO hG hst;go_enter Tryz.func76,Tryz.ntmps76
 go_wp2_with fail
 refine (knx HM.out.1 HM.out.2.ok (by have:=HM.out.2.cnt;omega) HPR.out.1 HPR.out.2.1 HPR.out.2.2.1 HPR.out.2.2.2.1 HPR.out.2.2.2.2 HS.out).mono ?_;rintro v w1 H1;have H2:Hid (xxu ρ w p x.c20 v w1):=H1.x;obtain rfl:=H2.out.1;clear H1;rw [← HA.out] at H2 ⊢;generalize x.advance.2=n at H2 ⊢;go_wp2_with fail
 go_ret
 exact H2.out
theorem jro{ρ:Nat->Nat}{w:World}{p:Nat}{x:MS}(h:MM ρ w p x)(pr:Pre x)(hO:OrdP w)(hG:ρ 0=0)(hst:x.st=21) :
  Calls Tryz.prog 76 #[.pointer (some ⟨p,0,none⟩)] w fun v w'=>xxu ρ w p x.advance v w':=by
 have HA:Hid (x.advance=x.c21):=by show x.advance=_;unfold MS.advance;simp only [hst]
 have HM:Hid (MM ρ w p x∧Pre x):=⟨h,pr⟩
 have HO:Hid (OrdP w∧ρ 0=0):=⟨hO,hG⟩
 have HPR:Hid (vbd 21 x):=by have:=pr.at_;rw [hst] at this;exact this
 have HS:Hid (x.st=21):=hst;have c7:=h.cell7.1;rw [hst] at c7;clear h pr hO hG hst;go_enter Tryz.func76,Tryz.ntmps76
 go_wp2_with fail
 refine (x1x HM.out.1 HM.out.2.ok HPR.out.1 HPR.out.2.1 HPR.out.2.2.1 HPR.out.2.2.2 HS.out).mono ?_;rintro v w1 H1;have H2:Hid (xxu ρ w p x.c21 v w1):=H1.x;obtain rfl:=H2.out.1;clear H1;rw [← HA.out] at H2 ⊢;generalize x.advance.2=n at H2 ⊢;go_wp2_with fail
 go_ret
 exact H2.out
theorem jz2{ρ:Nat->Nat}{w:World}{p:Nat}{x:MS}(h:MM ρ w p x)(pr:Pre x)(hO:OrdP w)(hG:ρ 0=0)(hst:x.st=22) :
  Calls Tryz.prog 76 #[.pointer (some ⟨p,0,none⟩)] w fun v w'=>xxu ρ w p x.advance v w':=by
 have HA:Hid (x.advance=x.e22):=by show x.advance=_;unfold MS.advance;simp only [hst]
 have HM:Hid (MM ρ w p x∧Pre x):=⟨h,pr⟩
 have HO:Hid (OrdP w∧ρ 0=0):=⟨hO,hG⟩
 have HPR:Hid (vbd 22 x):=by have:=pr.at_;rw [hst] at this;exact this
 have HS:Hid (x.st=22):=hst;have c7:=h.cell7.1;rw [hst] at c7;clear h pr hO hG hst;go_enter Tryz.func76,Tryz.ntmps76
 go_wp2_with fail
 refine (van HM.out.1 HM.out.2.ok HM.out.2.cnt HS.out).mono ?_;rintro v w1 H1;have H2:Hid (xxu ρ w p x.e22 v w1):=H1.x;obtain rfl:=H2.out.1;clear H1;rw [← HA.out] at H2 ⊢;generalize x.advance.2=n at H2 ⊢;go_wp2_with fail
 go_ret
 exact H2.out
theorem ku6{ρ:Nat->Nat}{w:World}{p:Nat}{x:MS}(h:MM ρ w p x)(pr:Pre x)(hO:OrdP w)(hG:ρ 0=0)(hst:x.st=23) :
  Calls Tryz.prog 76 #[.pointer (some ⟨p,0,none⟩)] w fun v w'=>xxu ρ w p x.advance v w':=by
 have HA:Hid (x.advance=x.e23):=by show x.advance=_;unfold MS.advance;simp only [hst]
 have HM:Hid (MM ρ w p x∧Pre x):=⟨h,pr⟩
 have HO:Hid (OrdP w∧ρ 0=0):=⟨hO,hG⟩
 have HPR:Hid (vbd 23 x):=by have:=pr.at_;rw [hst] at this;exact this
 have HS:Hid (x.st=23):=hst;have c7:=h.cell7.1;rw [hst] at c7;clear h pr hO hG hst;go_enter Tryz.func76,Tryz.ntmps76
 go_wp2_with fail
 refine (j0c HM.out.1 HM.out.2.ok HM.out.2.cnt HS.out).mono ?_;rintro v w1 H1;have H2:Hid (xxu ρ w p x.e23 v w1):=H1.x;obtain rfl:=H2.out.1;clear H1;rw [← HA.out] at H2 ⊢;generalize x.advance.2=n at H2 ⊢;go_wp2_with fail
 go_ret
 exact H2.out
theorem y4k{ρ:Nat->Nat}{w:World}{p:Nat}{x:MS}(h:MM ρ w p x)(pr:Pre x)(hO:OrdP w)(hG:ρ 0=0)(hst:x.st=24) :
  Calls Tryz.prog 76 #[.pointer (some ⟨p,0,none⟩)] w fun v w'=>xxu ρ w p x.advance v w':=by
 have HA:Hid (x.advance=x.e24):=by show x.advance=_;unfold MS.advance;simp only [hst]
 have HM:Hid (MM ρ w p x∧Pre x):=⟨h,pr⟩
 have HO:Hid (OrdP w∧ρ 0=0):=⟨hO,hG⟩
 have HPR:Hid (vbd 24 x):=by have:=pr.at_;rw [hst] at this;exact this
 have HS:Hid (x.st=24):=hst;have c7:=h.cell7.1;rw [hst] at c7;clear h pr hO hG hst;go_enter Tryz.func76,Tryz.ntmps76
 go_wp2_with fail
 refine (z0q HM.out.1 HM.out.2.ok HM.out.2.cnt HS.out).mono ?_;rintro v w1 H1;have H2:Hid (xxu ρ w p x.e24 v w1):=H1.x;obtain rfl:=H2.out.1;clear H1;rw [← HA.out] at H2 ⊢;generalize x.advance.2=n at H2 ⊢;go_wp2_with fail
 go_ret
 exact H2.out
theorem xwj{ρ:Nat->Nat}{w:World}{p:Nat}{x:MS}(h:MM ρ w p x)(pr:Pre x)(hO:OrdP w)(hG:ρ 0=0) :
  Calls Tryz.prog 76 #[.pointer (some ⟨p,0,none⟩)] w fun v w'=>xxu ρ w p x.advance v w':=by
 have hs:=pr.st;obtain e | e | e | e | e | e | e | e | e | e | e | e | e | e | e | e | e | e | e | e | e | e | e | e | e:x.st=0∨x.st=1∨x.st=2∨x.st=3∨x.st=4∨x.st=5∨x.st=6∨x.st=7∨x.st=8∨x.st=9∨x.st=10∨x.st=11∨x.st=12∨x.st=13∨x.st=14∨x.st=15∨x.st=16∨x.st=17∨x.st=18∨x.st=19∨x.st=20∨x.st=21∨x.st=22∨x.st=23∨x.st=24:=by omega
 ·exact zdj h pr hO hG e
 ·exact xso h pr hO hG e
 ·exact vuw h pr hO hG e
 ·exact xhr h pr hO hG e
 ·exact jl0 h pr hO hG e
 ·exact joe h pr hO hG e
 ·exact kkt h pr hO hG e
 ·exact ycz h pr hO hG e
 ·exact yq2 h pr hO hG e
 ·exact xgi h pr hO hG e
 ·exact j78 h pr hO hG e
 ·exact yrm h pr hO hG e
 ·exact kca h pr hO hG e
 ·exact kld h pr hO hG e
 ·exact jam h pr hO hG e
 ·exact k6p h pr hO hG e
 ·exact vay h pr hO hG e
 ·exact jxx h pr hO hG e
 ·exact kwb h pr hO hG e
 ·exact ycr h pr hO hG e
 ·exact zqb h pr hO hG e
 ·exact jro h pr hO hG e
 ·exact jz2 h pr hO hG e
 ·exact ku6 h pr hO hG e
 ·exact y4k h pr hO hG e
def MQ(ρ:Nat->Nat)(w:World)(p:Nat)(x:MS):Prop:=∃ L,MB ρ w p x L∧MT ρ w x L∧L.sv= .slice none 0 0∧L.sa=0
theorem MQ.mm{ρ:Nat->Nat}{w:World}{p:Nat}{x:MS}(h:MQ ρ w p x):MM ρ w p x:=by obtain ⟨L,a,b,_⟩:=h;exact ⟨L,a,b⟩
theorem MQ.fr{ρ:Nat->Nat}{w w':World}{p:Nat}{x:MS}(h:MQ ρ w p x)(f:Kp (fun _=>False) ρ w w'):MQ ρ w' p x:=by
 obtain ⟨L,h1,h2,h3⟩:=h;exact ⟨L,h1.fr f,h2.fr f (fun _ e=>e.elim),h3⟩
theorem MQ.below{ρ:Nat->Nat}{w w':World}{p:Nat}{x:MS}(h:MQ ρ w p x)(f:Below w.heap.size w w'):MQ ρ w' p x:=h.fr (Kp.of_below f)
theorem TabS.rho9{ρ ρ':Nat->Nat}{w:World}{T:TypeId}{k:Nat}{mean:Nat->List Value}{t:Nat}{l:List Int}(h:TabS ρ w T k mean t l)(e:∀ k,ρ k≠0->ρ k≠9->ρ' k=ρ k):TabS ρ' w T k mean t l:=by
 obtain ⟨m,n,mg,I,h1,h2,h3⟩:=h.tab;exact ⟨⟨m,n,mg,I,h1,h2,by rw [e m (by rw [h3];decide) (by rw [h3];decide)];exact h3⟩,by rw [e t (by rw [h.role];decide) (by rw [h.role];decide)];exact h.role,h.rng,h.len⟩
theorem yoe.rho9{ρ ρ':Nat->Nat}{w:World}{g:Nat}{la lb:List Int}(h:yoe ρ w g la lb)(e:∀ k,ρ k≠0->ρ k≠9->ρ' k=ρ k):yoe ρ' w g la lb:=by
 obtain ⟨t,u,h1,h2,h3,h4⟩:=h;exact ⟨t,u,h1,by rw [e g (by rw [h2];decide) (by rw [h2];decide)];exact h2,h3.rho9 e,h4.rho9 e⟩
theorem MB.rho9{ρ ρ':Nat->Nat}{w:World}{p:Nat}{x:MS}{L:Lo}(B:MB ρ w p x L)(e:∀ k,ρ k≠0->ρ k≠9->ρ' k=ρ k):MB ρ' w p x L:=by
 obtain ⟨r1,r2,r3,r4⟩:=B.rl;exact ⟨B.row,B.ra,B.rc,by rw [e p (by rw [B.rp];decide) (by rw [B.rp];decide)];exact B.rp,by rw [e _ (by rw [r1];decide) (by rw [r1];decide)];exact r1,by rw [e _ (by rw [r2];decide) (by rw [r2];decide)];exact r2,by rw [e _ (by rw [r3];decide) (by rw [r3];decide)];exact r3,by rw [e _ (by rw [r4];decide) (by rw [r4];decide)];exact r4⟩
theorem MT.rho9{ρ ρ':Nat->Nat}{w:World}{x:MS}{L:Lo}(T:MT ρ w x L)(e:∀ k,ρ k≠0->ρ k≠9->ρ' k=ρ k)(l:∀ k,ρ' k≠0->k<w.heap.size){v:Value}{n:Nat}{r:List Nat}(hs:SupI ρ' w v n r):MT ρ' w { x with rest:=r } { L with sv:=v,sa:=n } where
 sup:=hs
 hl:=⟨T.hl.1,fun g hg=>by rw [e g (by rw [T.hl.2 g hg];decide) (by rw [T.hl.2 g hg];decide)];exact T.hl.2 g hg⟩
 rw:=⟨T.rw.1,fun g hg=>by rw [e g (by rw [T.rw.2 g hg];decide) (by rw [T.rw.2 g hg];decide)];exact T.rw.2 g hg⟩
 hp:=T.hp.imp id fun ⟨t,a,b⟩=>⟨t,a,b.rho9 e⟩
 sets:=T.sets.imp id fun ⟨t,a,b⟩=>⟨t,a,b.rho9 e⟩
 fx:=T.fx.imp id fun ⟨t,a,b⟩=>⟨t,a,b.rho9 e⟩
 lt:=l
theorem SupI.nil_(ρ:Nat->Nat)(w:World):SupI ρ w (.slice none 0 0) 0 []:=⟨none,[],0,rfl,fun k hk=>by simp at hk,Nat.le_refl _,by unfold maxLen;omega,fun s hs=>by simp at hs,Nat.zero_le _,rfl,fun b o e=>by cases e⟩
structure Pcs(ρ:Nat->Nat)(w:World)(v:Value)(P:List ByteArray):Prop where
 at_:∃ ad cap,v= .slice ad P.length cap∧StrO w ad P∧P.length<=cap∧cap<=maxLen∧(∀ s∈P,s.size<=maxLen)∧∀ b o,ad=some ⟨b,o,none⟩->(ρ b=0∧b≠0)∧b<w.heap.size
theorem Pcs.below{ρ:Nat->Nat}{w w':World}{v:Value}{P:List ByteArray}(h:Pcs ρ w v P)(f:Below w.heap.size w w'):Pcs ρ w' v P:=by
 obtain ⟨ad,cap,h1,h2,h3,h4,h5,h6⟩:=h.at_;refine ⟨ad,cap,h1,fun k hk=>?_,h3,h4,h5,fun b o e=>⟨(h6 b o e).1,Nat.lt_of_lt_of_le (h6 b o e).2 f.size⟩⟩;obtain ⟨b,o,e,hb,hc⟩:=h2 k hk;exact ⟨b,o,e,Nat.lt_of_lt_of_le hb f.size,by rw [← hc];exact f.cell hb⟩
theorem Pcs.sup{ρ:Nat->Nat}{w:World}{v:Value}{P:List ByteArray}(h:Pcs ρ w v P)(lt:∀ k,ρ k≠0->k<w.heap.size) :
  ∃ ρ',(∀ k,ρ k≠0->ρ' k=ρ k)∧(∀ k,ρ' k≠ρ k->(ρ k=0∧k≠0)∧ρ' k=9)∧(∀ k,ρ' k≠0->k<w.heap.size)∧SupI ρ' w v 0 (P.flatMap strN):=by
 obtain ⟨ad,cap,h1,h2,h3,h4,h5,h6⟩:=h.at_;by_cases hb:∃ b o,ad=some ⟨b,o,Option.none⟩
 ·obtain ⟨b,o,rfl⟩:=hb;obtain ⟨k0,k1⟩:=h6 b o rfl;refine ⟨give ρ b 9,z5c (Or.inl k0.1),fun k hk=>?_,fun k hk=>?_,_,P,cap,h1,h2,h3,h4,h5,Nat.zero_le _,by rw [List.drop_zero],fun b' o' e=>?_⟩
  ·by_cases e:k=b
   ·subst e;exact ⟨k0,v07 _ _ _⟩
   ·exact absurd (show give ρ b 9 k=ρ k from if_neg e) hk
  ·by_cases e:k=b
   ·subst e;exact k1
   ·exact lt k (by rw [show give ρ b 9 k=ρ k from if_neg e] at hk;exact hk)
  ·injection e with e;injection e with e1 e2;subst e1;exact v07 _ _ _
 ·exact ⟨ρ,fun _ _=>rfl,fun k hk=>absurd rfl hk,lt,ad,P,cap,h1,h2,h3,h4,h5,Nat.zero_le _,by rw [List.drop_zero],fun b o e=>absurd ⟨b,o,e⟩ hb⟩
theorem kwp(cs:Array Value)(h:cs.size=2):(Tryz.prog.info? 113).map (·.size)=some cs.size:=by rw [h];kernel_rfl
theorem z6y(v:Value)(w:World)(hv:v.oneCell'=true)(hn:∃ ad n c,v= .slice ad n c):Calls Tryz.prog 75 #[v] w fun e w'=>e= .returned (.agg #[v, .int .i64 0])∧Below w.heap.size w w':=by
 obtain ⟨ad,n,c,rfl⟩:=hn;go_enter Tryz.func75,Tryz.ntmps75
 go_wp2_with fail
 refine bodyPost_ret (v:= .agg #[.slice ad n c, .int .i64 0]) ?_ rfl ?_
 ·exact results_cell_row Tryz.results75 _ _ _ 113 _ _ _ rfl (heap_alloc_new _ _) Tryz.underlying113 rfl (kwp _ rfl)
 ·exact ⟨rfl,(Below.refl _ _).alloc (Nat.le_refl _) _⟩
inductive vgc:Nat->MS->MS×Nat->Prop
 | stop (x:MS):Pre x->x.advance.2≠0->vgc 0 x x.advance
 | go (n:Nat) (x:MS) (r:MS×Nat):Pre x->x.advance.2=0->vgc n x.advance.1 r->vgc (n+1) x r
theorem vgc.rest{n:Nat}{x:MS}{r:MS×Nat}(h:vgc n x r):Pre x:=by cases h <;> assumption
structure jvh(ρ:Nat->Nat)(w:World)(p:Nat)(y:MS)(w':World):Prop where
 ex:∃ ρ',Ext w.heap.size ρ ρ'∧MQ ρ' w' p y
 fr:Fr mine ρ w w'
def Left(ρ:Nat->Nat)(w0:World)(p:Nat)(r:MS×Nat)(w:World)(n:Nat):Prop:=∃ x,ym0 ρ w0 p x w∧vgc n x r
theorem least{P:Nat->Prop}(h:∃ n,P n):∃ n,P n∧∀ m,P m->n<=m:=by
 obtain ⟨n,hn⟩:=h;induction n using Nat.strongRecOn with
 | _ n ih=>
  by_cases h:∃ m,m<n∧P m
  ·obtain ⟨m,hm,hp⟩:=h;exact ih m hm hp
  ·exact ⟨n,hn,fun m hp=>Classical.byContradiction fun hc=>h ⟨m,by omega,hp⟩⟩
open Classical in
noncomputable def v4w(ρ:Nat->Nat)(w0:World)(p:Nat)(r:MS×Nat)(w:World):Nat:=if h:∃ n,Left ρ w0 p r w n then Classical.choose (least h) else 0
theorem vq1{ρ:Nat->Nat}{w0:World}{p:Nat}{r:MS×Nat}{w:World}{n:Nat}(h:Left ρ w0 p r w n):Left ρ w0 p r w (v4w ρ w0 p r w)∧v4w ρ w0 p r w<=n:=by
 have h':∃ n,Left ρ w0 p r w n:=⟨n,h⟩
 unfold v4w;rw [dif_pos h'];have:=Classical.choose_spec (least h');exact ⟨this.1,this.2 n h⟩
def z06(s:Value)(n:Nat):Nat:=if intOf s=0 then n+1 else 0
theorem xta{ρ ρ1:Nat->Nat}{w w1 w2:World}{p:Nat}{y:MS}(hlt:∀ k,ρ k≠0->k<w.heap.size)(h9:∀ k,ρ1 k≠ρ k->ρ k=0∧ρ1 k=9)(h:ym0 ρ1 w1 p y w2)(hs:w.heap.size<=w1.heap.size)(hf:Fr mine ρ w w1) :
  jvh ρ w p { y with rest:=[] } ((w2.setCell ⟨p,12,none⟩ (.slice none 0 0)).setCell ⟨p,13,none⟩ (.int .i64 0)):=by
 obtain ⟨⟨ρ2,e,L,B,T⟩,f⟩:=h;have B1:=B.supply (.slice none 0 0) 0;have F:Fr (fun k=>1<=k∧k<=5) ρ2 w2 ((w2.setCell ⟨p,12,none⟩ (.slice none 0 0)).setCell ⟨p,13,none⟩ (.int .i64 0)):=(Fr.own w2 p 12 _ B.rp).trans (Fr.own _ p 13 _ B.rp);obtain ⟨ρ3,h3⟩:∃ ρ3:Nat->Nat,ρ3=fun k=>if k<w.heap.size then ρ k else ρ2 k:=⟨_,rfl⟩
 have e3:∀ k,ρ2 k≠0->ρ2 k≠9->ρ3 k=ρ2 k:=fun k h0 hk=>by
  rw [h3];by_cases hl:k<w.heap.size
  ·show (if _ then _ else _)=_;rw [if_pos hl];have e1:=e k (by omega);rw [e1] at hk ⊢;exact Classical.byContradiction fun hc=>hk (h9 k (fun q=>hc q.symm)).2
  ·exact if_neg hl
 have hsz:w1.heap.size<=w2.heap.size:=f.kp.size;have FF:Fr mine ρ w ((w2.setCell ⟨p,12,none⟩ (.slice none 0 0)).setCell ⟨p,13,none⟩ (.int .i64 0)):=by
  have g:=f.ext F.five_mine e;have g':Fr mine ρ w1 ((w2.setCell ⟨p,12,none⟩ (.slice none 0 0)).setCell ⟨p,13,none⟩ (.int .i64 0)):=⟨⟨g.kp.size,fun k hk hr=>g.kp.block k hk (fun hq=>by
   by_cases hd:ρ1 k=ρ k
   ·rw [hd] at hq;exact hr hq
   ·rw [(h9 k hd).2] at hq;unfold mine at hq;omega)⟩,g.os,g.tape,g.output⟩
  exact hf.trans g'
 refine ⟨⟨ρ3,fun k hk=>by rw [h3];exact if_pos hk,{ L with sv:= .slice none 0 0,sa:=0 },?_,?_,rfl,rfl⟩,FF⟩
 ·have B2:=B1.rho9 e3;exact ⟨B2.row,B2.ra,B2.rc,B2.rp,B2.rl⟩
 ·refine ((T.fr5 F).rho9 e3 (fun k hk=>?_) (SupI.nil_ _ _));have hsz2:=F.kp.size;rw [h3] at hk;by_cases hl:k<w.heap.size
  ·omega
  ·have hk':ρ2 k≠0:=by have hk2:(if k<w.heap.size then ρ k else ρ2 k)≠0:=hk;rw [if_neg hl] at hk2;exact hk2
   have:=T.lt k hk';omega
theorem jh9{ρ:Nat->Nat}{w:World}{p:Nat}{x:MS}{v:Value}{P:List ByteArray}(h:MQ ρ w p x)(hp:Pcs ρ w v P) :
  ∃ ρ1,(∀ k,ρ1 k≠ρ k->(ρ k=0∧k≠0)∧ρ1 k=9)∧MM ρ1 ((w.setCell ⟨p,12,none⟩ v).setCell ⟨p,13,none⟩ (.int .i64 0)) p { x with rest:=P.flatMap strN }∧Fr mine ρ w ((w.setCell ⟨p,12,none⟩ v).setCell ⟨p,13,none⟩ (.int .i64 0)):=by
 obtain ⟨L,B,T,_⟩:=h;obtain ⟨ρ1,k1,k2,k3,S⟩:=hp.sup T.lt;have B1:=(B.rho k1).supply v 0;have F:Fr (fun k=>1<=k∧k<=5) ρ1 w ((w.setCell ⟨p,12,none⟩ v).setCell ⟨p,13,none⟩ (.int .i64 0)):=(Fr.own w p 12 _ B1.rp).trans (Fr.own _ p 13 _ B1.rp);have F0:Fr (fun k=>1<=k∧k<=5) ρ w ((w.setCell ⟨p,12,none⟩ v).setCell ⟨p,13,none⟩ (.int .i64 0)):=(Fr.own w p 12 _ B.rp).trans (Fr.own _ p 13 _ B.rp);exact ⟨ρ1,k2,⟨{ L with sv:=v,sa:=0 },⟨B1.row,B1.ra,B1.rc,B1.rp,B1.rl⟩,((T.rho k1 k3).supply S).fr5 F⟩,F0.five_mine⟩
theorem MQ.cells{ρ:Nat->Nat}{w:World}{p:Nat}{x:MS}(h:MM ρ w p x):∃ a b,w.cell? ⟨p,12,none⟩=some a∧w.cell? ⟨p,13,none⟩=some b∧w.frozen? ⟨p,12,none⟩=false∧w.frozen? ⟨p,13,none⟩=false∧p<w.heap.size:=by
 obtain ⟨L,B,T⟩:=h;exact ⟨_,_,B.row.cell (i:=12) (by omega),B.row.cell (i:=13) (by omega),B.row.frozen 12,B.row.frozen 13,B.row.lt⟩
theorem mRun{ρ:Nat->Nat}{w:World}{p n:Nat}{x:MS}{v:Value}{P:List ByteArray}{r:MS×Nat}(h:MQ ρ w p x)(hp:Pcs ρ w v P)(hr:vgc n { x with rest:=P.flatMap strN } r)(hO:OrdP w)(hG:ρ 0=0) :
  Calls Tryz.prog 50 #[.pointer (some ⟨p,0,none⟩),v] w fun e w'=>e= .returned (.int .i64 r.2)∧jvh ρ w p { r.1 with rest:=[] } w':=by
 have HM:Hid (MQ ρ w p x∧Pcs ρ w v P∧vgc n { x with rest:=P.flatMap strN } r∧OrdP w∧ρ 0=0):=⟨h,hp,hr,hO,hG⟩
 obtain ⟨ad,cap,rfl,_⟩:=hp.at_;clear h hp hr hO hG;go_enter Tryz.func50,Tryz.ntmps50
 go_wp2_with fail
 refine (z6y (.slice ad P.length cap) w rfl ⟨_,_,_,rfl⟩).mono ?_;rintro e w1 ⟨rfl,b1⟩;have H1:Hid (Below w.heap.size w w1):=b1;obtain ⟨ca,cb,c12,c13,z12,z13,hpl⟩:=MQ.cells (HM.out.1.mm.below b1);clear b1;go_wp2_with fail
 obtain ⟨ρ1,hd,m1,f1⟩:=jh9 (HM.out.1.below H1.out) (HM.out.2.1.below H1.out);have H2:Hid (Left ρ1 ((w1.setCell ⟨p,12,none⟩ (.slice ad P.length cap)).setCell ⟨p,13,none⟩ (.int .i64 0)) p r ((w1.setCell ⟨p,12,none⟩ (.slice ad P.length cap)).setCell ⟨p,13,none⟩ (.int .i64 0)) n):=⟨_,ym0.refl m1,HM.out.2.2.1⟩
 have hf1:Fr mine ρ w ((w1.setCell ⟨p,12,none⟩ (.slice ad P.length cap)).setCell ⟨p,13,none⟩ (.int .i64 0)):=(Fr.below (ρ:=ρ) H1.out).trans f1;generalize ((w1.setCell ⟨p,12,none⟩ (.slice ad P.length cap)).setCell ⟨p,13,none⟩ (.int .i64 0))=w2 at *;have HO2:Hid (OrdP w2∧ρ1 0=0):=⟨HM.out.2.2.2.1.fr hf1 HM.out.2.2.2.2,Classical.byContradiction fun hc=>(hd _ (by rw [HM.out.2.2.2.2];exact hc)).1.2 rfl⟩
 have HD:Hid ((∀ k,ρ1 k≠ρ k->ρ k=0∧ρ1 k=9)∧Fr mine ρ w w2∧∀ k,ρ k≠0->k<w.heap.size):=⟨fun k hk=>⟨(hd k hk).1.1,(hd k hk).2⟩,hf1,by obtain ⟨L,B,T,_⟩:=HM.out.1;exact T.lt⟩
 clear hd m1 f1 hf1 c12 c13 z12 z13 hpl H1 HM;go_loopw [5] (fun s wr=>(s= .int .i64 0∧Hid (∃ k,Left ρ1 w2 p r wr k))∨(Hid (r.2≠0)∧s= .int .i64 r.2∧Hid (ym0 ρ1 w2 p r.1 wr))) (fun s wr=>z06 s (v4w ρ1 w2 p r wr))
 case atStart=>exact Or.inl ⟨rfl,⟨n,H2.out⟩⟩
 case round=>
  clear H2;rcases hrel with ⟨rfl,HL⟩ | ⟨HN,rfl,HA⟩
  ·obtain ⟨k,hk⟩:=HL.out;obtain ⟨⟨y,A,R⟩,_⟩:=vq1 hk;obtain ⟨ρ2,e2,m2⟩:=A.ex;have HY:Hid (MM ρ2 wr p y∧Ext w2.heap.size ρ1 ρ2∧Fr mine ρ1 w2 wr∧vgc (v4w ρ1 w2 p r wr) y r):=⟨m2,e2,A.fr,R⟩
   have HOr:Hid (OrdP wr∧ρ2 0=0):=⟨HO2.out.1.fr A.fr HO2.out.2,by rw [e2 _ HO2.out.1.lt];exact HO2.out.2⟩
   clear A R e2 m2 hk HL;go_wp2_with fail
   refine (xwj HY.out.1 HY.out.2.2.2.rest HOr.out.1 HOr.out.2).mono ?_;rintro e w3 ⟨rfl,A⟩;have HA3:Hid (ym0 ρ1 w2 p y.advance.1 w3):=ym0.next HY.out.2.1 HY.out.2.2.1 A;clear A;by_cases h0:y.advance.2=0
   ·have HR:Hid (∃ k,v4w ρ1 w2 p r wr=k+1∧vgc k y.advance.1 r):=by
     have R:=HY.out.2.2.2;generalize v4w ρ1 w2 p r wr=q at R;cases R with
     | stop _ h1 h2=>exact absurd h0 h2
     | go k _ _ h1 h2 h3=>exact ⟨k,rfl,h3⟩
    obtain ⟨k,hk,R⟩:=HR.out;have HL3:Hid (Left ρ1 w2 p r w3 k):=⟨_,HA3.out,R⟩
    rw [h0];clear R HR HA3;go_wp2_with fail
    go_roundw
    case rel=>exact Or.inl ⟨rfl,⟨k,HL3.out⟩⟩
    case measure=>
     have:=(vq1 HL3.out).2;show z06 (.int .i64 0) _<z06 (.int .i64 0) _;unfold z06;rw [if_pos (show intOf (.int .i64 0)=0 from rfl),if_pos (show intOf (.int .i64 0)=0 from rfl)];omega
   ·have HR:Hid (y.advance=r):=by
     have R:=HY.out.2.2.2;generalize v4w ρ1 w2 p r wr=q at R;cases R with
     | stop _ h1 h2=>exact rfl
     | go k _ _ h1 h2 h3=>exact absurd h2 h0
    rw [HR.out] at HA3 ⊢;have HN:Hid (r.2≠0):=by rw [← HR.out];exact h0
    clear h0 HR HY HOr;go_wp2_with fail
    go_roundw
    case rel=>exact Or.inr ⟨HN,rfl,HA3⟩
    case measure=>
     show z06 (.int .i64 r.2) _<z06 (.int .i64 0) _;unfold z06;rw [if_pos (show intOf (.int .i64 0)=0 from rfl),if_neg (show ¬ intOf (.int .i64 r.2)=0 by have:=HN.out;show ¬ ((r.2:Nat):Int)=0;omega)];omega
  ·have hne:¬ ((r.2:Nat):Int)=0:=by have:=HN.out;omega
   clear HN;generalize hR2:r.2=R2 at hne ⊢;have HR2:Hid (r.2=R2):=hR2;clear hR2;go_wp2_with fail
   refine (z6y (.slice none 0 0) wr rfl ⟨_,_,_,rfl⟩).mono ?_;rintro e w4 ⟨rfl,b4⟩;have HA4:Hid (ym0 ρ1 w2 p r.1 w4):=by
    obtain ⟨ρ2,e2,m2⟩:=HA.out.ex;exact ⟨⟨ρ2,e2,m2.below b4⟩,HA.out.fr.trans (Fr.below b4)⟩
   obtain ⟨ca,cb,c12,c13,z12,z13,hpl⟩:=(let ⟨_,_,m⟩:=HA4.out.ex;MQ.cells m)
   clear b4 HA;have HF:=xta HD.out.2.2 HD.out.1 HA4.out HD.out.2.1.kp.size HD.out.2.1;have HF2:Hid (jvh ρ w p { r.1 with rest:=[] } ((w4.setCell ⟨p,12,none⟩ (.slice none 0 0)).setCell ⟨p,13,none⟩ (.int .i64 0))):=HF;clear HF;go_wp2_with fail
   go_ret
   exact ⟨by rw [HR2.out];rfl,HF2.out⟩
theorem zik.nil(s:ByteArray):zik [] s:=⟨Nat.zero_le _,fun k hk=>by simp at hk⟩
theorem zik.prefix{a b:List Nat}{s:ByteArray}(h:zik (a++b) s):zik a s:=by
 have hl:=h.len;rw [List.length_append] at hl;refine ⟨by omega,fun k hk=>?_⟩;rw [h.at_ k (by rw [List.length_append];omega)];simp [List.getD_eq_getElem?_getD,List.getElem?_append_left hk]
structure z1f(a b:Cf):Prop where
 pre:∃ l,b.pre=a.pre++l
 outs:∃ l,b.outs=a.outs++l
theorem z1f.refl(a:Cf):z1f a a:=⟨⟨[],by simp⟩,⟨[],by simp⟩⟩
theorem z1f.trans{a b c:Cf}(h:z1f a b)(k:z1f b c):z1f a c:=by
 obtain ⟨⟨l,hl⟩,⟨m,hm⟩⟩:=h;obtain ⟨⟨x,hx⟩,⟨y,hy⟩⟩:=k;exact ⟨⟨l++x,by rw [hx,hl,List.append_assoc]⟩,⟨m++y,by rw [hy,hm,List.append_assoc]⟩⟩
theorem j3w.grows{q:Quo}{D:Nat}{s:ByteArray}{a b:Cf}(h:j3w q D s a b):z1f a b:=by
 cases h with
 | take=>exact ⟨⟨_,rfl⟩,⟨[],by simp⟩⟩
 | put=>exact ⟨⟨[],by simp⟩,⟨_,rfl⟩⟩
 | tau=>exact ⟨⟨[],by simp⟩,⟨[],by simp⟩⟩
theorem v44.grows{q:Quo}{D:Nat}{s:ByteArray}{a b:Cf}(h:v44 q D s a b):z1f a b:=by
 induction h with
 | refl=>exact z1f.refl _
 | step a b c h1 _ ih=>exact h1.grows.trans ih
theorem j3w.mono{q:Quo}{D D':Nat}{s s':ByteArray}{a b:Cf}(h:j3w q D s a b)(ht:zik b.pre s')(hD:D<=D'):j3w q D' s' a b:=by
 cases h with
 | take h1 h2 h3=>
  obtain ⟨_,t2,t3⟩:=ht.snoc;have:=j3w.take (q:=q) (D:=D') (s:=s') a h1 t2 h3;rw [t3] at this;exact this
 | put b σ' h1 h2 h3=>exact .put a b σ' h1 (by omega) h3
 | tau σ' h1=>exact .tau a σ' h1
theorem v44.mono{q:Quo}{D D':Nat}{s s':ByteArray}{a b:Cf}(h:v44 q D s a b)(hD:D<=D'):zik b.pre s'->v44 q D' s' a b:=by
 induction h with
 | refl=>exact fun _=> .refl _
 | step a b c h1 h2 ih=>
  intro ht;obtain ⟨⟨l,hl⟩,_⟩:=h2.grows;exact .step a b c (h1.mono (by rw [hl] at ht;exact ht.prefix) hD) (ih ht)
structure km3(c:Cf):Prop where
 act:c.pre=[]->c.σ.act= .take∧c.outs=[]∧c.σ.st<23
theorem km3.begin{fm mem lim:Nat}(h:fm<3):km3 (Cf.begin fm mem lim):=by
 refine ⟨fun _=>⟨?_,rfl,?_⟩⟩
 ·have h3:fm=0∨fm=1∨fm=2:=by omega
  rcases h3 with rfl | rfl | rfl <;> rfl
 ·show (if fm=0 then 6 else 0)<23;split <;> omega
theorem km3.step{q:Quo}{D:Nat}{s:ByteArray}{c c':Cf}(h:km3 c)(st:j3w q D s c c'):km3 c':=by
 cases st with
 | take h1 h2 h3=>exact ⟨fun h0=>by simp at h0⟩
 | put b σ' h1 h2 h3=>exact ⟨fun h0=>by have:=(h.act h0).1;rw [h1] at this;cases this⟩
 | tau σ' h1=>exact ⟨fun h0=>by have:=(h.act h0).1;rw [h1] at this;cases this⟩
structure zi6(fm mem lim:Nat)(c:Cf):Prop where
 gi:GI fm mem lim c
 bg:ypc c
 fs:km3 c
theorem zi6.begin{fm mem lim:Nat}(h:fm<3)(hm:1<=mem):zi6 fm mem lim (Cf.begin fm mem lim):=⟨GI.begin h hm,ypc.begin _ _ _,km3.begin h⟩
theorem zi6.step{fm mem lim:Nat}{q:Quo}{D:Nat}{s:ByteArray}{c c':Cf}(h:zi6 fm mem lim c)(st:j3w q D s c c')(ht:zik c.pre s):zi6 fm mem lim c'∧zik c'.pre s:=⟨⟨(h.gi.step st ht).1,h.bg.step h.gi st,h.fs.step st⟩,(h.gi.step st ht).2⟩
theorem zi6.steps{fm mem lim:Nat}{q:Quo}{D:Nat}{s:ByteArray}{c c':Cf}(st:v44 q D s c c'):zi6 fm mem lim c->zik c.pre s->zi6 fm mem lim c'∧zik c'.pre s:=by
 induction st with
 | refl=>exact fun h ht=>⟨h,ht⟩
 | step a b c h1 _ ih=>exact fun h ht=>ih (h.step h1 ht).1 (h.step h1 ht).2
def wi(n lo hi:Int):Bool:=decide (lo<=n∧n<=hi)
structure Cfg where
 fm:Int
 out:Int
 ratio:Int
 slack:Int
 mem:Int
 lim:Int
 steps:Int
def Cfg.val(c:Cfg):Value:= .agg #[.int .i64 c.fm, .int .i64 c.out, .int .i64 c.ratio, .int .i64 c.slack, .int .i64 c.mem, .int .i64 c.lim, .int .i64 c.steps]
theorem xaq{n lo hi:Int}:wi n lo hi=true↔lo<=n∧n<=hi:=by simp [wi]
theorem ykv(n:Int)(w:World):Calls Tryz.prog 48 #[.int .i64 n] w fun e w'=>e= .returned (.bool (wi n 0 2))∧w=w':=by
 have HR:Hid ((n==0 || n==1 || n==2)=wi n 0 2):=by
  show _=_;unfold wi;rw [Bool.eq_iff_iff];simp;omega
 by_cases h0:n=0
 ·subst h0;go_enter Tryz.func48,Tryz.ntmps48
  go_wp2_with fail
  go_ret
  exact ⟨rfl,rfl⟩
 ·by_cases h1:n=1
  ·subst h1;go_enter Tryz.func48,Tryz.ntmps48
   go_wp2_with fail
   go_ret
   exact ⟨rfl,rfl⟩
  ·by_cases h2:n=2
   ·subst h2;go_enter Tryz.func48,Tryz.ntmps48
    go_wp2_with fail
    go_ret
    exact ⟨rfl,rfl⟩
   ·skip
    go_enter Tryz.func48,Tryz.ntmps48
    go_wp2_with fail
    go_ret
    exact ⟨by rw [← HR.out];rfl,rfl⟩
def jlo(s:ByteArray)(i:Nat):List Nat:=(strN s).drop i
theorem ksn(s:ByteArray):(strN s).length=s.size:=by unfold strN;rw [List.length_map];rfl
theorem xul(s:ByteArray)(i:Nat)(h:i<s.size):(strN s)[i]?=some (k0w s i):=by
 have h':i<s.data.size:=h;simp [strN,k0w,List.getD_eq_getElem?_getD];exact ⟨s.data[i],by simp [h'],by rw [Array.getElem?_eq_getElem h'];rfl⟩
theorem ypz{s:ByteArray}{i:Nat}(h:i<s.size):jlo s i=k0w s i :: jlo s (i+1):=by
 unfold jlo;have hl:i<(strN s).length:=by rw [ksn];exact h
 rw [List.drop_eq_getElem_cons hl];congr 1
 have:=xul s i h;rw [List.getElem?_eq_getElem hl] at this;exact Option.some.inj this
theorem vq8{s:ByteArray}{i:Nat}(h:s.size<=i):jlo s i=[]:=List.drop_eq_nil_of_le (by rw [ksn];exact h)
theorem zli(s:ByteArray)(i:Nat):(jlo s i).length=s.size - i:=by unfold jlo;rw [List.length_drop,ksn]
def sums:List Nat->Nat×Nat
 | l=>l.foldl (fun z b=>((z.1+b)%65521,(z.2+(z.1+b)%65521)%65521)) (1,0)
structure Sm(q:Quo)(D:Nat)(s:ByteArray)(x:MS)(c:Cf):Prop where
 wf:St.Wf c.σ
 fm:x.fm=c.σ.fmt
 me:x.me=c.σ.mem
 he:x.he=c.σ.lim
 ou:x.ou=q.out
 ra:x.ra=q.ratio
 sl:x.sl=q.slack
 sp:x.sp=q.steps
 er:x.er=0
 tk:x.tk=c.pre.length
 pu:x.pu=c.outs.length
 rest:x.rest=jlo s c.pre.length
 le:c.pre.length<=s.size
 held:x.held=c.σ.held
 count:x.count=c.σ.count
 qa:x.qa=c.outs.drop D
 dle:D<=c.outs.length∧c.outs.length<=D+64
 qc:x.qc=c.σ.om.drop (c.σ.om.length - 256)
 marks:x.marks=c.σ.marks
 head:x.head=c.σ.hmany∧c.σ.hmany<=c.σ.lim
 hsum:x.hsum=c.σ.hsum
 sum:x.st≠0->(x.sx,x.sy)=sums c.σ.om
 sumle:x.sx<=65520∧x.sy<=65520
 stp:c.pre.length+c.outs.length<=q.steps
 size:x.size=c.σ.om.length%65536
 last:x.last=c.σ.last
 left:x.left=c.σ.left
 nl:10<=c.σ.st∧c.σ.st<=14->x.nl=c.σ.nl
 nd:11<=c.σ.st∧c.σ.st<=14->x.nd=c.σ.nd
 told:12<=c.σ.st∧c.σ.st<=14->x.told=c.σ.told
 hl:x.hl=c.σ.hl
 row:x.row=c.σ.row
 hs:13<=c.σ.st∧c.σ.st<=14->x.hs=c.σ.hs
 hk:c.σ.st=14->x.hlen=(if c.σ.hk=12∨c.σ.hk=13∨c.σ.hk=14 then 0 else c.σ.hk)∧x.hbef=decide (c.σ.hk=12)∧x.hleast=hleast c.σ.hk∧x.hbits=hbits c.σ.hk
 la:15<=c.σ.st∧c.σ.st<=20->x.la=c.σ.la∧x.lb=c.σ.lb
 lit:x.lit=c.σ.lit
 span:x.least=c.σ.least∧x.bits=c.σ.bits
 dist:x.dist=c.σ.dist
 mb:c.σ.begun=c.starts.length∧c.starts.length<=c.σ.mem
structure Sn(q:Quo)(D:Nat)(s:ByteArray)(x:MS)(c:Cf):Prop where
 sm:Sm q D s x c
 st:x.st=c.σ.st+1
 mb:x.mb=c.starts.length
 pre:0<c.pre.length
structure Dead(q:Quo)(x:MS)(c:Cf)(e:Nat):Prop where
 er:x.er=e
 ne:e≠0
 tk:x.tk=c.pre.length
 pu:x.pu=c.outs.length
 qa:x.qa=[]
 mb:x.mb=if c.pre.length=0 then 0 else c.starts.length
def muC(s:ByteArray)(c:Cf):Nat:=1000*(s.size - c.pre.length)+St.phi c.σ
theorem j3w.mu{q:Quo}{D:Nat}{s:ByteArray}{a b:Cf}(W:St.Wf a.σ)(h:j3w q D s a b):St.Wf b.σ∧muC s b<muC s a:=by
 have N:=St.next W;cases h with
 | take h1 h2 h3=>
  rw [h1] at N;have W':=N _ (z5g s a.pre.length);refine ⟨W',?_⟩;unfold muC;show 1000*(s.size - (a.pre++[_]).length)+St.phi (a.σ.add _)<_;rw [List.length_append,List.length_singleton];have h4:=St.loc_lt W';unfold St.phi;show _+(100*(a.σ.count+8)+St.loc (a.σ.add _).st (a.σ.add _))<_;omega
 | put y σ' h1 h2 h3=>rw [h1] at N;exact ⟨N.1,by unfold muC;have:=N.2.2.1;show 1000*(s.size - a.pre.length)+St.phi σ'<_;omega⟩
 | tau σ' h1=>rw [h1] at N;exact ⟨N.1,by unfold muC;have:=N.2.1;show 1000*(s.size - a.pre.length)+St.phi σ'<_;omega⟩
theorem v44.mu{q:Quo}{D:Nat}{s:ByteArray}{a b:Cf}(h:v44 q D s a b):St.Wf a.σ->St.Wf b.σ∧muC s b<=muC s a:=by
 induction h with
 | refl=>exact fun W=>⟨W,Nat.le_refl _⟩
 | step a b c h1 _ ih=>
  intro W;obtain ⟨W1,l1⟩:=h1.mu W;obtain ⟨W2,l2⟩:=ih W1;exact ⟨W2,by omega⟩
def Stop(q:Quo)(D:Nat)(s:ByteArray)(c:Cf)(e:Nat):Prop:=∀ cl,Halt q D s cl c e none
inductive Out(q:Quo)(D:Nat)(s:ByteArray)(c:Cf)(r:MS×Nat):Prop
 | go (c':Cf):v44 q D s c c'->r.2=0->Sn q D s r.1 c'->muC s c'<muC s c->Out q D s c r
 | between (c':Cf):v44 q D s c c'->r.2=0->Sm q D s r.1 c'->r.1.st=0->r.1.mb=c'.starts.length->c'.σ.st=23->c'.σ.fmt=2->c'.σ.count=8->0<c'.pre.length->Out q D s c r
 | hungry (c':Cf):v44 q D s c c'->r.2=1->Sn q D s r.1 c'->c'.σ.act= .take->s.size<=c'.pre.length->Out q D s c r
 | full (c':Cf) (b:Nat) (σ':St):v44 q D s c c'->r.2=2->Sn q D s r.1 c'->c'.σ.act= .put b σ'->D+64<=c'.outs.length->Out q D s c r
 | dead (c':Cf) (e:Nat):v44 q D s c c'->r.2=3->Dead q r.1 c' e->Stop q D s c' e->Out q D s c r
theorem Out.after{q:Quo}{D:Nat}{s:ByteArray}{c c1:Cf}{r:MS×Nat}(h:Out q D s c1 r)(st:v44 q D s c c1)(W:St.Wf c.σ):Out q D s c r:=by
 have l:=(st.mu W).2;cases h with
 | go c' h1 h2 h3 h4=>exact .go c' (st.trans h1) h2 h3 (by omega)
 | between c' h1 h2 h3 h4 h5 h6 h7 h8 h9=>exact .between c' (st.trans h1) h2 h3 h4 h5 h6 h7 h8 h9
 | hungry c' h1 h2 h3 h4 h5=>exact .hungry c' (st.trans h1) h2 h3 h4 h5
 | full c' b σ' h1 h2 h3 h4 h5=>exact .full c' b σ' (st.trans h1) h2 h3 h4 h5
 | dead c' e h1 h2 h3 h4=>exact .dead c' e (st.trans h1) h2 h3 h4
def xkr(k:Nat)(σ:St):Prop:=∀ h c,σ.count<=c->h%2^σ.count=σ.held->h<2^c->c<k->({ σ with held:=h,count:=c }:St).act= .take
structure Fed(c c':Cf):Prop where
 σ:c'.σ={ c.σ with held:=c'.σ.held,count:=c'.σ.count }
 outs:c'.outs=c.outs
 ats:c'.ats=c.ats
 starts:c'.starts=c.starts
 cnt:c.σ.count<=c'.σ.count
 mod:c'.σ.held%2^c.σ.count=c.σ.held
 pre:c.pre.length<=c'.pre.length
 tot:8*c'.pre.length+c.σ.count=8*c.pre.length+c'.σ.count
theorem Fed.refl{c:Cf}(W:St.Wf c.σ):Fed c c:=⟨rfl,rfl,rfl,rfl,Nat.le_refl _,Nat.mod_eq_of_lt W.held,Nat.le_refl _,rfl⟩
theorem Sm.fed{q:Quo}{D:Nat}{s:ByteArray}{x:MS}{c:Cf}(S:Sm q D s x c)(ha:c.σ.act= .take)(hl:c.pre.length<s.size)(hs:¬ q.steps<=c.pre.length+c.outs.length):Sm q D s (x.fed (k0w s c.pre.length) (jlo s (c.pre.length+1))) { c with σ:=c.σ.add (k0w s c.pre.length),pre:=c.pre++[k0w s c.pre.length] }:=by
 have N:=St.next S.wf;rw [ha] at N;have e:(c.pre++[k0w s c.pre.length]).length=c.pre.length+1:=by simp
 exact { S with
  wf:=N _ (z5g _ _)
  tk:=by show x.tk+1=(c.pre++[_]).length;rw [e,S.tk]
  rest:=by show jlo s (c.pre.length+1)=jlo s (c.pre++[_]).length;rw [e]
  le:=by show (c.pre++[_]).length<=s.size;rw [e];omega
  stp:=by show (c.pre++[_]).length+c.outs.length<=q.steps;rw [e];omega
  held:=by show x.held+2^x.count*_=c.σ.held+2^c.σ.count*_;rw [S.held,S.count]
  count:=by show x.count+8=c.σ.count+8;rw [S.count] }
theorem Sm.dead{q:Quo}{D:Nat}{s:ByteArray}{x:MS}{c:Cf}(S:Sm q D s x c){e:Nat}(he:e≠0)(hm:x.mb=if c.pre.length=0 then 0 else c.starts.length):Dead q (x.refuse e).1 c e:=⟨rfl,he,S.tk,S.pu,rfl,hm⟩
structure ylw(q:Quo)(D:Nat)(s:ByteArray)(k:Nat)(x:MS)(c:Cf)(y:MS)(c':Cf):Prop where
 steps:v44 q D s c c'
 fed:Fed c c'
 sm:Sm q D s y c'
 st:y.st=x.st
 mb:y.mb=x.mb
 res:(MS.need k x=(y,0)∧k<=c'.σ.count∧(c.σ.count<k->c.pre.length<c'.pre.length)∧(k<=c.σ.count->c'=c))∨(MS.need k x=(y,1)∧c'.σ.act= .take∧s.size<=c'.pre.length)∨(MS.need k x=y.refuse 16∧Stop q D s c' 16)
theorem va4{h a b c:Nat}(hh:h%2^(c+8)=a+2^c*b)(ha:a<2^c):h%2^c=a:=by
 have h1:h%2^(c+8)%2^c=h%2^c:=Nat.mod_mod_of_dvd h (Nat.pow_dvd_pow 2 (by omega));rw [← h1,hh,Nat.add_mul_mod_self_left,Nat.mod_eq_of_lt ha]
theorem xkr.add{k:Nat}{σ:St}(h:xkr k σ)(W:St.Wf σ)(b:Nat):xkr k (σ.add b):=fun H C hc hm hl hk=>
 h H C (by have:σ.count+8<=C:=hc;omega) (va4 (show H%2^(σ.count+8)=σ.held+2^σ.count*b from hm) W.held) hl hk
theorem Fed.step{a b c:Cf}{s:ByteArray}(h:Fed { a with σ:=a.σ.add (k0w s a.pre.length),pre:=a.pre++[k0w s a.pre.length] } c)(W:St.Wf a.σ):Fed a c:=by
 obtain ⟨h1,h2,h3,h4,h5,h6,h7,h8⟩:=h;refine ⟨by rw [h1];rfl,h2,h3,h4,?_,?_,?_,?_⟩
 ·have:a.σ.count+8<=c.σ.count:=h5;omega
 ·exact va4 h6 W.held
 ·have:(a.pre++[k0w s a.pre.length]).length<=c.pre.length:=h7;simp at this;omega
 ·have h9:8*c.pre.length+(a.σ.count+8)=8*(a.pre++[k0w s a.pre.length]).length+c.σ.count:=h8;simp at h9;omega
theorem MS.need_done'{k:Nat}{x:MS}(h:k<=x.count):MS.need k x=(x,0):=by
 unfold MS.need;cases x.rest with
 | nil=>unfold MS.needL;rw [if_pos h]
 | cons b l=>unfold MS.needL;rw [if_pos h]
theorem MS.need_nil'{k:Nat}{x:MS}(h:¬ k<=x.count)(e:x.rest=[]):MS.need k x=(x,1):=by
 unfold MS.need;rw [e];show (if k<=x.count then _ else _)=_;rw [if_neg h]
theorem MS.need_cons'{k:Nat}{x:MS}{b:Nat}{l:List Nat}(h:¬ k<=x.count)(e:x.rest=b :: l):MS.need k x=if x.sp<=x.tk+x.pu then x.refuse 16 else MS.need k (x.fed b l):=by
 unfold MS.need;rw [e];show (if k<=x.count then _ else _)=_;rw [if_neg h];rfl
theorem yc2{q:Quo}{D:Nat}{s:ByteArray}{k:Nat}(n:Nat):∀ {x:MS} {c:Cf},s.size - c.pre.length<=n->Sm q D s x c->xkr k c.σ->∃ y c',ylw q D s k x c y c':=by
 induction n with
 | zero=>
  intro x c hn S A;by_cases h:k<=x.count
  ·exact ⟨x,c, .refl c,Fed.refl S.wf,S,rfl,rfl,Or.inl ⟨MS.need_done' h,by rw [← S.count];exact h,fun hc=>by have:=S.count;omega,fun _=>rfl⟩⟩
  ·have ha:c.σ.act= .take:=A c.σ.held c.σ.count (Nat.le_refl _) (Nat.mod_eq_of_lt S.wf.held) S.wf.held (by have:=S.count;omega);have hle:=S.le;exact ⟨x,c, .refl c,Fed.refl S.wf,S,rfl,rfl,Or.inr (Or.inl ⟨MS.need_nil' h (by rw [S.rest];exact vq8 (by omega)),ha,by omega⟩)⟩
 | succ n ih=>
  intro x c hn S A;by_cases h:k<=x.count
  ·exact ⟨x,c, .refl c,Fed.refl S.wf,S,rfl,rfl,Or.inl ⟨MS.need_done' h,by rw [← S.count];exact h,fun hc=>by have:=S.count;omega,fun _=>rfl⟩⟩
  ·have ha:c.σ.act= .take:=A c.σ.held c.σ.count (Nat.le_refl _) (Nat.mod_eq_of_lt S.wf.held) S.wf.held (by have:=S.count;omega);by_cases hl:c.pre.length<s.size
   ·have e:x.rest=k0w s c.pre.length :: jlo s (c.pre.length+1):=by rw [S.rest];exact ypz hl
    by_cases hs:x.sp<=x.tk+x.pu
    ·refine ⟨x,c, .refl c,Fed.refl S.wf,S,rfl,rfl,Or.inr (Or.inr ⟨by rw [MS.need_cons' h e,if_pos hs],fun cl=>?_⟩)⟩;exact Halt.steps ha hl (by rw [← S.tk,← S.pu,← S.sp];exact hs)
    ·have S1:=S.fed ha hl (by rw [← S.tk,← S.pu,← S.sp];exact hs);obtain ⟨y,c',N⟩:=ih (x:=x.fed (k0w s c.pre.length) (jlo s (c.pre.length+1))) (c:={ c with σ:=c.σ.add (k0w s c.pre.length),pre:=c.pre++[k0w s c.pre.length] }) (by show s.size - (c.pre++[_]).length<=n;simp;omega) S1 (A.add S.wf _);have st1:j3w q D s c { c with σ:=c.σ.add (k0w s c.pre.length),pre:=c.pre++[k0w s c.pre.length] }:=j3w.take c ha hl (by rw [← S.tk,← S.pu,← S.sp];exact hs);have eN:MS.need k x=MS.need k (x.fed (k0w s c.pre.length) (jlo s (c.pre.length+1))):=by rw [MS.need_cons' h e,if_neg hs]
     have hp:c.pre.length<c'.pre.length:=by have:=N.fed.pre;have:(c.pre++[k0w s c.pre.length]).length<=c'.pre.length:=this;simp at this;omega
     refine ⟨y,c',(v44.one st1).trans N.steps,Fed.step (b:=c') N.fed S.wf,N.sm,N.st,N.mb,?_⟩;rcases N.res with r | r | r
     ·exact Or.inl ⟨eN.trans r.1,r.2.1,fun _=>hp,fun hk=>absurd hk (by have:=S.count;omega)⟩
     ·exact Or.inr (Or.inl ⟨eN.trans r.1,r.2⟩)
     ·exact Or.inr (Or.inr ⟨eN.trans r.1,r.2⟩)
   ·have hle:=S.le;exact ⟨x,c, .refl c,Fed.refl S.wf,S,rfl,rfl,Or.inr (Or.inl ⟨MS.need_nil' h (by rw [S.rest];exact vq8 (by omega)),ha,by omega⟩)⟩
theorem Sm.need{q:Quo}{D:Nat}{s:ByteArray}{x:MS}{c:Cf}(S:Sm q D s x c){k:Nat}(A:xkr k c.σ):∃ y c',ylw q D s k x c y c':=yc2 _ (Nat.le_refl _) S A
theorem Sn.fed{q:Quo}{D:Nat}{s:ByteArray}{k:Nat}{x y:MS}{c c':Cf}(N:Sn q D s x c)(O:ylw q D s k x c y c'):Sn q D s y c':=⟨O.sm,by rw [O.st,N.st,O.fed.σ],by rw [O.mb,N.mb,O.fed.starts],Nat.lt_of_lt_of_le N.pre O.fed.pre⟩
theorem Sn.mbd{q:Quo}{D:Nat}{s:ByteArray}{x:MS}{c:Cf}(N:Sn q D s x c):x.mb=if c.pre.length=0 then 0 else c.starts.length:=by
 rw [if_neg (by have:=N.pre;omega)];exact N.mb
theorem ze8{q:Quo}{D:Nat}{s:ByteArray}{x:MS}{c:Cf}{k:Nat}(N:Sn q D s x c)(A:xkr k c.σ)(f:MS->MS×Nat)
  (hf:∀ y c',Sn q D s y c'->Fed c c'->k<=c'.σ.count->Out q D s c' (f y)):Out q D s c (MS.andThen (MS.need k x) f):=by
 obtain ⟨y,c',O⟩:=N.sm.need A;have Y:=N.fed O;rcases O.res with ⟨e,hk,_⟩ | ⟨e,h1,h2⟩ | ⟨e,h1⟩
 ·rw [e];exact (hf y c' Y O.fed hk).after O.steps N.sm.wf
 ·rw [e];exact .hungry c' O.steps rfl Y h1 h2
 ·rw [e];exact .dead c' 16 O.steps rfl (O.sm.dead (by decide) Y.mbd) h1
theorem zyc{q:Quo}{D:Nat}{s:ByteArray}{x:MS}{c:Cf}{k:Nat}(least:Nat)(N:Sn q D s x c)(A:xkr k c.σ)(f:MS->Nat->MS×Nat)
  (hf:∀ y c',Sn q D s y c'->Fed c c'->k<=c'.σ.count->Out q D s c' (f (y.rd k) (least+y.num k))):Out q D s c (MS.symThen (x.spanR least k) f):=by
 obtain ⟨y,c',O⟩:=N.sm.need A;have Y:=N.fed O;unfold MS.spanR;rcases O.res with ⟨e,hk,_⟩ | ⟨e,h1,h2⟩ | ⟨e,h1⟩
 ·rw [e];exact (hf y c' Y O.fed hk).after O.steps N.sm.wf
 ·rw [e];exact .hungry c' O.steps rfl Y h1 h2
 ·rw [e];exact .dead c' 16 O.steps rfl (O.sm.dead (by decide) Y.mbd) h1
theorem xgk{q:Quo}{D:Nat}{s:ByteArray}{x:MS}{c:Cf}(N:Sn q D s x c)(A:xkr 8 c.σ)(f:MS->Nat->MS×Nat)
  (hf:∀ y c',Sn q D s y c'->Fed c c'->8<=c'.σ.count->(c.σ.count<8->c.pre.length<c'.pre.length)->Out q D s c' (if y.head=y.he then y.refuse 5 else f y.headRead (y.num 8))):Out q D s c (MS.symThen x.takeHead f):=by
 obtain ⟨y,c',O⟩:=N.sm.need A;have Y:=N.fed O;unfold MS.takeHead;rcases O.res with ⟨e,hk,hp,_⟩ | ⟨e,h1,h2⟩ | ⟨e,h1⟩
 ·rw [e];have H:=(hf y c' Y O.fed hk hp).after O.steps N.sm.wf;rw [if_neg (by simp)];by_cases h5:y.head=y.he
  ·rw [if_pos h5] at H;rw [if_pos h5];exact H
  ·rw [if_neg h5] at H;rw [if_neg h5];exact H
 ·rw [e,if_pos (by simp)];exact .hungry c' O.steps rfl Y h1 h2
 ·rw [e,if_pos (by simp [MS.refuse])];exact .dead c' 16 O.steps rfl (O.sm.dead (by decide) Y.mbd) h1
theorem vmk{q:Quo}{D:Nat}{s:ByteArray}{c:Cf}{σ':St}(ha:c.σ.act= .tau σ')(h:c.σ.st≠23):j3w q D s c { c with σ:=σ' }:=by
 have:=j3w.tau (q:=q) (D:=D) (s:=s) c σ' ha;rw [if_neg h] at this;exact this
theorem xuc{q:Quo}{D:Nat}{s:ByteArray}{c:Cf}{σ':St}{r:MS×Nat}(W:St.Wf c.σ)(ha:c.σ.act= .tau σ')(h:c.σ.st≠23)(O:Out q D s { c with σ:=σ' } r):Out q D s c r:=O.after (v44.one (vmk ha h)) W
theorem jyp{q:Quo}{D:Nat}{s:ByteArray}{c:Cf}{σ':St}{z:MS}(W:St.Wf c.σ)(ha:c.σ.act= .tau σ')(h:c.σ.st≠23)(N:Sn q D s z { c with σ:=σ' }):Out q D s c (z,0):=
 .go _ (v44.one (vmk ha h)) rfl N ((vmk (q:=q) (D:=D) (s:=s) ha h).mu W).2
theorem ja5{q:Quo}{D:Nat}{s:ByteArray}{c:Cf}{x z:MS}{e:Nat}(N:Sn q D s x c)(ha:c.σ.act= .fail e)(he:e≠0)(h1:z.tk=x.tk)(h2:z.pu=x.pu)(h3:z.mb=x.mb):Out q D s c (z.refuse e):=
 .dead c e (.refl c) rfl ⟨rfl,he,h1.trans N.sm.tk,h2.trans N.sm.pu,rfl,h3.trans N.mbd⟩ (fun _=>Halt.fail e ha)
theorem jod(l:List Nat)(b:Nat):sums (l++[b])=(((sums l).1+b)%65521,((sums l).2+((sums l).1+b)%65521)%65521):=by
 unfold sums;rw [List.foldl_append];rfl
theorem zuc{l:List Nat}{b:Nat}:MS.pushed (l.drop (l.length - 256)) b=(l++[b]).drop ((l++[b]).length - 256):=by
 unfold MS.pushed;rw [List.length_drop,List.length_append,List.length_singleton];by_cases h:256<=l.length
 ·rw [if_pos (by omega),List.tail_drop,List.drop_append_of_le_length (by omega)];rw [show l.length - 256+1=l.length+1 - 256 by omega]
 ·rw [if_neg (by omega),show l.length - 256=0 by omega,show l.length+1 - 256=0 by omega];simp
structure PutF(x:MS)(b:Nat)(q:Quo)(D:Nat)(c:Cf):Prop where
 qa:(x.putted b).qa=(c.outs++[b]).drop D
 dle:D<=(c.outs++[b]).length∧(c.outs++[b]).length<=D+64
 qc:(x.putted b).qc=(c.σ.om++[b]).drop ((c.σ.om++[b]).length - 256)
 sum:((x.putted b).sx,(x.putted b).sy)=sums (c.σ.om++[b])
 sumle:(x.putted b).sx<=65520∧(x.putted b).sy<=65520
 size:(x.putted b).size=(c.σ.om++[b]).length%65536
 pu:(x.putted b).pu=(c.outs++[b]).length
 stp:c.pre.length+(c.outs++[b]).length<=q.steps
theorem z9q{q:Quo}{D:Nat}{s:ByteArray}{x:MS}{c:Cf}{b:Nat}{σ':St}(N:Sn q D s x c)(ha:c.σ.act= .put b σ')(f:MS->MS×Nat)
  (hf:PutF x b q D c->Out q D s { c with σ:=σ',outs:=c.outs++[b],ats:=c.ats++[c.pre.length] } (f (x.putted b))):Out q D s c (MS.andThen (x.put b) f):=by
 have S:=N.sm;have hql:x.qa.length=c.outs.length - D:=by rw [S.qa,List.length_drop]
 have hpe:x.putE=vcn q c.pre.length c.outs.length:=by unfold MS.putE vcn;rw [S.tk,S.pu,S.sp,S.ou,S.ra,S.sl]
 have hd:=S.dle;unfold MS.put;by_cases h1:x.qa.length=64
 ·rw [if_pos h1];exact .full c b σ' (.refl c) rfl N ha (by omega)
 ·rw [if_neg h1];by_cases h2:x.putE=0
  ·rw [if_neg (by omega)];have h3:vcn q c.pre.length c.outs.length=0:=by rw [← hpe];exact h2
   have st:j3w q D s c { c with σ:=σ',outs:=c.outs++[b],ats:=c.ats++[c.pre.length] }:=j3w.put c b σ' ha (by omega) h3;refine (hf ?_).after (v44.one st) S.wf;have hst0:x.st≠0:=by rw [N.st];omega
   have hsm:=S.sum hst0;have hs1:x.sx=(sums c.σ.om).1:=by rw [← hsm]
   have hs2:x.sy=(sums c.σ.om).2:=by rw [← hsm]
   refine ⟨?_,?_,?_,?_,?_,?_,?_,?_⟩
   ·show x.qa++[b]=_;rw [S.qa,List.drop_append_of_le_length hd.1]
   ·rw [List.length_append,List.length_singleton];omega
   ·show MS.pushed x.qc b=_;rw [S.qc,zuc]
   ·rw [jod,← hs1,← hs2];rfl
   ·refine ⟨?_,?_⟩
    ·show (x.sx+b)%65521<=65520;omega
    ·show (x.sy+(x.sx+b)%65521)%65521<=65520;omega
   ·show (x.size+1)%65536=_;rw [S.size,List.length_append,List.length_singleton];omega
   ·show x.pu+1=_;rw [S.pu,List.length_append,List.length_singleton]
   ·rw [List.length_append,List.length_singleton];unfold vcn at h3;by_cases h4:q.steps<=c.pre.length+c.outs.length
    ·rw [if_pos h4] at h3;omega
    ·omega
  ·rw [if_pos h2];have h3:vcn q c.pre.length c.outs.length≠0:=by rw [← hpe];exact h2
   refine .dead c _ (.refl c) rfl (S.dead h2 N.mbd) (fun cl=>?_);rw [hpe];exact Halt.quota b σ' ha (by omega) h3
def ScI(l:List Int)(σ:St)(r n code:Nat):Prop:=n<=σ.count+1∧1<=n∧∀ h C,σ.count<=C->h%2^σ.count=σ.held->h<2^C->jcs l h C=scan l r n code (h / 2^(n - 1)) (C - (n - 1))
theorem ScI.start(l:List Int)(σ:St):ScI l σ (lng l 12) 1 0:=⟨by omega,Nat.le_refl _,fun h C _ _ _=>by show scan l (lng l 12) 1 0 h C=_;simp⟩
theorem kx6{h H c n:Nat}(hm:h%2^c=H)(hn:1<=n∧n<=c):h / 2^(n - 1)%2=H / 2^(n - 1)%2:=by
 subst hm;have e:2^c=2^(n - 1)*2^(c - (n - 1)):=by rw [← Nat.pow_add];congr 1;omega
 rw [e,Nat.mod_mul_right_div_self];have e2:2 ∣ 2^(c - (n - 1)):=by
  rw [show c - (n - 1)=(c - n)+1 by omega,Nat.pow_succ];exact Nat.dvd_mul_left _ _
 rw [Nat.mod_mod_of_dvd _ e2]
theorem ScI.next{l:List Int}{σ τ:St}{r n code:Nat}(I:ScI l σ (r+1) n code)(hc:σ.count<=τ.count)(hm:τ.held%2^σ.count=σ.held)(hn:n<=τ.count)(hf:¬ 0<=find (rset l) n ((2*code+τ.held / 2^(n - 1)%2:Nat):Int)) :
  ScI l τ r (n+1) (2*code+τ.held / 2^(n - 1)%2):=by
 obtain ⟨i1,i2,i3⟩:=I;refine ⟨by omega,by omega,fun h C h1 h2 h3=>?_⟩;have hmod:h%2^σ.count=σ.held:=by
  rw [← hm,← h2,Nat.mod_mod_of_dvd _ (Nat.pow_dvd_pow 2 hc)]
 rw [i3 h C (by omega) hmod h3,scan,if_neg (by omega),kx6 h2 ⟨i2,hn⟩,if_neg hf];congr 1
 ·rw [Nat.div_div_eq_div_mul];congr 1
  rw [← Nat.pow_succ];congr 1;omega
 ·omega
theorem kgv{q:Quo}{D:Nat}{s:ByteArray}{l:List Int}{g:St->Nat->Act}(f:MS->Nat->MS×Nat){c0:Cf}(r:Nat):∀ (n code:Nat) (x:MS) (c:Cf),Sn q D s x c->Fed c0 c->ScI l c.σ r n code->(∀ h C,({ c.σ with held:=h,count:=C }:St).act=({ c.σ with held:=h,count:=C }:St).symbol l g)->
  (∀ y c' k m,Sn q D s y c'->Fed c0 c'->jcs l c'.σ.held c'.σ.count= .hit k m->Out q D s c' (f (y.rd m) k))->Out q D s c (MS.symThen (MS.symL l r n code x) f):=by
 induction r with
 | zero=>
  intro n code x c N F I hA hf;have ha:c.σ.act= .fail 11:=by
   have h1:=hA c.σ.held c.σ.count;have h2:({ c.σ with held:=c.σ.held,count:=c.σ.count }:St)=c.σ:=rfl;rw [h2] at h1;rw [h1];unfold St.symbol;rw [I.2.2 c.σ.held c.σ.count (Nat.le_refl _) (Nat.mod_eq_of_lt N.sm.wf.held) N.sm.wf.held];rfl
  show Out q D s c ((x.refuse 11).1,3);exact ja5 (z:=x) N ha (by decide) rfl rfl rfl
 | succ r ih=>
  intro n code x c N F I hA hf;have A:xkr n c.σ:=fun h C h1 h2 h3 h4=>by
   rw [hA h C];show (match jcs l h C with | .hit k m=>_ | .more=>Act.take | .none=>_)=Act.take;rw [I.2.2 h C h1 h2 h3,scan,if_pos (by omega)]
  obtain ⟨y,c',O⟩:=N.sm.need A;have Y:=N.fed O;have eσ:=O.fed.σ;rw [MS.symL];rcases O.res with ⟨e,hk,_⟩ | ⟨e,h1,h2⟩ | ⟨e,h1⟩
  ·rw [e];have F':Fed c0 c':=⟨by rw [O.fed.σ,F.σ],O.fed.outs.trans F.outs,O.fed.ats.trans F.ats,O.fed.starts.trans F.starts,Nat.le_trans F.cnt O.fed.cnt,by rw [← F.mod,← O.fed.mod,Nat.mod_mod_of_dvd _ (Nat.pow_dvd_pow 2 F.cnt)],Nat.le_trans F.pre O.fed.pre,by have a:=F.tot;have b:=O.fed.tot;omega⟩
   rw [if_neg (by simp)];have hh:y.held=c'.σ.held:=O.sm.held;have hsc:=I.2.2 c'.σ.held c'.σ.count O.fed.cnt O.fed.mod O.sm.wf.held;have hn1:=I.2.1;rw [scan,if_neg (by omega)] at hsc;show Out q D s c (MS.symThen (if 0<=find (rset l) n ((2*code+y.held / 2^(n - 1)%2:Nat):Int) then _ else _) f);rw [hh];by_cases hfd:0<=find (rset l) n ((2*code+c'.σ.held / 2^(n - 1)%2:Nat):Int)
   ·rw [if_pos hfd] at hsc ⊢;exact (hf y c' _ _ Y F' hsc).after O.steps N.sm.wf
   ·rw [if_neg hfd];have hA':∀ h C,({ c'.σ with held:=h,count:=C }:St).act=({ c'.σ with held:=h,count:=C }:St).symbol l g:=fun h C=>by rw [eσ];exact hA h C
    exact (ih (n+1) _ y c' Y F' (I.next O.fed.cnt O.fed.mod hk hfd) hA' hf).after O.steps N.sm.wf
  ·rw [e,if_pos (by simp)];exact .hungry c' O.steps rfl Y h1 h2
  ·rw [e,if_pos (by simp [MS.refuse])];exact .dead c' 16 O.steps rfl (O.sm.dead (by decide) Y.mbd) h1
theorem y82{q:Quo}{D:Nat}{s:ByteArray}{l:List Int}{g:St->Nat->Act}{x:MS}{c:Cf}(N:Sn q D s x c)(hA:∀ h C,({ c.σ with held:=h,count:=C }:St).act=({ c.σ with held:=h,count:=C }:St).symbol l g)(f:MS->Nat->MS×Nat)
  (hf:∀ y c' k m,Sn q D s y c'->Fed c c'->jcs l c'.σ.held c'.σ.count= .hit k m->Out q D s c' (f (y.rd m) k)):Out q D s c (MS.symThen (x.sym l) f):=by
 unfold MS.sym;rw [vux];exact kgv f _ 1 0 x c N (Fed.refl N.sm.wf) (ScI.start l c.σ) hA hf
theorem xa2(r:MS×Nat)(f g:MS->MS×Nat):MS.andThen (MS.andThen r f) g=MS.andThen r (fun y=>MS.andThen (f y) g):=by
 unfold MS.andThen;by_cases h:r.2=0
 ·rw [if_pos h,if_pos h]
 ·rw [if_neg h,if_neg h,if_neg h]
theorem y9c(r:MS×Nat×Nat)(f:MS->Nat->MS×Nat)(g:MS->MS×Nat):MS.andThen (MS.symThen r f) g=MS.symThen r (fun y k=>MS.andThen (f y k) g):=by
 unfold MS.andThen MS.symThen;by_cases h:r.2.1=0
 ·rw [if_pos h,if_pos h]
 ·rw [if_neg h,if_neg h,if_neg h]
theorem xd7(x:MS)(g:MS->MS×Nat):MS.andThen (x,0) g=g x:=rfl
theorem zj4(x:MS)(e:Nat)(g:MS->MS×Nat):MS.andThen (x.refuse e) g=x.refuse e:=rfl
theorem Fed.st{c c':Cf}(F:Fed c c'):c'.σ.st=c.σ.st:=by rw [F.σ]
theorem Fed.fmt{c c':Cf}(F:Fed c c'):c'.σ.fmt=c.σ.fmt:=by rw [F.σ]
theorem yij{k n:Nat}{σ:St}(hst:σ.st=n)(h:∀ h c,c<k->St.actAt n { σ with held:=h,count:=c }= .take):xkr k σ:=fun H C _ _ _ hk=>by
 rw [St.act_at (show ({ σ with held:=H,count:=C }:St).st=n from hst)];exact h H C hk
theorem veo{σ σ':St}(W:St.Wf σ)(ha:σ.act= .tau σ'):St.Wf σ':=by
 have N:=St.next W;rw [ha] at N;exact N.1
theorem v1u{q:Quo}{D:Nat}{s:ByteArray}{x:MS}{c:Cf}(N:Sn q D s x c)(hst:c.σ.st=23):Out q D s c x.e24:=by
 refine ze8 N (yij hst fun h C hk=>if_pos hk) _ fun y c' Y F hk=>?_
 have hst':c'.σ.st=23:=F.st.trans hst;have hc:c'.σ.count=8:=by
  have few:=Y.sm.wf.few;rw [hst'] at few;have few':c'.σ.count%8=0∧c'.σ.count<=8:=few;omega
 by_cases h2:y.fm=2
 ·rw [if_pos h2];exact .between c' (.refl c') rfl { Y.sm with sum:=fun h=>absurd rfl h } rfl Y.mb hst' (by rw [← Y.sm.fm];exact h2) hc Y.pre
 ·rw [if_neg h2];refine ja5 Y ?_ (by decide) rfl rfl rfl;rw [St.act_at hst'];show St.need c'.σ 8 _=_;unfold St.need;rw [if_neg (by omega),if_pos (by rw [← Y.sm.fm];exact h2)]
theorem vh6{q:Quo}{D:Nat}{s:ByteArray}{x:MS}{c:Cf}(N:Sn q D s x c)(hst:c.σ.st=22):Out q D s c x.e23:=by
 unfold MS.e23 MS.passSize;by_cases h2:x.fm=2
 ·have hf2:c.σ.fmt=2:=by rw [← N.sm.fm];exact h2
  rw [if_pos h2,xa2];refine ze8 N (yij hst fun h C hk=>by simp only [St.actAt];rw [if_pos hf2];exact if_pos hk) _ fun y c' Y F hk=>?_
  have hst':c'.σ.st=22:=F.st.trans hst;have hact:c'.σ.act=if c'.σ.num 16=c'.σ.om.length%65536 then .tau { c'.σ.rd 16 with st:=23 } else .fail 13:=by
   rw [St.act_at hst'];simp only [St.actAt,St.need];rw [if_pos (F.fmt.trans hf2),if_neg (by omega)]
  have en:y.num 16=c'.σ.num 16:=by unfold MS.num St.num;rw [Y.sm.held]
  by_cases h3:y.num 16=y.size
  ·rw [if_pos h3,xd7];rw [if_pos (by rw [← en,h3,Y.sm.size])] at hact;refine xuc Y.sm.wf hact (by omega) (v1u ?_ rfl);exact ⟨{ Y.sm with
    wf:=veo Y.sm.wf hact
    sum:=fun _=>Y.sm.sum (by rw [Y.st];omega)
    held:=by show y.held / 2^16=c'.σ.held / 2^16;rw [Y.sm.held]
    count:=by show y.count - 16=c'.σ.count - 16;rw [Y.sm.count]
    nl:=fun h=>absurd h (show ¬ (10<=23∧23<=14) by decide)
    nd:=fun h=>absurd h (show ¬ (11<=23∧23<=14) by decide)
    told:=fun h=>absurd h (show ¬ (12<=23∧23<=14) by decide)
    hs:=fun h=>absurd h (show ¬ (13<=23∧23<=14) by decide)
    hk:=fun h=>absurd h (show ¬ (23=14) by decide)
    la:=fun h=>absurd h (show ¬ (15<=23∧23<=20) by decide) },rfl,Y.mb,Y.pre⟩
  ·rw [if_neg h3,zj4];rw [if_neg (by rw [← en,← Y.sm.size];exact h3)] at hact;exact ja5 Y hact (by decide) rfl rfl rfl
 ·rw [if_neg h2,xd7];have hact:c.σ.act= .tau { c.σ with st:=23 }:=by
   rw [St.act_at hst];simp only [St.actAt];rw [if_neg (by rw [← N.sm.fm];exact h2)]
  refine xuc N.sm.wf hact (by omega) (v1u ?_ rfl);exact ⟨{ N.sm with
   wf:=veo N.sm.wf hact
   sum:=fun _=>N.sm.sum (by rw [N.st];omega)
   nl:=fun h=>absurd h (show ¬ (10<=23∧23<=14) by decide)
   nd:=fun h=>absurd h (show ¬ (11<=23∧23<=14) by decide)
   told:=fun h=>absurd h (show ¬ (12<=23∧23<=14) by decide)
   hs:=fun h=>absurd h (show ¬ (13<=23∧23<=14) by decide)
   hk:=fun h=>absurd h (show ¬ (23=14) by decide)
   la:=fun h=>absurd h (show ¬ (15<=23∧23<=20) by decide) },rfl,N.mb,N.pre⟩
theorem jct(l:List Nat):∀ k,k<=l.length->sxy (fun k=>((l.getD k 0:Nat):Int)) k=(((sums (l.take k)).1:Int),((sums (l.take k)).2:Int)):=by
 intro k;induction k with
 | zero=>intro _;rfl
 | succ k ih=>
  intro hk;have e:l.take (k+1)=l.take k++[l.getD k 0]:=by
   rw [List.take_succ,List.getD_eq_getElem?_getD,List.getElem?_eq_getElem (by omega)];rfl
  rw [e,jod,sxy,ih (by omega)];simp
theorem khr(om:List Nat):Tr.sumL om=65536*((sums om).2:Int)+(sums om).1:=by
 unfold Tr.sumL;rw [jct om om.length (Nat.le_refl _),List.take_length]
theorem xwk{q:Quo}{D:Nat}{s:ByteArray}{x:MS}{c:Cf}(N:Sn q D s x c)(hst:c.σ.st=21):Out q D s c x.e22:=by
 unfold MS.e22 MS.passSum;by_cases h2:x.fm=0
 ·rw [if_pos h2,xd7];have hact:c.σ.act= .tau { c.σ with st:=22 }:=by
   rw [St.act_at hst];simp only [St.actAt];rw [if_pos (by rw [← N.sm.fm];exact h2)]
  refine xuc N.sm.wf hact (by omega) (vh6 ?_ rfl);exact ⟨{ N.sm with
   wf:=veo N.sm.wf hact
   sum:=fun _=>N.sm.sum (by rw [N.st];omega)
   nl:=fun h=>absurd h (show ¬ (10<=22∧22<=14) by decide)
   nd:=fun h=>absurd h (show ¬ (11<=22∧22<=14) by decide)
   told:=fun h=>absurd h (show ¬ (12<=22∧22<=14) by decide)
   hs:=fun h=>absurd h (show ¬ (13<=22∧22<=14) by decide)
   hk:=fun h=>absurd h (show ¬ (22=14) by decide)
   la:=fun h=>absurd h (show ¬ (15<=22∧22<=20) by decide) },rfl,N.mb,N.pre⟩
 ·have hf2:¬ c.σ.fmt=0:=by rw [← N.sm.fm];exact h2
  rw [if_neg h2,xa2];refine ze8 N (yij hst fun h C hk=>by simp only [St.actAt];rw [if_neg hf2];exact if_pos hk) _ fun y c' Y F hk=>?_
  have hst':c'.σ.st=21:=F.st.trans hst;have hact:c'.σ.act=if (big4 c'.σ.held:Int)=Tr.sumL c'.σ.om then .tau { c'.σ.rd 32 with st:=22 } else .fail 12:=by
   rw [St.act_at hst'];simp only [St.actAt,St.need];rw [if_neg (by rw [F.fmt];exact hf2),if_neg (by omega)]
  have hsm:=Y.sm.sum (by rw [Y.st];omega);have hs1:y.sx=(sums c'.σ.om).1:=by rw [← hsm]
  have hs2:y.sy=(sums c'.σ.om).2:=by rw [← hsm]
  have en:big4 y.held=65536*y.sy+y.sx↔(big4 c'.σ.held:Int)=Tr.sumL c'.σ.om:=by
   rw [khr,Y.sm.held,hs1,hs2];omega
  by_cases h3:big4 y.held=65536*y.sy+y.sx
  ·rw [if_pos h3,xd7];rw [if_pos (en.1 h3)] at hact;refine xuc Y.sm.wf hact (by omega) (vh6 ?_ rfl);exact ⟨{ Y.sm with
    wf:=veo Y.sm.wf hact
    sum:=fun _=>Y.sm.sum (by rw [Y.st];omega)
    held:=by show y.held / 2^32=c'.σ.held / 2^32;rw [Y.sm.held]
    count:=by show y.count - 32=c'.σ.count - 32;rw [Y.sm.count]
    nl:=fun h=>absurd h (show ¬ (10<=22∧22<=14) by decide)
    nd:=fun h=>absurd h (show ¬ (11<=22∧22<=14) by decide)
    told:=fun h=>absurd h (show ¬ (12<=22∧22<=14) by decide)
    hs:=fun h=>absurd h (show ¬ (13<=22∧22<=14) by decide)
    hk:=fun h=>absurd h (show ¬ (22=14) by decide)
    la:=fun h=>absurd h (show ¬ (15<=22∧22<=20) by decide) },rfl,Y.mb,Y.pre⟩
  ·rw [if_neg h3,zj4];rw [if_neg (fun h=>h3 (en.2 h))] at hact;exact ja5 Y hact (by decide) rfl rfl rfl
theorem sim_end{q:Quo}{D:Nat}{s:ByteArray}{x:MS}{c:Cf}(N:Sn q D s x c)(σ0:St)(y:MS)(h0:σ0={ c.σ with held:=σ0.held,count:=σ0.count })(hy:y={ x with held:=σ0.held,count:=σ0.count })(hact:c.σ.act=σ0.endBlock)(h23:c.σ.st≠23)(hh:σ0.held<2^σ0.count):Out q D s c y.endBlock:=by
 have hl:y.last=σ0.last:=by rw [hy,h0];exact N.sm.last
 unfold MS.endBlock;unfold St.endBlock at hact;by_cases h1:y.last=true
 ·rw [if_pos h1];rw [if_pos (by rw [← hl];exact h1)] at hact;unfold MS.skipBits;have en:({ y with st:=22 }:MS).num ({ y with st:=22 }:MS).count=σ0.held:=by
   show y.held%2^y.count=σ0.held;rw [hy];exact Nat.mod_eq_of_lt hh
  rw [en];by_cases h2:σ0.held=0
  ·rw [if_neg (by simp [h2])] at hact;rw [if_pos h2];refine jyp N.sm.wf hact h23 ?_
   have e1:({ y with st:=22 }:MS).rd ({ y with st:=22 }:MS).count={ x with held:=0,count:=0,st:=22 }:=by
    unfold MS.rd;rw [hy];simp [h2]
   rw [e1];rw [h0] at hact ⊢;exact ⟨{ N.sm with
    wf:=veo N.sm.wf hact
    sum:=fun _=>N.sm.sum (by rw [N.st];omega)
    held:=rfl
    count:=rfl
    nl:=fun h=>absurd h (show ¬ (10<=21∧21<=14) by decide)
    nd:=fun h=>absurd h (show ¬ (11<=21∧21<=14) by decide)
    told:=fun h=>absurd h (show ¬ (12<=21∧21<=14) by decide)
    hs:=fun h=>absurd h (show ¬ (13<=21∧21<=14) by decide)
    hk:=fun h=>absurd h (show ¬ (21=14) by decide)
    la:=fun h=>absurd h (show ¬ (15<=21∧21<=20) by decide) },rfl,N.mb,N.pre⟩
  ·rw [if_pos h2] at hact;rw [if_neg h2];exact ja5 N hact (by decide) (by rw [hy];rfl) (by rw [hy];rfl) (by rw [hy];rfl)
 ·rw [if_neg h1];rw [if_neg (by rw [← hl];exact h1)] at hact;refine jyp N.sm.wf hact h23 ?_
  rw [hy];rw [h0] at hact ⊢;exact ⟨{ N.sm with
   wf:=veo N.sm.wf hact
   sum:=fun _=>N.sm.sum (by rw [N.st];omega)
   held:=rfl
   count:=rfl
   nl:=fun h=>absurd h (show ¬ (10<=6∧6<=14) by decide)
   nd:=fun h=>absurd h (show ¬ (11<=6∧6<=14) by decide)
   told:=fun h=>absurd h (show ¬ (12<=6∧6<=14) by decide)
   hs:=fun h=>absurd h (show ¬ (13<=6∧6<=14) by decide)
   hk:=fun h=>absurd h (show ¬ (6=14) by decide)
   la:=fun h=>absurd h (show ¬ (15<=6∧6<=20) by decide) },rfl,N.mb,N.pre⟩
theorem j6i{σ σ':St}{b:Nat}(W:St.Wf σ)(ha:σ.act= .put b σ'):St.Wf σ':=by
 have N:=St.next W;rw [ha] at N;exact N.1
theorem kjh{q:Quo}{D:Nat}{s:ByteArray}{x:MS}{c:Cf}(N:Sn q D s x c):x={ x with held:=c.σ.held,count:=c.σ.count }:=by rw [← N.sm.held,← N.sm.count]
theorem Fed.left{c c':Cf}(F:Fed c c'):c'.σ.left=c.σ.left:=by rw [F.σ]
theorem y6a{q:Quo}{D:Nat}{s:ByteArray}(n:Nat):∀ {x:MS} {c:Cf},Sn q D s x c->c.σ.st=8->x.left=n->Out q D s c (MS.plainL n x):=by
 induction n with
 | zero=>
  intro x c N hst hl;have hl':c.σ.left=0:=by rw [← N.sm.left];exact hl
  refine sim_end N c.σ x rfl (kjh N) ?_ (by omega) N.sm.wf.held;rw [St.act_at hst];exact if_pos hl'
 | succ n ih=>
  intro x c N hst hl;have hl':c.σ.left=n+1:=by rw [← N.sm.left];exact hl
  refine ze8 N (yij hst fun h C hk=>by simp only [St.actAt];rw [if_neg (by rw [hl'];omega)];exact if_pos hk) _ fun y c' Y F hk=>?_
  have hst':c'.σ.st=8:=F.st.trans hst;have hl2:c'.σ.left=n+1:=F.left.trans hl';have en:y.num 8=c'.σ.num 8:=by unfold MS.num St.num;rw [Y.sm.held]
  have hact:c'.σ.act= .put (y.num 8) { c'.σ.rd 8 with left:=c'.σ.left - 1,om:=c'.σ.om++[y.num 8] }:=by
   rw [St.act_at hst'];simp only [St.actAt,St.need];rw [if_neg (by omega),if_neg (by omega),en]
  refine z9q Y hact _ fun P=>ih ?_ hst' rfl
  exact ⟨{ Y.sm with
   wf:=j6i Y.sm.wf hact
   sum:=fun _=>P.sum
   held:=by show y.held / 2^8=c'.σ.held / 2^8;rw [Y.sm.held]
   count:=by show y.count - 8=c'.σ.count - 8;rw [Y.sm.count]
   pu:=P.pu
   qa:=P.qa
   dle:=P.dle
   qc:=P.qc
   sumle:=P.sumle
   size:=P.size
   stp:=P.stp
   left:=by show n=c'.σ.left - 1;omega
   nl:=fun h=>absurd h (show ¬ (10<=c'.σ.st∧c'.σ.st<=14) by omega)
   nd:=fun h=>absurd h (show ¬ (11<=c'.σ.st∧c'.σ.st<=14) by omega)
   told:=fun h=>absurd h (show ¬ (12<=c'.σ.st∧c'.σ.st<=14) by omega)
   hs:=fun h=>absurd h (show ¬ (13<=c'.σ.st∧c'.σ.st<=14) by omega)
   hk:=fun h=>absurd h (show ¬ (c'.σ.st=14) by omega)
   la:=fun h=>absurd h (show ¬ (15<=c'.σ.st∧c'.σ.st<=20) by omega) },Y.st,Y.mb,Y.pre⟩
theorem x0v{q:Quo}{D:Nat}{s:ByteArray}{x:MS}{c:Cf}(N:Sn q D s x c)(hst:c.σ.st=8):Out q D s c x.b9:=y6a x.left N hst rfl
theorem xr3{q:Quo}{D:Nat}{s:ByteArray}{x:MS}{c:Cf}(N:Sn q D s x c)(hst:c.σ.st=7):Out q D s c x.b8:=by
 refine ze8 N (yij hst fun h C hk=>if_pos hk) _ fun y c' Y F hk=>?_
 have hst':c'.σ.st=7:=F.st.trans hst;have en:y.num 16=c'.σ.num 16:=by unfold MS.num St.num;rw [Y.sm.held]
 have hact:c'.σ.act=if c'.σ.held / 65536%65536=65535 - c'.σ.num 16 then .tau { c'.σ.rd 32 with left:=c'.σ.num 16,st:=8 } else .fail 9:=by
  rw [St.act_at hst'];simp only [St.actAt,St.need];rw [if_neg (by omega)]
 rw [Y.sm.held,en];by_cases h3:c'.σ.held / 65536%65536=65535 - c'.σ.num 16
 ·rw [if_pos h3] at hact ⊢;refine xuc Y.sm.wf hact (by omega) (x0v ?_ rfl);exact ⟨{ Y.sm with
   wf:=veo Y.sm.wf hact
   sum:=fun _=>Y.sm.sum (by rw [Y.st];omega)
   held:=by show y.held / 2^32=c'.σ.held / 2^32;rw [Y.sm.held]
   count:=by show y.count - 32=c'.σ.count - 32;rw [Y.sm.count]
   left:=rfl
   nl:=fun h=>absurd h (show ¬ (10<=8∧8<=14) by decide)
   nd:=fun h=>absurd h (show ¬ (11<=8∧8<=14) by decide)
   told:=fun h=>absurd h (show ¬ (12<=8∧8<=14) by decide)
   hs:=fun h=>absurd h (show ¬ (13<=8∧8<=14) by decide)
   hk:=fun h=>absurd h (show ¬ (8=14) by decide)
   la:=fun h=>absurd h (show ¬ (15<=8∧8<=20) by decide) },rfl,Y.mb,Y.pre⟩
 ·rw [if_neg h3] at hact ⊢;exact ja5 Y hact (by decide) rfl rfl rfl
theorem j1k{q:Quo}{D:Nat}{s:ByteArray}{x:MS}{c:Cf}(N:Sn q D s x c)(hst:c.σ.st=6):Out q D s c x.b7:=by
 refine ze8 N (yij hst fun h C hk=>if_pos hk) _ fun y c' Y F hk=>?_
 have hst':c'.σ.st=6:=F.st.trans hst;have e1:y.num 1=c'.σ.num 1:=by unfold MS.num St.num;rw [Y.sm.held]
 have hact:c'.σ.act=c'.σ.kind:=by
  rw [St.act_at hst'];simp only [St.actAt,St.need];rw [if_neg (by omega)]
 unfold MS.kind;unfold St.kind at hact;rw [Y.sm.held];have hhd:=Y.sm.wf.held;by_cases h0:c'.σ.held / 2%4=0
 ·rw [if_pos h0] at hact ⊢;unfold MS.skipBits;have en:({ y.rd 3 with last:=y.num 1==1,st:=8 }:MS).num ({ y.rd 3 with last:=y.num 1==1,st:=8 }:MS).count=c'.σ.held / 2^3:=by
   show y.held / 2^3%2^(y.count - 3)=c'.σ.held / 2^3;rw [Y.sm.held,Y.sm.count];exact Nat.mod_eq_of_lt (St.held_rd Y.sm.wf hk)
  rw [en];by_cases h2:c'.σ.held / 2^3=0
  ·rw [if_neg (by show ¬ c'.σ.held / 2^3≠0;simp [h2])] at hact;rw [if_pos h2];refine jyp Y.sm.wf hact (by omega) ?_
   have e3:({ y.rd 3 with last:=y.num 1==1,st:=8 }:MS).rd ({ y.rd 3 with last:=y.num 1==1,st:=8 }:MS).count={ y with held:=0,count:=0,last:=y.num 1==1,st:=8 }:=by
    unfold MS.rd;simp [Y.sm.held,h2]
   rw [e3,e1];exact ⟨{ Y.sm with
    wf:=veo Y.sm.wf hact
    sum:=fun _=>Y.sm.sum (by rw [Y.st];omega)
    held:=rfl
    count:=rfl
    last:=rfl
    nl:=fun h=>absurd h (show ¬ (10<=7∧7<=14) by decide)
    nd:=fun h=>absurd h (show ¬ (11<=7∧7<=14) by decide)
    told:=fun h=>absurd h (show ¬ (12<=7∧7<=14) by decide)
    hs:=fun h=>absurd h (show ¬ (13<=7∧7<=14) by decide)
    hk:=fun h=>absurd h (show ¬ (7=14) by decide)
    la:=fun h=>absurd h (show ¬ (15<=7∧7<=20) by decide) },rfl,Y.mb,Y.pre⟩
  ·have hact2:c'.σ.act= .fail 8:=by rw [hact];exact if_pos h2
   rw [if_neg h2];exact ja5 Y hact2 (by decide) rfl rfl rfl
 ·rw [if_neg h0] at hact ⊢;by_cases h1:c'.σ.held / 2%4=1
  ·rw [if_pos h1] at hact ⊢;refine jyp Y.sm.wf hact (by omega) ?_
   rw [e1];exact ⟨{ Y.sm with
    wf:=veo Y.sm.wf hact
    sum:=fun _=>Y.sm.sum (by rw [Y.st];omega)
    held:=by show y.held / 2^3=c'.σ.held / 2^3;rw [Y.sm.held]
    count:=by show y.count - 3=c'.σ.count - 3;rw [Y.sm.count]
    last:=rfl
    nl:=fun h=>absurd h (show ¬ (10<=16∧16<=14) by decide)
    nd:=fun h=>absurd h (show ¬ (11<=16∧16<=14) by decide)
    told:=fun h=>absurd h (show ¬ (12<=16∧16<=14) by decide)
    hs:=fun h=>absurd h (show ¬ (13<=16∧16<=14) by decide)
    hk:=fun h=>absurd h (show ¬ (16=14) by decide)
    la:=fun _=>⟨rfl,rfl⟩ },rfl,Y.mb,Y.pre⟩
  ·rw [if_neg h1] at hact ⊢;by_cases h2:c'.σ.held / 2%4=2
   ·rw [if_pos h2] at hact ⊢;refine jyp Y.sm.wf hact (by omega) ?_
    rw [e1];exact ⟨{ Y.sm with
     wf:=veo Y.sm.wf hact
     sum:=fun _=>Y.sm.sum (by rw [Y.st];omega)
     held:=by show y.held / 2^3=c'.σ.held / 2^3;rw [Y.sm.held]
     count:=by show y.count - 3=c'.σ.count - 3;rw [Y.sm.count]
     last:=rfl
     nl:=fun h=>absurd h (show ¬ (10<=9∧9<=14) by decide)
     nd:=fun h=>absurd h (show ¬ (11<=9∧9<=14) by decide)
     told:=fun h=>absurd h (show ¬ (12<=9∧9<=14) by decide)
     hs:=fun h=>absurd h (show ¬ (13<=9∧9<=14) by decide)
     hk:=fun h=>absurd h (show ¬ (9=14) by decide)
     la:=fun h=>absurd h (show ¬ (15<=9∧9<=20) by decide) },rfl,Y.mb,Y.pre⟩
   ·rw [if_neg h2] at hact ⊢;exact ja5 Y hact (by decide) rfl rfl rfl
theorem Fed.told{c c':Cf}(F:Fed c c'):c'.σ.told=c.σ.told:=by rw [F.σ]
theorem Fed.hl{c c':Cf}(F:Fed c c'):c'.σ.hl=c.σ.hl:=by rw [F.σ]
theorem yr0{q:Quo}{D:Nat}{s:ByteArray}(n:Nat):∀ {x:MS} {c:Cf},Sn q D s x c->c.σ.st=12->x.told - x.hl.length=n->Out q D s c (MS.hlL n x):=by
 induction n with
 | zero=>
  intro x c N hst hl;have ht:=N.sm.told (by rw [hst];decide);rw [ht,N.sm.hl] at hl;have hact:c.σ.act=if jwa gw (hset c.σ.hl)=2048 then .tau { c.σ with hs:=hset c.σ.hl,st:=13 } else .fail 10:=by
   rw [St.act_at hst];simp only [St.actAt];rw [if_neg (by omega)]
  show Out q D s c (MS.helpersMade x);unfold MS.helpersMade;rw [N.sm.hl];by_cases h1:jwa gw (hset c.σ.hl)=2048
  ·rw [if_pos h1] at hact ⊢;refine jyp N.sm.wf hact (by omega) ?_
   exact ⟨{ N.sm with
    wf:=veo N.sm.wf hact
    sum:=fun _=>N.sm.sum (by rw [N.st];omega)
    hl:=rfl
    nl:=fun _=>N.sm.nl (by rw [hst];decide)
    nd:=fun _=>N.sm.nd (by rw [hst];decide)
    told:=fun _=>N.sm.told (by rw [hst];decide)
    hs:=fun _=>rfl
    hk:=fun h=>absurd h (show ¬ (13=14) by decide)
    la:=fun h=>absurd h (show ¬ (15<=13∧13<=20) by decide) },rfl,N.mb,N.pre⟩
  ·rw [if_neg h1] at hact ⊢;exact ja5 N hact (by decide) rfl rfl rfl
 | succ n ih=>
  intro x c N hst hl;have ht:=N.sm.told (by rw [hst];decide);rw [ht,N.sm.hl] at hl;refine ze8 N (yij hst fun h C hk=>by simp only [St.actAt];rw [if_pos (by omega)];exact if_pos hk) _ fun y c' Y F hk=>?_
  have hst':c'.σ.st=12:=F.st.trans hst;have en:y.num 3=c'.σ.num 3:=by unfold MS.num St.num;rw [Y.sm.held]
  have hact:c'.σ.act= .tau { c'.σ.rd 3 with hl:=c'.σ.hl++[(c'.σ.num 3:Int)] }:=by
   rw [St.act_at hst'];simp only [St.actAt,St.need];rw [if_pos (by rw [F.hl,F.told];omega),if_neg (by omega)]
  have ht2:=Y.sm.told (by rw [hst'];decide);refine xuc Y.sm.wf hact (by omega) (ih ?_ hst' ?_)
  ·rw [en];exact ⟨{ Y.sm with
    wf:=veo Y.sm.wf hact
    sum:=fun _=>Y.sm.sum (by rw [Y.st];omega)
    held:=by show y.held / 2^3=c'.σ.held / 2^3;rw [Y.sm.held]
    count:=by show y.count - 3=c'.σ.count - 3;rw [Y.sm.count]
    hl:=by show y.hl++[_]=c'.σ.hl++[_];rw [Y.sm.hl]
    nl:=fun _=>Y.sm.nl (by rw [hst'];decide)
    nd:=fun _=>Y.sm.nd (by rw [hst'];decide)
    told:=fun _=>Y.sm.told (by rw [hst'];decide)
    hs:=fun h=>absurd h (show ¬ (13<=c'.σ.st∧c'.σ.st<=14) by omega)
    hk:=fun h=>absurd h (show ¬ (c'.σ.st=14) by omega)
    la:=fun h=>absurd h (show ¬ (15<=c'.σ.st∧c'.σ.st<=20) by omega) },Y.st,Y.mb,Y.pre⟩
  ·show y.told - (y.hl++[_]).length=n;rw [ht2,Y.sm.hl,F.told,F.hl,List.length_append,List.length_singleton];omega
theorem z6i{q:Quo}{D:Nat}{s:ByteArray}{x:MS}{c:Cf}(N:Sn q D s x c)(hst:c.σ.st=12):Out q D s c x.o13:=yr0 _ N hst rfl
theorem y7i{q:Quo}{D:Nat}{s:ByteArray}{x:MS}{c:Cf}(N:Sn q D s x c)(hst:c.σ.st=11):Out q D s c x.o12:=by
 refine ze8 N (yij hst fun h C hk=>if_pos hk) _ fun y c' Y F hk=>?_
 have hst':c'.σ.st=11:=F.st.trans hst;have en:y.num 4=c'.σ.num 4:=by unfold MS.num St.num;rw [Y.sm.held]
 have hact:c'.σ.act=if 11<c'.σ.num 4 then .fail 10 else .tau { c'.σ.rd 4 with told:=4+c'.σ.num 4,st:=12 }:=by
  rw [St.act_at hst'];simp only [St.actAt,St.need];rw [if_neg (by omega)]
 rw [en];by_cases h1:11<c'.σ.num 4
 ·rw [if_pos h1] at hact ⊢;exact ja5 Y hact (by decide) rfl rfl rfl
 ·rw [if_neg h1] at hact ⊢;refine xuc Y.sm.wf hact (by omega) (z6i ?_ rfl);exact ⟨{ Y.sm with
   wf:=veo Y.sm.wf hact
   sum:=fun _=>Y.sm.sum (by rw [Y.st];omega)
   held:=by show y.held / 2^4=c'.σ.held / 2^4;rw [Y.sm.held]
   count:=by show y.count - 4=c'.σ.count - 4;rw [Y.sm.count]
   nl:=fun _=>Y.sm.nl (by rw [hst'];decide)
   nd:=fun _=>Y.sm.nd (by rw [hst'];decide)
   told:=fun _=>rfl
   hs:=fun h=>absurd h (show ¬ (13<=12∧12<=14) by decide)
   hk:=fun h=>absurd h (show ¬ (12=14) by decide)
   la:=fun h=>absurd h (show ¬ (15<=12∧12<=20) by decide) },rfl,Y.mb,Y.pre⟩
theorem jjs{q:Quo}{D:Nat}{s:ByteArray}{x:MS}{c:Cf}(N:Sn q D s x c)(hst:c.σ.st=10):Out q D s c x.o11:=by
 refine ze8 N (yij hst fun h C hk=>if_pos hk) _ fun y c' Y F hk=>?_
 have hst':c'.σ.st=10:=F.st.trans hst;have en:y.num 4=c'.σ.num 4:=by unfold MS.num St.num;rw [Y.sm.held]
 have hact:c'.σ.act= .tau { c'.σ.rd 4 with nd:=1+c'.σ.num 4,st:=11 }:=by
  rw [St.act_at hst'];simp only [St.actAt,St.need];rw [if_neg (by omega)]
 rw [en];refine xuc Y.sm.wf hact (by omega) (y7i ?_ rfl);exact ⟨{ Y.sm with
  wf:=veo Y.sm.wf hact
  sum:=fun _=>Y.sm.sum (by rw [Y.st];omega)
  held:=by show y.held / 2^4=c'.σ.held / 2^4;rw [Y.sm.held]
  count:=by show y.count - 4=c'.σ.count - 4;rw [Y.sm.count]
  nl:=fun _=>Y.sm.nl (by rw [hst'];decide)
  nd:=fun _=>rfl
  told:=fun h=>absurd h (show ¬ (12<=11∧11<=14) by decide)
  hs:=fun h=>absurd h (show ¬ (13<=11∧11<=14) by decide)
  hk:=fun h=>absurd h (show ¬ (11=14) by decide)
  la:=fun h=>absurd h (show ¬ (15<=11∧11<=20) by decide) },rfl,Y.mb,Y.pre⟩
theorem ken{q:Quo}{D:Nat}{s:ByteArray}{x:MS}{c:Cf}(N:Sn q D s x c)(hst:c.σ.st=9):Out q D s c x.o10:=by
 refine ze8 N (yij hst fun h C hk=>if_pos hk) _ fun y c' Y F hk=>?_
 have hst':c'.σ.st=9:=F.st.trans hst;have en:y.num 4=c'.σ.num 4:=by unfold MS.num St.num;rw [Y.sm.held]
 have hact:c'.σ.act=if 12<c'.σ.num 4 then .fail 10 else .tau { c'.σ.rd 4 with nl:=257+c'.σ.num 4,st:=10 }:=by
  rw [St.act_at hst'];simp only [St.actAt,St.need];rw [if_neg (by omega)]
 rw [en];by_cases h1:12<c'.σ.num 4
 ·rw [if_pos h1] at hact ⊢;exact ja5 Y hact (by decide) rfl rfl rfl
 ·rw [if_neg h1] at hact ⊢;refine xuc Y.sm.wf hact (by omega) (jjs ?_ rfl);exact ⟨{ Y.sm with
   wf:=veo Y.sm.wf hact
   sum:=fun _=>Y.sm.sum (by rw [Y.st];omega)
   held:=by show y.held / 2^4=c'.σ.held / 2^4;rw [Y.sm.held]
   count:=by show y.count - 4=c'.σ.count - 4;rw [Y.sm.count]
   nl:=fun _=>rfl
   nd:=fun h=>absurd h (show ¬ (11<=10∧10<=14) by decide)
   told:=fun h=>absurd h (show ¬ (12<=10∧10<=14) by decide)
   hs:=fun h=>absurd h (show ¬ (13<=10∧10<=14) by decide)
   hk:=fun h=>absurd h (show ¬ (10=14) by decide)
   la:=fun h=>absurd h (show ¬ (15<=10∧10<=20) by decide) },rfl,Y.mb,Y.pre⟩
theorem vqi{q:Quo}{D:Nat}{s:ByteArray}{x:MS}{c:Cf}(N:Sn q D s x c)(hst:c.σ.st=14):Out q D s c x.r15:=by
 obtain ⟨k1,k2,k3,k4⟩:=N.sm.hk hst;unfold MS.r15;rw [k3,k4];refine zyc (k:=hbits c.σ.hk) _ N (yij hst fun h C hk=>if_pos hk) _ fun y c' Y F hk=>?_
 have hst':c'.σ.st=14:=F.st.trans hst;have ehk:c'.σ.hk=c.σ.hk:=by rw [F.σ]
 rw [← ehk] at hk ⊢;obtain ⟨j1,j2,j3,j4⟩:=Y.sm.hk hst';have W:=Y.sm.wf;have en:∀ k,y.num k=c'.σ.num k:=fun k=>by unfold MS.num St.num;rw [Y.sm.held]
 have hnl:y.nl=c'.σ.nl:=Y.sm.nl (by rw [hst'];decide);have hnd:y.nd=c'.σ.nd:=Y.sm.nd (by rw [hst'];decide);have hact:c'.σ.act=c'.σ.rowNumber:=by
  rw [St.act_at hst'];simp only [St.actAt,St.need];rw [if_neg (by omega)]
 obtain ⟨T,hT⟩:∃ T,T=hleast c'.σ.hk+c'.σ.num (hbits c'.σ.hk):=⟨_,rfl⟩
 unfold St.rowNumber at hact;rw [en];simp only [← hT] at hact ⊢;have hrl:(y.rd (hbits c'.σ.hk)).rowLen=hval c'.σ.hk c'.σ.row:=by
  unfold MS.rowLen hval;show (if y.hbef=true then y.row.getD (y.row.length - 1) 0 else (y.hlen:Int))=_;rw [j2,Y.sm.row,j1];by_cases q12:c'.σ.hk=12
  ·simp [q12]
  ·by_cases q13:c'.σ.hk=13
   ·simp [q13]
   ·by_cases q14:c'.σ.hk=14
    ·simp [q14]
    ·simp [q12,q13,q14]
 have hb:((y.rd (hbits c'.σ.hk)).hbef=true∧(y.rd (hbits c'.σ.hk)).row.length=0)↔(c'.σ.hk=12∧c'.σ.row.length=0):=by
  show (y.hbef=true∧y.row.length=0)↔_;rw [j2,Y.sm.row];simp
 have hn2:((y.rd (hbits c'.σ.hk)).nl+(y.rd (hbits c'.σ.hk)).nd<(y.rd (hbits c'.σ.hk)).row.length+T)↔(c'.σ.nl+c'.σ.nd<c'.σ.row.length+T):=by
  show (y.nl+y.nd<y.row.length+T)↔_;rw [hnl,hnd,Y.sm.row]
 by_cases h1:c'.σ.hk=12∧c'.σ.row.length=0
 ·rw [if_pos h1] at hact;rw [if_pos (Or.inl (hb.2 h1))];exact ja5 Y hact (by decide) rfl rfl rfl
 ·rw [if_neg h1] at hact;by_cases h2:c'.σ.nl+c'.σ.nd<c'.σ.row.length+T
  ·rw [if_pos h2] at hact;rw [if_pos (Or.inr (hn2.2 h2))];exact ja5 Y hact (by decide) rfl rfl rfl
  ·rw [if_neg h2] at hact;rw [if_neg (fun h=>h.elim (fun h=>h1 (hb.1 h)) (fun h=>h2 (hn2.1 h))),hrl];have hrow:(y.rd (hbits c'.σ.hk)).row=c'.σ.row:=Y.sm.row;rw [hrow];obtain ⟨R,hR⟩:∃ R,R=c'.σ.row++List.replicate T (hval c'.σ.hk c'.σ.row):=⟨_,rfl⟩
   rw [← hR] at hact ⊢;show Out q D s c' (if R.length=y.nl+y.nd then MS.endRow { y.rd (hbits c'.σ.hk) with row:=R,st:=14 } else ({ y.rd (hbits c'.σ.hk) with row:=R,st:=14 },0));by_cases h3:R.length=c'.σ.nl+c'.σ.nd
   ·have hact2:c'.σ.act=({ c'.σ.rd (hbits c'.σ.hk) with row:=R,st:=13 }:St).endRow:=by rw [hact];exact if_pos h3
    rw [if_pos (by rw [hnl,hnd];exact h3)];unfold St.endRow at hact2;rw [show MS.endRow { y.rd (hbits c'.σ.hk) with row:=R,st:=14 }=if jcj (R.take y.nl) (R.drop y.nl) then ({ y.rd (hbits c'.σ.hk) with row:=R,st:=14 }:MS).refuse 10 else ({ y.rd (hbits c'.σ.hk) with la:=R.take y.nl,lb:=R.drop y.nl,nl:=0,nd:=0,told:=0,hl:=[],hs:=[],hlen:=0,hbef:=false,hleast:=0,hbits:=0,row:=[],st:=17 },0) from rfl];have hbs:jcj (R.take y.nl) (R.drop y.nl)↔jcj (R.take c'.σ.nl) (R.drop c'.σ.nl):=by rw [hnl]
    by_cases h4:jcj (R.take c'.σ.nl) (R.drop c'.σ.nl)
    ·have hact3:c'.σ.act= .fail 10:=by rw [hact2];exact if_pos h4
     rw [if_pos (hbs.2 h4)];exact ja5 Y hact3 (by decide) rfl rfl rfl
    ·have hact3:c'.σ.act= .tau { c'.σ.rd (hbits c'.σ.hk) with la:=R.take c'.σ.nl,lb:=R.drop c'.σ.nl,hl:=[],hs:=[],row:=[],st:=16 }:=by rw [hact2];exact if_neg h4
     rw [if_neg (fun h=>h4 (hbs.1 h))];refine jyp W hact3 (by omega) ?_
     exact ⟨{ Y.sm with
      wf:=veo Y.sm.wf hact3
      sum:=fun _=>Y.sm.sum (by rw [Y.st];omega)
      held:=by show y.held / 2^(hbits c'.σ.hk)=c'.σ.held / 2^(hbits c'.σ.hk);rw [Y.sm.held]
      count:=by show y.count - (hbits c'.σ.hk)=c'.σ.count - (hbits c'.σ.hk);rw [Y.sm.count]
      hl:=rfl
      row:=rfl
      nl:=fun h=>absurd h (show ¬ (10<=16∧16<=14) by decide)
      nd:=fun h=>absurd h (show ¬ (11<=16∧16<=14) by decide)
      told:=fun h=>absurd h (show ¬ (12<=16∧16<=14) by decide)
      hs:=fun h=>absurd h (show ¬ (13<=16∧16<=14) by decide)
      hk:=fun h=>absurd h (show ¬ (16=14) by decide)
      la:=fun _=>⟨by show R.take y.nl=R.take c'.σ.nl;rw [hnl],by show R.drop y.nl=R.drop c'.σ.nl;rw [hnl]⟩ },rfl,Y.mb,Y.pre⟩
   ·have hact2:c'.σ.act= .tau { c'.σ.rd (hbits c'.σ.hk) with row:=R,st:=13 }:=by rw [hact];exact if_neg h3
    rw [if_neg (by rw [hnl,hnd];exact h3)];refine jyp W hact2 (by omega) ?_
    exact ⟨{ Y.sm with
     wf:=veo Y.sm.wf hact2
     sum:=fun _=>Y.sm.sum (by rw [Y.st];omega)
     held:=by show y.held / 2^(hbits c'.σ.hk)=c'.σ.held / 2^(hbits c'.σ.hk);rw [Y.sm.held]
     count:=by show y.count - (hbits c'.σ.hk)=c'.σ.count - (hbits c'.σ.hk);rw [Y.sm.count]
     row:=rfl
     nl:=fun _=>Y.sm.nl (by rw [hst'];decide)
     nd:=fun _=>Y.sm.nd (by rw [hst'];decide)
     told:=fun _=>Y.sm.told (by rw [hst'];decide)
     hs:=fun _=>Y.sm.hs (by rw [hst'];decide)
     hk:=fun h=>absurd h (show ¬ (13=14) by decide)
     la:=fun h=>absurd h (show ¬ (15<=13∧13<=20) by decide) },rfl,Y.mb,Y.pre⟩
theorem x0r{σ:St}{l:List Int}{g:St->Nat->Act}{k m:Nat}(h:jcs l σ.held σ.count= .hit k m):σ.symbol l g=g (σ.rd m) k:=by
 unfold St.symbol;rw [h]
theorem ke9{q:Quo}{D:Nat}{s:ByteArray}{x:MS}{c:Cf}(N:Sn q D s x c)(hst:c.σ.st=13):Out q D s c x.r14:=by
 have hhs:=N.sm.hs (by rw [hst];decide);unfold MS.r14;rw [hhs];refine y82 (g:=fun τ k=> .tau { τ with hk:=k,st:=14 }) N (fun h C=>by rw [St.act_at (show ({ c.σ with held:=h,count:=C }:St).st=13 from hst)];rfl) _ fun y c' k m Y F hk=>?_
 have hst':c'.σ.st=13:=F.st.trans hst;have ehs:c'.σ.hs=c.σ.hs:=by rw [F.σ]
 have hact:c'.σ.act= .tau { c'.σ.rd m with hk:=k,st:=14 }:=by
  rw [St.act_at hst'];show c'.σ.symbol c'.σ.hs (fun τ k=> .tau { τ with hk:=k,st:=14 })=_;rw [ehs,x0r hk]
 refine xuc Y.sm.wf hact (by omega) (vqi ?_ rfl);exact ⟨{ Y.sm with
  wf:=veo Y.sm.wf hact
  sum:=fun _=>Y.sm.sum (by rw [Y.st];omega)
  held:=by show y.held / 2^m=c'.σ.held / 2^m;rw [Y.sm.held]
  count:=by show y.count - m=c'.σ.count - m;rw [Y.sm.count]
  nl:=fun _=>Y.sm.nl (by rw [hst'];decide)
  nd:=fun _=>Y.sm.nd (by rw [hst'];decide)
  told:=fun _=>Y.sm.told (by rw [hst'];decide)
  hs:=fun _=>Y.sm.hs (by rw [hst'];decide)
  hk:=fun _=>⟨rfl,rfl,rfl,rfl⟩
  la:=fun h=>absurd h (show ¬ (15<=14∧14<=20) by decide) },rfl,Y.mb,Y.pre⟩
theorem ymi{om:List Nat}{d:Nat}(h1:1<=d)(h2:d<=om.length)(h3:d<=256):(om.drop (om.length - 256)).getD ((om.drop (om.length - 256)).length - d) 0=om.getD (om.length - d) 0:=by
 rw [List.getD_eq_getElem?_getD,List.getD_eq_getElem?_getD,List.getElem?_drop,List.length_drop];congr 2
 omega
theorem vvb{q:Quo}{D:Nat}{s:ByteArray}(n:Nat):∀ {x:MS} {c:Cf},Sn q D s x c->c.σ.st=20->x.left=n->Out q D s c (MS.copyL n x):=by
 induction n with
 | zero=>
  intro x c N hst hl;have hl':c.σ.left=0:=by rw [← N.sm.left];exact hl
  have hact:c.σ.act= .tau { c.σ with st:=16 }:=by
   rw [St.act_at hst];exact if_pos hl'
  refine jyp N.sm.wf hact (by omega) ?_
  exact ⟨{ N.sm with
   wf:=veo N.sm.wf hact
   sum:=fun _=>N.sm.sum (by rw [N.st];omega)
   nl:=fun h=>absurd h (show ¬ (10<=16∧16<=14) by decide)
   nd:=fun h=>absurd h (show ¬ (11<=16∧16<=14) by decide)
   told:=fun h=>absurd h (show ¬ (12<=16∧16<=14) by decide)
   hs:=fun h=>absurd h (show ¬ (13<=16∧16<=14) by decide)
   hk:=fun h=>absurd h (show ¬ (16=14) by decide)
   la:=fun _=>N.sm.la (by rw [hst];decide) },rfl,N.mb,N.pre⟩
 | succ n ih=>
  intro x c N hst hl;have hl':c.σ.left=n+1:=by rw [← N.sm.left];exact hl
  have hat:=N.sm.wf.at_;rw [hst] at hat;obtain ⟨_,d1,d2,d3⟩:=hat;have eb:x.qc.getD (x.qc.length - x.dist) 0=c.σ.om.getD (c.σ.om.length - c.σ.dist) 0:=by
   rw [N.sm.qc,N.sm.dist];exact ymi d1 d2 d3
  obtain ⟨b,hb⟩:∃ b,b=c.σ.om.getD (c.σ.om.length - c.σ.dist) 0:=⟨_,rfl⟩
  have hact:c.σ.act= .put b { c.σ with left:=c.σ.left - 1,om:=c.σ.om++[b] }:=by
   rw [St.act_at hst,hb];exact if_neg (by omega)
  show Out q D s c (MS.andThen (x.put (x.qc.getD (x.qc.length - x.dist) 0)) fun y=>MS.copyL n { y with left:=n });rw [eb,← hb];refine z9q N hact _ fun P=>ih ?_ hst rfl
  exact ⟨{ N.sm with
   wf:=j6i N.sm.wf hact
   sum:=fun _=>P.sum
   pu:=P.pu
   qa:=P.qa
   dle:=P.dle
   qc:=P.qc
   sumle:=P.sumle
   size:=P.size
   stp:=P.stp
   left:=by show n=c.σ.left - 1;omega
   nl:=fun h=>absurd h (show ¬ (10<=c.σ.st∧c.σ.st<=14) by omega)
   nd:=fun h=>absurd h (show ¬ (11<=c.σ.st∧c.σ.st<=14) by omega)
   told:=fun h=>absurd h (show ¬ (12<=c.σ.st∧c.σ.st<=14) by omega)
   hs:=fun h=>absurd h (show ¬ (13<=c.σ.st∧c.σ.st<=14) by omega)
   hk:=fun h=>absurd h (show ¬ (c.σ.st=14) by omega)
   la:=fun _=>N.sm.la (by rw [hst];decide) },N.st,N.mb,N.pre⟩
theorem ks1{q:Quo}{D:Nat}{s:ByteArray}{x:MS}{c:Cf}(N:Sn q D s x c)(hst:c.σ.st=20):Out q D s c x.c21:=vvb _ N hst rfl
theorem vsv{q:Quo}{D:Nat}{s:ByteArray}{x:MS}{c:Cf}(N:Sn q D s x c)(hst:c.σ.st=19):Out q D s c x.c20:=by
 unfold MS.c20;rw [N.sm.span.1,N.sm.span.2];refine zyc (k:=c.σ.bits) _ N (yij hst fun h C hk=>if_pos hk) _ fun y c' Y F hk=>?_
 have hst':c'.σ.st=19:=F.st.trans hst;have eb:c'.σ.bits=c.σ.bits:=by rw [F.σ]
 have el:c'.σ.least=c.σ.least:=by rw [F.σ]
 rw [← eb] at hk ⊢;rw [← el];have en:y.num c'.σ.bits=c'.σ.num c'.σ.bits:=by unfold MS.num St.num;rw [Y.sm.held]
 have hat:=Y.sm.wf.at_;rw [hst'] at hat;obtain ⟨_,d1,d2,d3⟩:=hat;have hlt:=St.num_lt c'.σ c'.σ.bits;obtain ⟨T,hT⟩:∃ T,T=c'.σ.least+c'.σ.num c'.σ.bits:=⟨_,rfl⟩
 have hact:c'.σ.act=if c'.σ.om.length<T then .fail 11 else .tau { c'.σ.rd c'.σ.bits with dist:=T,st:=20 }:=by
  rw [St.act_at hst',hT];simp only [St.actAt,St.need];rw [if_neg (by omega)]
 have hql:(y.rd c'.σ.bits).qc.length<T↔c'.σ.om.length<T:=by
  show y.qc.length<T↔_;rw [Y.sm.qc,List.length_drop];omega
 rw [en,← hT];by_cases h1:c'.σ.om.length<T
 ·rw [if_pos h1] at hact;rw [if_pos (hql.2 h1)];exact ja5 Y hact (by decide) rfl rfl rfl
 ·rw [if_neg h1] at hact;rw [if_neg (fun h=>h1 (hql.1 h))];refine xuc Y.sm.wf hact (by omega) (ks1 ?_ rfl);exact ⟨{ Y.sm with
   wf:=veo Y.sm.wf hact
   sum:=fun _=>Y.sm.sum (by rw [Y.st];omega)
   held:=by show y.held / 2^c'.σ.bits=c'.σ.held / 2^c'.σ.bits;rw [Y.sm.held]
   count:=by show y.count - c'.σ.bits=c'.σ.count - c'.σ.bits;rw [Y.sm.count]
   dist:=rfl
   nl:=fun h=>absurd h (show ¬ (10<=20∧20<=14) by decide)
   nd:=fun h=>absurd h (show ¬ (11<=20∧20<=14) by decide)
   told:=fun h=>absurd h (show ¬ (12<=20∧20<=14) by decide)
   hs:=fun h=>absurd h (show ¬ (13<=20∧20<=14) by decide)
   hk:=fun h=>absurd h (show ¬ (20=14) by decide)
   la:=fun _=>Y.sm.la (by rw [hst'];decide) },rfl,Y.mb,Y.pre⟩
theorem yhc{q:Quo}{D:Nat}{s:ByteArray}{x:MS}{c:Cf}(N:Sn q D s x c)(hst:c.σ.st=18):Out q D s c x.c19:=by
 have hla:=N.sm.la (by rw [hst];decide);unfold MS.c19;rw [hla.2];refine y82 (g:=fun τ k=> .tau { τ with least:=Tr.spanLeast 1 k,bits:=Tr.spanBits k,st:=19 }) N (fun h C=>by rw [St.act_at (show ({ c.σ with held:=h,count:=C }:St).st=18 from hst)];rfl) _ fun y c' k m Y F hk=>?_
 have hst':c'.σ.st=18:=F.st.trans hst;have ehs:c'.σ.lb=c.σ.lb:=by rw [F.σ]
 have hact:c'.σ.act= .tau { c'.σ.rd m with least:=Tr.spanLeast 1 k,bits:=Tr.spanBits k,st:=19 }:=by
  rw [St.act_at hst'];show c'.σ.symbol c'.σ.lb (fun τ k=> .tau { τ with least:=Tr.spanLeast 1 k,bits:=Tr.spanBits k,st:=19 })=_;rw [ehs,x0r hk]
 refine xuc Y.sm.wf hact (by omega) (vsv ?_ rfl);exact ⟨{ Y.sm with
  wf:=veo Y.sm.wf hact
  sum:=fun _=>Y.sm.sum (by rw [Y.st];omega)
  held:=by show y.held / 2^m=c'.σ.held / 2^m;rw [Y.sm.held]
  count:=by show y.count - m=c'.σ.count - m;rw [Y.sm.count]
  span:=⟨rfl,rfl⟩
  nl:=fun h=>absurd h (show ¬ (10<=19∧19<=14) by decide)
  nd:=fun h=>absurd h (show ¬ (11<=19∧19<=14) by decide)
  told:=fun h=>absurd h (show ¬ (12<=19∧19<=14) by decide)
  hs:=fun h=>absurd h (show ¬ (13<=19∧19<=14) by decide)
  hk:=fun h=>absurd h (show ¬ (19=14) by decide)
  la:=fun _=>Y.sm.la (by rw [hst'];decide) },rfl,Y.mb,Y.pre⟩
theorem jak{q:Quo}{D:Nat}{s:ByteArray}{x:MS}{c:Cf}(N:Sn q D s x c)(hst:c.σ.st=17):Out q D s c x.c18:=by
 unfold MS.c18;rw [N.sm.span.1,N.sm.span.2];refine zyc (k:=c.σ.bits) _ N (yij hst fun h C hk=>if_pos hk) _ fun y c' Y F hk=>?_
 have hst':c'.σ.st=17:=F.st.trans hst;have eb:c'.σ.bits=c.σ.bits:=by rw [F.σ]
 have el:c'.σ.least=c.σ.least:=by rw [F.σ]
 rw [← eb] at hk ⊢;rw [← el];have en:y.num c'.σ.bits=c'.σ.num c'.σ.bits:=by unfold MS.num St.num;rw [Y.sm.held]
 have hact:c'.σ.act= .tau { c'.σ.rd c'.σ.bits with left:=c'.σ.least+c'.σ.num c'.σ.bits,st:=18 }:=by
  rw [St.act_at hst'];simp only [St.actAt,St.need];rw [if_neg (by omega)]
 rw [en];refine xuc Y.sm.wf hact (by omega) (yhc ?_ rfl);exact ⟨{ Y.sm with
  wf:=veo Y.sm.wf hact
  sum:=fun _=>Y.sm.sum (by rw [Y.st];omega)
  held:=by show y.held / 2^c'.σ.bits=c'.σ.held / 2^c'.σ.bits;rw [Y.sm.held]
  count:=by show y.count - c'.σ.bits=c'.σ.count - c'.σ.bits;rw [Y.sm.count]
  left:=rfl
  nl:=fun h=>absurd h (show ¬ (10<=18∧18<=14) by decide)
  nd:=fun h=>absurd h (show ¬ (11<=18∧18<=14) by decide)
  told:=fun h=>absurd h (show ¬ (12<=18∧18<=14) by decide)
  hs:=fun h=>absurd h (show ¬ (13<=18∧18<=14) by decide)
  hk:=fun h=>absurd h (show ¬ (18=14) by decide)
  la:=fun _=>Y.sm.la (by rw [hst'];decide) },rfl,Y.mb,Y.pre⟩
theorem va8{q:Quo}{D:Nat}{s:ByteArray}{x:MS}{c:Cf}(N:Sn q D s x c)(hst:c.σ.st=16):Out q D s c x.c17:=by
 have hla:=N.sm.la (by rw [hst];decide);unfold MS.c17;rw [hla.1];refine y82 (g:=fun τ k=>τ.literal k) N (fun h C=>by rw [St.act_at (show ({ c.σ with held:=h,count:=C }:St).st=16 from hst)];rfl) _ fun y c' k m Y F hk=>?_
 have hst':c'.σ.st=16:=F.st.trans hst;have ehs:c'.σ.la=c.σ.la:=by rw [F.σ]
 have hact:c'.σ.act=(c'.σ.rd m).literal k:=by
  rw [St.act_at hst'];show c'.σ.symbol c'.σ.la (fun τ k=>τ.literal k)=_;rw [ehs,x0r hk]
 have hm:=(St.hit_facts hk).2.1;unfold St.literal at hact;by_cases h1:k<256
 ·rw [if_pos h1] at hact ⊢;refine jyp Y.sm.wf hact (by omega) ?_
  exact ⟨{ Y.sm with
   wf:=veo Y.sm.wf hact
   sum:=fun _=>Y.sm.sum (by rw [Y.st];omega)
   held:=by show y.held / 2^m=c'.σ.held / 2^m;rw [Y.sm.held]
   count:=by show y.count - m=c'.σ.count - m;rw [Y.sm.count]
   lit:=rfl
   nl:=fun h=>absurd h (show ¬ (10<=15∧15<=14) by decide)
   nd:=fun h=>absurd h (show ¬ (11<=15∧15<=14) by decide)
   told:=fun h=>absurd h (show ¬ (12<=15∧15<=14) by decide)
   hs:=fun h=>absurd h (show ¬ (13<=15∧15<=14) by decide)
   hk:=fun h=>absurd h (show ¬ (15=14) by decide)
   la:=fun _=>Y.sm.la (by rw [hst'];decide) },rfl,Y.mb,Y.pre⟩
 ·rw [if_neg h1] at hact ⊢;by_cases h2:k=256
  ·rw [if_pos h2] at hact ⊢;refine sim_end Y (c'.σ.rd m) (y.rd m) rfl ?_ hact (by omega) (St.held_rd Y.sm.wf hm);unfold MS.rd St.rd;rw [Y.sm.held,Y.sm.count]
  ·rw [if_neg h2] at hact ⊢;refine xuc Y.sm.wf hact (by omega) (jak ?_ rfl);exact ⟨{ Y.sm with
    wf:=veo Y.sm.wf hact
    sum:=fun _=>Y.sm.sum (by rw [Y.st];omega)
    held:=by show y.held / 2^m=c'.σ.held / 2^m;rw [Y.sm.held]
    count:=by show y.count - m=c'.σ.count - m;rw [Y.sm.count]
    span:=⟨rfl,rfl⟩
    nl:=fun h=>absurd h (show ¬ (10<=17∧17<=14) by decide)
    nd:=fun h=>absurd h (show ¬ (11<=17∧17<=14) by decide)
    told:=fun h=>absurd h (show ¬ (12<=17∧17<=14) by decide)
    hs:=fun h=>absurd h (show ¬ (13<=17∧17<=14) by decide)
    hk:=fun h=>absurd h (show ¬ (17=14) by decide)
    la:=fun _=>Y.sm.la (by rw [hst'];decide) },rfl,Y.mb,Y.pre⟩
theorem xcf{q:Quo}{D:Nat}{s:ByteArray}{x:MS}{c:Cf}(N:Sn q D s x c)(hst:c.σ.st=15):Out q D s c x.c16:=by
 have hact:c.σ.act= .put x.lit { c.σ with om:=c.σ.om++[x.lit],st:=16 }:=by
  rw [St.act_at hst,N.sm.lit];rfl
 refine z9q N hact _ fun P=>va8 ?_ rfl
 exact ⟨{ N.sm with
  wf:=j6i N.sm.wf hact
  sum:=fun _=>P.sum
  pu:=P.pu
  qa:=P.qa
  dle:=P.dle
  qc:=P.qc
  sumle:=P.sumle
  size:=P.size
  stp:=P.stp
  nl:=fun h=>absurd h (show ¬ (10<=16∧16<=14) by decide)
  nd:=fun h=>absurd h (show ¬ (11<=16∧16<=14) by decide)
  told:=fun h=>absurd h (show ¬ (12<=16∧16<=14) by decide)
  hs:=fun h=>absurd h (show ¬ (13<=16∧16<=14) by decide)
  hk:=fun h=>absurd h (show ¬ (16=14) by decide)
  la:=fun _=>N.sm.la (by rw [hst];decide) },rfl,N.mb,N.pre⟩
end Go.Proofs.YtbcjmakpempkiaaGreatDoor
