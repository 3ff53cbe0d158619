/- Part 30 -/
import Derived.Test.YtfjpemdejoejbaaGreatTt25
set_option maxRecDepth 100000
set_option maxHeartbeats 4000000
namespace Go.Proofs.YtfjpemdejoejbaaGreat
open Go.RowKit
def Qa2 (kids must n:Int):Int:=if kids=must then n else -1
def Qat (kind kids:Int):Int :=
 if kind=1 then (if 0≤kids then 3 else -1) else
 if kind=2 then (if 2≤kids then 6+max 0 (kids-3) else -1) else
 if kind=3 then (Qa2 kids 1 3) else
 if kind=4 then (Qa2 kids 1 2) else
 if kind=5 then (Qa2 kids 0 1) else
 if kind=6 then (Qa2 kids 0 1) else
 if kind=7 then (Qa2 kids 0 1) else
 if kind=8 then (Qa2 kids 1 2) else
 if kind=9 then (Qa2 kids 0 1) else
 if kind=10 then (Qa2 kids 0 1) else
 if kind=11 then (Qa2 kids 0 1) else
 if kind=12 then (Qa2 kids 0 1) else
 if kind=13 then (Qa2 kids 0 1) else
 if kind=14 then (Qa2 kids 0 1) else
 if kind=15 then (Qa2 kids 0 1) else
 if kind=16 then (if 0≤kids then 3+max 0 (kids-1) else -1) else
 if kind=17 then (Qa2 kids 1 0) else
 if kind=18 then (if 1≤kids then 1+kids else -1) else
 if kind=19 then (Qa2 kids 3 3) else
 if kind=20 then (Qa2 kids 2 4) else
 if kind=21 then (Qa2 kids 2 1) else
 if kind=22 then (Qa2 kids 1 2) else
 -1
theorem Qcj (kids must n:Int) (w:World):Calls Tryz.prog 89 #[.int .i64 kids,.int .i64 must,.int .i64 n] w fun e w'=>e = .returned (.int .i64 (Qa2 kids must n))∧w=w':=by
 by_cases h:kids=must
 ·have HR:=hQ (show Qa2 kids must n=n from by unfold Qa2;rw [xO h]);subst h
  go_enter Tryz.func89,Tryz.ntmps89
  go_wp2
  go_ret
  rw [HR.out];exact ⟨rfl,rfl⟩
 ·have HR:=hQ (show Qa2 kids must n = -1 from by unfold Qa2;rw [xN h]);have h':=Qcm h
  go_enter Tryz.func89,Tryz.ntmps89
  go_wp2
  go_ret
  rw [HR.out];exact ⟨rfl,rfl⟩
theorem Zaa (kids:Int) (w:World):Calls Tryz.prog 57 #[.int .i64 3,.int .i64 kids] w fun e w'=>e = .returned (.int .i64 (Qat 3 kids))∧w=w':=by
 have HR:=hQ (show Qat 3 kids=Qa2 kids 1 3 from rfl)
 go_enter Tryz.func57,Tryz.ntmps57
 go_wp2_with (go_at_call 89;refine (Qcj _ _ _ _).mono ?_;rintro e w' ⟨rfl,rfl⟩)
 go_ret
 rw [HR.out];exact ⟨rfl,rfl⟩
theorem Zab (kids:Int) (w:World):Calls Tryz.prog 57 #[.int .i64 4,.int .i64 kids] w fun e w'=>e = .returned (.int .i64 (Qat 4 kids))∧w=w':=by
 have HR:=hQ (show Qat 4 kids=Qa2 kids 1 2 from rfl)
 go_enter Tryz.func57,Tryz.ntmps57
 go_wp2_with (go_at_call 89;refine (Qcj _ _ _ _).mono ?_;rintro e w' ⟨rfl,rfl⟩)
 go_ret
 rw [HR.out];exact ⟨rfl,rfl⟩
theorem Zac (kids:Int) (w:World):Calls Tryz.prog 57 #[.int .i64 5,.int .i64 kids] w fun e w'=>e = .returned (.int .i64 (Qat 5 kids))∧w=w':=by
 have HR:=hQ (show Qat 5 kids=Qa2 kids 0 1 from rfl)
 go_enter Tryz.func57,Tryz.ntmps57
 go_wp2_with (go_at_call 89;refine (Qcj _ _ _ _).mono ?_;rintro e w' ⟨rfl,rfl⟩)
 go_ret
 rw [HR.out];exact ⟨rfl,rfl⟩
theorem Zad (kids:Int) (w:World):Calls Tryz.prog 57 #[.int .i64 6,.int .i64 kids] w fun e w'=>e = .returned (.int .i64 (Qat 6 kids))∧w=w':=by
 have HR:=hQ (show Qat 6 kids=Qa2 kids 0 1 from rfl)
 go_enter Tryz.func57,Tryz.ntmps57
 go_wp2_with (go_at_call 89;refine (Qcj _ _ _ _).mono ?_;rintro e w' ⟨rfl,rfl⟩)
 go_ret
 rw [HR.out];exact ⟨rfl,rfl⟩
theorem Zae (kids:Int) (w:World):Calls Tryz.prog 57 #[.int .i64 7,.int .i64 kids] w fun e w'=>e = .returned (.int .i64 (Qat 7 kids))∧w=w':=by
 have HR:=hQ (show Qat 7 kids=Qa2 kids 0 1 from rfl)
 go_enter Tryz.func57,Tryz.ntmps57
 go_wp2_with (go_at_call 89;refine (Qcj _ _ _ _).mono ?_;rintro e w' ⟨rfl,rfl⟩)
 go_ret
 rw [HR.out];exact ⟨rfl,rfl⟩
theorem Zaf (kids:Int) (w:World):Calls Tryz.prog 57 #[.int .i64 8,.int .i64 kids] w fun e w'=>e = .returned (.int .i64 (Qat 8 kids))∧w=w':=by
 have HR:=hQ (show Qat 8 kids=Qa2 kids 1 2 from rfl)
 go_enter Tryz.func57,Tryz.ntmps57
 go_wp2_with (go_at_call 89;refine (Qcj _ _ _ _).mono ?_;rintro e w' ⟨rfl,rfl⟩)
 go_ret
 rw [HR.out];exact ⟨rfl,rfl⟩
theorem Zag (kids:Int) (w:World):Calls Tryz.prog 57 #[.int .i64 9,.int .i64 kids] w fun e w'=>e = .returned (.int .i64 (Qat 9 kids))∧w=w':=by
 have HR:=hQ (show Qat 9 kids=Qa2 kids 0 1 from rfl)
 go_enter Tryz.func57,Tryz.ntmps57
 go_wp2_with (go_at_call 89;refine (Qcj _ _ _ _).mono ?_;rintro e w' ⟨rfl,rfl⟩)
 go_ret
 rw [HR.out];exact ⟨rfl,rfl⟩
theorem Qwo (kids:Int) (w:World):Calls Tryz.prog 57 #[.int .i64 10,.int .i64 kids] w fun e w'=>e = .returned (.int .i64 (Qat 10 kids))∧w=w':=by
 have HR:=hQ (show Qat 10 kids=Qa2 kids 0 1 from rfl)
 go_enter Tryz.func57,Tryz.ntmps57
 go_wp2_with (go_at_call 89;refine (Qcj _ _ _ _).mono ?_;rintro e w' ⟨rfl,rfl⟩)
 go_ret
 rw [HR.out];exact ⟨rfl,rfl⟩
theorem Qwp (kids:Int) (w:World):Calls Tryz.prog 57 #[.int .i64 11,.int .i64 kids] w fun e w'=>e = .returned (.int .i64 (Qat 11 kids))∧w=w':=by
 have HR:=hQ (show Qat 11 kids=Qa2 kids 0 1 from rfl)
 go_enter Tryz.func57,Tryz.ntmps57
 go_wp2_with (go_at_call 89;refine (Qcj _ _ _ _).mono ?_;rintro e w' ⟨rfl,rfl⟩)
 go_ret
 rw [HR.out];exact ⟨rfl,rfl⟩
theorem Qwq (kids:Int) (w:World):Calls Tryz.prog 57 #[.int .i64 12,.int .i64 kids] w fun e w'=>e = .returned (.int .i64 (Qat 12 kids))∧w=w':=by
 have HR:=hQ (show Qat 12 kids=Qa2 kids 0 1 from rfl)
 go_enter Tryz.func57,Tryz.ntmps57
 go_wp2_with (go_at_call 89;refine (Qcj _ _ _ _).mono ?_;rintro e w' ⟨rfl,rfl⟩)
 go_ret
 rw [HR.out];exact ⟨rfl,rfl⟩
theorem Qwr (kids:Int) (w:World):Calls Tryz.prog 57 #[.int .i64 13,.int .i64 kids] w fun e w'=>e = .returned (.int .i64 (Qat 13 kids))∧w=w':=by
 have HR:=hQ (show Qat 13 kids=Qa2 kids 0 1 from rfl)
 go_enter Tryz.func57,Tryz.ntmps57
 go_wp2_with (go_at_call 89;refine (Qcj _ _ _ _).mono ?_;rintro e w' ⟨rfl,rfl⟩)
 go_ret
 rw [HR.out];exact ⟨rfl,rfl⟩
theorem Qws (kids:Int) (w:World):Calls Tryz.prog 57 #[.int .i64 14,.int .i64 kids] w fun e w'=>e = .returned (.int .i64 (Qat 14 kids))∧w=w':=by
 have HR:=hQ (show Qat 14 kids=Qa2 kids 0 1 from rfl)
 go_enter Tryz.func57,Tryz.ntmps57
 go_wp2_with (go_at_call 89;refine (Qcj _ _ _ _).mono ?_;rintro e w' ⟨rfl,rfl⟩)
 go_ret
 rw [HR.out];exact ⟨rfl,rfl⟩
theorem Qwt (kids:Int) (w:World):Calls Tryz.prog 57 #[.int .i64 15,.int .i64 kids] w fun e w'=>e = .returned (.int .i64 (Qat 15 kids))∧w=w':=by
 have HR:=hQ (show Qat 15 kids=Qa2 kids 0 1 from rfl)
 go_enter Tryz.func57,Tryz.ntmps57
 go_wp2_with (go_at_call 89;refine (Qcj _ _ _ _).mono ?_;rintro e w' ⟨rfl,rfl⟩)
 go_ret
 rw [HR.out];exact ⟨rfl,rfl⟩
theorem Qwu (kids:Int) (w:World):Calls Tryz.prog 57 #[.int .i64 17,.int .i64 kids] w fun e w'=>e = .returned (.int .i64 (Qat 17 kids))∧w=w':=by
 have HR:=hQ (show Qat 17 kids=Qa2 kids 1 0 from rfl)
 go_enter Tryz.func57,Tryz.ntmps57
 go_wp2_with (go_at_call 89;refine (Qcj _ _ _ _).mono ?_;rintro e w' ⟨rfl,rfl⟩)
 go_ret
 rw [HR.out];exact ⟨rfl,rfl⟩
theorem Qwv (kids:Int) (w:World):Calls Tryz.prog 57 #[.int .i64 19,.int .i64 kids] w fun e w'=>e = .returned (.int .i64 (Qat 19 kids))∧w=w':=by
 have HR:=hQ (show Qat 19 kids=Qa2 kids 3 3 from rfl)
 go_enter Tryz.func57,Tryz.ntmps57
 go_wp2_with (go_at_call 89;refine (Qcj _ _ _ _).mono ?_;rintro e w' ⟨rfl,rfl⟩)
 go_ret
 rw [HR.out];exact ⟨rfl,rfl⟩
theorem Qww (kids:Int) (w:World):Calls Tryz.prog 57 #[.int .i64 20,.int .i64 kids] w fun e w'=>e = .returned (.int .i64 (Qat 20 kids))∧w=w':=by
 have HR:=hQ (show Qat 20 kids=Qa2 kids 2 4 from rfl)
 go_enter Tryz.func57,Tryz.ntmps57
 go_wp2_with (go_at_call 89;refine (Qcj _ _ _ _).mono ?_;rintro e w' ⟨rfl,rfl⟩)
 go_ret
 rw [HR.out];exact ⟨rfl,rfl⟩
theorem Qwx (kids:Int) (w:World):Calls Tryz.prog 57 #[.int .i64 21,.int .i64 kids] w fun e w'=>e = .returned (.int .i64 (Qat 21 kids))∧w=w':=by
 have HR:=hQ (show Qat 21 kids=Qa2 kids 2 1 from rfl)
 go_enter Tryz.func57,Tryz.ntmps57
 go_wp2_with (go_at_call 89;refine (Qcj _ _ _ _).mono ?_;rintro e w' ⟨rfl,rfl⟩)
 go_ret
 rw [HR.out];exact ⟨rfl,rfl⟩
theorem Qwy (kids:Int) (w:World):Calls Tryz.prog 57 #[.int .i64 22,.int .i64 kids] w fun e w'=>e = .returned (.int .i64 (Qat 22 kids))∧w=w':=by
 have HR:=hQ (show Qat 22 kids=Qa2 kids 1 2 from rfl)
 go_enter Tryz.func57,Tryz.ntmps57
 go_wp2_with (go_at_call 89;refine (Qcj _ _ _ _).mono ?_;rintro e w' ⟨rfl,rfl⟩)
 go_ret
 rw [HR.out];exact ⟨rfl,rfl⟩
theorem Zah (kids:Int) (w:World) (_hk:kids≤1000):Calls Tryz.prog 57 #[.int .i64 1,.int .i64 kids] w fun e w'=>e = .returned (.int .i64 (Qat 1 kids))∧w=w':=by
 by_cases h:0≤kids
 ·have HR:=hQ (show Qat 1 kids=3 from by show (if 0≤kids then 3 else -1)=_;rw [xO h])
  go_enter Tryz.func57,Tryz.ntmps57
  go_wp2
  go_ret
  rw [HR.out];exact ⟨Qbx (by omega),rfl⟩
 ·have HR:=hQ (show Qat 1 kids = -1 from by show (if 0≤kids then 3 else -1)=_;rw [xN h]);have hd:=xR h
  go_enter Tryz.func57,Tryz.ntmps57
  go_wp2
  go_ret
  rw [HR.out];exact ⟨rfl,rfl⟩
theorem Zai (kids:Int) (w:World) (hk:kids≤1000):Calls Tryz.prog 57 #[.int .i64 2,.int .i64 kids] w fun e w'=>e = .returned (.int .i64 (Qat 2 kids))∧w=w':=by
 by_cases h:2≤kids
 ·have HR:=hQ (show Qat 2 kids=6+max 0 (kids-3) from by show (if 2≤kids then 6+max 0 (kids-3) else -1)=_;rw [xO h])
  go_enter Tryz.func57,Tryz.ntmps57
  go_wp2
  go_ret
  rw [HR.out];exact ⟨Qbx (by omega),rfl⟩
 ·have HR:=hQ (show Qat 2 kids = -1 from by show (if 2≤kids then 6+max 0 (kids-3) else -1)=_;rw [xN h]);have hd:=xR h
  go_enter Tryz.func57,Tryz.ntmps57
  go_wp2
  go_ret
  rw [HR.out];exact ⟨rfl,rfl⟩
theorem Qwz (kids:Int) (w:World) (hk:kids≤1000):Calls Tryz.prog 57 #[.int .i64 16,.int .i64 kids] w fun e w'=>e = .returned (.int .i64 (Qat 16 kids))∧w=w':=by
 by_cases h:0≤kids
 ·have HR:=hQ (show Qat 16 kids=3+max 0 (kids-1) from by show (if 0≤kids then 3+max 0 (kids-1) else -1)=_;rw [xO h])
  go_enter Tryz.func57,Tryz.ntmps57
  go_wp2
  go_ret
  rw [HR.out];exact ⟨Qbx (by omega),rfl⟩
 ·have HR:=hQ (show Qat 16 kids = -1 from by show (if 0≤kids then 3+max 0 (kids-1) else -1)=_;rw [xN h]);have hd:=xR h
  go_enter Tryz.func57,Tryz.ntmps57
  go_wp2
  go_ret
  rw [HR.out];exact ⟨rfl,rfl⟩
theorem Qw0 (kids:Int) (w:World) (hk:kids≤1000):Calls Tryz.prog 57 #[.int .i64 18,.int .i64 kids] w fun e w'=>e = .returned (.int .i64 (Qat 18 kids))∧w=w':=by
 by_cases h:1≤kids
 ·have HR:=hQ (show Qat 18 kids=1+kids from by show (if 1≤kids then 1+kids else -1)=_;rw [xO h])
  go_enter Tryz.func57,Tryz.ntmps57
  go_wp2
  go_ret
  rw [HR.out];exact ⟨Qbx (by omega),rfl⟩
 ·have HR:=hQ (show Qat 18 kids = -1 from by show (if 1≤kids then 1+kids else -1)=_;rw [xN h]);have hd:=xR h
  go_enter Tryz.func57,Tryz.ntmps57
  go_wp2
  go_ret
  rw [HR.out];exact ⟨rfl,rfl⟩
theorem Qq1 (kind kids:Int) (w:World) (h:kind≤0∨23≤kind):Calls Tryz.prog 57 #[.int .i64 kind,.int .i64 kids] w fun e w'=>e = .returned (.int .i64 (Qat kind kids))∧w=w':=by
 have HR:=hQ (show Qat kind kids = -1 from by unfold Qat;simp only [show kind≠1 from by omega,show kind≠2 from by omega,show kind≠3 from by omega,show kind≠4 from by omega,show kind≠5 from by omega,show kind≠6 from by omega,show kind≠7 from by omega,show kind≠8 from by omega,show kind≠9 from by omega,show kind≠10 from by omega,show kind≠11 from by omega,show kind≠12 from by omega,show kind≠13 from by omega,show kind≠14 from by omega,show kind≠15 from by omega,show kind≠16 from by omega,show kind≠17 from by omega,show kind≠18 from by omega,show kind≠19 from by omega,show kind≠20 from by omega,show kind≠21 from by omega,show kind≠22 from by omega,if_false]);have e1:=Qcm (show kind≠1 from by omega);have e2:=Qcm (show kind≠2 from by omega);have e3:=Qcm (show kind≠3 from by omega);have e4:=Qcm (show kind≠4 from by omega);have e5:=Qcm (show kind≠5 from by omega);have e6:=Qcm (show kind≠6 from by omega);have e7:=Qcm (show kind≠7 from by omega);have e8:=Qcm (show kind≠8 from by omega);have e9:=Qcm (show kind≠9 from by omega);have e10:=Qcm (show kind≠10 from by omega);have e11:=Qcm (show kind≠11 from by omega);have e12:=Qcm (show kind≠12 from by omega);have e13:=Qcm (show kind≠13 from by omega);have e14:=Qcm (show kind≠14 from by omega);have e15:=Qcm (show kind≠15 from by omega);have e16:=Qcm (show kind≠16 from by omega);have e17:=Qcm (show kind≠17 from by omega);have e18:=Qcm (show kind≠18 from by omega);have e19:=Qcm (show kind≠19 from by omega);have e20:=Qcm (show kind≠20 from by omega);have e21:=Qcm (show kind≠21 from by omega);have e22:=Qcm (show kind≠22 from by omega);clear h
 go_enter Tryz.func57,Tryz.ntmps57
 go_wp2
 go_ret
 rw [HR.out];exact ⟨rfl,rfl⟩
theorem Qje (kind kids:Int) (w:World) (hk:kids≤1000):Calls Tryz.prog 57 #[.int .i64 kind,.int .i64 kids] w fun e w'=>e = .returned (.int .i64 (Qat kind kids))∧w=w':=by
 by_cases h:kind≤0∨23≤kind
 ·exact Qq1 kind kids w h
 ·rcases (show kind=1∨kind=2∨kind=3∨kind=4∨kind=5∨kind=6∨kind=7∨kind=8∨kind=9∨kind=10∨kind=11∨kind=12∨kind=13∨kind=14∨kind=15∨kind=16∨kind=17∨kind=18∨kind=19∨kind=20∨kind=21∨kind=22 from by omega) with rfl | rfl | rfl | rfl | rfl | rfl | rfl | rfl | rfl | rfl | rfl | rfl | rfl | rfl | rfl | rfl | rfl | rfl | rfl | rfl | rfl | rfl
  ·exact Zah kids w hk
  ·exact Zai kids w hk
  ·exact Zaa kids w
  ·exact Zab kids w
  ·exact Zac kids w
  ·exact Zad kids w
  ·exact Zae kids w
  ·exact Zaf kids w
  ·exact Zag kids w
  ·exact Qwo kids w
  ·exact Qwp kids w
  ·exact Qwq kids w
  ·exact Qwr kids w
  ·exact Qws kids w
  ·exact Qwt kids w
  ·exact Qwz kids w hk
  ·exact Qwu kids w
  ·exact Qw0 kids w hk
  ·exact Qwv kids w
  ·exact Qww kids w
  ·exact Qwx kids w
  ·exact Qwy kids w
theorem Qay {kind a b o tk:Int} {cm:Bool} (kids:Int) (hl:Qae kind≠[]) (h1:∀ k,(Qdb (Qae kind) 0 0 k).1=a) (h2:∀ k,(Qdb (Qae kind) 0 0 k).2.1=b) (ho:(Qnc (Qae kind):Int)=o) (ht:(Qql (Qae kind):Int)=tk) (hc:∀ n,Qg4 (Qae kind) n=if cm=true∧1<n then n-1 else 0) :
  Ql1 kind kids=if 0≤kids∧a≤kids-o∧kids-o≤b then tk+(if cm=true∧1<kids-o then kids-o-1 else 0) else -1:=by
 by_cases h0:kids<0
 ·have hf:Qck (Qae kind) kids=(0,false):=by
   unfold Qck;rw [xO (Or.inr h0)]
  unfold Ql1;rw [hf,xN (by decide),xN (fun h=>by omega)]
 ·have hf:Qck (Qae kind) kids=(kids-o,decide (a≤kids-o) && decide (kids-o≤b)):=by
   unfold Qck;rw [xN (fun h=>by rcases h with h | h;exact hl h;exact h0 h),Qi7,h1,h2,ho]
  unfold Ql1;rw [hf,ht]
  dsimp only
  rw [hc]
  by_cases h3:a≤kids-o∧kids-o≤b
  ·rw [xS h3.1,xS h3.2,xO (show (true && true)=true from rfl),xO (show 0≤kids∧a≤kids-o∧kids-o≤b from ⟨by omega,h3⟩)]
  ·rw [xN (fun h=>by simp only [Bool.and_eq_true,decide_eq_true_eq] at h;exact h3 h),xN (fun h=>h3 h.2)]
theorem Zaj (kind kids:Int) (hk:kids≤1000):Ql1 kind kids=Qat kind kids:=by
 by_cases h:kind≤0∨23≤kind
 ·unfold Ql1;rw [Qer h];unfold Qat;simp only [show kind≠1 from by omega,show kind≠2 from by omega,show kind≠3 from by omega,show kind≠4 from by omega,show kind≠5 from by omega,show kind≠6 from by omega,show kind≠7 from by omega,show kind≠8 from by omega,show kind≠9 from by omega,show kind≠10 from by omega,show kind≠11 from by omega,show kind≠12 from by omega,show kind≠13 from by omega,show kind≠14 from by omega,show kind≠15 from by omega,show kind≠16 from by omega,show kind≠17 from by omega,show kind≠18 from by omega,show kind≠19 from by omega,show kind≠20 from by omega,show kind≠21 from by omega,show kind≠22 from by omega,if_false];rfl
 ·rcases (show kind=1∨kind=2∨kind=3∨kind=4∨kind=5∨kind=6∨kind=7∨kind=8∨kind=9∨kind=10∨kind=11∨kind=12∨kind=13∨kind=14∨kind=15∨kind=16∨kind=17∨kind=18∨kind=19∨kind=20∨kind=21∨kind=22 from by omega) with rfl | rfl | rfl | rfl | rfl | rfl | rfl | rfl | rfl | rfl | rfl | rfl | rfl | rfl | rfl | rfl | rfl | rfl | rfl | rfl | rfl | rfl
  ·rw [Qay (a:=0) (b:=9223372036854775807) (o:=0) (tk:=3) (cm:=false) kids (by decide) (fun _=>rfl) (fun _=>rfl) rfl rfl (fun n=>rfl)]
   show _=(if 0≤kids then 3 else -1)
   repeat' split
   all_goals first | rfl | omega | (exfalso;omega) | (simp at * <;> omega)
  ·rw [Qay (a:=0) (b:=9223372036854775807) (o:=2) (tk:=6) (cm:=true) kids (by decide) (fun _=>rfl) (fun _=>rfl) rfl rfl (fun n=>by simp [Qae,Qg4,Qda,Qhn,Qp0,Qkj])]
   show _=(if 2≤kids then 6+max 0 (kids-3) else -1)
   rw [Int.max_def]
   repeat' split
   all_goals first | rfl | omega | (exfalso;omega) | (simp at * <;> omega)
  ·rw [Qay (a:=0) (b:=0) (o:=1) (tk:=3) (cm:=false) kids (by decide) (fun _=>rfl) (fun _=>rfl) rfl rfl (fun n=>rfl)]
   show _=(Qa2 kids 1 3)
   unfold Qa2
   repeat' split
   all_goals first | rfl | omega | (exfalso;omega) | (simp at * <;> omega)
  ·rw [Qay (a:=0) (b:=0) (o:=1) (tk:=2) (cm:=false) kids (by decide) (fun _=>rfl) (fun _=>rfl) rfl rfl (fun n=>rfl)]
   show _=(Qa2 kids 1 2)
   unfold Qa2
   repeat' split
   all_goals first | rfl | omega | (exfalso;omega) | (simp at * <;> omega)
  ·rw [Qay (a:=0) (b:=0) (o:=0) (tk:=1) (cm:=false) kids (by decide) (fun _=>rfl) (fun _=>rfl) rfl rfl (fun n=>rfl)]
   show _=(Qa2 kids 0 1)
   unfold Qa2
   repeat' split
   all_goals first | rfl | omega | (exfalso;omega) | (simp at * <;> omega)
  ·rw [Qay (a:=0) (b:=0) (o:=0) (tk:=1) (cm:=false) kids (by decide) (fun _=>rfl) (fun _=>rfl) rfl rfl (fun n=>rfl)]
   show _=(Qa2 kids 0 1)
   unfold Qa2
   repeat' split
   all_goals first | rfl | omega | (exfalso;omega) | (simp at * <;> omega)
  ·rw [Qay (a:=0) (b:=0) (o:=0) (tk:=1) (cm:=false) kids (by decide) (fun _=>rfl) (fun _=>rfl) rfl rfl (fun n=>rfl)]
   show _=(Qa2 kids 0 1)
   unfold Qa2
   repeat' split
   all_goals first | rfl | omega | (exfalso;omega) | (simp at * <;> omega)
  ·rw [Qay (a:=0) (b:=0) (o:=1) (tk:=2) (cm:=false) kids (by decide) (fun _=>rfl) (fun _=>rfl) rfl rfl (fun n=>rfl)]
   show _=(Qa2 kids 1 2)
   unfold Qa2
   repeat' split
   all_goals first | rfl | omega | (exfalso;omega) | (simp at * <;> omega)
  ·rw [Qay (a:=0) (b:=0) (o:=0) (tk:=1) (cm:=false) kids (by decide) (fun _=>rfl) (fun _=>rfl) rfl rfl (fun n=>rfl)]
   show _=(Qa2 kids 0 1)
   unfold Qa2
   repeat' split
   all_goals first | rfl | omega | (exfalso;omega) | (simp at * <;> omega)
  ·rw [Qay (a:=0) (b:=0) (o:=0) (tk:=1) (cm:=false) kids (by decide) (fun _=>rfl) (fun _=>rfl) rfl rfl (fun n=>rfl)]
   show _=(Qa2 kids 0 1)
   unfold Qa2
   repeat' split
   all_goals first | rfl | omega | (exfalso;omega) | (simp at * <;> omega)
  ·rw [Qay (a:=0) (b:=0) (o:=0) (tk:=1) (cm:=false) kids (by decide) (fun _=>rfl) (fun _=>rfl) rfl rfl (fun n=>rfl)]
   show _=(Qa2 kids 0 1)
   unfold Qa2
   repeat' split
   all_goals first | rfl | omega | (exfalso;omega) | (simp at * <;> omega)
  ·rw [Qay (a:=0) (b:=0) (o:=0) (tk:=1) (cm:=false) kids (by decide) (fun _=>rfl) (fun _=>rfl) rfl rfl (fun n=>rfl)]
   show _=(Qa2 kids 0 1)
   unfold Qa2
   repeat' split
   all_goals first | rfl | omega | (exfalso;omega) | (simp at * <;> omega)
  ·rw [Qay (a:=0) (b:=0) (o:=0) (tk:=1) (cm:=false) kids (by decide) (fun _=>rfl) (fun _=>rfl) rfl rfl (fun n=>rfl)]
   show _=(Qa2 kids 0 1)
   unfold Qa2
   repeat' split
   all_goals first | rfl | omega | (exfalso;omega) | (simp at * <;> omega)
  ·rw [Qay (a:=0) (b:=0) (o:=0) (tk:=1) (cm:=false) kids (by decide) (fun _=>rfl) (fun _=>rfl) rfl rfl (fun n=>rfl)]
   show _=(Qa2 kids 0 1)
   unfold Qa2
   repeat' split
   all_goals first | rfl | omega | (exfalso;omega) | (simp at * <;> omega)
  ·rw [Qay (a:=0) (b:=0) (o:=0) (tk:=1) (cm:=false) kids (by decide) (fun _=>rfl) (fun _=>rfl) rfl rfl (fun n=>rfl)]
   show _=(Qa2 kids 0 1)
   unfold Qa2
   repeat' split
   all_goals first | rfl | omega | (exfalso;omega) | (simp at * <;> omega)
  ·rw [Qay (a:=0) (b:=9223372036854775807) (o:=0) (tk:=3) (cm:=true) kids (by decide) (fun _=>rfl) (fun _=>rfl) rfl rfl (fun n=>by simp [Qae,Qg4,Qda,Qhn,Qkj])]
   show _=(if 0≤kids then 3+max 0 (kids-1) else -1)
   rw [Int.max_def]
   repeat' split
   all_goals first | rfl | omega | (exfalso;omega) | (simp at * <;> omega)
  ·rw [Qay (a:=0) (b:=0) (o:=1) (tk:=0) (cm:=false) kids (by decide) (fun _=>rfl) (fun _=>rfl) rfl rfl (fun n=>rfl)]
   show _=(Qa2 kids 1 0)
   unfold Qa2
   repeat' split
   all_goals first | rfl | omega | (exfalso;omega) | (simp at * <;> omega)
  ·rw [Qay (a:=1) (b:=9223372036854775807) (o:=0) (tk:=2) (cm:=true) kids (by decide) (fun _=>rfl) (fun _=>rfl) rfl rfl (fun n=>by simp [Qae,Qg4,Qda,Qkj])]
   show _=(if 1≤kids then 1+kids else -1)
   repeat' split
   all_goals first | rfl | omega | (exfalso;omega) | (simp at * <;> omega)
  ·rw [Qay (a:=0) (b:=0) (o:=3) (tk:=3) (cm:=false) kids (by decide) (fun _=>rfl) (fun _=>rfl) rfl rfl (fun n=>rfl)]
   show _=(Qa2 kids 3 3)
   unfold Qa2
   repeat' split
   all_goals first | rfl | omega | (exfalso;omega) | (simp at * <;> omega)
  ·rw [Qay (a:=0) (b:=0) (o:=2) (tk:=4) (cm:=false) kids (by decide) (fun _=>rfl) (fun _=>rfl) rfl rfl (fun n=>rfl)]
   show _=(Qa2 kids 2 4)
   unfold Qa2
   repeat' split
   all_goals first | rfl | omega | (exfalso;omega) | (simp at * <;> omega)
  ·rw [Qay (a:=0) (b:=0) (o:=2) (tk:=1) (cm:=false) kids (by decide) (fun _=>rfl) (fun _=>rfl) rfl rfl (fun n=>rfl)]
   show _=(Qa2 kids 2 1)
   unfold Qa2
   repeat' split
   all_goals first | rfl | omega | (exfalso;omega) | (simp at * <;> omega)
  ·rw [Qay (a:=0) (b:=0) (o:=1) (tk:=2) (cm:=false) kids (by decide) (fun _=>rfl) (fun _=>rfl) rfl rfl (fun n=>rfl)]
   show _=(Qa2 kids 1 2)
   unfold Qa2
   repeat' split
   all_goals first | rfl | omega | (exfalso;omega) | (simp at * <;> omega)
end Go.Proofs.YtfjpemdejoejbaaGreat
