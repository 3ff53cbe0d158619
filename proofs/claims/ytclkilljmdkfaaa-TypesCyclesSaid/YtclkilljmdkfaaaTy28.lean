/- Part 28: The contract of the reference's Leads, and that it is Leads. -/
import Derived.Test.YtclkilljmdkfaaaTy1
import Derived.Test.YtclkilljmdkfaaaTy24
set_option maxRecDepth 100000
set_option maxHeartbeats 4000000
namespace Go.Proofs.Ytclkilljmdkfaaa
open Go.RowKit
def Qa4 (kids must n:Int):Int:=if kids = must then n else -1
def Qey (kind kids:Int):Int :=
 if kind = 1 then (if 0 ≤ kids then 3 else -1) else
 if kind = 2 then (if 2 ≤ kids then 6 + max 0 (kids - 3) else -1) else
 if kind = 3 then (Qa4 kids 1 3) else
 if kind = 4 then (Qa4 kids 1 2) else
 if kind = 5 then (Qa4 kids 0 1) else
 if kind = 6 then (Qa4 kids 0 1) else
 if kind = 7 then (Qa4 kids 0 1) else
 if kind = 8 then (Qa4 kids 1 2) else
 if kind = 9 then (Qa4 kids 0 1) else
 if kind = 10 then (Qa4 kids 0 1) else
 if kind = 11 then (Qa4 kids 0 1) else
 if kind = 12 then (Qa4 kids 0 1) else
 if kind = 13 then (Qa4 kids 0 1) else
 if kind = 14 then (Qa4 kids 0 1) else
 if kind = 15 then (Qa4 kids 0 1) else
 if kind = 16 then (if 0 ≤ kids then 3 + max 0 (kids - 1) else -1) else
 if kind = 17 then (Qa4 kids 1 0) else
 if kind = 18 then (if 1 ≤ kids then 1 + kids else -1) else
 if kind = 19 then (Qa4 kids 3 3) else
 if kind = 20 then (Qa4 kids 2 4) else
 if kind = 21 then (Qa4 kids 2 1) else
 if kind = 22 then (Qa4 kids 1 2) else
 -1
theorem Qan {kind a b o tk:Int} {cm:Bool} (kids:Int) (hl:Qae kind ≠ []) (h1:∀ k,(Qb9 (Qae kind) 0 0 k).1 = a) (h2:∀ k,(Qb9 (Qae kind) 0 0 k).2.1 = b) (ho:(onesP (Qae kind):Int) = o) (ht:(tokensP (Qae kind):Int) = tk) (hc:∀ n,commasP (Qae kind) n = if cm = true ∧ 1 < n then n - 1 else 0) :
  leadsP kind kids = if 0 ≤ kids ∧ a ≤ kids - o ∧ kids - o ≤ b then tk + (if cm = true ∧ 1 < kids - o then kids - o - 1 else 0) else -1:=by
 by_cases h0:kids < 0
 ·have hf:Qbt (Qae kind) kids = (0,false):=by
   unfold Qbt
   rw [if_pos (Or.inr h0)]
  unfold leadsP
  rw [hf,if_neg (by decide),if_neg (fun h=>by omega)]
 ·have hf:Qbt (Qae kind) kids = (kids - o,decide (a ≤ kids - o) && decide (kids - o ≤ b)):=by
   unfold Qbt
   rw [if_neg (fun h=>by rcases h with h | h;exact hl h;exact h0 h),freeL_ones,h1,h2,ho]
  unfold leadsP
  rw [hf,ht]
  dsimp only
  rw [hc]
  by_cases h3:a ≤ kids - o ∧ kids - o ≤ b
  ·rw [decide_eq_true h3.1,decide_eq_true h3.2,if_pos (show (true && true) = true from rfl),if_pos (show 0 ≤ kids ∧ a ≤ kids - o ∧ kids - o ≤ b from ⟨by omega,h3⟩)]
  ·rw [if_neg (fun h=>by simp only [Bool.and_eq_true,decide_eq_true_eq] at h;exact h3 h),if_neg (fun h=>h3 h.2)]
theorem leads_eq (kind kids:Int) (hk:kids ≤ 1000):leadsP kind kids = Qey kind kids:=by
 by_cases h:kind ≤ 0 ∨ 23 ≤ kind
 ·unfold leadsP
  rw [Qd3 h]
  unfold Qey
  simp only [show kind ≠ 1 from by omega,show kind ≠ 2 from by omega,show kind ≠ 3 from by omega,show kind ≠ 4 from by omega,show kind ≠ 5 from by omega,show kind ≠ 6 from by omega,show kind ≠ 7 from by omega,show kind ≠ 8 from by omega,show kind ≠ 9 from by omega,show kind ≠ 10 from by omega,show kind ≠ 11 from by omega,show kind ≠ 12 from by omega,show kind ≠ 13 from by omega,show kind ≠ 14 from by omega,show kind ≠ 15 from by omega,show kind ≠ 16 from by omega,show kind ≠ 17 from by omega,show kind ≠ 18 from by omega,show kind ≠ 19 from by omega,show kind ≠ 20 from by omega,show kind ≠ 21 from by omega,show kind ≠ 22 from by omega,if_false]
  rfl
 ·rcases (show kind = 1 ∨ kind = 2 ∨ kind = 3 ∨ kind = 4 ∨ kind = 5 ∨ kind = 6 ∨ kind = 7 ∨ kind = 8 ∨ kind = 9 ∨ kind = 10 ∨ kind = 11 ∨ kind = 12 ∨ kind = 13 ∨ kind = 14 ∨ kind = 15 ∨ kind = 16 ∨ kind = 17 ∨ kind = 18 ∨ kind = 19 ∨ kind = 20 ∨ kind = 21 ∨ kind = 22 from by omega) with rfl | rfl | rfl | rfl | rfl | rfl | rfl | rfl | rfl | rfl | rfl | rfl | rfl | rfl | rfl | rfl | rfl | rfl | rfl | rfl | rfl | rfl
  ·rw [Qan (a:=0) (b:=9223372036854775807) (o:=0) (tk:=3) (cm:=false) kids (by decide) (fun _=>rfl) (fun _=>rfl) rfl rfl (fun n=>rfl)]
   show _ = (if 0 ≤ kids then 3 else -1)
   repeat' split
   all_goals first | rfl | omega | (exfalso;omega) | (simp at * <;> omega)
  ·rw [Qan (a:=0) (b:=9223372036854775807) (o:=2) (tk:=6) (cm:=true) kids (by decide) (fun _=>rfl) (fun _=>rfl) rfl rfl (fun n=>by simp [Qae,commasP,Qb8,nameP,oneP,manyP])]
   show _ = (if 2 ≤ kids then 6 + max 0 (kids - 3) else -1)
   rw [Int.max_def]
   repeat' split
   all_goals first | rfl | omega | (exfalso;omega) | (simp at * <;> omega)
  ·rw [Qan (a:=0) (b:=0) (o:=1) (tk:=3) (cm:=false) kids (by decide) (fun _=>rfl) (fun _=>rfl) rfl rfl (fun n=>rfl)]
   show _ = (Qa4 kids 1 3)
   unfold Qa4
   repeat' split
   all_goals first | rfl | omega | (exfalso;omega) | (simp at * <;> omega)
  ·rw [Qan (a:=0) (b:=0) (o:=1) (tk:=2) (cm:=false) kids (by decide) (fun _=>rfl) (fun _=>rfl) rfl rfl (fun n=>rfl)]
   show _ = (Qa4 kids 1 2)
   unfold Qa4
   repeat' split
   all_goals first | rfl | omega | (exfalso;omega) | (simp at * <;> omega)
  ·rw [Qan (a:=0) (b:=0) (o:=0) (tk:=1) (cm:=false) kids (by decide) (fun _=>rfl) (fun _=>rfl) rfl rfl (fun n=>rfl)]
   show _ = (Qa4 kids 0 1)
   unfold Qa4
   repeat' split
   all_goals first | rfl | omega | (exfalso;omega) | (simp at * <;> omega)
  ·rw [Qan (a:=0) (b:=0) (o:=0) (tk:=1) (cm:=false) kids (by decide) (fun _=>rfl) (fun _=>rfl) rfl rfl (fun n=>rfl)]
   show _ = (Qa4 kids 0 1)
   unfold Qa4
   repeat' split
   all_goals first | rfl | omega | (exfalso;omega) | (simp at * <;> omega)
  ·rw [Qan (a:=0) (b:=0) (o:=0) (tk:=1) (cm:=false) kids (by decide) (fun _=>rfl) (fun _=>rfl) rfl rfl (fun n=>rfl)]
   show _ = (Qa4 kids 0 1)
   unfold Qa4
   repeat' split
   all_goals first | rfl | omega | (exfalso;omega) | (simp at * <;> omega)
  ·rw [Qan (a:=0) (b:=0) (o:=1) (tk:=2) (cm:=false) kids (by decide) (fun _=>rfl) (fun _=>rfl) rfl rfl (fun n=>rfl)]
   show _ = (Qa4 kids 1 2)
   unfold Qa4
   repeat' split
   all_goals first | rfl | omega | (exfalso;omega) | (simp at * <;> omega)
  ·rw [Qan (a:=0) (b:=0) (o:=0) (tk:=1) (cm:=false) kids (by decide) (fun _=>rfl) (fun _=>rfl) rfl rfl (fun n=>rfl)]
   show _ = (Qa4 kids 0 1)
   unfold Qa4
   repeat' split
   all_goals first | rfl | omega | (exfalso;omega) | (simp at * <;> omega)
  ·rw [Qan (a:=0) (b:=0) (o:=0) (tk:=1) (cm:=false) kids (by decide) (fun _=>rfl) (fun _=>rfl) rfl rfl (fun n=>rfl)]
   show _ = (Qa4 kids 0 1)
   unfold Qa4
   repeat' split
   all_goals first | rfl | omega | (exfalso;omega) | (simp at * <;> omega)
  ·rw [Qan (a:=0) (b:=0) (o:=0) (tk:=1) (cm:=false) kids (by decide) (fun _=>rfl) (fun _=>rfl) rfl rfl (fun n=>rfl)]
   show _ = (Qa4 kids 0 1)
   unfold Qa4
   repeat' split
   all_goals first | rfl | omega | (exfalso;omega) | (simp at * <;> omega)
  ·rw [Qan (a:=0) (b:=0) (o:=0) (tk:=1) (cm:=false) kids (by decide) (fun _=>rfl) (fun _=>rfl) rfl rfl (fun n=>rfl)]
   show _ = (Qa4 kids 0 1)
   unfold Qa4
   repeat' split
   all_goals first | rfl | omega | (exfalso;omega) | (simp at * <;> omega)
  ·rw [Qan (a:=0) (b:=0) (o:=0) (tk:=1) (cm:=false) kids (by decide) (fun _=>rfl) (fun _=>rfl) rfl rfl (fun n=>rfl)]
   show _ = (Qa4 kids 0 1)
   unfold Qa4
   repeat' split
   all_goals first | rfl | omega | (exfalso;omega) | (simp at * <;> omega)
  ·rw [Qan (a:=0) (b:=0) (o:=0) (tk:=1) (cm:=false) kids (by decide) (fun _=>rfl) (fun _=>rfl) rfl rfl (fun n=>rfl)]
   show _ = (Qa4 kids 0 1)
   unfold Qa4
   repeat' split
   all_goals first | rfl | omega | (exfalso;omega) | (simp at * <;> omega)
  ·rw [Qan (a:=0) (b:=0) (o:=0) (tk:=1) (cm:=false) kids (by decide) (fun _=>rfl) (fun _=>rfl) rfl rfl (fun n=>rfl)]
   show _ = (Qa4 kids 0 1)
   unfold Qa4
   repeat' split
   all_goals first | rfl | omega | (exfalso;omega) | (simp at * <;> omega)
  ·rw [Qan (a:=0) (b:=9223372036854775807) (o:=0) (tk:=3) (cm:=true) kids (by decide) (fun _=>rfl) (fun _=>rfl) rfl rfl (fun n=>by simp [Qae,commasP,Qb8,nameP,manyP])]
   show _ = (if 0 ≤ kids then 3 + max 0 (kids - 1) else -1)
   rw [Int.max_def]
   repeat' split
   all_goals first | rfl | omega | (exfalso;omega) | (simp at * <;> omega)
  ·rw [Qan (a:=0) (b:=0) (o:=1) (tk:=0) (cm:=false) kids (by decide) (fun _=>rfl) (fun _=>rfl) rfl rfl (fun n=>rfl)]
   show _ = (Qa4 kids 1 0)
   unfold Qa4
   repeat' split
   all_goals first | rfl | omega | (exfalso;omega) | (simp at * <;> omega)
  ·rw [Qan (a:=1) (b:=9223372036854775807) (o:=0) (tk:=2) (cm:=true) kids (by decide) (fun _=>rfl) (fun _=>rfl) rfl rfl (fun n=>by simp [Qae,commasP,Qb8,manyP])]
   show _ = (if 1 ≤ kids then 1 + kids else -1)
   repeat' split
   all_goals first | rfl | omega | (exfalso;omega) | (simp at * <;> omega)
  ·rw [Qan (a:=0) (b:=0) (o:=3) (tk:=3) (cm:=false) kids (by decide) (fun _=>rfl) (fun _=>rfl) rfl rfl (fun n=>rfl)]
   show _ = (Qa4 kids 3 3)
   unfold Qa4
   repeat' split
   all_goals first | rfl | omega | (exfalso;omega) | (simp at * <;> omega)
  ·rw [Qan (a:=0) (b:=0) (o:=2) (tk:=4) (cm:=false) kids (by decide) (fun _=>rfl) (fun _=>rfl) rfl rfl (fun n=>rfl)]
   show _ = (Qa4 kids 2 4)
   unfold Qa4
   repeat' split
   all_goals first | rfl | omega | (exfalso;omega) | (simp at * <;> omega)
  ·rw [Qan (a:=0) (b:=0) (o:=2) (tk:=1) (cm:=false) kids (by decide) (fun _=>rfl) (fun _=>rfl) rfl rfl (fun n=>rfl)]
   show _ = (Qa4 kids 2 1)
   unfold Qa4
   repeat' split
   all_goals first | rfl | omega | (exfalso;omega) | (simp at * <;> omega)
  ·rw [Qan (a:=0) (b:=0) (o:=1) (tk:=2) (cm:=false) kids (by decide) (fun _=>rfl) (fun _=>rfl) rfl rfl (fun n=>rfl)]
   show _ = (Qa4 kids 1 2)
   unfold Qa4
   repeat' split
   all_goals first | rfl | omega | (exfalso;omega) | (simp at * <;> omega)
end Go.Proofs.Ytclkilljmdkfaaa
