/- The contracts of many and of semvcsmake.Mod at 60. Condition: many is asked for 1 to 60 bytes. -/
import Derived.Test.YtopnimajlgpdeaaLexBuilder
import Derived.Test.YtopnimajlgpdeaaLexTable
import Derived.Laws.BytesArg
import Derived.Deep.AppendLies
namespace Go.Proofs.Ytopnimajlgpdeaa
open Go.RowKit
def modN (n : Int) : Int := if n.tmod 60 < 0 then n.tmod 60 + 60 else n.tmod 60
theorem modN_bd (n : Int) : 0 ≤ modN n ∧ modN n ≤ 59 := by
  have h1 := Int.tmod_lt_of_pos n (b := 60) (by decide)
  have h2 : -60 < n.tmod 60 := Int.lt_tmod_of_pos n (by decide)
  unfold modN
  split <;> omega
theorem mod_any (n : Int) (w : World) : Calls Try.prog 23 #[.int .i64 n, .int .i64 60] w fun e w' => e = .returned (.int .i64 (modN n)) ∧ w = w' := by
  have h1 := Int.tmod_lt_of_pos n (b := 60) (by decide)
  have h2 : -60 < n.tmod 60 := Int.lt_tmod_of_pos n (by decide)
  have HM := Lib.hid (show modN n = if n.tmod 60 < 0 then n.tmod 60 + 60 else n.tmod 60 from rfl)
  by_cases h : n.tmod 60 < 0
  all_goals
    go_enter Try.func23, Try.ntmps23
    go_wp2
    go_ret
    exact ⟨ret_int (by rw [HM.out]; split <;> omega), rfl⟩
def ManyAt (ch : Int) (n : Nat) (w : World) (v i : Value) (wr : World) : Prop :=
  ∃ k : Nat, i = .int .i64 k ∧ k ≤ n ∧ wr.ownsRow w.heap.size 5 1 v k (List.replicate k (.int .u8 ch)) ∧ Below w.heap.size w wr
set_option maxHeartbeats 1000000 in
theorem many_any (ch : Int) (n : Nat) (w : World) (h0 : 0 < n) (hn : n ≤ 60) :
    Calls Try.prog 24 #[.int .u8 ch, .int .i64 n] w fun e w' => e = .returned (.string (rep ch n)) ∧ Below w.heap.size w w' := by
  obtain ⟨i0, hi, hz0, hz1, hz2⟩ := info_parts byte_info
  go_enter Try.func24, Try.ntmps24
  go_wp2
  go_loopw [5, 6] (fun v i wr => ManyAt ch n w v i wr) (fun _ i _ => n - (intOf i).toNat)
  case atStart => exact ⟨0, rfl, Nat.zero_le _, World.ownsRow_nil _ _ _ _, Below.refl _ _⟩
  case round =>
    obtain ⟨k, rfl, hk, ho, hb⟩ := hrel
    have HO := Lib.hid ho
    have HB := Lib.hid hb
    clear ho hb
    by_cases hlt : k < n
    · go_wp2_with (at_builtin; refine wpList_append_own _ rfl (.tmp 12) (.tmp 14) 50 rfl w.heap.size 5 i0 _ 1 1 Try.underlying50 hi hz0 hz1 hz2 rfl (by omega) u5 k (List.replicate k (.int .u8 ch)) rfl (HO.out.alloc _) ⟨wr.heap.size, 0, none⟩ 1 1 [.int .u8 ch] rfl rfl ?c1 ?c2 ?c3 ?c4 ?c5 ?_)
      case c1 => exact cell_one_new _ _ _
      case c2 => simp [Value.oneCell']
      case c3 => unfold maxLen; omega
      case c4 => omega
      case c5 => rw [World.size_alloc]; have := HB.out.size; omega
      intro v' w1 hown1 hg1 _
      have HV := Lib.hid hown1
      have HG := Lib.hid hg1
      clear hown1 hg1
      go_wp2
      go_roundw
      case rel => exact ⟨k + 1, by go_num, by omega, by rw [List.replicate_succ']; exact HV.out, (HB.out.alloc HB.out.size _).grown HG.out (by rw [World.size_alloc]; have := HB.out.size; omega) (fun j hj => (HO.out.lt j hj).1)⟩
      case measure => simp [intOf]; omega
    · have hkn : k = n := by omega
      subst hkn
      obtain ⟨g, cap, hv, _, _⟩ := World.ownsRow.form HO.out h0
      have hc := fun i (hi : i < k) => World.ownsRow.cells (g := g) HO.out (by rw [hv]; rfl) i (.int .u8 ch) (by rw [List.getElem?_replicate, if_pos hi])
      subst hv
      have hq := run_convert_bytes_arg (P := Try.prog) wr 50 5 Try.underlying50 Try.underlying5 g 0 k cap (List.replicate k ch) (by simp) (fun i hi => by
        have := hc i hi
        rw [show ((List.replicate k ch).getD i 0) = ch from by rw [List.getD_eq_getElem?_getD, List.getElem?_replicate, if_pos hi]; rfl]
        unfold Addr.add at this
        split at this
        · rename_i h0
          subst h0
          exact this
        · exact this) 9 Try.underlying9
      clear hc
      go_wp2
      go_ret
      exact ⟨rfl, HB.out⟩
end Go.Proofs.Ytopnimajlgpdeaa
