/- The contract of awake of stage 2, and of semvcsmake.Mod. -/
import Derived.Test.YtpdmklbfbpdneaaGreatSynTexts
import Derived.Test.YtpdmklbfbpdneaaGreatSynParse
namespace Go.Proofs.YtpdmklbfbpdneaaGreat
open Go.RowKit
def awakeSrc : ByteArray := ⟨#[109, 111, 100, 117, 108, 101, 32, 77, 32, 100, 101, 102, 32, 102, 40, 120, 58, 32, 73, 110, 116, 41, 58, 32, 73, 110, 116, 32, 61, 32, 120, 32, 43, 32, 49, 32, 35, 32, 101, 110, 100]⟩
def awakeT : Tr := ((parseM 200 awakeSrc).getD (noTr, 0, 0)).1
theorem awake_parsed : parseM 200 awakeSrc = some (awakeT, 0, 0) := by kernel_rfl
theorem awake_print : printT awakeT = awakeSrc := by kernel_rfl
theorem awake_kind : awakeT.kind = 1 := by kernel_rfl
theorem awake_text : awakeT.text = ⟨#[77]⟩ := by kernel_rfl
theorem awake_kids : awakeT.kids.length = 1 := by kernel_rfl
theorem awake_kid : ∃ k, awakeT.kids[0]? = some k ∧ k.kids.length = 3 := ⟨(awakeT.kids[0]?).getD noTr, by kernel_rfl, by kernel_rfl⟩
theorem awake_small : smallT awakeT = true := by kernel_rfl
theorem awake_words : wordsT awakeT = true := by kernel_rfl
theorem awake_size : sizeP (pieces awakeT) < 140737488355328 := by
  have h : sizeP (pieces awakeT) = (sizeP (pieces awakeT)) := rfl
  exact Nat.lt_of_le_of_lt (show sizeP (pieces awakeT) ≤ 100 from Nat.le_of_ble_eq_true (by kernel_rfl)) (by decide)
theorem awake_leads : leadsP 2 4 = 7 := by kernel_rfl
theorem awake_all : ∃ t : Tr, parseM 200 ⟨#[109, 111, 100, 117, 108, 101, 32, 77, 32, 100, 101, 102, 32, 102, 40, 120, 58, 32, 73, 110, 116, 41, 58, 32, 73, 110, 116, 32, 61, 32, 120, 32, 43, 32, 49, 32, 35, 32, 101, 110, 100]⟩ = some (t, 0, 0) ∧ printT t = ⟨#[109, 111, 100, 117, 108, 101, 32, 77, 32, 100, 101, 102, 32, 102, 40, 120, 58, 32, 73, 110, 116, 41, 58, 32, 73, 110, 116, 32, 61, 32, 120, 32, 43, 32, 49, 32, 35, 32, 101, 110, 100]⟩ ∧ t.text = ⟨#[77]⟩ ∧ t.kids.length = 1 ∧ (∃ k, t.kids[0]? = some k ∧ k.kids.length = 3) ∧ smallT t = true ∧ wordsT t = true ∧ sizeP (pieces t) < 140737488355328 :=
  ⟨awakeT, awake_parsed, awake_print, awake_text, awake_kids, awake_kid, awake_small, awake_words, awake_size⟩
set_option maxRecDepth 100000 in
set_option maxHeartbeats 400000 in
theorem awake_syn (w : World) : Calls Tryz.prog 31 #[] w fun e w' => e = .returned (.bool true) ∧ Below w.heap.size w w' := by
  obtain ⟨t, hp, hpr, htx, hkn, ⟨k, hk, hkk⟩, hsm, hwd, hsz⟩ := awake_all
  have HP := Lib.hid hp
  have HPR := Lib.hid hpr
  have HS := Lib.hid hsm
  have HW := Lib.hid hwd
  have HZ := Lib.hid hsz
  have HKN := Lib.hid hkn
  have HK := Lib.hid hk
  have HKK := Lib.hid hkk
  have HTX := Lib.hid htx
  have HSZ := Lib.hid (show (⟨#[109, 111, 100, 117, 108, 101, 32, 77, 32, 100, 101, 102, 32, 102, 40, 120, 58, 32, 73, 110, 116, 41, 58, 32, 73, 110, 116, 32, 61, 32, 120, 32, 43, 32, 49, 32, 35, 32, 101, 110, 100]⟩ : ByteArray).size ≤ maxLen from Nat.le_of_ble_eq_true rfl)
  clear hp hpr htx hkn hk hkk hsm hwd hsz
  go_enter Tryz.func31, Tryz.ntmps31
  go_wp2_with fail
  go_at_call 39
  refine (parse_syn (n := 200) (Nat.le_of_ble_eq_true rfl) _ HSZ.out HP.out).mono ?_
  rintro e w1 ⟨v, rfl, ht, hb⟩
  have HT := Lib.hid ht
  have HB := Lib.hid hb
  obtain ⟨e1, e2, e3, e4⟩ := ht.kl
  obtain ⟨kb, ko, hka⟩ : ∃ b off, v.ka = some ⟨b, off, none⟩ := ht.addr.resolve_left (by show t.kids.length ≠ 0; have := HKN.out; omega)
  obtain ⟨u, c0, c1, c2, c3, hu⟩ := ht.at hka HK.out
  rw [hu.kl.1, HKK.out] at c3
  rw [Nat.zero_mul, Nat.add_zero] at c0 c1 c2 c3
  rw [HKN.out] at e1
  rw [HTX.out] at e4
  obtain ⟨vk, vx, vla, vll, vlc, vka, vkl, vkc⟩ := v
  simp only at e1 e2 e3 e4 hka
  subst e1 e2 e3 e4 hka
  have kblt : kb < w1.heap.size := World.block_lt_of_cell? w1 _ c3
  clear ht hb hu
  have HTA := Lib.hid (HT.out.keep ((Below.refl w1.heap.size w1).alloc (Nat.le_refl _) (.cells #[.int .i64 t.kind, .string ⟨#[77]⟩, .slice vla t.leads.length vlc, .slice (some ⟨kb, ko, none⟩) 1 vkc] 25)))
  have HBA := Lib.hid (HB.out.alloc HB.out.size (.cells #[.int .i64 t.kind, .string ⟨#[77]⟩, .slice vla t.leads.length vlc, .slice (some ⟨kb, ko, none⟩) 1 vkc] 25))
  dsimp only
  go_step
  repeat (first | go_values | go_skip | go_guarded | go_step | go_upon)
  go_at_call 36
  refine (print_syn _ t _ _ HTA.out HS.out HW.out HZ.out).mono ?_
  rw [HPR.out]
  rintro e w2 ⟨rfl, hb2⟩
  have HB2 := Lib.hid (HBA.out.trans (hb2.mono HBA.out.size))
  clear hb2 c0 c1 c2 c3 kblt
  dsimp only
  repeat (first | go_values | go_skip | go_guarded | go_step | go_upon)
  go_at_call 56
  refine (leads_syn 2 4 _ (by decide)).mono ?_
  rw [awake_leads]
  rintro e w3 ⟨rfl, hb3⟩
  have HB3 := Lib.hid (HB2.out.trans (hb3.mono HB2.out.size))
  clear hb3
  dsimp only
  repeat (first | go_values | go_skip | go_guarded | go_step | go_upon)
  go_ret
  exact ⟨rfl, HB3.out⟩
end Go.Proofs.YtpdmklbfbpdneaaGreat
namespace Go.Proofs.YtpdmklbfbpdneaaGreat
open Go.RowKit
def modM (n m : Int) : Int := if n.tmod m < 0 then n.tmod m + m else n.tmod m
theorem modM_bd (n : Int) {m : Int} (hm : 0 < m) : 0 ≤ modM n m ∧ modM n m < m := by
  have h1 := Int.tmod_lt_of_pos n hm
  have h2 : -m < n.tmod m := Int.lt_tmod_of_pos n hm
  unfold modM
  split <;> omega
theorem mod_syn (n m : Int) (w : World) (hm : 0 < m) (hm2 : m ≤ 1000000) : Calls Tryz.prog 28 #[.int .i64 n, .int .i64 m] w fun e w' => e = .returned (.int .i64 (modM n m)) ∧ w = w' := by
  have h1 := Int.tmod_lt_of_pos n hm
  have h2 : -m < n.tmod m := Int.lt_tmod_of_pos n hm
  have HM := Lib.hid (show modM n m = if n.tmod m < 0 then n.tmod m + m else n.tmod m from rfl)
  have h0 : m ≠ 0 := by omega
  have hb := beqF h0
  by_cases h : n.tmod m < 0
  all_goals
    go_enter Tryz.func28, Tryz.ntmps28
    go_wp2
    go_ret
    exact ⟨ret_int (by rw [HM.out]; split <;> omega), rfl⟩
theorem mod_is (a m : Int) (N : Nat) (w : World) (hm : 0 < m) (hm2 : m ≤ 1000000) (h : (N : Int) = modM a m) : Calls Tryz.prog 28 #[.int .i64 a, .int .i64 m] w fun e w' => e = .returned (.int .i64 (N : Int)) ∧ w = w' := by
  refine (mod_syn a m w hm hm2).mono fun e w' hh => ?_
  obtain ⟨he, hw⟩ := hh
  exact ⟨by rw [he, ← h], hw⟩
end Go.Proofs.YtpdmklbfbpdneaaGreat
