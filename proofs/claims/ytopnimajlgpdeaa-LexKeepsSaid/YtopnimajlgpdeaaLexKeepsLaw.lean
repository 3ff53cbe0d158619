/- The law LexKeeps holds for every input: the call returns true, and each argument reads as it read. No condition. -/
import Derived.Test.YtopnimajlgpdeaaLexAwake
import Derived.Test.YtopnimajlgpdeaaLexJoin
import Derived.Test.YtopnimajlgpdeaaLexTrivia
import Derived.ProofKit
import Derived.OpenShut
import Derived.ShutString
import Derived.ChangeOld
import Derived.SizedLaws
namespace Go.Proofs.Ytopnimajlgpdeaa.lexKeeps
open Go.ChangeShapes Go.WideShapes Go.ChangeAt Go.RowKit
open Go.ChangeMaps (open_string shut_string)
set_option linter.unusedVariables false
theorem own : ownKnob Try.prog.godebug = none := by kernel_rfl
theorem class_is (t : Tok) (w : World) (hs : t.text.size < maxLen) (h : (classN (bl t.text) : Int) = t.kind) : Calls Try.prog 15 #[.string t.text] w fun e w' => e = .returned (.int .i64 t.kind) ∧ w' = w := by
  refine (class_any t.text w hs).mono fun e w' hh => ?_
  obtain ⟨he, hw⟩ := hh
  exact ⟨by rw [he, ← h]; rfl, hw.symm⟩
theorem trivia_is (s : ByteArray) (b : Bool) (w : World) (hs : s.size ≤ maxLen) (h : triviaB s b = true) : Calls Try.prog 17 #[.string s, .bool b] w fun e w' => e = .returned (.bool true) ∧ w' = w := by
  refine (trivia_any s b w hs).mono fun e w' hh => ?_
  obtain ⟨he, hw⟩ := hh
  exact ⟨by rw [he, h], hw.symm⟩
theorem join_is (A : Option Addr) (c : Nat) (ts : List Tok) (tail s : ByteArray) (w : World) (ha : Toks w A ts) (hj : joinL ts (bl tail) = bl s) (hs : s.size ≤ 4096) (hn : ts.length ≤ 4096) :
    Calls Try.prog 19 #[.slice A ts.length c, .string tail] w fun e w' => e = .returned (.string s) ∧ Below w.heap.size w w' := by
  refine (join_any A c ts tail w ha (by rw [hj, bl_length]; omega) (by omega)).mono fun e w' hh => ?_
  obtain ⟨he, hw⟩ := hh
  refine ⟨?_, hw⟩
  rw [he, hj, show (⟨(bl s).toArray⟩ : ByteArray) = s from bl_inj (by unfold bl suf; simp)]
theorem joinL_ge {ts : List Tok} {tail : List UInt8} {t : Tok} (h : t ∈ ts) : t.lead.size + t.text.size ≤ (joinL ts tail).length := by
  unfold joinL
  rw [List.length_append]
  have : t.lead.size + t.text.size ≤ (ts.flatMap fun t => bl t.lead ++ bl t.text).length := by
    induction ts with
    | nil => cases h
    | cons a r ih =>
      rw [List.flatMap_cons, List.length_append, List.length_append, bl_length, bl_length]
      rcases List.mem_cons.1 h with h | h
      · subst h
        omega
      · have := ih h
        omega
  omega
set_option maxHeartbeats 2000000 in
theorem walk (a0 : ByteArray) (w : World) (z0 : a0.size ≤ 140737488351232) :
    Calls Try.prog 8 #[.string a0] w fun e w' => e = .returned (.bool true) ∧ Below w.heap.size w w' := by
  have HS := Lib.hid (show a0.size ≤ maxLen from by unfold maxLen; omega)
  by_cases he : (scanR a0).e = 0
  · have he' : ((((scanR a0).e : Nat) : Int) != 0) = false := by simp [he]
    have HG := Lib.hid ((scanR_good a0).1 he)
    have hsz : a0.size ≤ 4096 := by
      by_cases h : 4096 < a0.size
      · unfold scanR at he
        rw [if_pos h] at he
        cases he
      · omega
    have HE := Lib.hid he
    clear he
    go_enter Try.func8, Try.ntmps8
    go_wp2_with (go_at_call 12; refine (scan_any _ _ HS.out).mono ?_; rintro e w1 ⟨v, rfl, ho, hb⟩; obtain ⟨A, c, rfl⟩ := own_shape ho; have HO := Lib.hid (Toks.of_own ho); have HB := Lib.hid hb; clear ho hb)
    go_loopw [7] (fun i wr => ∃ k : Nat, i = .int .i64 k ∧ k ≤ (scanR a0).toks.length ∧ Below w.heap.size w wr ∧ Toks wr A (scanR a0).toks) (fun i _ => (scanR a0).toks.length - (intOf i).toNat)
    case atStart => exact ⟨0, rfl, Nat.zero_le _, HB.out, HO.out⟩
    case round =>
      obtain ⟨k, rfl, hk, hbr, htr⟩ := hrel
      have HBR := Lib.hid hbr
      have HTR := Lib.hid htr
      clear hbr htr
      have hfew := scanR_few a0
      by_cases hlt : k < (scanR a0).toks.length
      · obtain ⟨t, ht⟩ : ∃ t, (scanR a0).toks[k]? = some t := ⟨_, List.getElem?_eq_getElem hlt⟩
        have hmem := List.mem_of_getElem? ht
        obtain ⟨g1, g2, g3⟩ := HG.out.1 t hmem
        have hsz2 := joinL_ge (tail := bl (scanR a0).tail) hmem
        rw [HG.out.2.1, bl_length] at hsz2
        obtain ⟨b', off, rfl, hca⟩ := HTR.out (by intro e; rw [e] at hlt; simp at hlt)
        obtain ⟨q0, q1, q2⟩ := hca k t ht
        have hk0 : (t.kind == 0) = false := by simpa using g2
        have HC := Lib.hid (fun w => class_is t w (by unfold maxLen; omega) g1)
        have HT := Lib.hid (fun w => trivia_is t.lead false w (by unfold maxLen; omega) g3)
        have hlt' : (k : Int) < ((scanR a0).toks.length : Int) := by omega
        have hk1 : (0 : Int) ≤ (k : Int) := by omega
        clear hca ht hmem g1 g2 g3 hsz2
        go_wp2_with fail
        go_quiet ((first | (go_at_call 15; exact Calls.quiet_of_same (HC.out _)) | (go_at_call 17; exact Calls.quiet_of_same (HT.out _))))
        go_wp2
        go_roundw
        case rel => exact ⟨k + 1, by go_num, by omega, below_drewN HBR.out _, HTR.out.drewN _⟩
        case measure => simp [intOf]; omega
      · have htl := Lib.hid (fun w => trivia_is (scanR a0).tail true w (by have h2 := congrArg List.length HG.out.2.1; rw [joinL_tail, List.length_append] at h2; simp only [bl_length] at h2; unfold maxLen; omega) HG.out.2.2)
        have hfw := Lib.hid hfew
        have hs4 := Lib.hid hsz
        go_wp2_with (first | (go_at_call 11; refine (awake_any _).mono ?_; rintro e w2 ⟨rfl, hb2⟩; have HB2 := Lib.hid hb2; clear hb2) | (go_at_call 19; refine (join_is A c _ _ a0 _ (HTR.out.below HB2.out) HG.out.2.1 hs4.out hfw.out).mono ?_; rintro e w3 ⟨rfl, hb3⟩; have HB3 := Lib.hid hb3; clear hb3) | (go_at_call 17; refine (htl.out _).mono ?_; rintro e w4 ⟨rfl, rfl⟩))
        go_ret
        exact ⟨ret_bool (by simp), (HBR.out.trans (HB2.out.mono HBR.out.size)).trans (HB3.out.mono (Nat.le_trans HBR.out.size HB2.out.size))⟩
  · have he' : ((((scanR a0).e : Nat) : Int) != 0) = true := by simp; omega
    obtain ⟨hk1, hk2⟩ := (scanR_good a0).2 he
    have hl : ((((scanR a0).toks.length : Nat) : Int) == 0) = true := by rw [hk1]; rfl
    have ht : (scanR a0).tail.toList.isEmpty = true := by rw [hk2, ← suf_zero]; rfl
    clear he hk1 hk2
    go_enter Try.func8, Try.ntmps8
    go_wp2_with (first | (go_at_call 12; refine (scan_any _ _ HS.out).mono ?_; rintro e w1 ⟨v, rfl, ho, hb⟩; obtain ⟨A, c, rfl⟩ := own_shape ho; have HB := Lib.hid hb; clear ho hb) | (go_at_call 11; refine (awake_any _).mono ?_; rintro e w2 ⟨rfl, hb2⟩; have HB2 := Lib.hid hb2; clear hb2))
    go_ret
    exact ⟨rfl, HB.out.trans (HB2.out.mono HB.out.size)⟩
set_option maxRecDepth 100000 in
theorem lifted (os : Os) (started : os.Started) (H : Type) (enc : TypeId × Value → H) :
    ReturnsInHanded {} Try.checked os 8 .any (Rows.lexKeepsSpec.pre6 enc Try.prog Try.f8 Rows.lexKeepsRow.domain false) (Rows.lexKeepsSpec.post enc Try.prog Try.f8 false true false false) := by
  refine returnsInHanded_of_change_sized (C := Try.checked) own started (by kernel_rfl) Try.func8
    (ChangeSpec.witness6 (enc := enc) (C := Try.checked) false ⟨#[], #[.string ByteArray.empty], []⟩ 8 (by kernel_rfl) (by kernel_rfl) (by kernel_rfl) (by kernel_rfl)) ?_
  intro W base args ds gs before hval0 hW hcnd hsz0 _
  have hval : ∀ (j : Nat) t v, Try.f8.params[j]? = some t → args[j]? = some v → Value.okWide Try.prog W .any base t v := hval0
  have hW' := hW
  obtain ⟨p, q, hA0, hV, rfl, hfz, hnd⟩ := hW
  have hA : DataW.TrodAll enc Try.prog W 0 (fun _ => true) true Try.f8.params.toList args.toList ds p := hA0
  have hsz : (DataW.weightsEach Try.prog (Try.f8.params.toList ++ Rows.lexKeepsSpec.plain.varTypes Try.prog) (ds ++ gs)).all (· ≤ reachBytes) = true := hsz0
  rw [Try.params8] at hA hval hsz
  obtain ⟨v0, vs0, d0, ds0, p0, q0, hargs, rfl, rfl, h0, r0⟩ := trodAll_cons hA
  obtain ⟨rfl, rfl, rfl⟩ := trodAll_nil r0
  obtain rfl : args = #[v0] := by cases args; simp_all
  obtain ⟨rfl, rfl⟩ := trodVars_none hV
  obtain ⟨a0, rfl, rfl, rfl, w0⟩ := open_string Try.underlying9 (hval 0 9 v0 rfl rfl) h0
  have z0 : a0.size ≤ 140737488351232 := by
    have := sized_string hsz (j := 0) (t := 9) (bytes := a0.data.toList) rfl rfl
    simpa [reachBytes] using this
  clear hA0 hval0
  simp only [List.append_nil] at hW'
  refine (walk a0 W z0).mono fun e W' ⟨he, bel⟩ => ?_
  subst he
  exact ⟨_, rfl, _, _, _, [], [], [], hW', trodAll_mk1 (shut_bool Try.underlying4 _), (trodAll_cons_mk (shut_string Try.underlying9 w0) trodAll_mk0), rfl, bel.frame _, fun h => by cases h⟩
theorem proved : Rows.LexKeepsSaid :=
  OpenClaim.holds_of_wide 8 Try.f8 rfl rfl rfl rfl rfl rfl rfl ⟨rfl, rfl, rfl, rfl, rfl⟩ rfl rfl rfl rfl rfl (by kernel_rfl) Try.func8 (by kernel_rfl)
    (of_decide_eq_true (by kernel_rfl)) (by unfold Func.isWrapper; first | (rw [if_pos (by decide +kernel)]; kernel_rfl) | (rw [if_neg (by decide +kernel)]; exact ⟨rfl, rfl⟩))
    (fun os started H enc _ => lifted os started H enc)
#print axioms proved
end Go.Proofs.Ytopnimajlgpdeaa.lexKeeps
