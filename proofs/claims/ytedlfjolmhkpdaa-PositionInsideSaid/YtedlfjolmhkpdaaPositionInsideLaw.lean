/- The law PositionInside holds for every input: the call returns true, and each argument reads as it read. No condition. -/
import Derived.Test.YtedlfjolmhkpdaaPosOpen
import Derived.ProofKit
import Derived.OpenShut
import Derived.ShutString
import Derived.ChangeOld
import Derived.SizedLaws
namespace Go.Proofs.Ytedlfjolmhkpdaa.positionInside
open Go.ChangeShapes Go.WideShapes Go.ChangeAt Go.RowKit
open Go.ChangeMaps (open_string shut_string)
set_option linter.unusedVariables false
theorem own : ownKnob Try.prog.godebug = none := by kernel_rfl
theorem laidOut : laidOutB Try.prog = true := by kernel_rfl
attribute [local go_sem 2000] str_gtr str_leq
def Btw (x y : ByteArray) (k : ByteArray) (en : Int) : Prop := ∀ W, Calls Try.prog 12 #[.string x, .string y] W fun e w' => e = .returned (.tuple #[.string k, .int .i64 en]) ∧ Below W.heap.size W w'
theorem btw_of (x y : ByteArray) (hx : x.size ≤ maxLen) (hy : y.size ≤ maxLen) {k : Key} {en : Int} (h : betweenP x.data.toList y.data.toList = (k, en)) : Btw x y (strL k) en := fun W => by
  have hb := between_any x.data.toList y.data.toList W (by rw [data_len]; exact hx) (by rw [data_len]; exact hy)
  unfold BtwPost at hb
  rw [strL_back, strL_back, h] at hb
  exact hb
theorem pre_or : (lo a : Key) → bl lo a = true → (∃ r, a = lo ++ r) ∨ ∀ x, bl (lo ++ x) a = true
  | [], a, _ => .inl ⟨a, rfl⟩
  | c :: l, [], h => by rw [bl_nil] at h; cases h
  | c :: l, d :: r, h => by
    rw [bl_cons] at h
    rcases h with h | ⟨rfl, h⟩
    · exact .inr fun x => by rw [List.cons_append, bl_cons]; exact .inl h
    · rcases pre_or l r h with ⟨q, rfl⟩ | h
      · exact .inl ⟨q, rfl⟩
      · exact .inr fun x => by rw [List.cons_append, bl_cons]; exact .inr ⟨rfl, h x⟩
theorem vld_snoc {p : Key} (hp : Lets p) (hl : p.length < 60) : vldB (p ++ [110]) = true := (vld_iff _).2 ⟨by simp, by simp; omega, lets_app.2 ⟨hp, fun c hc => by rw [List.mem_singleton] at hc; subst hc; decide⟩, by simp⟩
/-- Between two short keys there is a key again. -/
theorem between_exists {lo a : Key} (hl : Lets lo) (h1 : lo.length < 60) (ha : vldB a = true) (h2 : a.length < 60) (h : bl lo a = true) : ∃ k, vldB k = true ∧ bl lo k = true ∧ bl k a = true := by
  rcases pre_or lo a h with ⟨r, hr⟩ | hx
  · obtain ⟨hne, h60, hlet, hlast⟩ := (vld_iff a).1 ha
    have e1 := List.dropLast_concat_getLast hne
    have hrne : r ≠ [] := by
      rintro rfl
      rw [List.append_nil] at hr
      rw [hr, bl_irr] at h
      cases h
    have hpl : lo ++ r.dropLast = a.dropLast := by rw [hr, List.dropLast_append_of_ne_nil hrne]
    have hlets : Lets a.dropLast ∧ Lets [a.getLast hne] := by rw [← lets_app, e1]; exact hlet
    have hy := hlets.2 _ List.mem_cons_self
    have hy97 : (a.getLast hne).toNat ≠ 97 := fun e => hlast (by rw [List.getLast?_eq_some_getLast hne, ← UInt8.toNat_inj.1 (show (a.getLast hne).toNat = (97 : UInt8).toNat from e)])
    refine ⟨(a.dropLast ++ [97]) ++ [110], vld_snoc (lets_app.2 ⟨hlets.1, fun c hc => by rw [List.mem_singleton] at hc; subst hc; decide⟩) (by simp; omega), ?_, ?_⟩
    · rw [← hpl, List.append_assoc, List.append_assoc]
      cases hd : r.dropLast ++ ([97] ++ [110]) with
      | nil => simp at hd
      | cons c q => exact bl_pre _ _ _
    · rw [List.append_assoc]
      conv => lhs; arg 2; rw [← e1]
      rw [bl_app]
      show bl (97 :: [110]) [a.getLast hne] = true
      rw [bl_cons]
      left
      have : (97 : UInt8).toNat = 97 := rfl
      omega
  · exact ⟨lo ++ [110], vld_snoc hl h1, bl_pre _ _ _, hx [110]⟩
set_option maxRecDepth 100000 in
set_option maxHeartbeats 2000000 in
theorem walk_bad (a0 a1 : ByteArray) (en : Int) (w : World) (hB : Btw a0 a1 (strL []) en) (hen : en ≠ 0) :
    Calls Try.prog 7 #[.string a0, .string a1] w fun e w' => e = .returned (.bool true) ∧ Below w.heap.size w w' := by
  have HB := Lib.hid (fun W => hB W : ∀ W, Calls Try.prog 12 #[.string a0, .string a1] W fun e w' => e = .returned (.tuple #[.string ⟨#[]⟩, .int .i64 en]) ∧ Below W.heap.size W w')
  have he : (en != 0) = true := by simp [hen]
  obtain ⟨e0, e1⟩ := str_e (l := []) rfl
  clear hB hen
  go_enter Try.func7, Try.ntmps7
  go_wp2_with fail
  refine (HB.out _).mono ?_
  rintro e w1 ⟨rfl, hb1⟩
  have HB1 := Lib.hid hb1
  clear hb1
  go_wp2_with ((go_at_call 11; refine (awake_any _).mono ?_; rintro e w3 ⟨rfl, hb3⟩; have HB3 := Lib.hid (HB1.out.trans (hb3.mono HB1.out.size)); clear hb3))
  go_ret
  exact ⟨ret_bool (by simp), HB3.out⟩
set_option maxRecDepth 100000 in
set_option maxHeartbeats 4000000 in
theorem walk_good (a0 a1 K B C : ByteArray) (f g : Int) (w : World) (z0 : a0.size ≤ maxLen) (z1 : a1.size ≤ maxLen) (zK : K.size ≤ 60) (hB : Btw a0 a1 K 0) (hB1 : Btw a0 K B f) (hB2 : Btw K a1 C g)
    (hv : ∀ W, Calls Try.prog 14 #[.string K] W fun e w' => e = .returned (.bool true) ∧ W = w') (hl : a0.toList = [] ∨ ¬ a0.toList = [] ∧ Op.bytesLess a0.toList K.toList = true) (hh : a1.toList = [] ∨ ¬ a1.toList = [] ∧ Op.bytesLess K.toList a1.toList = true)
    (hs : ¬ K.size < 60 ∨ K.size < 60 ∧ ¬ a0.size < 60 ∨ K.size < 60 ∧ a0.size < 60 ∧ ¬ a1.size < 60 ∨ K.size < 60 ∧ a0.size < 60 ∧ a1.size < 60 ∧ f = 0 ∧ g = 0 ∧ Op.bytesLess B.toList K.toList = true ∧ Op.bytesLess K.toList C.toList = true) :
    Calls Try.prog 7 #[.string a0, .string a1] w fun e w' => e = .returned (.bool true) ∧ Below w.heap.size w w' := by
  have HB := Lib.hid hB
  have HBB := Lib.hid hB1
  have HBC := Lib.hid hB2
  have HV := Lib.hid hv
  unfold maxLen at z0 z1
  have ie : ∀ s : ByteArray, s.toList = [] → s.toList.isEmpty = true := fun s h => by rw [h]; rfl
  have ine : ∀ s : ByteArray, ¬ s.toList = [] → s.toList.isEmpty = false := fun s h => by cases hs : s.toList with | nil => exact absurd hs h | cons => rfl
  clear hB hB1 hB2 hv
  rcases hl with hl | ⟨hl, hl2⟩ <;> rcases hh with hh | ⟨hh, hh2⟩ <;> rcases hs with s1 | ⟨s1, s2⟩ | ⟨s1, s2, s3⟩ | ⟨s1, s2, s3, rfl, rfl, s4, s5⟩
  all_goals
    first | have hl3 := ie a0 hl | have hl3 := ine a0 hl
    first | have hh3 := ie a1 hh | have hh3 := ine a1 hh
    clear ie ine
    go_enter Try.func7, Try.ntmps7
    go_wp2_with fail
    refine (HB.out _).mono ?_
    rintro e w1 ⟨rfl, hb1⟩
    have HB1 := Lib.hid hb1
    clear hb1
    go_wp2_with ((go_at_call 14; (with_reducible refine (HV.out _).mono ?_); rintro e w' ⟨rfl, rfl⟩))
    refine (HBB.out _).mono ?_
    rintro e w2 ⟨rfl, hb2⟩
    have HB2 := Lib.hid (HB1.out.trans (hb2.mono HB1.out.size))
    clear hb2
    go_wp2_with fail
    refine (HBC.out _).mono ?_
    rintro e w3 ⟨rfl, hb3⟩
    have HB3 := Lib.hid (HB2.out.trans (hb3.mono HB2.out.size))
    clear hb3
    go_wp2_with ((go_at_call 11; refine (awake_any _).mono ?_; rintro e w4 ⟨rfl, hb4⟩; have HB4 := Lib.hid (HB3.out.trans (hb4.mono HB3.out.size)); clear hb4))
    go_ret
    exact ⟨ret_bool (by simp), HB4.out⟩
theorem walk (a0 : ByteArray) (a1 : ByteArray) (w : World) (z0 : a0.size ≤ 140737488351232) (z1 : a1.size ≤ 140737488351232) :
    Calls Try.prog 7 #[.string a0, .string a1] w fun e w' => e = .returned (.bool true) ∧ Below w.heap.size w w' := by
  have m0 : a0.size ≤ maxLen := by unfold maxLen; omega
  have m1 : a1.size ≤ maxLen := by unfold maxLen; omega
  have t0 : a0.toList = a0.data.toList := ByteArray.toList_eq _
  have t1 : a1.toList = a1.data.toList := ByteArray.toList_eq _
  have n0 := data_len a0
  have n1 := data_len a1
  by_cases he : (betweenP a0.data.toList a1.data.toList).2 = 0
  · obtain ⟨a, ha⟩ : ∃ a, betweenP a0.data.toList a1.data.toList = (a, 0) := ⟨(betweenP a0.data.toList a1.data.toList).1, by rw [← he]⟩
    obtain ⟨b1, b2, b3, b4, b5, _⟩ := between_ok ha
    have hal := ((vld_iff a).1 b1).2.1
    have hsz := strL_size a
    have mK : (strL a).size ≤ maxLen := by unfold maxLen; omega
    have hv := fun W => by have h := valid_list a W (by unfold maxLen; omega); rw [b1] at h; exact h
    have hB := btw_of a0 a1 m0 m1 ha
    have hB1 := btw_of a0 (strL a) m0 mK (k := (betweenP a0.data.toList a).1) (en := (betweenP a0.data.toList a).2) (by rw [strL_list])
    have hB2 := btw_of (strL a) a1 mK m1 (k := (betweenP a a1.data.toList).1) (en := (betweenP a a1.data.toList).2) (by rw [strL_list])
    refine walk_good a0 a1 (strL a) _ _ _ _ w m0 m1 (by omega) hB hB1 hB2 hv ?_ ?_ ?_
    · by_cases h : a0.toList = []
      · exact .inl h
      · exact .inr ⟨h, by rw [t0, strL_toList]; exact b2⟩
    · by_cases h : a1.toList = []
      · exact .inl h
      · refine .inr ⟨h, ?_⟩
        rw [und_iff] at b3
        rcases b3 with b3 | b3
        · exact absurd (t1.trans b3) h
        · rw [t1, strL_toList]; exact b3
    · by_cases s1 : (strL a).size < 60
      · by_cases s2 : a0.size < 60
        · by_cases s3 : a1.size < 60
          · right; right; right
            have hba : bndB a = true := by unfold bndB; rw [b1]; simp
            obtain ⟨k, k1, k2, k3⟩ := between_exists (bnd_lets b4).1 (by omega) b1 (by omega) b2
            obtain ⟨b, hb, _⟩ := between_found b4 hba k1 k2 ((und_iff k a).2 (.inr k3))
            have hex : ∃ k, vldB k = true ∧ bl a k = true ∧ undB k a1.data.toList = true := by
              rw [und_iff] at b3
              rcases b3 with b3 | b3
              · exact ⟨a ++ [110], vld_snoc (bnd_lets hba).1 (by omega), bl_pre _ _ _, (und_iff _ _).2 (.inl b3)⟩
              · have hv1 : vldB a1.data.toList = true := by
                  unfold bndB at b5
                  cases hem : a1.data.toList.isEmpty with
                  | true => rw [List.isEmpty_iff.1 hem, bl_nil] at b3; cases b3
                  | false => rw [hem] at b5; exact b5
                obtain ⟨k, k1, k2, k3⟩ := between_exists (bnd_lets hba).1 (by omega) hv1 (by omega) b3
                exact ⟨k, k1, k2, (und_iff _ _).2 (.inr k3)⟩
            obtain ⟨k', k1', k2', k3'⟩ := hex
            obtain ⟨c, hc, _⟩ := between_found hba b5 k1' k2' k3'
            have hob := between_ok hb
            have hoc := between_ok hc
            refine ⟨s1, s2, s3, by rw [hb], by rw [hc], ?_, ?_⟩
            · rw [hb, strL_toList, strL_toList]
              have h := (und_iff _ _).1 hob.2.2.1
              rcases h with h | h
              · exact absurd h ((vld_iff a).1 b1).1
              · exact h
            · rw [hc, strL_toList, strL_toList]
              exact hoc.2.1
          · exact .inr (.inr (.inl ⟨s1, s2, s3⟩))
        · exact .inr (.inl ⟨s1, s2⟩)
      · exact .inl s1
  · refine walk_bad a0 a1 _ w ?_ he
    have hB := btw_of a0 a1 m0 m1 (k := (betweenP a0.data.toList a1.data.toList).1) (en := (betweenP a0.data.toList a1.data.toList).2) rfl
    rw [between_bad he] at hB
    exact hB
set_option maxRecDepth 100000 in
theorem lifted (os : Os) (started : os.Started) (H : Type) (enc : TypeId × Value → H) :
    ReturnsInHanded {} Try.checked os 7 .any (Rows.positionInsideSpec.pre6 enc Try.prog Try.f7 Rows.positionInsideRow.domain false) (Rows.positionInsideSpec.post enc Try.prog Try.f7 false true false false) := by
  refine returnsInHanded_of_change_sized (C := Try.checked) own started (by kernel_rfl) Try.func7
    (ChangeSpec.witness6 (enc := enc) (C := Try.checked) false ⟨#[], #[.string ByteArray.empty, .string ByteArray.empty], []⟩ 8 (by kernel_rfl) (by kernel_rfl) (by kernel_rfl) (by kernel_rfl)) ?_
  intro W base args ds gs before hval0 hW hcnd hsz0 _
  have hval : ∀ (j : Nat) t v, Try.f7.params[j]? = some t → args[j]? = some v → Value.okWide Try.prog W .any base t v := hval0
  have hW' := hW
  obtain ⟨p, q, hA0, hV, rfl, hfz, hnd⟩ := hW
  have hA : DataW.TrodAll enc Try.prog W 0 (fun _ => true) true Try.f7.params.toList args.toList ds p := hA0
  have hsz : (DataW.weightsEach Try.prog (Try.f7.params.toList ++ Rows.positionInsideSpec.plain.varTypes Try.prog) (ds ++ gs)).all (· ≤ reachBytes) = true := hsz0
  rw [Try.params7] at hA hval hsz
  obtain ⟨v0, vs0, d0, ds0, p0, q0, hargs, rfl, rfl, h0, r0⟩ := trodAll_cons hA
  obtain ⟨v1, vs1, d1, ds1, p1, q1, rfl, rfl, rfl, h1, r1⟩ := trodAll_cons r0
  obtain ⟨rfl, rfl, rfl⟩ := trodAll_nil r1
  obtain rfl : args = #[v0, v1] := by cases args; simp_all
  obtain ⟨rfl, rfl⟩ := trodVars_none hV
  obtain ⟨a0, rfl, rfl, rfl, w0⟩ := open_string Try.underlying9 (hval 0 9 v0 rfl rfl) h0
  obtain ⟨a1, rfl, rfl, rfl, w1⟩ := open_string Try.underlying9 (hval 1 9 v1 rfl rfl) h1
  have z0 : a0.size ≤ 140737488351232 := by
    have := sized_string hsz (j := 0) (t := 9) (bytes := a0.data.toList) rfl rfl
    simpa [reachBytes] using this
  have z1 : a1.size ≤ 140737488351232 := by
    have := sized_string hsz (j := 1) (t := 9) (bytes := a1.data.toList) rfl rfl
    simpa [reachBytes] using this
  clear hA0 hval0
  simp only [List.append_nil] at hW'
  refine (walk a0 a1 W z0 z1).mono fun e W' ⟨he, bel⟩ => ?_
  subst he
  exact ⟨_, rfl, _, _, _, [], [], [], hW', trodAll_mk1 (shut_bool Try.underlying4 _), (trodAll_cons_mk (shut_string Try.underlying9 w0) (trodAll_cons_mk (shut_string Try.underlying9 w1) trodAll_mk0)), rfl, bel.frame _, fun h => by cases h⟩
theorem proved : Rows.PositionInsideSaid :=
  OpenClaim.holds_of_wide 7 Try.f7 rfl rfl rfl rfl rfl rfl rfl ⟨rfl, rfl, rfl, rfl, rfl⟩ rfl rfl rfl rfl rfl (by kernel_rfl) Try.func7 (by kernel_rfl)
    (of_decide_eq_true (by kernel_rfl)) (by unfold Func.isWrapper; first | (rw [if_pos (by decide +kernel)]; kernel_rfl) | (rw [if_neg (by decide +kernel)]; exact ⟨rfl, rfl⟩))
    (fun os started H enc _ => lifted os started H enc)
#print axioms proved
end Go.Proofs.Ytedlfjolmhkpdaa.positionInside
