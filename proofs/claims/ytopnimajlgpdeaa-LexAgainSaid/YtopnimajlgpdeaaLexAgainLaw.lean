/- The law LexAgain holds for every input: the call returns true, and each argument reads as it read. No condition. -/
import Derived.Test.YtopnimajlgpdeaaLexAgainWalk
import Derived.Test.YtopnimajlgpdeaaLexArgs
import Derived.ProofKit
import Derived.OpenShut
import Derived.ShutString
import Derived.ChangeOld
import Derived.SizedLaws
namespace Go.Proofs.Ytopnimajlgpdeaa.lexAgain
open Go.ChangeShapes Go.WideShapes Go.ChangeAt Go.RowKit
open Go.ChangeMaps (open_string shut_string)
set_option linter.unusedVariables false
theorem own : ownKnob Try.prog.godebug = none := by kernel_rfl
theorem laidOut : laidOutB Try.prog = true := by kernel_rfl
theorem weigh_tok {H : Type} (t : Tok) : t.lead.size ∈ DataW.weights Try.prog 35 (tokData H t) ∧ t.text.size ∈ DataW.weights Try.prog 35 (tokData H t) := by
  have e1 : t.lead.data.toList.length = t.lead.size := by rw [Array.length_toList]; rfl
  have e2 : t.text.data.toList.length = t.text.size := by rw [Array.length_toList]; rfl
  unfold tokData
  simp only [DataW.weights, Try.underlying35, List.map_cons, List.map_nil, DataW.weightsEach, e1, e2]
  simp
theorem weigh_toks {H : Type} (ts : List Tok) (h : ∀ n ∈ DataW.weightsAll Try.prog 35 (ts.map (tokData H)), n ≤ 140737488351232) : (joinL ts []).length ≤ ts.length * 281474976702464 := by
  induction ts with
  | nil => exact Nat.zero_le _
  | cons t r ih =>
    have e : joinL (t :: r) [] = bl t.lead ++ bl t.text ++ joinL r [] := by unfold joinL; rw [List.flatMap_cons]; simp
    rw [List.map_cons] at h
    simp only [DataW.weightsAll, List.mem_append] at h
    have h1 := h _ (.inl (weigh_tok (H := H) t).1)
    have h2 := h _ (.inl (weigh_tok (H := H) t).2)
    have h3 := ih fun n hn => h n (.inr hn)
    rw [e, List.length_append, List.length_append, bl_length, bl_length, List.length_cons]
    omega
theorem weigh {H : Type} {ts : List Tok} {d : DataW H} (hd : (ts = [] ∧ d = .nil) ∨ ∃ sp, d = .slice (ts.map (tokData H)) sp) (h : ∀ n ∈ DataW.weights Try.prog 23 d, n ≤ 140737488351232) : (joinL ts []).length ≤ ts.length * 281474976702464 := by
  rcases hd with ⟨rfl, rfl⟩ | ⟨sp, rfl⟩
  · exact Nat.zero_le _
  · refine weigh_toks (H := H) ts fun n hn => h n ?_
    simp only [DataW.weights, Try.underlying23, List.mem_cons, List.mem_append]
    exact .inr (.inl hn)
theorem walk (A : Option Addr) (c : Nat) (ts : List Tok) (tail : ByteArray) (w : World) (ha : Toks w A ts) (hw : (joinL ts []).length ≤ ts.length * 281474976702464) (ht : tail.size ≤ 140737488351232) :
    Calls Try.prog 9 #[.slice A ts.length c, .string tail] w fun e w' => e = .returned (.bool true) ∧ Below w.heap.size w w' := by
  have htl : tail.size ≤ maxLen := by unfold maxLen; omega
  by_cases hl : 100 < ts.length
  · exact walk_long A c ts tail w ha htl hl
  · cases hz : triviaB tail true
    · exact walk_tail A c ts tail w ha htl (by omega) hz
    · have hs : bl (⟨(joinL ts (bl tail)).toArray⟩ : ByteArray) = joinL ts (bl tail) := by
        generalize joinL ts (bl tail) = x
        unfold bl suf
        simp
      have hsz := bl_size hs
      have hj : (joinL ts (bl tail)).length ≤ 4611686018427387904 := by
        rw [joinL_tail, List.length_append, bl_length]
        have : ts.length * 281474976702464 ≤ 100 * 281474976702464 := Nat.mul_le_mul_right _ (by omega)
        omega
      by_cases hg : 4096 < (joinL ts (bl tail)).length
      · exact walk_great A c ts tail w ha htl _ hs (by omega) hz (by omega) (by omega)
      · exact walk_loop A c ts tail w ha htl _ hs (by omega) hz (by omega)
set_option maxRecDepth 100000 in
theorem lifted (os : Os) (started : os.Started) (H : Type) (enc : TypeId × Value → H) :
    ReturnsInHanded {} Try.checked os 9 .any (Rows.lexAgainSpec.pre6 enc Try.prog Try.f9 Rows.lexAgainRow.domain false) (Rows.lexAgainSpec.post enc Try.prog Try.f9 false true false false) := by
  refine returnsInHanded_of_change_sized (C := Try.checked) own started (by kernel_rfl) Try.func9
    (ChangeSpec.witness6 (enc := enc) (C := Try.checked) false ⟨#[], #[.slice none 0 0, .string ByteArray.empty], []⟩ 8 (by kernel_rfl) (by kernel_rfl) (by kernel_rfl) (by kernel_rfl)) ?_
  intro W base args ds gs before hval0 hW hcnd hsz0 _
  have hval : ∀ (j : Nat) t v, Try.f9.params[j]? = some t → args[j]? = some v → Value.okWide Try.prog W .any base t v := hval0
  have hW' := hW
  obtain ⟨p, q, hA0, hV, rfl, hfz, hnd⟩ := hW
  have hA : DataW.TrodAll enc Try.prog W 0 (fun _ => true) true Try.f9.params.toList args.toList ds p := hA0
  have hsz : (DataW.weightsEach Try.prog (Try.f9.params.toList ++ Rows.lexAgainSpec.plain.varTypes Try.prog) (ds ++ gs)).all (· ≤ reachBytes) = true := hsz0
  rw [Try.params9] at hA hval hsz
  obtain ⟨v0, vs0, d0, ds0, p0, q0, hargs, rfl, rfl, h0, r0⟩ := trodAll_cons hA
  obtain ⟨v1, vs1, d1, ds1, p1, q1, rfl, rfl, rfl, h1, r1⟩ := trodAll_cons r0
  obtain ⟨rfl, rfl, rfl⟩ := trodAll_nil r1
  obtain rfl : args = #[v0, v1] := by cases args; simp_all
  obtain ⟨rfl, rfl⟩ := trodVars_none hV
  obtain ⟨a0, len0, cap0, rfl⟩ := okWide_slice Try.underlying23 (hval 0 23 v0 rfl rfl)
  have k0 := h0
  have lt0 : ∀ x ∈ p0, x.block < W.heap.size := by obtain ⟨m, hm⟩ := k0; exact DataW.trod_lt m _ _ _ hm
  obtain ⟨fuel, hf⟩ := h0
  obtain ⟨A, c, ts, hcs, htoks, hlen, hdat⟩ := open_toks hf
  simp [Value.cells] at hcs
  obtain ⟨rfl, rfl, rfl⟩ := hcs
  obtain ⟨a1, rfl, rfl, rfl, w1⟩ := open_string Try.underlying9 (hval 1 9 v1 rfl rfl) h1
  have hw0 : ∀ n ∈ DataW.weights Try.prog 23 d0, n ≤ 140737488351232 := fun n hn => by
    have := List.all_eq_true.1 hsz n (DataW.weights_mem_each (j := 0) (t := 23) (d := d0) rfl rfl n hn)
    exact of_decide_eq_true this
  have hz1 : a1.size ≤ 140737488351232 := by
    have := sized_string hsz (j := 1) (t := 9) (bytes := a1.data.toList) rfl rfl
    simpa [reachBytes] using this
  clear hA0 hval0
  refine (walk a0 cap0 ts a1 W htoks (weigh hdat hw0) hz1).mono fun e W' ⟨he, bel⟩ => ?_
  subst he
  exact ⟨_, rfl, _, _, _, [], _, [], hW', trodAll_mk1 (shut_bool Try.underlying4 _), (trodAll_cons_mk (Below.trod laidOut (by kernel_rfl) (of_decide_eq_true (by kernel_rfl)) k0 bel lt0) (trodAll_cons_mk (shut_string Try.underlying9 w1) trodAll_mk0)), rfl, bel.frame _, fun h => by cases h⟩
theorem proved : Rows.LexAgainSaid :=
  OpenClaim.holds_of_wide 9 Try.f9 rfl rfl rfl rfl rfl rfl rfl ⟨rfl, rfl, rfl, rfl, rfl⟩ rfl rfl rfl rfl rfl (by kernel_rfl) Try.func9 (by kernel_rfl)
    (of_decide_eq_true (by kernel_rfl)) (by unfold Func.isWrapper; first | (rw [if_pos (by decide +kernel)]; kernel_rfl) | (rw [if_neg (by decide +kernel)]; exact ⟨rfl, rfl⟩))
    (fun os started H enc _ => lifted os started H enc)
#print axioms proved
end Go.Proofs.Ytopnimajlgpdeaa.lexAgain
