/- The law SyntaxLevels holds for every input: the call returns true, and each argument reads as it read. No condition. -/
import Derived.Test.YtipkmffhebachaaSynAwakes
import Derived.Test.YtipkmffhebachaaSynLvPure
import Derived.Test.YtipkmffhebachaaTrInts
import Derived.ProofKit
import Derived.OpenShut
import Derived.ShutString
import Derived.ChangeOld
import Derived.SizedLaws
namespace Go.Proofs.Ytipkmffhebachaa.syntaxLevels
open Go.ChangeShapes Go.WideShapes Go.ChangeAt Go.RowKit
open Go.ChangeMaps (open_string shut_string)
set_option linter.unusedVariables false
theorem own : ownKnob Try.prog.godebug = none := by kernel_rfl
theorem laidOut : laidOutB Try.prog = true := by kernel_rfl
theorem lvTree_snoc (i : Nat) : ∀ (l : List Nat) (t : Tr), lvTree t (l ++ [i]) = .mk 21 (opT i) [⟨#[32]⟩] [lvTree t l, numTr]
  | [], t => rfl
  | a :: r, t => by
    show lvTree _ (r ++ [i]) = _
    rw [lvTree_snoc i r]
    rfl
theorem lvSrc_snoc (i : Nat) (l : List Nat) : lvSrc (l ++ [i]) = lvSrc l ++ ⟨#[32]⟩ ++ opT i ++ ⟨#[32, 49]⟩ := by
  unfold lvSrc
  rw [List.foldl_append]
  rfl
theorem lvSrc_size (l : List Nat) (h : l.length ≤ 30) : (lvSrc l).size ≤ 200 := by
  have := lv_size l ⟨#[109, 111, 100, 117, 108, 101, 32, 77, 32, 100, 101, 102, 32, 102, 40, 41, 58, 32, 73, 110, 116, 32, 61, 32, 48]⟩
  have h2 : (⟨#[109, 111, 100, 117, 108, 101, 32, 77, 32, 100, 101, 102, 32, 102, 40, 41, 58, 32, 73, 110, 116, 32, 61, 32, 48]⟩ : ByteArray).size = 25 := rfl
  unfold lvSrc
  omega
theorem opT_size (i : Nat) : (opT i).size ≤ 2 := by
  unfold opT
  repeat' split
  all_goals decide
def opsO : Obj := .cells #[.string ⟨#[43]⟩, .string ⟨#[45]⟩, .string ⟨#[42]⟩, .string ⟨#[60]⟩, .string ⟨#[61, 61]⟩] 37
theorem ops_cell {w : World} {b M : Nat} (h : w.heap[b]? = some opsO) (hM : M < 5) : w.cell? ⟨b, M, none⟩ = some (.string (opT M)) := by
  refine cells_of h M _ ?_
  rcases (show M = 0 ∨ M = 1 ∨ M = 2 ∨ M = 3 ∨ M = 4 from by omega) with rfl | rfl | rfl | rfl | rfl <;> rfl
/-- The operators that the numbers stand for. -/
def opsOf (zs : List Int) : List Nat := zs.map fun z => (modM z 5).toNat
def SrcAt (zs : List Int) (W : World) (v i : Value) (wr : World) : Prop := ∃ k : Nat, i = .int .i64 k ∧ k ≤ zs.length ∧ v = .string (lvSrc ((opsOf zs).take k)) ∧ W = wr
theorem ops_take {zs : List Int} {k : Nat} {z : Int} (h : zs[k]? = some z) : (opsOf zs).take (k + 1) = (opsOf zs).take k ++ [(modM z 5).toNat] := by
  have : (opsOf zs)[k]? = some (modM z 5).toNat := by unfold opsOf; rw [List.getElem?_map, h]; rfl
  rw [List.take_add_one, this]
  rfl
/-- The second loop: how many operators are left, where x is. -/
def LvAt (zs : List Int) (w : World) (B : Nat) (W : World) (S : Nat → Prop) (i : Value) (wr : World) : Prop :=
  ∃ (j : Nat) (x : TV), i = .int .i64 ((j : Int) - 1) ∧ j ≤ zs.length ∧ wr.heap[B + 1]? = some (.cells #[.int .i64 x.kind, .string x.text, .slice x.la x.ll x.lc, .slice x.ka x.kl x.kc] 26) ∧ TrAt S wr (lvTree zeroTr ((opsOf zs).take j)) x ∧ Rest (fun k => k = B + 1) W wr
theorem rest_below {B b : Nat} {w W wr : World} (h : Below B w W) (hr : Rest (fun k => k = b) W wr) (hb : B ≤ b) (hB : B ≤ W.heap.size) : Below B w wr := ⟨hr.os.trans h.os, hr.tape.trans h.tape, hr.output.trans h.output, Nat.le_trans h.size hr.size, fun k hk => (hr.block k (Nat.lt_of_lt_of_le hk hB) (by omega)).trans (h.block k hk)⟩
set_option maxRecDepth 100000 in
set_option maxHeartbeats 4000000 in
theorem walk_short (A : Option Addr) (c : Nat) (zs : List Int) (w : World) (hA : Hid (IntsAt w A zs)) (hn : zs.length ≤ 30) :
    Calls Try.prog 6 #[.slice A zs.length c] w fun e w' => e = .returned (.bool true) ∧ Below w.heap.size w w' := by
  have d1 : decide (30 < (zs.length : Int)) = false := decide_eq_false (by omega)
  have HB0 := Lib.hid ((Below.refl w.heap.size w).alloc (Nat.le_refl _) opsO)
  have HA0 := hA
  have HA := Lib.hid (hA.out.keep HB0.out)
  have HG := Lib.hid (heap_alloc_new w opsO)
  have HN := Lib.hid hn
  clear hA
  go_enter Try.func6, Try.ntmps6
  go_wp2
  go_loopw [4, 5] (fun v i wr => SrcAt zs (w.alloc opsO) v i wr) (fun _ i _ => zs.length - (intOf i).toNat)
  case atStart => exact ⟨0, rfl, Nat.zero_le _, rfl, rfl⟩
  case round =>
    obtain ⟨k, rfl, hk, rfl, rfl⟩ := hrel
    by_cases hlt : k < zs.length
    · obtain ⟨z, hz⟩ : ∃ z, zs[k]? = some z := ⟨_, List.getElem?_eq_getElem hlt⟩
      obtain ⟨b, off, hA, _, hc⟩ := HA.out.at hlt
      have c0 := hc k z hz
      subst hA
      have hb := modM_bd z (m := 5) (by decide)
      obtain ⟨M, hM⟩ : ∃ M : Nat, (M : Int) = modM z 5 := ⟨(modM z 5).toNat, by omega⟩
      have HM := Lib.hid hM
      have hM5 : M < 5 := by omega
      have hT := ops_take hz
      rw [show (modM z 5).toNat = M from by omega] at hT
      have HT := Lib.hid (show lvSrc ((opsOf zs).take (k + 1)) = _ from (congrArg lvSrc hT).trans (lvSrc_snoc M _))
      have oc := ops_cell HG.out hM5
      have hs1 : (lvSrc ((opsOf zs).take k)).size ≤ 200 := lvSrc_size _ (by rw [List.length_take]; have : (opsOf zs).length = zs.length := List.length_map ..; omega)
      have hs2 := opT_size M
      have hq1 := fun w : World => run_string_add_sum (P := Try.prog) w (lvSrc ((opsOf zs).take k)) ⟨#[32]⟩ (by show _ + 1 ≤ _; omega)
      have hq2 := fun w : World => run_string_add_sum (P := Try.prog) w (lvSrc ((opsOf zs).take k) ++ ⟨#[32]⟩) (opT M) (by rw [ByteArray.size_append]; show _ + 1 + _ ≤ _; omega)
      have hq3 := fun w : World => run_string_add_sum (P := Try.prog) w (lvSrc ((opsOf zs).take k) ++ ⟨#[32]⟩ ++ opT M) ⟨#[32, 49]⟩ (by rw [ByteArray.size_append, ByteArray.size_append]; show _ + 1 + _ + 2 ≤ _; omega)
      clear hs1 hs2 hT hM hb hc hz
      go_wp2_with (go_at_call 18; refine (mod_is _ _ M _ (by decide) (by decide) HM.out).mono ?_; rintro e w' ⟨rfl, rfl⟩)
      go_roundw
      case rel => exact ⟨k + 1, by go_num, by omega, by rw [HT.out], rfl⟩
      case measure => simp [intOf]; omega
    · have hkn : k = zs.length := by omega
      subst hkn
      have hO : (opsOf zs).take zs.length = opsOf zs := List.take_of_length_le (by unfold opsOf; rw [List.length_map]; exact Nat.le_refl _)
      have hol : (opsOf zs).length ≤ 30 := by unfold opsOf; rw [List.length_map]; exact HN.out
      have HP := Lib.hid (lv_parse (opsOf zs) hol)
      have HSZ := Lib.hid (show (lvSrc (opsOf zs)).size ≤ maxLen from Nat.le_trans (lvSrc_size _ hol) (by decide))
      rw [hO]
      clear hO hol hlt hk
      go_wp2_with fail
      go_at_call 10
      refine (parse_syn (n := 104) (Nat.le_of_ble_eq_true rfl) _ HSZ.out HP.out).mono ?_
      rintro e w1 ⟨v, rfl, ht, hb⟩
      have HB := Lib.hid (HB0.out.trans (hb.mono HB0.out.size))
      have HA1 := Lib.hid (HA.out.keep hb)
      have HG1 := Lib.hid ((hb.block w.heap.size (lt_of_heap HG.out)).trans HG.out)
      have ht : TrAt (fun k => (w.alloc opsO).heap.size ≤ k ∧ k < w1.heap.size) w1 (modTr (lvTree zeroTr (opsOf zs))) v := ht
      obtain ⟨g1, e2, e3, e4⟩ := ht.kl
      obtain ⟨kb, ko, hka⟩ : ∃ b off, v.ka = some ⟨b, off, none⟩ := ht.addr.resolve_left (by show (1 : Nat) ≠ 0; decide)
      obtain ⟨u, c0, c1, c2, c3, hu⟩ := ht.at hka (j := 0) (k := defTr (lvTree zeroTr (opsOf zs))) rfl
      obtain ⟨g2, f2, f3, f4⟩ := hu.kl
      obtain ⟨ub, uo, hua⟩ : ∃ b off, u.ka = some ⟨b, off, none⟩ := hu.addr.resolve_left (by show (2 : Nat) ≠ 0; decide)
      obtain ⟨y, y0, y1, y2, y3, hy⟩ := hu.at hua (j := 1) (k := lvTree zeroTr (opsOf zs)) rfl
      have e1 : v.kl = 1 := g1
      have f1 : u.kl = 2 := g2
      have HY := Lib.hid hy
      have kblt : kb < w1.heap.size := World.block_lt_of_cell? w1 _ c3
      have ublt : ub < w1.heap.size := World.block_lt_of_cell? w1 _ y3
      rw [f1, hua] at c3
      obtain ⟨vk, vx, vla, vll, vlc, vka, vkl, vkc⟩ := v
      simp only at e1 hka
      subst e1 hka
      simp only [Nat.zero_mul, Nat.add_zero, Nat.one_mul] at c0 c1 c2 c3 y0 y1 y2 y3
      clear ht hb hu hy e2 e3 e4 f1 f2 f3 f4 HP HSZ g1 g2
      dsimp only
      simp only [show ((0 : Nat) : Int) = 0 from rfl]
      go_step
      repeat (first | go_values | go_skip | go_guarded | go_step | go_upon)
      have hb2 : Below w1.heap.size w1 ((w1.alloc (.cells #[.int .i64 vk, .string vx, .slice vla vll vlc, .slice (some ⟨kb, ko, none⟩) 1 vkc] 26)).alloc (.cells #[.int .i64 y.kind, .string y.text, .slice y.la y.ll y.lc, .slice y.ka y.kl y.kc] 26)) := ((Below.refl w1.heap.size w1).alloc (Nat.le_refl _) _).alloc (by rw [World.size_alloc]; omega) _
      have HB2 := Lib.hid (HB.out.trans (hb2.mono HB.out.size))
      have HA2 := Lib.hid (HA1.out.keep hb2)
      have HG2 := Lib.hid ((hb2.block w.heap.size (lt_of_heap HG1.out)).trans HG1.out)
      have HX2 := Lib.hid (show ((w1.alloc (.cells #[.int .i64 vk, .string vx, .slice vla vll vlc, .slice (some ⟨kb, ko, none⟩) 1 vkc] 26)).alloc (.cells #[.int .i64 y.kind, .string y.text, .slice y.la y.ll y.lc, .slice y.ka y.kl y.kc] 26)).heap[w1.heap.size + 1]? = some (.cells #[.int .i64 y.kind, .string y.text, .slice y.la y.ll y.lc, .slice y.ka y.kl y.kc] 26) from by rw [← World.size_alloc w1 (.cells #[.int .i64 vk, .string vx, .slice vla vll vlc, .slice (some ⟨kb, ko, none⟩) 1 vkc] 26)]; exact heap_alloc_new _ _)
      have HY2 := Lib.hid (HY.out.keep hb2)
      have HWL := Lib.hid (show w.heap.size < w1.heap.size from lt_of_heap HG1.out)
      clear hb2 c0 c1 c2 c3 y0 y1 y2 y3 kblt ublt HY HA1 HG1 HB HA HB0 HG
      generalize (w1.alloc (.cells #[.int .i64 vk, .string vx, .slice vla vll vlc, .slice (some ⟨kb, ko, none⟩) 1 vkc] 26)).alloc (.cells #[.int .i64 y.kind, .string y.text, .slice y.la y.ll y.lc, .slice y.ka y.kl y.kc] 26) = W2 at HB2 HA2 HG2 HX2 HY2 ⊢
      go_loopw [10] (fun i wr => LvAt zs w w1.heap.size W2 (fun k => (w.alloc opsO).heap.size ≤ k ∧ k < w1.heap.size) i wr) (fun i _ => (intOf i + 1).toNat)
      case atStart =>
        have hO : (opsOf zs).take zs.length = opsOf zs := List.take_of_length_le (by unfold opsOf; rw [List.length_map]; exact Nat.le_refl _)
        exact ⟨zs.length, y, rfl, Nat.le_refl _, HX2.out, by rw [hO]; exact HY2.out, Rest.refl _ _⟩
      case round =>
        obtain ⟨j, x, rfl, hj, hx, hxt, hr⟩ := hrel
        have HX := Lib.hid hx
        have HXT := Lib.hid hxt
        have HR := Lib.hid hr
        have HJ := Lib.hid hj
        clear hx hxt hr hj
        have x0 := cells_of HX.out 0 _ rfl
        have x1 := cells_of HX.out 1 _ rfl
        have x2 := cells_of HX.out 2 _ rfl
        have x3 := cells_of HX.out 3 _ rfl
        cases j with
        | zero =>
          have hz := HXT.out.kl
          have h1 : x.kind = 10 := hz.2.2.1
          have h2 : x.text = ⟨#[48]⟩ := hz.2.2.2
          rw [h1] at x0
          rw [h2] at x1
          have HXX := Lib.hid HX.out
          clear hz
          go_wp2_with fail
          go_at_call 9
          refine (awake_syn _).mono ?_
          rintro e w3 ⟨rfl, hb3⟩
          have hg3 := (hb3.block (w1.heap.size + 1) (lt_of_heap HX.out)).trans HX.out
          have HB3 := Lib.hid ((rest_below HB2.out HR.out (by have := HWL.out; omega) HB2.out.size).trans (hb3.mono (Nat.le_trans HB2.out.size HR.out.size)))
          clear x0 x1 x2 x3 hb3
          have x0 := cells_of hg3 0 _ rfl
          have x1 := cells_of hg3 1 _ rfl
          rw [h1] at x0
          rw [h2] at x1
          clear hg3
          go_wp2_with fail
          go_ret
          exact ⟨rfl, HB3.out⟩
        | succ m =>
          rw [show (((m + 1 : Nat) : Int) - 1) = (m : Int) from by omega]
          have hm : m < zs.length := by have := HJ.out; omega
          obtain ⟨z, hz⟩ : ∃ z, zs[m]? = some z := ⟨_, List.getElem?_eq_getElem hm⟩
          have hbw := rest_below HB2.out HR.out (by have := HWL.out; omega) HB2.out.size
          have HBW := Lib.hid hbw
          obtain ⟨b, off, hA, hbl, hc⟩ := (HA0.out.keep hbw).at hm
          have c0 := hc m z hz
          have hb := modM_bd z (m := 5) (by decide)
          obtain ⟨M, hM⟩ : ∃ M : Nat, (M : Int) = modM z 5 := ⟨(modM z 5).toNat, by omega⟩
          have HM := Lib.hid hM
          have hM5 : M < 5 := by omega
          have hT := ops_take hz
          rw [show (modM z 5).toNat = M from by omega] at hT
          have hT2 : lvTree zeroTr ((opsOf zs).take (m + 1)) = .mk 21 (opT M) [⟨#[32]⟩] [lvTree zeroTr ((opsOf zs).take m), numTr] := (congrArg (lvTree zeroTr) hT).trans (lvTree_snoc M _ _)
          have oc := ops_cell ((HR.out.block w.heap.size (lt_of_heap HG2.out) (by have := HWL.out; omega)).trans HG2.out) hM5
          have ht : TrAt (fun k => (w.alloc opsO).heap.size ≤ k ∧ k < w1.heap.size) wr (.mk 21 (opT M) [⟨#[32]⟩] [lvTree zeroTr ((opsOf zs).take m), numTr]) x := by rw [← hT2]; exact HXT.out
          obtain ⟨g1, e2, g3, g4⟩ := ht.kl
          obtain ⟨xb, xo, hxa⟩ : ∃ b off, x.ka = some ⟨b, off, none⟩ := ht.addr.resolve_left (by show (2 : Nat) ≠ 0; decide)
          obtain ⟨y, y0, y1, y2, y3, hy⟩ := ht.at hxa (j := 0) (k := lvTree zeroTr ((opsOf zs).take m)) rfl
          obtain ⟨q, q0, q1, q2, q3, hq⟩ := ht.at hxa (j := 1) (k := numTr) rfl
          obtain ⟨f1, f2, g5, g6⟩ := hq.kl
          have HY := Lib.hid hy
          have xblt : xb < wr.heap.size := World.block_lt_of_cell? wr _ y3
          obtain ⟨xk, xt, xla, xll, xlc, xka, xkl, xkc⟩ := x
          have e1 : xkl = 2 := g1
          have e3 : xk = 21 := g3
          have e4 : xt = opT M := g4
          have f3 : q.kind = 10 := g5
          have f4 : q.text = ⟨#[49]⟩ := g6
          simp only at hxa
          subst e1 e3 e4 hxa hA
          rw [f3] at q0
          rw [f4] at q1
          simp only [Nat.zero_mul, Nat.add_zero, Nat.one_mul] at y0 y1 y2 y3 q0 q1 q2 q3
          have hxlt := lt_of_heap HX.out
          have rf := Lib.frozen_of_heap HX.out
          have hMi : (M : Int) < 5 := by omega
          have hM0 : (0 : Int) ≤ (M : Int) := by omega
          clear hT hT2 ht hy hq e2 f1 f2 f3 f4 g1 g3 g4 g5 g6 hM hb hc hz hbw
          go_wp2_with fail
          go_region_law (go_simp; go_at_call 18; refine (mod_is _ _ M _ (by decide) (by decide) HM.out).mono ?_; rintro e w' ⟨rfl, rfl⟩)
          all_goals
            clear q0 q1 q2 q3 oc c0
            go_simp
            go_wp2
            go_roundw
            case measure => first | (simp [intOf]; done) | (simp [intOf]; omega)
            case rel =>
              have HRR : Rest (fun k => k = w1.heap.size + 1) wr ((((wr.drew.setCell ⟨w1.heap.size + 1, 0, none⟩ (.int .i64 y.kind)).setCell ⟨w1.heap.size + 1, 1, none⟩ (.string y.text)).setCell ⟨w1.heap.size + 1, 2, none⟩ (.slice y.la y.ll y.lc)).setCell ⟨w1.heap.size + 1, 3, none⟩ (.slice y.ka y.kl y.kc)) := Rest.trans (Rest.trans (Rest.trans (Rest.trans Rest.drew (Rest.set1 _ _ _)) (Rest.set1 _ _ _)) (Rest.set1 _ _ _)) (Rest.set1 _ _ _)
              refine ⟨m, y, by go_num, by omega, ?_, ?_, HR.out.trans HRR⟩
              · exact heap_set (heap_set (heap_set (heap_set (w := wr.drew) HX.out rfl) rfl) rfl) rfl
              · exact TrAt.move (fun _ h => h) (fun k hk hlt => HRR.block k hlt (fun e : k = w1.heap.size + 1 => by have := hk.2; omega)) _ _ HY.out
theorem walk (A0 : Option Addr) (cap0 : Nat) (zs0 : List Int) (w : World) (i0 : IntsAt w A0 zs0) (l0 : zs0.length ≤ maxLen) :
    Calls Try.prog 6 #[.slice A0 zs0.length cap0] w fun e w' => e = .returned (.bool true) ∧ Below w.heap.size w w' := by
  by_cases h : 30 < zs0.length
  · have d1 : decide (30 < (zs0.length : Int)) = true := decide_eq_true (by omega)
    go_enter Try.func6, Try.ntmps6
    go_wp2_with (go_at_call 9; refine (awake_syn _).mono ?_; rintro e w1 ⟨rfl, hb⟩; have HB := Lib.hid hb; clear hb)
    go_ret
    exact ⟨rfl, HB.out⟩
  · exact walk_short _ _ zs0 w (Lib.hid i0) (by omega)
set_option maxRecDepth 100000 in
theorem lifted (os : Os) (started : os.Started) (H : Type) (enc : TypeId × Value → H) :
    ReturnsInHanded {} Try.checked os 6 .any (Rows.syntaxLevelsSpec.pre6 enc Try.prog Try.f6 Rows.syntaxLevelsRow.domain false) (Rows.syntaxLevelsSpec.post enc Try.prog Try.f6 false true false false) := by
  refine returnsInHanded_of_change_sized (C := Try.checked) own started (by kernel_rfl) Try.func6
    (ChangeSpec.witness6 (enc := enc) (C := Try.checked) false ⟨#[], #[.slice none 0 0], []⟩ 8 (by kernel_rfl) (by kernel_rfl) (by kernel_rfl) (by kernel_rfl)) ?_
  intro W base args ds gs before hval0 hW hcnd hsz0 _
  have hval : ∀ (j : Nat) t v, Try.f6.params[j]? = some t → args[j]? = some v → Value.okWide Try.prog W .any base t v := hval0
  have hW' := hW
  obtain ⟨p, q, hA0, hV, rfl, hfz, hnd⟩ := hW
  have hA : DataW.TrodAll enc Try.prog W 0 (fun _ => true) true Try.f6.params.toList args.toList ds p := hA0
  have hsz : (DataW.weightsEach Try.prog (Try.f6.params.toList ++ Rows.syntaxLevelsSpec.plain.varTypes Try.prog) (ds ++ gs)).all (· ≤ reachBytes) = true := hsz0
  rw [Try.params6] at hA hval hsz
  obtain ⟨v0, vs0, d0, ds0, p0, q0, hargs, rfl, rfl, h0, r0⟩ := trodAll_cons hA
  obtain ⟨rfl, rfl, rfl⟩ := trodAll_nil r0
  obtain rfl : args = #[v0] := by cases args; simp_all
  obtain ⟨rfl, rfl⟩ := trodVars_none hV
  obtain ⟨a0, len0, cap0, rfl⟩ := okWide_slice Try.underlying36 (hval 0 36 v0 rfl rfl)
  have k0 := h0
  have lt0 : ∀ x ∈ p0, x.block < W.heap.size := by obtain ⟨m, hm⟩ := k0; exact DataW.trod_lt m _ _ _ hm
  obtain ⟨fuel0, hf0⟩ := h0
  obtain ⟨A0, c0, zs0, hcs0, i0, l0, _, _⟩ := open_ints1 hf0
  simp [Value.cells] at hcs0
  obtain ⟨rfl, rfl, rfl⟩ := hcs0
  clear hA0 hval0
  simp only [List.append_nil] at hW'
  refine (walk a0 cap0 zs0 W i0 l0).mono fun e W' ⟨he, bel⟩ => ?_
  subst he
  exact ⟨_, rfl, _, _, _, [], _, [], hW', trodAll_mk1 (shut_bool Try.underlying4 _), (trodAll_cons_mk (Below.trod laidOut (by kernel_rfl) (of_decide_eq_true (by kernel_rfl)) k0 bel lt0) trodAll_mk0), rfl, bel.frame _, fun h => by cases h⟩
theorem proved : Rows.SyntaxLevelsSaid :=
  OpenClaim.holds_of_wide 6 Try.f6 rfl rfl rfl rfl rfl rfl rfl ⟨rfl, rfl, rfl, rfl, rfl⟩ rfl rfl rfl rfl rfl (by kernel_rfl) Try.func6 (by kernel_rfl)
    (of_decide_eq_true (by kernel_rfl)) (by unfold Func.isWrapper; first | (rw [if_pos (by decide +kernel)]; kernel_rfl) | (rw [if_neg (by decide +kernel)]; exact ⟨rfl, rfl⟩))
    (fun os started H enc _ => lifted os started H enc)
#print axioms proved
end Go.Proofs.Ytipkmffhebachaa.syntaxLevels
