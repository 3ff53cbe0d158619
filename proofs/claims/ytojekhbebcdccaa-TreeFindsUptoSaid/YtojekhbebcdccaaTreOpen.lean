/- A tree that came in, opened: it reads as a tree in memory, and its data are at least as many as its nodes and leads. No condition. -/
import Derived.Test.YtojekhbebcdccaaTreAwake
import Derived.Deep.Slices
import Derived.ProofKit
namespace Go.Proofs.Ytojekhbebcdccaa
open Go.RowKit Go.ChangeShapes Go.WideShapes Go.Deep
mutual
/-- The nodes and leads of a tree. -/
def cntT : Tr → Nat
  | .mk _ _ ls ks => 1 + ls.length + ks.length + cntL ks
def cntL : List Tr → Nat
  | [] => 0
  | t :: r => cntT t + cntL r
end
mutual
theorem size_cnt : (t : Tr) → sizeT t ≤ cntT t
  | .mk _ _ ls ks => by rw [sizeT, cntT]; have := sizeL_cnt ks; omega
theorem sizeL_cnt : (l : List Tr) → sizeL l ≤ cntL l
  | [] => by rw [sizeL]; omega
  | t :: r => by rw [sizeL, cntL]; have := size_cnt t; have := sizeL_cnt r; omega
end
mutual
theorem fit_cnt : (t : Tr) → cntT t ≤ 1048576 → fitT t = true
  | .mk _ _ ls ks, h => by
    rw [cntT] at h
    rw [fitT, fitL_cnt ks (by omega), decide_eq_true (by omega), decide_eq_true (by omega)]
    rfl
theorem fitL_cnt : (l : List Tr) → cntL l ≤ 1048576 → fitL l = true
  | [], _ => by rw [fitL]
  | t :: r, h => by
    rw [cntL] at h
    rw [fitL, fit_cnt t (by omega), fitL_cnt r (by omega)]
    rfl
end
mutual
theorem small_cnt : (t : Tr) → cntT t ≤ 1048576 → smallT t = true
  | .mk _ _ ls ks, h => by
    rw [cntT] at h
    rw [smallT, smallL_cnt ks (by omega), decide_eq_true (by omega), decide_eq_true (by omega)]
    rfl
theorem smallL_cnt : (l : List Tr) → cntL l ≤ 1048576 → smallL l = true
  | [], _ => by rw [smallL]
  | t :: r, h => by
    rw [cntL] at h
    rw [smallL, small_cnt t (by omega), smallL_cnt r (by omega)]
    rfl
end
section
variable {H : Type} {enc : TypeId × Value → H} {w : World} {base : Nat} {spare : Nat → Bool} {held : Bool}
theorem bulk_pos (d : DataW H) : 1 ≤ Rows.uptoBulk d := by
  cases d with
  | lit l => cases l <;> simp [Rows.uptoBulk]
  | nil => simp [Rows.uptoBulk]
  | ptr d => simp [Rows.uptoBulk]
  | slice a b => simp [Rows.uptoBulk]
  | agg l => simp [Rows.uptoBulk]
  | iface t d => simp [Rows.uptoBulk]
  | map l => simp [Rows.uptoBulk]
  | held t => simp [Rows.uptoBulk]
theorem bulk_len (l : List (DataW H)) : l.length ≤ Rows.uptoBulkAll l := by
  induction l with
  | nil => exact Nat.zero_le _
  | cons a r ih =>
    rw [List.length_cons]
    have := bulk_pos a
    simp only [Rows.uptoBulkAll]
    omega
theorem cntL_bulk : (ks : List Tr) → (ds : List (DataW H)) → ks.length = ds.length → (∀ (i : Nat) (k : Tr) (d : DataW H), ks[i]? = some k → ds[i]? = some d → cntT k + 1 ≤ Rows.uptoBulk d) → ks.length + cntL ks ≤ Rows.uptoBulkAll ds
  | [], ds, _, _ => by rw [cntL]; exact Nat.zero_le _
  | k :: r, [], h, _ => by cases h
  | k :: r, d :: ds, h, hh => by
    have h1 := hh 0 k d rfl rfl
    have h2 := cntL_bulk r ds (by simpa using h) (fun i k' d' hk hd => hh (i + 1) k' d' (by simpa using hk) (by simpa using hd))
    rw [cntL, List.length_cons]
    simp only [Rows.uptoBulkAll]
    omega
theorem cells_tree : Try.prog.cellsOf 25 = 4 := by kernel_rfl
theorem cells_string : Try.prog.cellsOf 9 = 1 := by kernel_rfl
theorem cells_texts : Try.prog.cellsOf 22 = 1 := by kernel_rfl
theorem cells_trees : Try.prog.cellsOf 23 = 1 := by kernel_rfl
theorem bind_some {α β : Type} {x : Option α} {f : α → Option β} {y : β} (h : x.bind f = some y) : ∃ a, x = some a ∧ f a = some y := by
  cases x with
  | none => cases h
  | some a => exact ⟨a, rfl, h⟩
instance : Inhabited Tr := ⟨noTr⟩
instance : Inhabited TV := ⟨⟨0, ⟨#[]⟩, none, 0, 0, none, 0, 0⟩⟩
theorem plain_add (b off n : Nat) : ((⟨b, off, none⟩ : Addr).add n) = ⟨b, off + n, none⟩ := by unfold Addr.add; split <;> simp_all
theorem open_texts {fuel : Nat} {cs : List Value} {x : DataW H × List MemPlace} (h : DataW.trod enc Try.prog w base spare held fuel 22 cs = some x) :
    ∃ (A : Option Addr) (c : Nat) (ls : List ByteArray), cs = [.slice A ls.length c] ∧ StrsAt (fun _ => True) w A ls ∧ ls.length ≤ c ∧ ls.length + 1 ≤ Rows.uptoBulk x.1 := by
  rcases DataW.trod_slice Try.underlying22 h with ⟨hcs, hx⟩ | ⟨a, len, cap, elems, rest, n, _, hcs, hx, _, hl, hm, hlen, hel, _, _⟩
  · exact ⟨none, 0, [], hcs, fun h => absurd rfl h, Nat.le_refl _, by rw [hx]; exact bulk_pos _⟩
  · rw [cells_string] at hel
    obtain ⟨f, hf⟩ := choose_lt (α := ByteArray) (n := len) (p := fun i t => w.cell? (a.add i) = some (.string t)) (fun i hlt => by
      have h1 := hel i hlt
      rw [List.getElem?_eq_getElem (by omega)] at h1
      obtain ⟨cs', hc, ht⟩ := bind_some h1
      obtain ⟨l, e1, _, _⟩ := DataW.trod_string Try.underlying9 ht
      subst e1
      obtain ⟨_, _, hat⟩ := World.cells?_some hc
      refine ⟨l, ?_⟩
      have := hat 0 (by omega)
      simpa [Addr.add] using this)
    refine ⟨some a, cap, (List.range len).map f, by rw [hcs]; simp, fun hne => ?_, by rw [List.length_map, List.length_range]; exact hl, ?_⟩
    · obtain ⟨b, off, spot⟩ := a
      have h0 : 0 < len := by
        rcases Nat.eq_zero_or_pos len with h | h
        · subst h
          exact absurd rfl hne
        · exact h
      have hspot : spot = none := by
        have := World.cell?_spot (hf 0 h0)
        simpa [Addr.add] using this
      subst hspot
      refine ⟨b, off, rfl, trivial, fun i t ht => ?_⟩
      have hlt : i < len := by
        obtain ⟨h1, _⟩ := List.getElem?_eq_some_iff.1 ht
        simpa using h1
      have et : t = f i := by
        rw [List.getElem?_map, List.getElem?_range hlt] at ht
        simpa using ht.symm
      subst et
      have := hf i hlt
      rw [plain_add] at this
      exact this
    · rw [hx, List.length_map, List.length_range]
      simp only [Rows.uptoBulk]
      have := bulk_len (elems.map (·.1))
      rw [List.length_map, hlen] at this
      omega
theorem open_tree : ∀ (fuel : Nat) {cs : List Value} {x : DataW H × List MemPlace}, DataW.trod enc Try.prog w base spare held fuel 25 cs = some x →
    ∃ (t : Tr) (v : TV), cs = v.cells ∧ TrAt (fun _ => True) w t v ∧ cntT t + 1 ≤ Rows.uptoBulk x.1 := by
  intro fuel
  induction fuel using Nat.strongRecOn with
  | ind fuel ih =>
    intro cs x h
    obtain ⟨ys, n, hn, hd, hlen, hyl, hf⟩ := DataW.trod_struct Try.underlying25 h
    rw [cells_tree] at hlen
    match cs, hlen, ys, hyl with
    | [c0, c1, c2, c3], _, [y0, y1, y2, y3], _ =>
      have f0 : DataW.trod enc Try.prog w base spare held n 3 (([c0, c1, c2, c3].drop 0).take (Try.prog.cellsOf 3)) = some y0 := hf 0 _ rfl
      have f1 : DataW.trod enc Try.prog w base spare held n 9 (([c0, c1, c2, c3].drop 1).take (Try.prog.cellsOf 9)) = some y1 := hf 1 _ rfl
      have f2 : DataW.trod enc Try.prog w base spare held n 22 (([c0, c1, c2, c3].drop 2).take (Try.prog.cellsOf 22)) = some y2 := hf 2 _ rfl
      have f3 : DataW.trod enc Try.prog w base spare held n 23 (([c0, c1, c2, c3].drop 3).take (Try.prog.cellsOf 23)) = some y3 := hf 3 _ rfl
      rw [cells_int1] at f0
      rw [cells_string] at f1
      rw [cells_texts] at f2
      rw [cells_trees] at f3
      obtain ⟨k, e0, _, _⟩ := DataW.trod_int Try.underlying3 (show DataW.trod enc Try.prog w base spare held n 3 [c0] = some y0 from f0)
      obtain ⟨tx, e1, _, _⟩ := DataW.trod_string Try.underlying9 (show DataW.trod enc Try.prog w base spare held n 9 [c1] = some y1 from f1)
      obtain ⟨la, lc, ls, e2, hls, hlc, hlb⟩ := open_texts (show DataW.trod enc Try.prog w base spare held n 22 [c2] = some y2 from f2)
      have kids : ∃ (A : Option Addr) (c : Nat) (ks : List Tr), [c3] = [.slice A ks.length c] ∧ KidsIn (fun _ => True) w A ks ∧ ks.length ≤ c ∧ ks.length + cntL ks + 1 ≤ Rows.uptoBulk y3.1 := by
        rcases DataW.trod_slice Try.underlying23 (show DataW.trod enc Try.prog w base spare held n 23 [c3] = some y3 from f3) with ⟨hcs, hx⟩ | ⟨a, len, cap, elems, rest, m, hm1, hcs, hx, _, hl, hm, hlen, hel, _, _⟩
        · exact ⟨none, 0, [], hcs, fun h => absurd rfl h, Nat.le_refl _, by rw [hx, cntL]; exact bulk_pos _⟩
        · rw [cells_tree] at hel
          obtain ⟨f, hf⟩ := choose_lt (α := Tr × TV) (n := len) (p := fun i t => w.cell? (a.add (i * 4)) = some (.int .i64 t.2.kind) ∧ w.cell? ((a.add (i * 4)).add 1) = some (.string t.2.text) ∧ w.cell? ((a.add (i * 4)).add 2) = some (.slice t.2.la t.2.ll t.2.lc) ∧ w.cell? ((a.add (i * 4)).add 3) = some (.slice t.2.ka t.2.kl t.2.kc) ∧ TrAt (fun _ => True) w t.1 t.2 ∧ ∀ y, elems[i]? = some y → cntT t.1 + 1 ≤ Rows.uptoBulk y.1) (fun i hlt => by
            have h1 := hel i hlt
            rw [List.getElem?_eq_getElem (by omega)] at h1
            obtain ⟨cs', hc, ht⟩ := bind_some h1
            obtain ⟨t, v, ecs, htr, hcn⟩ := ih m (by omega) ht
            subst ecs
            obtain ⟨_, _, hat⟩ := World.cells?_some hc
            refine ⟨(t, v), ?_, hat 1 (by omega), hat 2 (by omega), hat 3 (by omega), htr, fun y hy => ?_⟩
            · have := hat 0 (by omega)
              rw [show (a.add (i * 4)).add 0 = a.add (i * 4) from by unfold Addr.add; simp] at this
              exact this
            · rw [List.getElem?_eq_getElem (by omega)] at hy
              injection hy with hy
              rw [← hy]
              exact hcn)
          refine ⟨some a, cap, (List.range len).map (fun i => (f i).1), by rw [hcs]; simp, fun hne => ?_, by rw [List.length_map, List.length_range]; exact hl, ?_⟩
          · obtain ⟨b, off, spot⟩ := a
            have h0 : 0 < len := by
              rcases Nat.eq_zero_or_pos len with h | h
              · subst h
                exact absurd rfl hne
              · exact h
            have hspot : spot = none := by
              have := World.cell?_spot (hf 0 h0).1
              simpa [Addr.add] using this
            subst hspot
            refine ⟨b, off, rfl, trivial, TrsAt.of _ off fun i t ht => ?_⟩
            have hlt : i < len := by
              obtain ⟨h1, _⟩ := List.getElem?_eq_some_iff.1 ht
              simpa using h1
            have et : t = (f i).1 := by
              rw [List.getElem?_map, List.getElem?_range hlt] at ht
              simpa using ht.symm
            subst et
            obtain ⟨g0, g1, g2, g3, g4, _⟩ := hf i hlt
            rw [plain_add] at g0 g1 g2 g3
            rw [plain_add] at g1 g2 g3
            exact ⟨(f i).2, g0, g1, g2, g3, g4⟩
          · rw [hx]
            simp only [Rows.uptoBulk]
            have := cntL_bulk ((List.range len).map (fun i => (f i).1)) (elems.map (·.1)) (by simp [hlen]) (fun i k d hk hd => by
              have hlt : i < len := by
                obtain ⟨h1, _⟩ := List.getElem?_eq_some_iff.1 hk
                simpa using h1
              have ek : k = (f i).1 := by
                rw [List.getElem?_map, List.getElem?_range hlt] at hk
                simpa using hk.symm
              subst ek
              rw [List.getElem?_map, List.getElem?_eq_getElem (show i < elems.length by omega)] at hd
              simp at hd
              subst hd
              exact (hf i hlt).2.2.2.2.2 _ (List.getElem?_eq_getElem (by omega)))
            omega
      obtain ⟨ka, kc, ks, e3, hks, hkc, hkb⟩ := kids
      simp at e0 e1 e2 e3
      refine ⟨.mk k tx ls ks, ⟨k, tx, la, ls.length, lc, ka, ks.length, kc⟩, by rw [e0, e1, e2, e3]; rfl, TrAt.make rfl rfl rfl rfl hls hks ⟨hlc, hkc⟩, ?_⟩
      rw [hd, cntT]
      simp only [List.map_cons, List.map_nil, Rows.uptoBulk, Rows.uptoBulkAll]
      have := bulk_pos y0.1
      have := bulk_pos y1.1
      omega
end
end Go.Proofs.Ytojekhbebcdccaa
