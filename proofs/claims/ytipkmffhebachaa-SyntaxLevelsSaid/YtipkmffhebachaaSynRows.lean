/- Rows of trees of a call's own. No condition. -/
import Derived.Test.YtipkmffhebachaaSynToken
namespace Go.Proofs.Ytipkmffhebachaa
open Go.RowKit
def TrsIn (S : Nat → Prop) (w : World) (ts : List Tr) (vs : List TV) : Prop := vs.length = ts.length ∧ ∀ (i : Nat) (t : Tr) (v : TV), ts[i]? = some t → vs[i]? = some v → TrAt S w t v
theorem TrsIn.nil (S : Nat → Prop) (w : World) : TrsIn S w [] [] := ⟨rfl, fun i t v h => by simp at h⟩
theorem TrsIn.move {S S' : Nat → Prop} {w w' : World} {ts : List Tr} {vs : List TV} (h : TrsIn S w ts vs) (hS : ∀ b, S b → S' b) (hw : ∀ b, S b → b < w.heap.size → w'.heap[b]? = w.heap[b]?) : TrsIn S' w' ts vs :=
  ⟨h.1, fun i t v ht hv => TrAt.move hS hw t v (h.2 i t v ht hv)⟩
theorem TrsIn.append {S : Nat → Prop} {w : World} {ts us : List Tr} {vs xs : List TV} (h : TrsIn S w ts vs) (k : TrsIn S w us xs) : TrsIn S w (ts ++ us) (vs ++ xs) := by
  refine ⟨by rw [List.length_append, List.length_append, h.1, k.1], fun i t v ht hv => ?_⟩
  by_cases hi : i < ts.length
  · rw [List.getElem?_append_left hi] at ht
    rw [List.getElem?_append_left (by rw [h.1]; exact hi)] at hv
    exact h.2 i t v ht hv
  · rw [List.getElem?_append_right (by omega)] at ht
    rw [List.getElem?_append_right (by rw [h.1]; omega), h.1] at hv
    exact k.2 _ t v ht hv
theorem TrsIn.one {S : Nat → Prop} {w : World} {t : Tr} {v : TV} (h : TrAt S w t v) : TrsIn S w [t] [v] := by
  refine ⟨rfl, fun i t' v' ht hv => ?_⟩
  cases i with
  | zero => simp at ht hv; subst ht hv; exact h
  | succ i => simp at ht
/-- The blocks in which the trees of a row may lie. -/
def KidS (B : Nat) (X : Nat → Prop) (w : World) (ka : Option Addr) (k : Nat) : Prop := B ≤ k ∧ k < w.heap.size ∧ blk ka ≠ some k ∧ ¬ X k
/-- A row of trees of the call's own. -/
def KidsAt (B : Nat) (X : Nat → Prop) (w : World) (ka : Option Addr) (kc : Nat) (ts : List Tr) : Prop :=
  ∃ vs, w.ownsRow B 26 4 (.slice ka ts.length kc) ts.length (tvCells vs) ∧ TrsIn (KidS B X w ka) w ts vs
theorem KidsAt.nil (B : Nat) (X : Nat → Prop) (w : World) : KidsAt B X w none 0 [] := ⟨[], World.ownsRow_nil _ _ _ _, TrsIn.nil _ _⟩
theorem row_blk {B n c m : Nat} {e : TypeId} {size : Nat} {w : World} {a : Option Addr} {xs : List Value} (h : w.ownsRow B e size (.slice a n c) m xs) {k : Nat} (hk : blk a = some k) : B ≤ k ∧ k < w.heap.size ∧ ∃ cur, w.heap[k]? = some (.cells cur e (0, 0)) := by
  rcases h.2 with ⟨hv, _⟩ | ⟨g, cap, cur, hv, hg, hh, _⟩
  · injection hv with h1
    rw [h1] at hk
    exact absurd hk (by simp [blk])
  · injection hv with h1
    rw [h1] at hk
    have : g = k := by simpa [blk] using hk
    subst this
    exact ⟨hg, lt_of_heap hh, cur, hh⟩
theorem KidsAt.blk {B : Nat} {X : Nat → Prop} {w : World} {ka : Option Addr} {kc : Nat} {ts : List Tr} (h : KidsAt B X w ka kc ts) {k : Nat} (hk : blk ka = some k) : B ≤ k ∧ k < w.heap.size ∧ ∃ cur, w.heap[k]? = some (.cells cur 26 (0, 0)) := by
  obtain ⟨vs, h, _⟩ := h
  exact row_blk h hk
/-- A row of trees and a row of texts are not the same. -/
theorem rows_ne {B C : Nat} {X : Nat → Prop} {w : World} {ka la : Option Addr} {kc lc : Nat} {ts : List Tr} {ls : List ByteArray} (h : KidsAt B X w ka kc ts) (h' : LeadsAt C w la lc ls) {k : Nat} (hk : Go.Proofs.Ytipkmffhebachaa.blk ka = some k) : Go.Proofs.Ytipkmffhebachaa.blk la ≠ some k := fun hl => by
  obtain ⟨_, _, c1, e1⟩ := h.blk hk
  obtain ⟨_, _, c2, e2⟩ := row_blk h' hl
  rw [e1] at e2
  injection e2 with e2
  injection e2 with _ e3
  exact absurd e3 (by decide)
theorem KidsAt.rest {B : Nat} {X X' Y : Nat → Prop} {w w' : World} {ka : Option Addr} {kc : Nat} {ts : List Tr} (h : KidsAt B X w ka kc ts) (hw : Rest Y w w') (hY : ∀ k, k < w.heap.size → Y k → k < B ∨ X k) (hX : ∀ k, k < w.heap.size → X' k → X k) (hk : ∀ k, Go.Proofs.Ytipkmffhebachaa.blk ka = some k → ¬ Y k) : KidsAt B X' w' ka kc ts := by
  obtain ⟨vs, h1, h2⟩ := h
  refine ⟨vs, ownsRow_rest h1 hw (fun k hb => hk k (by rwa [ownB] at hb)), h2.move (fun b hb => ⟨hb.1, Nat.lt_of_lt_of_le hb.2.1 hw.size, hb.2.2.1, fun hx => hb.2.2.2 (hX b hb.2.1 hx)⟩) (fun b hb hlt => hw.block b hlt fun hy => ?_)⟩
  rcases hY b hlt hy with h | h
  · exact absurd hb.1 (by omega)
  · exact hb.2.2.2 h
/-- A row of trees behind an append. -/
theorem KidsAt.grow {B g cap : Nat} {X : Nat → Prop} {w w' : World} {ka : Option Addr} {kc : Nat} {ts us : List Tr} {vs xs : List TV} (ht : TrsIn (KidS B X w ka) w ts vs) (hu : TrsIn (KidS B X w ka) w us xs)
    (hown : w'.ownsRow B 26 4 (.slice (some ⟨g, 0, none⟩) (ts.length + us.length) cap) (ts.length + us.length) (tvCells vs ++ tvCells xs)) (hg : w.grownBy w' (Value.slice ka ts.length kc).ownBlock) (hat : (Value.slice ka ts.length kc).ownBlock = some g ∨ w.heap.size ≤ g) : KidsAt B X w' (some ⟨g, 0, none⟩) cap (ts ++ us) := by
  rw [ownB] at hg hat
  refine ⟨vs ++ xs, by rw [List.length_append, tvCells_append]; exact hown, (ht.append hu).move (fun b hb => ⟨hb.1, Nat.lt_of_lt_of_le hb.2.1 hg.size, fun e => ?_, hb.2.2.2⟩) (fun b hb hlt => hg.block b hlt fun e => hb.2.2.1 e.symm)⟩
  have : g = b := by simpa [Go.Proofs.Ytipkmffhebachaa.blk] using e
  subst this
  rcases hat with h | h
  · exact hb.2.2.1 h
  · have := hb.2.1
    omega
/-- A row of texts behind an append. -/
theorem LeadsAt.rest {B : Nat} {Y : Nat → Prop} {w w' : World} {la : Option Addr} {lc : Nat} {ls : List ByteArray} (h : LeadsAt B w la lc ls) (hw : Rest Y w w') (hk : ∀ k, Go.Proofs.Ytipkmffhebachaa.blk la = some k → ¬ Y k) : LeadsAt B w' la lc ls :=
  ownsRow_rest h hw (fun k hb => hk k (by rwa [ownB] at hb))
theorem LeadsAt.nil (B : Nat) (w : World) : LeadsAt B w none 0 [] := World.ownsRow_nil _ _ _ _
theorem LeadsAt.strs {B : Nat} {S : Nat → Prop} {w : World} {la : Option Addr} {lc : Nat} {ls : List ByteArray} (h : LeadsAt B w la lc ls) (hS : ∀ k, Go.Proofs.Ytipkmffhebachaa.blk la = some k → S k) : StrsAt S w la ls := fun hne => by
  obtain ⟨g, cap, hv, _, _⟩ := World.ownsRow.form h (by cases ls with | nil => exact absurd rfl hne | cons a r => simp)
  injection hv with h1 _ _
  subst h1
  refine ⟨g, 0, rfl, hS g rfl, fun i x hx => ?_⟩
  have := World.ownsRow.cells (g := g) h rfl i (.string x) (by rw [List.getElem?_map, hx]; rfl)
  rw [addr_add] at this
  exact this
theorem KidsAt.trs {B : Nat} {X S : Nat → Prop} {w : World} {ka : Option Addr} {kc : Nat} {ts : List Tr} (h : KidsAt B X w ka kc ts) (hS : ∀ k, B ≤ k → k < w.heap.size → S k) : ts ≠ [] → ∃ b off, ka = some ⟨b, off, none⟩ ∧ S b ∧ TrsAt S w b off ts := fun hne => by
  obtain ⟨vs, h, hin⟩ := h
  obtain ⟨g, cap, hv, hb, hlt⟩ := World.ownsRow.form h (by cases ts with | nil => exact absurd rfl hne | cons a r => simp)
  injection hv with h1 _ _
  subst h1
  have hc : ∀ i u, (tvCells vs)[i]? = some u → w.cell? ⟨g, i, none⟩ = some u := fun i u hu => by
    have := World.ownsRow.cells (g := g) h rfl i u hu
    rw [addr_add, Nat.zero_add] at this
    exact this
  refine ⟨g, 0, rfl, hS g hb hlt, TrsAt.of ts 0 fun i t ht => ?_⟩
  have hi : i < vs.length := by
    rw [hin.1]
    exact (List.getElem?_eq_some_iff.1 ht).1
  obtain ⟨v, hvs⟩ : ∃ v, vs[i]? = some v := ⟨vs[i], List.getElem?_eq_getElem hi⟩
  obtain ⟨c0, c1, c2, c3⟩ := tvCells_get vs i v hvs
  simp only [Nat.zero_add]
  exact ⟨v, hc _ _ c0, hc _ _ c1, hc _ _ c2, hc _ _ c3, TrAt.move (fun b hb => hS b hb.1 hb.2.1) (fun _ _ _ => rfl) t v (hin.2 i t v ht hvs)⟩
/-- What a call that reads a tree leaves: the tree in blocks of its own. -/
def TreePost (b : Nat) (t : Tr) (q : PS) (w : World) (e : Ending) (w' : World) : Prop :=
  ∃ v : TV, e = .returned (.agg #[.int .i64 v.kind, .string v.text, .slice v.la v.ll v.lc, .slice v.ka v.kl v.kc]) ∧ TrAt (fun k => w.heap.size ≤ k ∧ k < w'.heap.size) w' t v ∧ PIn w' b q ∧ Off b w w'
/-- The contract of (*parser).tree, where T says what it reads. -/
def TreeC (T : Int → PS → Option (Tr × PS)) : Prop := ∀ (b : Nat) (s : Int) (p : PS) (t : Tr) (q : PS) (w : World), T s p = some (t, q) → PIn w b p → Calls Try.prog 39 #[.pointer (some ⟨b, 0, none⟩), .int .i64 s] w (TreePost b t q w)
end Go.Proofs.Ytipkmffhebachaa
