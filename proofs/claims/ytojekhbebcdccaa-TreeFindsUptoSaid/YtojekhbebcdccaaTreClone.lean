/- The contract of clone. Condition: a tree whose lists a machine can hold. -/
import Derived.Test.YtojekhbebcdccaaTreSame
import Derived.Deep.AppendLies
import Derived.Laws.OwnMore
namespace Go.Proofs.Ytojekhbebcdccaa
open Go.RowKit Go.Shelf
theorem tree_info : (Try.prog.info? 25).map (fun i => (i.zero, i.size, i.bytes)) = some (some (.agg #[.int .i64 0, .string ByteArray.empty, .slice none 0 0, .slice none 0 0]), 4, 72) := by kernel_rfl
theorem string_info : (Try.prog.info? 9).map (fun i => (i.zero, i.size, i.bytes)) = some (some (.string ByteArray.empty), 1, 16) := by kernel_rfl
section
variable {P : Program} {w : World} {ops : Array Oper} {rest : List Oper} {o : Oper} {a : Act} {Q : Exit → Act → World → Prop}
theorem wpList_append_zero (hgd : o.guard = none) (s x : Operand) (t : TypeId)
    (ho : o.op = .call { callee := .builtin .append, args := #[s, x], argTypes := #[t, t] }) (e : TypeId) (i : TypeInfo) (ht : P.underlying t = some (.slice e)) (hi : P.info? e = some i)
    (hs : a.eval s = .slice none 0 0) {A : Option Addr} {c : Nat} (hx : a.eval x = .slice A 0 c) (h : wpList P ops Q rest (a.put o.dst (.slice none 0 0)) w) : wpList P ops Q (o :: rest) a w := by
  refine wpList_plain hgd fun K hK => ?_
  have hr : (Builtin.append_ #[t, t] o.type #[.slice none 0 0, .slice A 0 c]).run P w = .ok (.slice none 0 0) w := by
    cases A <;> simp [Builtin.append_, run_underlying ht, sizeOf, typeInfo, hi, Builtin.lenOf, Builtin.firstCells, loadCells, loadCellsFrom]
  unfold Oper.wp execOp
  simp only [ho, resolve, invoke, builtin, Sem.run_bind, Sem.run_pure, Result.andThen_ok, List.map_toArray, List.map_cons, List.map_nil, hs, hx, hr]
  exact hK _ _ h
/-- A slice, copied behind nil. -/
theorem wpList_copy (hgd : o.guard = none) (s x : Operand) (t : TypeId)
    (ho : o.op = .call { callee := .builtin .append, args := #[s, x], argTypes := #[t, t] })
    (e : TypeId) (i : TypeInfo) (z : Value) (size bytes : Nat) (ht : P.underlying t = some (.slice e)) (hi : P.info? e = some i) (hz : i.zero = some z)
    (hsize : i.size = size) (hby : i.bytes = bytes) (hzs : z.cells.size = size) (hsz : 0 < size)
    (hs : a.eval s = .slice none 0 0) {A : Option Addr} {m c : Nat} {news : List Value} (hx : a.eval x = .slice A m c) (hl : news.length = m * size)
    (hnews : 0 < m → ∃ b off, A = some ⟨b, off, none⟩ ∧ ∀ j u, news[j]? = some u → w.cell? ⟨b, off + j, none⟩ = some u) (h1 : ∀ u ∈ news, u.oneCell' = true)
    (hbytes : m * bytes ≤ 140737488355328) (h63 : m ≤ maxLen)
    (h : ∀ v' w', w'.ownsRow w.heap.size e size v' m news → w.grownBy w' none → wpList P ops Q rest (a.put o.dst v') w') : wpList P ops Q (o :: rest) a w := by
  rcases Nat.eq_zero_or_pos m with hm | hm
  · subst hm
    have hn : news = [] := List.eq_nil_of_length_eq_zero (by rw [hl]; omega)
    subst hn
    exact wpList_append_zero hgd s x t ho e i ht hi hs hx (h _ w (World.ownsRow_nil _ _ _ _) ⟨rfl, rfl, rfl, Nat.le_refl _, fun _ _ _ => rfl⟩)
  · obtain ⟨b, off, hA, hc⟩ := hnews hm
    subst hA
    have hadd : ∀ j, ((⟨b, off, none⟩ : Addr).add j) = ⟨b, off + j, none⟩ := fun j => by unfold Addr.add; split <;> simp_all
    refine wpList_append_lies w hgd s x t ho w.heap.size e i z size bytes ht hi hz hsize hby hzs hsz (.slice none 0 0) 0 [] hs (World.ownsRow_nil _ _ _ _) ⟨b, off, none⟩ m c news hx hl (fun j u hu => by rw [hadd]; exact hc j u hu) h1 hm (by omega) (by rw [Nat.zero_add]; exact hbytes) (Nat.le_refl _) w.heap.size rfl ?_
    intro g cap w' hown hg _ _
    rw [Nat.zero_add, List.nil_append] at hown
    exact h _ w' (by rw [Nat.zero_add]; exact hown) hg
end
theorem own_shape {w : World} {base e size n : Nat} {v : Value} {xs : List Value} (h : w.ownsRow base e size v n xs) : ∃ A c, v = .slice A n c := by
  rcases h.2 with ⟨h1, h2⟩ | ⟨g, cap, _, h1, _⟩
  · subst h2
    exact ⟨none, 0, h1⟩
  · exact ⟨_, cap, h1⟩
mutual
/-- No list in a tree is too long to be copied. -/
def fitT : Tr → Bool
  | .mk _ _ ls ks => decide (ls.length ≤ 8796093022208) && decide (ks.length ≤ 1900000000000) && fitL ks
def fitL : List Tr → Bool
  | [] => true
  | t :: r => fitT t && fitL r
end
theorem fitL_get : (l : List Tr) → (j : Nat) → (k : Tr) → fitL l = true → l[j]? = some k → fitT k = true
  | [], j, k, _, h => by simp at h
  | a :: r, j, k, hs, h => by
    unfold fitL at hs
    rw [Bool.and_eq_true] at hs
    cases j with
    | zero => simp at h; subst h; exact hs.1
    | succ j => exact fitL_get r j k hs.2 (by simpa using h)
theorem fitT_kids {t : Tr} (h : fitT t = true) : t.leads.length ≤ 8796093022208 ∧ t.kids.length ≤ 1900000000000 ∧ ∀ (j : Nat) (k : Tr), t.kids[j]? = some k → fitT k = true := by
  cases t with
  | mk kd tx ls ks =>
    unfold fitT at h
    simp only [Bool.and_eq_true, decide_eq_true_eq] at h
    exact ⟨h.1.1, h.1.2, fun j k hk => fitL_get ks j k h.2 hk⟩
/-- The cells of the trees of a list. -/
theorem TrsAt.vals {S : Nat → Prop} {w : World} {b : Nat} : (l : List Tr) → (off : Nat) → TrsAt S w b off l → ∃ us : List TV, us.length = l.length ∧ (∀ (i : Nat) (k : Tr) (u : TV), l[i]? = some k → us[i]? = some u → TrAt S w k u) ∧ ∀ (j : Nat) (x : Value), (tvCells us)[j]? = some x → w.cell? ⟨b, off + j, none⟩ = some x
  | [], off, h => ⟨[], rfl, fun i k u h => by simp at h, fun j x h => by simp [tvCells] at h⟩
  | t :: r, off, h => by
    unfold TrsAt at h
    obtain ⟨v, c0, c1, c2, c3, ht, hr⟩ := h
    obtain ⟨us, h1, h2, h3⟩ := TrsAt.vals r (off + 4) hr
    refine ⟨v :: us, by simp [h1], fun i k u hk hu => ?_, fun j x hx => ?_⟩
    · cases i with
      | zero => simp at hk hu; subst hk hu; exact ht
      | succ i => exact h2 i k u (by simpa using hk) (by simpa using hu)
    · have hs : tvCells (v :: us) = v.cells ++ tvCells us := by unfold tvCells; rw [List.flatMap_cons]
      rw [hs] at hx
      have h4 : v.cells.length = 4 := rfl
      rcases Nat.lt_or_ge j 4 with hj | hj
      · rw [List.getElem?_append_left (by omega)] at hx
        rcases (show j = 0 ∨ j = 1 ∨ j = 2 ∨ j = 3 from by omega) with rfl | rfl | rfl | rfl
        · simp [TV.cells] at hx; subst hx; exact c0
        · simp [TV.cells] at hx; subst hx; exact c1
        · simp [TV.cells] at hx; subst hx; exact c2
        · simp [TV.cells] at hx; subst hx; exact c3
      · rw [List.getElem?_append_right (by omega), h4] at hx
        have := h3 (j - 4) x hx
        rw [show off + 4 + (j - 4) = off + j from by omega] at this
        exact this
theorem KidsIn.vals {S : Nat → Prop} {w : World} {t : Tr} {v : TV} (h : TrAt S w t v) : ∃ us : List TV, us.length = t.kids.length ∧ (∀ (i : Nat) (k : Tr) (u : TV), t.kids[i]? = some k → us[i]? = some u → TrAt S w k u) ∧ (0 < t.kids.length → ∃ b off, v.ka = some ⟨b, off, none⟩ ∧ ∀ (j : Nat) (x : Value), (tvCells us)[j]? = some x → w.cell? ⟨b, off + j, none⟩ = some x) := by
  cases t with
  | mk k x ls ks =>
    unfold TrAt at h
    by_cases hk : ks = []
    · subst hk
      exact ⟨[], rfl, (fun i k u h _ => by simp [Tr.kids] at h), (fun h => absurd h (by simp [Tr.kids]))⟩
    · obtain ⟨b, off, hA, _, ht⟩ := h.2.2.2.2.2.1 hk
      obtain ⟨us, h1, h2, h3⟩ := TrsAt.vals ks off ht
      exact ⟨us, h1, h2, fun _ => ⟨b, off, hA, h3⟩⟩
theorem StrsAt.vals {S : Nat → Prop} {w : World} {A : Option Addr} {l : List ByteArray} (h : StrsAt S w A l) : 0 < l.length → ∃ b off, A = some ⟨b, off, none⟩ ∧ ∀ (j : Nat) (x : Value), (l.map Value.string)[j]? = some x → w.cell? ⟨b, off + j, none⟩ = some x := fun h0 => by
  obtain ⟨b, off, hA, _, hc⟩ := h (fun e => by rw [e] at h0; simp at h0)
  refine ⟨b, off, hA, fun j x hx => ?_⟩
  rw [List.getElem?_map] at hx
  cases hl : l[j]? with
  | none => rw [hl] at hx; cases hx
  | some y =>
    rw [hl] at hx
    simp at hx
    subst hx
    exact hc j y hl
theorem strings_one (l : List ByteArray) : ∀ u ∈ l.map Value.string, u.oneCell' = true := by
  intro u hu
  obtain ⟨x, _, rfl⟩ := List.mem_map.1 hu
  rfl
theorem grown_below {w w' : World} (h : w.grownBy w' none) : Below w.heap.size w w' := ⟨h.os, h.tape, h.output, h.size, fun k hk => h.block k hk (by simp)⟩
def RowIs (cs : Array Value) (vs : List TV) : Prop := ∀ i v, vs[i]? = some v → cs[i * 4]? = some (.int .i64 v.kind) ∧ cs[i * 4 + 1]? = some (.string v.text) ∧ cs[i * 4 + 2]? = some (.slice v.la v.ll v.lc) ∧ cs[i * 4 + 3]? = some (.slice v.ka v.kl v.kc)
def setR (cs : Array Value) (j : Nat) (y : TV) : Array Value := (((cs.setIfInBounds (j * 4) (.int .i64 y.kind)).setIfInBounds (j * 4 + 1) (.string y.text)).setIfInBounds (j * 4 + 2) (.slice y.la y.ll y.lc)).setIfInBounds (j * 4 + 3) (.slice y.ka y.kl y.kc)
theorem RowIs.set {cs : Array Value} {vs : List TV} (h : RowIs cs vs) {j : Nat} (hj : j < vs.length) (y : TV) : RowIs (setR cs j y) (vs.set j y) := by
  obtain ⟨x, hx⟩ : ∃ x, vs[j]? = some x := ⟨_, List.getElem?_eq_getElem hj⟩
  obtain ⟨g0, g1, g2, g3⟩ := h j x hx
  have l0 := (Array.getElem?_eq_some_iff.1 g0).1
  have l1 := (Array.getElem?_eq_some_iff.1 g1).1
  have l2 := (Array.getElem?_eq_some_iff.1 g2).1
  have l3 := (Array.getElem?_eq_some_iff.1 g3).1
  intro i v hv
  unfold setR
  by_cases hij : i = j
  · subst hij
    rw [List.getElem?_set_self hj] at hv
    injection hv with hv
    subst hv
    refine ⟨?_, ?_, ?_, ?_⟩ <;> simp [Array.getElem?_setIfInBounds] <;> omega
  · rw [List.getElem?_set_ne (fun e => hij e.symm)] at hv
    obtain ⟨f0, f1, f2, f3⟩ := h i v hv
    refine ⟨?_, ?_, ?_, ?_⟩
    · rw [Array.getElem?_setIfInBounds_ne (by omega), Array.getElem?_setIfInBounds_ne (by omega), Array.getElem?_setIfInBounds_ne (by omega), Array.getElem?_setIfInBounds_ne (by omega)]; exact f0
    · rw [Array.getElem?_setIfInBounds_ne (by omega), Array.getElem?_setIfInBounds_ne (by omega), Array.getElem?_setIfInBounds_ne (by omega), Array.getElem?_setIfInBounds_ne (by omega)]; exact f1
    · rw [Array.getElem?_setIfInBounds_ne (by omega), Array.getElem?_setIfInBounds_ne (by omega), Array.getElem?_setIfInBounds_ne (by omega), Array.getElem?_setIfInBounds_ne (by omega)]; exact f2
    · rw [Array.getElem?_setIfInBounds_ne (by omega), Array.getElem?_setIfInBounds_ne (by omega), Array.getElem?_setIfInBounds_ne (by omega), Array.getElem?_setIfInBounds_ne (by omega)]; exact f3
/-- All blocks but one are as they were. -/
structure Rest1 (g : Nat) (w w' : World) : Prop where
  os : w'.os = w.os
  tape : w'.tape = w.tape
  output : w'.output = w.output
  size : w.heap.size ≤ w'.heap.size
  block : ∀ k, k < w.heap.size → k ≠ g → w'.heap[k]? = w.heap[k]?
theorem Rest1.refl (g : Nat) (w : World) : Rest1 g w w := ⟨rfl, rfl, rfl, Nat.le_refl _, fun _ _ _ => rfl⟩
theorem Rest1.trans {g : Nat} {u v w : World} (h : Rest1 g u v) (k : Rest1 g v w) : Rest1 g u w := ⟨k.os.trans h.os, k.tape.trans h.tape, k.output.trans h.output, Nat.le_trans h.size k.size, fun i hi hx => (k.block i (Nat.lt_of_lt_of_le hi h.size) hx).trans (h.block i hi hx)⟩
theorem Rest1.below {g : Nat} {w w' : World} (h : Below w.heap.size w w') : Rest1 g w w' := ⟨h.os, h.tape, h.output, h.size, fun k hk _ => h.block k hk⟩
theorem Rest1.set (w : World) (g o : Nat) (u : Value) : Rest1 g w (w.setCell ⟨g, o, none⟩ u) := ⟨rfl, rfl, rfl, by simp [World.setCell], fun k _ hk => Below.heap_setCell _ _ _ _ (fun e : k = g => hk e)⟩
theorem Rest1.down {g B : Nat} {w w' : World} (h : Rest1 g w w') (hg : B ≤ g) (hB : B ≤ w.heap.size) : Below B w w' := ⟨h.os, h.tape, h.output, h.size, fun k hk => h.block k (Nat.lt_of_lt_of_le hk hB) (by omega)⟩
def setK (w : World) (g j : Nat) (y : TV) : World := (((w.setCell ⟨g, j * 4, none⟩ (.int .i64 y.kind)).setCell ⟨g, j * 4 + 1, none⟩ (.string y.text)).setCell ⟨g, j * 4 + 2, none⟩ (.slice y.la y.ll y.lc)).setCell ⟨g, j * 4 + 3, none⟩ (.slice y.ka y.kl y.kc)
theorem setK_heap {w : World} {g j : Nat} {cs : Array Value} {T : TypeId} (y : TV) (h : w.heap[g]? = some (.cells cs T (0, 0))) : (setK w g j y).heap[g]? = some (.cells (setR cs j y) T (0, 0)) := heap_set (heap_set (heap_set (heap_set h rfl) rfl) rfl) rfl
theorem setK_rest (w : World) (g j : Nat) (y : TV) : Rest1 g w (setK w g j y) := (((Rest1.set w g _ _).trans (Rest1.set _ g _ _)).trans (Rest1.set _ g _ _)).trans (Rest1.set _ g _ _)
/-- Where clone's loop stands. -/
def ClAt (t : Tr) (us : List TV) (g : Nat) (W : World) (i : Value) (wr : World) : Prop :=
  ∃ (j : Nat) (vs : List TV) (cs : Array Value), i = .int .i64 j ∧ j ≤ t.kids.length ∧ vs.length = t.kids.length ∧ (∀ i, j ≤ i → vs[i]? = us[i]?) ∧ wr.heap[g]? = some (.cells cs 25 (0, 0)) ∧ RowIs cs vs ∧
    (∀ (i : Nat) (k : Tr) (u : TV), i < j → t.kids[i]? = some k → vs[i]? = some u → TrAt (fun b => g < b ∧ b < wr.heap.size) wr k u) ∧ Rest1 g W wr
theorem TrAt.make {S : Nat → Prop} {w : World} {t : Tr} {v : TV} (h1 : v.kind = t.kind) (h2 : v.text = t.text) (h3 : v.ll = t.leads.length) (h4 : v.kl = t.kids.length) (h5 : StrsAt S w v.la t.leads) (h6 : KidsIn S w v.ka t.kids) (h7 : v.ll ≤ v.lc ∧ v.kl ≤ v.kc) : TrAt S w t v := by
  cases t
  unfold TrAt
  exact ⟨h1, h2, h3, h4, h5, h6, h7⟩
theorem row_cap {w : World} {B n c : Nat} {e : TypeId} {size : Nat} {a : Option Addr} {xs : List Value} (h : w.ownsRow B e size (.slice a n c) n xs) : n ≤ c := by
  rcases h.2 with ⟨hv, h0⟩ | ⟨g, cap, cur, hv, _, _, hn, _⟩
  · omega
  · injection hv with _ _ h3
    omega
theorem own_strs {w : World} {B c : Nat} {a : Option Addr} {l : List ByteArray} (h : w.ownsRow B 9 1 (.slice a l.length c) l.length (l.map Value.string)) : StrsAt (fun k => B ≤ k ∧ k < w.heap.size) w a l := fun hne => by
  have hl : 0 < l.length := by
    rcases Nat.eq_zero_or_pos l.length with h | h
    · exact absurd (List.eq_nil_of_length_eq_zero h) hne
    · exact h
  rcases h.2 with ⟨_, h0⟩ | ⟨g, cap, cur, hv, hb, hh, hnc, hm, hsz, htk⟩
  · omega
  · injection hv with e1 e2 e3
    refine ⟨g, 0, e1, ⟨hb, lt_of_heap hh⟩, fun i x hx => ?_⟩
    refine cells_of hh _ _ ?_
    have h1 : (l.map Value.string)[i]? = some (.string x) := by rw [List.getElem?_map, hx]; rfl
    rw [← htk] at h1
    have hlt : i < l.length * 1 := by
      have := (List.getElem?_eq_some_iff.1 h1).1
      rw [List.length_take] at this
      omega
    rw [List.getElem?_take_of_lt hlt] at h1
    rw [Nat.zero_add, ← Array.getElem?_toList]
    exact h1
theorem set_other {w : World} {b o k : Nat} {u : Value} (h : k ≠ b) : (w.setCell ⟨b, o, none⟩ u).heap[k]? = w.heap[k]? := Below.heap_setCell _ _ _ _ (fun e : k = b => h e)
theorem setT_other {w : World} {b k : Nat} (u : TV) (h : k ≠ b) : (setT w b u).heap[k]? = w.heap[k]? := (((set_other h).trans (set_other h)).trans (set_other h)).trans (set_other h)
theorem setT_size (w : World) (b : Nat) (u : TV) : (setT w b u).heap.size = w.heap.size := by simp [setT, World.setCell]
set_option maxRecDepth 100000 in
set_option maxHeartbeats 2000000 in
theorem clone_any (N : Nat) : ∀ (S : Nat → Prop) (t : Tr) (v : TV) (w : World), SizeOf.sizeOf t ≤ N → TrAt S w t v → fitT t = true →
    Calls Try.prog 35 #[.agg #[.int .i64 v.kind, .string v.text, .slice v.la v.ll v.lc, .slice v.ka v.kl v.kc]] w fun e w' => ∃ u : TV, e = .returned (.agg #[.int .i64 u.kind, .string u.text, .slice u.la u.ll u.lc, .slice u.ka u.kl u.kc]) ∧ TrAt (fun k => w.heap.size ≤ k ∧ k < w'.heap.size) w' t u ∧ Below w.heap.size w w' := by
  induction N with
  | zero => intro S t v w h; have := tr_pos t; omega
  | succ N ih =>
    intro S t v w hN h hz
    have HIH := Lib.hid ih
    obtain ⟨hf1, hf2, hf3⟩ := fitT_kids hz
    have HF1 := Lib.hid hf1
    have HF2 := Lib.hid hf2
    have HF3 := Lib.hid hf3
    have HN := Lib.hid hN
    obtain ⟨e1, e2, e3, e4⟩ := h.kl
    have hb0 := ((Below.refl w.heap.size w).alloc (Nat.le_refl _) (trO v)).alloc (by rw [World.size_alloc]; omega) (.cells #[.int .i64 0, .string ⟨#[]⟩, .slice none 0 0, .slice none 0 0] 25)
    have HB0 := Lib.hid hb0
    have HT := Lib.hid (TrAt.keep (TrAt.low t v h) hb0)
    obtain ⟨vk, vx, vla, vll, vlc, vka, vkl, vkc⟩ := v
    simp only at e1 e2 e3 e4
    subst e1 e2
    have HE3 := Lib.hid e3
    have HE4 := Lib.hid e4
    have HX := Lib.hid (show ((w.alloc (trO ⟨vk, vx, vla, t.leads.length, vlc, vka, t.kids.length, vkc⟩)).alloc (.cells #[.int .i64 0, .string ⟨#[]⟩, .slice none 0 0, .slice none 0 0] 25)).heap[w.heap.size]? = some (trO ⟨vk, vx, vla, t.leads.length, vlc, vka, t.kids.length, vkc⟩) from (((Below.refl (w.alloc (trO ⟨vk, vx, vla, t.leads.length, vlc, vka, t.kids.length, vkc⟩)).heap.size _).alloc (Nat.le_refl _) _).block w.heap.size (by simp)).trans (heap_alloc_new w _))
    have HR := Lib.hid (show ((w.alloc (trO ⟨vk, vx, vla, t.leads.length, vlc, vka, t.kids.length, vkc⟩)).alloc (.cells #[.int .i64 0, .string ⟨#[]⟩, .slice none 0 0, .slice none 0 0] 25)).heap[w.heap.size + 1]? = some (.cells #[.int .i64 0, .string ⟨#[]⟩, .slice none 0 0, .slice none 0 0] 25 (0, 0)) from by rw [← World.size_alloc w (trO ⟨vk, vx, vla, t.leads.length, vlc, vka, t.kids.length, vkc⟩)]; exact heap_alloc_new _ _)
    obtain ⟨is, his, hs0, hs1, hs2⟩ := info_parts string_info
    obtain ⟨it, hit, ht0, ht1, ht2⟩ := info_parts tree_info
    have k2 := cells_of HX.out 2 _ rfl
    have k3 := cells_of HX.out 3 _ rfl
    have rf := Lib.frozen_of_heap HX.out
    have hbl := lt_of_heap HX.out
    clear ih hf1 hf2 hf3 h hz hN hb0 e3 e4
    go_enter Try.func35, Try.ntmps35
    go_wp2_with (first
      | (at_builtin; refine wpList_copy rfl _ _ 22 rfl 9 is _ 1 16 Try.underlying22 his hs0 hs1 hs2 rfl (by decide) rfl (A := vla) (m := t.leads.length) (c := vlc) (news := t.leads.map Value.string) rfl (by simp) HT.out.strsIn.vals (strings_one _) (by have := HF1.out; omega) (by have := HF1.out; unfold maxLen; omega) ?_; intro LA w1 hown1 hg1; obtain ⟨la', lc', rfl⟩ := own_shape hown1; have HO1 := Lib.hid hown1; have HG1 := Lib.hid (grown_below hg1); have hx1 := (HG1.out.block w.heap.size hbl).trans HX.out; have HB1 := Lib.hid ((HB0.out.trans (HG1.out.mono (by simp; omega))).setCell (p := ⟨w.heap.size, 2, none⟩) (Nat.le_refl _) (.slice la' t.leads.length lc')); have HX1 := Lib.hid (heap_set (i := 2) (y := .slice la' t.leads.length lc') hx1 rfl); have HT1 := Lib.hid (TrAt.move (w' := w1.setCell ⟨w.heap.size, 2, none⟩ (.slice la' t.leads.length lc')) (fun _ h => h) (fun k hk _ => (Below.setCell (p := ⟨w.heap.size, 2, none⟩) (show Below w.heap.size _ w1 from HG1.out.mono (by simp; omega)) (Nat.le_refl _) (.slice la' t.leads.length lc')).block k hk) _ _ HT.out); obtain ⟨us, hul, hut, huc⟩ := KidsIn.vals HT1.out; have HUL := Lib.hid hul; have HUT := Lib.hid hut; have HUC := Lib.hid huc; clear hown1 hg1 k2 k3 rf hbl hul hut huc; have k0 := cells_of hx1 0 _ rfl; have k1 := cells_of hx1 1 _ rfl; have k2 := cells_of hx1 2 _ rfl; have k3 := cells_of hx1 3 _ rfl; have rf := Lib.frozen_of_heap hx1; have hbl := lt_of_heap hx1; clear hx1)
      | (at_builtin; refine wpList_copy rfl _ _ 23 rfl 25 it _ 4 72 Try.underlying23 hit ht0 ht1 ht2 rfl (by decide) rfl (A := vka) (m := t.kids.length) (c := vkc) (news := tvCells us) rfl (by rw [tvCells_length, HUL.out]) HUC.out (tvCells_one us) (by have := HF2.out; omega) (by have := HF2.out; unfold maxLen; omega) ?_; intro KA w2 hown2 hg2; obtain ⟨ka', kc', rfl⟩ := own_shape hown2; have HO2 := Lib.hid hown2; have HG2 := Lib.hid (grown_below hg2); have hx2 := (HG2.out.block w.heap.size (lt_of_heap HX1.out)).trans HX1.out; clear hown2 hg2 k0 k1 k2 k3 rf hbl; have k0 := cells_of hx2 0 _ rfl; have k1 := cells_of hx2 1 _ rfl; have k2 := cells_of hx2 2 _ rfl; have k3 := cells_of hx2 3 _ rfl; have rf := Lib.frozen_of_heap hx2; have hbl := lt_of_heap hx2; have HX2 := Lib.hid (heap_set (i := 3) (y := .slice ka' t.kids.length kc') hx2 rfl); clear hx2))
    have r1 := (HG1.out.block (w.heap.size + 1) (lt_of_heap HR.out)).trans HR.out
    have r1' : (w1.setCell ⟨w.heap.size, 2, none⟩ (.slice la' t.leads.length lc')).heap[w.heap.size + 1]? = _ := (set_other (by omega)).trans r1
    have r2 := (HG2.out.block (w.heap.size + 1) (lt_of_heap r1')).trans r1'
    have r2' : (w2.setCell ⟨w.heap.size, 3, none⟩ (.slice ka' t.kids.length kc')).heap[w.heap.size + 1]? = _ := (set_other (by omega)).trans r2
    have HR2 := Lib.hid r2'
    have HLS := Lib.hid (own_strs HO1.out)
    have HC1 := Lib.hid (row_cap HO1.out)
    have HC2 := Lib.hid (row_cap HO2.out)
    have hs1 : (w1.setCell ⟨w.heap.size, 2, none⟩ (.slice la' t.leads.length lc')).heap.size = w1.heap.size := by simp [World.setCell]
    have hs0' : ((w.alloc (trO ⟨vk, vx, vla, t.leads.length, vlc, vka, t.kids.length, vkc⟩)).alloc (.cells #[.int .i64 0, .string ⟨#[]⟩, .slice none 0 0, .slice none 0 0] 25)).heap.size = w.heap.size + 2 := by simp
    -- the leads' block, in the last world
    have HLW2 := Lib.hid (show ∀ b, w.heap.size + 2 ≤ b → b < w1.heap.size → b < (w2.setCell ⟨w.heap.size, 3, none⟩ (.slice ka' t.kids.length kc')).heap.size ∧ (w2.setCell ⟨w.heap.size, 3, none⟩ (.slice ka' t.kids.length kc')).heap[b]? = w1.heap[b]? from fun b hb hb1 => ⟨by
      have := HG2.out.size
      rw [hs1] at this
      simp [World.setCell]
      omega, ((set_other (by omega)).trans (HG2.out.block b (by rw [hs1]; exact hb1))).trans (set_other (by omega))⟩)
    have HS0 := Lib.hid hs0'
    have HS1 := Lib.hid hs1
    clear r1 r1' r2 r2' hs1 hs0'
    by_cases hn0 : t.kids.length = 0
    · have HN0 := Lib.hid hn0
      have HD12 : Below w.heap.size (w1.setCell ⟨w.heap.size, 2, none⟩ (.slice la' t.leads.length lc')) (w2.setCell ⟨w.heap.size, 3, none⟩ (.slice ka' t.kids.length kc')) := Below.setCell (p := ⟨w.heap.size, 3, none⟩) (show Below w.heap.size _ w2 from HG2.out.mono (Nat.le_of_lt (lt_of_heap HX1.out))) (Nat.le_refl _) _
      have HDW := Lib.hid HD12
      clear k0 k1 k2 k3 rf hbl HD12 hn0
      go_loopw [16] (fun i wr => i = .int .i64 0 ∧ w2.setCell ⟨w.heap.size, 3, none⟩ (.slice ka' t.kids.length kc') = wr) (fun _ _ => 0)
      case atStart => exact ⟨rfl, rfl⟩
      case round =>
        obtain ⟨rfl, rfl⟩ := hrel
        have hn1 : ¬ 0 < t.kids.length := by have := HN0.out; omega
        have k0 := cells_of HX2.out 0 _ rfl
        have k1 := cells_of HX2.out 1 _ rfl
        have k2 := cells_of HX2.out 2 _ rfl
        have k3 := cells_of HX2.out 3 _ rfl
        have tbl := lt_of_heap HX2.out
        have r0 := cells_of HR2.out 0 _ rfl
        have r1 := cells_of HR2.out 1 _ rfl
        have r2 := cells_of HR2.out 2 _ rfl
        have r3 := cells_of HR2.out 3 _ rfl
        have rbl := lt_of_heap HR2.out
        have rrf := Lib.frozen_of_heap HR2.out
        generalize hW : w2.setCell ⟨w.heap.size, 3, none⟩ (.slice ka' t.kids.length kc') = WR at HX2 HR2 HLW2 HDW k0 k1 k2 k3 tbl r0 r1 r2 r3 rbl rrf ⊢
        clear hW
        go_wp2
        refine bodyPost_ret (v := .agg #[.int .i64 vk, .string vx, .slice la' t.leads.length lc', .slice ka' t.kids.length kc']) (by simp [results, Try.results35, go_sem, *]) rfl ?_
        refine ⟨⟨vk, vx, la', t.leads.length, lc', ka', t.kids.length, kc'⟩, rfl, ?_, ?_⟩
        · have hsz : (setT WR (w.heap.size + 1) ⟨vk, vx, la', t.leads.length, lc', ka', t.kids.length, kc'⟩).heap.size = WR.heap.size := setT_size _ _ _
          have hlw : ∀ b, w.heap.size + 2 ≤ b → b < w1.heap.size → b < WR.heap.size ∧ (setT WR (w.heap.size + 1) ⟨vk, vx, la', t.leads.length, lc', ka', t.kids.length, kc'⟩).heap[b]? = w1.heap[b]? := fun b hb hb1 => by
            obtain ⟨h1, h2⟩ := HLW2.out b hb hb1
            exact ⟨h1, (setT_other ⟨vk, vx, la', t.leads.length, lc', ka', t.kids.length, kc'⟩ (by omega)).trans h2⟩
          have hlo : ∀ b, ((w.alloc (trO ⟨vk, vx, vla, t.leads.length, vlc, vka, t.kids.length, vkc⟩)).alloc (.cells #[.int .i64 0, .string ⟨#[]⟩, .slice none 0 0, .slice none 0 0] 25)).heap.size ≤ b → w.heap.size + 2 ≤ b := fun b hb => by rw [HS0.out] at hb; exact hb
          show TrAt _ (setT WR (w.heap.size + 1) ⟨vk, vx, la', t.leads.length, lc', ka', t.kids.length, kc'⟩) t _
          exact TrAt.make HE3.out HE4.out rfl rfl (HLS.out.move (fun b hb => ⟨by have := hlo b hb.1; omega, Nat.lt_of_lt_of_le (hlw b (hlo b hb.1) hb.2).1 (Nat.le_of_eq hsz.symm)⟩) (fun b hb _ => (hlw b (hlo b hb.1) hb.2).2)) (fun h => absurd (List.eq_nil_of_length_eq_zero HN0.out) h) ⟨HC1.out, HC2.out⟩
        · exact (HB1.out.trans HDW.out).trans ((setT_below WR (w.heap.size + 1) ⟨vk, vx, la', t.leads.length, lc', ka', t.kids.length, kc'⟩).mono (Nat.le_succ _))
    · obtain ⟨g, hg1, hg2, cur, hg3, hg4⟩ : ∃ g, ka' = some ⟨g, 0, none⟩ ∧ (w1.setCell ⟨w.heap.size, 2, none⟩ (.slice la' t.leads.length lc')).heap.size ≤ g ∧ ∃ cur, w2.heap[g]? = some (.cells cur 25 (0, 0)) ∧ RowIs cur us := by
        rcases HO2.out.2 with ⟨_, h0⟩ | ⟨g, cap, cur, hv, hb, hh, hnc, hm, hsz, htk⟩
        · exact absurd h0 hn0
        · injection hv with e1 e2 e3
          refine ⟨g, e1, hb, cur, hh, fun i v hv => ?_⟩
          obtain ⟨q0, q1, q2, q3⟩ := tvCells_get us i v hv
          have hget : ∀ (o : Nat) (x : Value), (tvCells us)[o]? = some x → cur[o]? = some x := fun o x hx => by
            rw [← htk] at hx
            have hlt : o < t.kids.length * 4 := by
              have := (List.getElem?_eq_some_iff.1 hx).1
              rw [List.length_take] at this
              omega
            rw [List.getElem?_take_of_lt hlt] at hx
            rw [← Array.getElem?_toList]
            exact hx
          exact ⟨hget _ _ q0, hget _ _ q1, hget _ _ q2, hget _ _ q3⟩
      subst hg1
      have HG3 := Lib.hid hg3
      have HG4 := Lib.hid hg4
      have hgt : w.heap.size + 1 < g := by
        have h1 := HG1.out.size
        have h2 : (w1.setCell ⟨w.heap.size, 2, none⟩ (.slice la' t.leads.length lc')).heap.size = w1.heap.size := by simp [World.setCell]
        rw [h2] at hg2
        simp at h1
        omega
      have HGT := Lib.hid hgt
      have HGE := Lib.hid (show w1.heap.size ≤ g from by rw [HS1.out] at hg2; exact hg2)
      have hg2l := lt_of_heap hg3
      have HD12 : Below w.heap.size (w1.setCell ⟨w.heap.size, 2, none⟩ (.slice la' t.leads.length lc')) (w2.setCell ⟨w.heap.size, 3, none⟩ (.slice (some ⟨g, 0, none⟩) t.kids.length kc')) := Below.setCell (p := ⟨w.heap.size, 3, none⟩) (show Below w.heap.size _ w2 from HG2.out.mono (Nat.le_of_lt (lt_of_heap HX1.out))) (Nat.le_refl _) _
      have HW2 := Lib.hid (show (w2.setCell ⟨w.heap.size, 3, none⟩ (.slice (some ⟨g, 0, none⟩) t.kids.length kc')).heap[g]? = some (.cells cur 25 (0, 0)) from (Below.heap_setCell _ _ _ _ (fun e : g = w.heap.size => by omega)).trans hg3)
      have HDW := Lib.hid HD12
      have HLT2 := Lib.hid (show w.heap.size < (w2.setCell ⟨w.heap.size, 3, none⟩ (.slice (some ⟨g, 0, none⟩) t.kids.length kc')).heap.size from lt_of_heap HX2.out)
      clear k0 k1 k2 k3 rf hbl hg3 hg4 hgt hg2 HD12 hn0 hg2l
      go_loopw [16] (fun i wr => ClAt t us g (w2.setCell ⟨w.heap.size, 3, none⟩ (.slice (some ⟨g, 0, none⟩) t.kids.length kc')) i wr) (fun i _ => t.kids.length - (intOf i).toNat)
      case atStart => exact ⟨0, us, cur, rfl, Nat.zero_le _, HUL.out, fun _ _ => rfl, HW2.out, HG4.out, fun i k u h => absurd h (Nat.not_lt_zero _), Rest1.refl _ _⟩
      case round =>
        obtain ⟨j, vs, cs, rfl, hj, hvl, hve, hcs, hri, hfr, hrs⟩ := hrel
        have HVL := Lib.hid hvl
        have HVE := Lib.hid hve
        have HCS := Lib.hid hcs
        have HRI := Lib.hid hri
        have HFR := Lib.hid hfr
        have HRS := Lib.hid hrs
        have htb := (hrs.block w.heap.size HLT2.out (by have := HGT.out; omega)).trans HX2.out
        have HTB := Lib.hid htb
        have HDN := Lib.hid (HDW.out.trans (hrs.down (B := w.heap.size) (by have := HGT.out; omega) (Nat.le_of_lt HLT2.out)))
        clear hvl hve hcs hri hfr hrs
        by_cases hlt : j < t.kids.length
        · obtain ⟨k, hk⟩ : ∃ k, t.kids[j]? = some k := ⟨_, List.getElem?_eq_getElem hlt⟩
          obtain ⟨u, hu⟩ : ∃ u, us[j]? = some u := ⟨_, List.getElem?_eq_getElem (by rw [HUL.out]; exact hlt)⟩
          obtain ⟨q0, q1, q2, q3⟩ := HRI.out j u ((HVE.out j (Nat.le_refl _)).trans hu)
          have c0 := cells_of HCS.out _ _ q0
          have c1 := cells_of HCS.out _ _ q1
          have c2 := cells_of HCS.out _ _ q2
          have c3 := cells_of HCS.out _ _ q3
          have k3 := cells_of htb 3 _ rfl
          have gbl := lt_of_heap HCS.out
          have tbl := lt_of_heap htb
          have grf := Lib.frozen_of_heap HCS.out
          have HK := Lib.hid hk
          have HU := Lib.hid (TrAt.move (fun _ h => h) (fun b hb _ => HDN.out.block b hb) _ _ (HUT.out j k u hk hu))
          have HNK := Lib.hid (show SizeOf.sizeOf k ≤ N from by have := kid_sizeOf hk; have := HN.out; omega)
          have HFK := Lib.hid (HF3.out j k hk)
          have HBA := Lib.hid (((Below.refl wr.heap.size wr).alloc (Nat.le_refl _) (trO u)).drew)
          have hja : (j : Int) < (t.kids.length : Int) := by omega
          have hj0 : (0 : Int) ≤ (j : Int) := by omega
          have HUJ := Lib.hid hu
          clear hk hu q0 q1 q2 q3 htb
          go_wp2_with fail
          go_region_law (go_simp; go_at_call 35; refine (HIH.out _ k u _ HNK.out (HU.out.keep HBA.out) HFK.out).mono ?_; rintro e w5 ⟨y, rfl, hty, hb5⟩; have HTY := Lib.hid hty; have HB5 := Lib.hid (HBA.out.trans (hb5.mono HBA.out.size)); have HCS5 := Lib.hid ((HB5.out.block g gbl).trans HCS.out); have HTB5 := Lib.hid ((HB5.out.block w.heap.size tbl).trans HTB.out); have HLW := Lib.hid (show wr.heap.size < w5.heap.size from Nat.lt_of_lt_of_le (show wr.heap.size < (wr.alloc (trO u)).drew.heap.size by simp [World.drew]) hb5.size); clear hb5 hty c0 c1 c2 c3 k3 gbl tbl grf; obtain ⟨q0, q1, q2, q3⟩ := HRI.out j u ((HVE.out j (Nat.le_refl _)).trans HUJ.out); have c0 := cells_of HCS5.out _ _ q0; have c1 := cells_of HCS5.out _ _ q1; have c2 := cells_of HCS5.out _ _ q2; have c3 := cells_of HCS5.out _ _ q3; have gbl := lt_of_heap HCS5.out; have grf := Lib.frozen_of_heap HCS5.out; have k3 := cells_of HTB5.out 3 _ rfl; have tbl := lt_of_heap HTB5.out; clear q0 q1 q2 q3)
          all_goals
            clear c0 c1 c2 c3 k3 gbl tbl grf hja hj0
            have hj2 : (j : Int) + 1 ≤ 1900000000001 := by have := HF2.out; omega
            go_wp2
            go_roundw
            case measure => simp [intOf]; omega
            case rel =>
              have hR : Rest1 g wr (setK w5 g j y) := (Rest1.below HB5.out).trans (setK_rest w5 g j y)
              have hjv : j < vs.length := by rw [HVL.out]; exact hlt
              have hgw := lt_of_heap HCS.out
              refine ⟨j + 1, vs.set j y, setR cs j y, by go_num, by omega, by rw [List.length_set]; exact HVL.out, fun i hi => by rw [List.getElem?_set_ne (by omega)]; exact HVE.out i (by omega), setK_heap y HCS5.out, HRI.out.set hjv y, fun i k' u' hi hk' hu' => ?_, HRS.out.trans hR⟩
              by_cases hij : i = j
              · subst hij
                rw [List.getElem?_set_self hjv] at hu'
                injection hu' with hu'
                subst hu'
                have := HK.out.symm.trans hk'
                injection this with this
                subst this
                refine TrAt.move (fun b hb => ⟨?_, Nat.lt_of_lt_of_le hb.2 (setK_rest w5 g i y).size⟩) (fun b hb hlt => (setK_rest w5 g i y).block b hlt (fun e => ?_)) _ _ HTY.out
                · have h1 := hb.1
                  simp [World.drew] at h1
                  omega
                · have h1 := hb.1
                  simp [World.drew] at h1
                  omega
              · rw [List.getElem?_set_ne (fun e => hij e.symm)] at hu'
                exact TrAt.move (fun b hb => ⟨hb.1, Nat.lt_of_lt_of_le hb.2 hR.size⟩) (fun b hb hlt => hR.block b hlt (fun e => by have := hb.1; omega)) _ _ (HFR.out i k' u' (by omega) hk' hu')
        · have hjn : j = t.kids.length := by omega
          subst hjn
          have k0 := cells_of htb 0 _ rfl
          have k1 := cells_of htb 1 _ rfl
          have k2 := cells_of htb 2 _ rfl
          have k3 := cells_of htb 3 _ rfl
          have tbl := lt_of_heap htb
          have hrb := (HRS.out.block (w.heap.size + 1) (lt_of_heap HR2.out) (by have := HGT.out; omega)).trans HR2.out
          have r0 := cells_of hrb 0 _ rfl
          have r1 := cells_of hrb 1 _ rfl
          have r2 := cells_of hrb 2 _ rfl
          have r3 := cells_of hrb 3 _ rfl
          have rbl := lt_of_heap hrb
          have rrf := Lib.frozen_of_heap hrb
          have HRB := Lib.hid hrb
          clear hrb htb
          go_wp2
          refine bodyPost_ret (v := .agg #[.int .i64 vk, .string vx, .slice la' t.leads.length lc', .slice (some ⟨g, 0, none⟩) t.kids.length kc']) (by simp [results, Try.results35, go_sem, *]) rfl ?_
          refine ⟨⟨vk, vx, la', t.leads.length, lc', some ⟨g, 0, none⟩, t.kids.length, kc'⟩, rfl, ?_, ?_⟩
          · have hsz : (setT wr (w.heap.size + 1) ⟨vk, vx, la', t.leads.length, lc', some ⟨g, 0, none⟩, t.kids.length, kc'⟩).heap.size = wr.heap.size := setT_size _ _ _
            have hlw : ∀ b, w.heap.size + 2 ≤ b → b < w1.heap.size → b < wr.heap.size ∧ (setT wr (w.heap.size + 1) ⟨vk, vx, la', t.leads.length, lc', some ⟨g, 0, none⟩, t.kids.length, kc'⟩).heap[b]? = w1.heap[b]? := fun b hb hb1 => by
              obtain ⟨h1, h2⟩ := HLW2.out b hb hb1
              have hbg : b ≠ g := by have := HGE.out; omega
              exact ⟨Nat.lt_of_lt_of_le h1 HRS.out.size, ((setT_other ⟨vk, vx, la', t.leads.length, lc', some ⟨g, 0, none⟩, t.kids.length, kc'⟩ (by omega)).trans (HRS.out.block b h1 hbg)).trans h2⟩
            have hlo : ∀ b, ((w.alloc (trO ⟨vk, vx, vla, t.leads.length, vlc, vka, t.kids.length, vkc⟩)).alloc (.cells #[.int .i64 0, .string ⟨#[]⟩, .slice none 0 0, .slice none 0 0] 25)).heap.size ≤ b → w.heap.size + 2 ≤ b := fun b hb => by rw [HS0.out] at hb; exact hb
            show TrAt _ (setT wr (w.heap.size + 1) ⟨vk, vx, la', t.leads.length, lc', some ⟨g, 0, none⟩, t.kids.length, kc'⟩) t _
            refine TrAt.make HE3.out HE4.out rfl rfl (HLS.out.move (fun b hb => ⟨by have := hlo b hb.1; omega, Nat.lt_of_lt_of_le (hlw b (hlo b hb.1) hb.2).1 (Nat.le_of_eq hsz.symm)⟩) (fun b hb _ => (hlw b (hlo b hb.1) hb.2).2)) (fun _ => ⟨g, 0, rfl, ⟨by have := HGT.out; omega, Nat.lt_of_lt_of_le (lt_of_heap HCS.out) (Nat.le_of_eq hsz.symm)⟩, TrsAt.of t.kids 0 (fun i k hk => ?_)⟩) ⟨HC1.out, HC2.out⟩
            have hi := (List.getElem?_eq_some_iff.1 hk).1
            obtain ⟨u, hu⟩ : ∃ u, vs[i]? = some u := ⟨_, List.getElem?_eq_getElem (by rw [HVL.out]; exact hi)⟩
            obtain ⟨q0, q1, q2, q3⟩ := HRI.out i u hu
            have hg' : (setT wr (w.heap.size + 1) ⟨vk, vx, la', t.leads.length, lc', some ⟨g, 0, none⟩, t.kids.length, kc'⟩).heap[g]? = some (.cells cs 25 (0, 0)) := (setT_other ⟨vk, vx, la', t.leads.length, lc', some ⟨g, 0, none⟩, t.kids.length, kc'⟩ (by have := HGT.out; omega)).trans HCS.out
            refine ⟨u, ?_, ?_, ?_, ?_, TrAt.move (fun b hb => ⟨by have := HGT.out; have := hb.1; omega, Nat.lt_of_lt_of_le hb.2 (Nat.le_of_eq hsz.symm)⟩) (fun b hb _ => setT_other ⟨vk, vx, la', t.leads.length, lc', some ⟨g, 0, none⟩, t.kids.length, kc'⟩ (by have := HGT.out; have := hb.1; omega)) _ _ (HFR.out i k u hi hk hu)⟩
            · rw [Nat.zero_add]; exact cells_of hg' _ _ q0
            · rw [Nat.zero_add]; exact cells_of hg' _ _ q1
            · rw [Nat.zero_add]; exact cells_of hg' _ _ q2
            · rw [Nat.zero_add]; exact cells_of hg' _ _ q3
          · exact (HB1.out.trans HDN.out).trans ((setT_below wr (w.heap.size + 1) ⟨vk, vx, la', t.leads.length, lc', some ⟨g, 0, none⟩, t.kids.length, kc'⟩).mono (Nat.le_succ _))
end Go.Proofs.Ytojekhbebcdccaa
