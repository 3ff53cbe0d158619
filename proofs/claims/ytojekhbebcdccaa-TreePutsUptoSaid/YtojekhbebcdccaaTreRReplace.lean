/- The contract of the reference's Replace. Conditions: trees and a path that a machine can hold. -/
import Derived.Test.YtojekhbebcdccaaTreReplace
import Derived.Test.YtojekhbebcdccaaTreRSame
import Derived.Deep.RegionHeld3
namespace Go.Proofs.Ytojekhbebcdccaa
open Go.RowKit Go.Shelf
theorem ints_tail {w : World} {b off : Nat} {q : Int} {r : List Int} (h : IntsAt w (some ⟨b, off, none⟩) (q :: r)) : IntsAt w (some ⟨b, off + 1, none⟩) r := fun _ => by
  obtain ⟨b', off', hA, hlt, hc⟩ := h (by simp)
  injection hA with e
  injection e with e1 e2 _
  subst e1 e2
  refine ⟨_, _, rfl, hlt, fun i x hx => ?_⟩
  rw [show off + 1 + i = off + (i + 1) from by omega]
  exact hc (i + 1) x (by simpa using hx)
theorem ints_head {w : World} {A : Option Addr} {q : Int} {r : List Int} (h : IntsAt w A (q :: r)) : ∃ b off, A = some ⟨b, off, none⟩ ∧ b < w.heap.size ∧ w.cell? ⟨b, off, none⟩ = some (.int .i64 q) := by
  obtain ⟨b, off, hA, hlt, hc⟩ := h (by simp)
  exact ⟨b, off, hA, hlt, hc 0 q rfl⟩
/-- What the reference's Replace answers, and where its tree lies. -/
def RRPost (S S' : Nat → Prop) (t : Tr) (zs : List Int) (s : Tr) (w : World) (e : Ending) (w' : World) : Prop :=
  Below w.heap.size w w' ∧ ∃ u : TV, e = .returned (.tuple #[.agg #[.int .i64 u.kind, .string u.text, .slice u.la u.ll u.lc, .slice u.ka u.kl u.kc], .bool (findT t zs).isSome]) ∧ ∃ Q : Nat → Prop, (∀ k, Q k → k < w'.heap.size ∧ (S k ∨ S' k ∨ w.heap.size ≤ k)) ∧ TrAt Q w' ((putT zs t s).getD noTr) u
theorem rep_none {S S' : Nat → Prop} {t s : Tr} {zs : List Int} {w w' : World} (hf : findT t zs = none) (hb : Below w.heap.size w w') : RRPost S S' t zs s w (.returned (.tuple #[.agg #[.int .i64 0, .string ⟨#[]⟩, .slice none 0 0, .slice none 0 0], .bool false])) w' := by
  refine ⟨hb, noTV, by rw [hf]; rfl, fun _ => False, fun _ h => h.elim, ?_⟩
  have hn : putT zs t s = none := by
    have h1 := put_some s zs t
    rw [hf] at h1
    cases hp : putT zs t s with
    | none => rfl
    | some _ => rw [hp] at h1; cases h1
  rw [hn]
  exact noTr_at _ _
theorem not_box {S S' Q : Nat → Prop} {m n b B : Nat} (hQ : ∀ k, Q k → k < m ∧ (S k ∨ S' k ∨ n ≤ k)) (hS : ∀ k, S k → k < b) (hS' : ∀ k, S' k → k < b) (hb : b ≤ B) (hn : B < n) : ∀ k, Q k → k ≠ B := fun k hk e => by
  rcases (hQ k hk).2 with h | h | h
  · have := hS k h
    omega
  · have := hS' k h
    omega
  · omega
theorem own_empty (w : World) (T : TypeId) : (w.alloc (.cells #[] T)).ownsRow w.heap.size T 4 (.slice (some ⟨w.heap.size, 0, none⟩) 0 0) 0 [] :=
  ⟨rfl, .inr ⟨w.heap.size, 0, #[], rfl, Nat.le_refl _, heap_alloc_new w _, Nat.le_refl _, Nat.zero_le _, rfl, rfl⟩⟩
theorem row_of_own {w : World} {B n g c : Nat} {T : TypeId} {us : List TV} (h : w.ownsRow B T 4 (.slice (some ⟨g, 0, none⟩) n c) n (tvCells us)) (hn : 0 < n) : B ≤ g ∧ n ≤ c ∧ ∃ cur, w.heap[g]? = some (.cells cur T (0, 0)) ∧ RowIs cur us := by
  rcases h.2 with ⟨_, h0⟩ | ⟨g', cap, cur, hv, hb, hh, hnc, hm, hsz, htk⟩
  · omega
  · injection hv with e1 e2 e3
    injection e1 with e1
    injection e1 with e1
    subst e1 e3
    refine ⟨hb, hnc, cur, hh, fun i v hv => ?_⟩
    obtain ⟨q0, q1, q2, q3⟩ := tvCells_get us i v hv
    have hget : ∀ (o : Nat) (x : Value), (tvCells us)[o]? = some x → cur[o]? = some x := fun o x hx => by
      rw [← htk] at hx
      have hlt : o < n * 4 := by
        have := (List.getElem?_eq_some_iff.1 hx).1
        rw [List.length_take] at this
        omega
      rw [List.getElem?_take_of_lt hlt] at hx
      rw [← Array.getElem?_toList]
      exact hx
    exact ⟨hget _ _ q0, hget _ _ q1, hget _ _ q2, hget _ _ q3⟩
theorem kids_at {w : World} {A : Option Addr} {kb ko kb' ko' : Nat} {T : TypeId} {xs : List Value} (hA : A = some ⟨kb', ko', none⟩) (h : ∀ (j : Nat) (x : Value), xs[j]? = some x → w.cell? ⟨kb', ko' + j, none⟩ = some x) (hA' : A = some ⟨kb, ko, none⟩ := by rfl) : ∀ (j : Nat) (u : Value), xs[j]? = some u → (w.alloc (.cells #[] T)).cell? ((⟨kb, ko, none⟩ : Addr).add j) = some u := fun j u hu => by
  rw [hA] at hA'
  injection hA' with e
  injection e with e1 e2 _
  subst e1 e2
  rw [show ((⟨kb', ko', none⟩ : Addr).add j) = ⟨kb', ko' + j, none⟩ from by unfold Addr.add; split <;> simp_all]
  have h1 := h j u hu
  exact (World.cell?_of_block (w := w) (a := ⟨kb', ko' + j, none⟩) (Below.heap_alloc w _ kb' (World.block_lt_of_cell? w _ h1))).trans h1
theorem rep_some {S S' S4 : Nat → Prop} {t s : Tr} {vk : Int} {vx : ByteArray} {vla : Option Addr} {vll vlc : Nat} {vka : Option Addr} {vkc m g cap : Nat} {r : List Int} {u5 : Tr} {w W0 W5 W8 : World} {y : TV} {us : List TV} {cur : Array Value}
    (hT : TrAt S w t ⟨vk, vx, vla, vll, vlc, vka, t.kids.length, vkc⟩) (hS : ∀ k, S k → k < w.heap.size) (hS' : ∀ k, S' k → k < w.heap.size) (hB8 : Below w.heap.size w W8) (hsz : W0.heap.size = w.heap.size + 3) (hg3 : w.heap.size + 3 ≤ g)
    (hkb : kidB t (m : Int) = true) (hm : m < t.kids.length) (hN : findT t ((m : Int) :: r) = some u5) (hfd : findT (kidAt t m) r = some u5) (hY : TrAt S4 W5 ((putT r (kidAt t m) s).getD noTr) y) (hQ4 : ∀ k, S4 k → S k ∨ S' k ∨ W0.heap.size ≤ k) (hS4 : ∀ k, S4 k → k < W5.heap.size) (_ : W0.heap.size ≤ W5.heap.size)
    (hcap : t.kids.length ≤ cap) (hul : us.length = t.kids.length) (hut : ∀ (i : Nat) (k : Tr) (u : TV), t.kids[i]? = some k → us[i]? = some u → TrAt S W5 k u) (hrow : RowIs cur us) (hg8 : W8.heap[g]? = some (.cells (setR cur m y) 25 (0, 0))) (_ : W5.heap.size ≤ g) (_ : w.heap.size < W5.heap.size)
    (ho : ∀ k, k < W5.heap.size → k ≠ w.heap.size → W8.heap[k]? = W5.heap[k]?) (h58 : W5.heap.size ≤ W8.heap.size) :
    RRPost S S' t ((m : Int) :: r) s w (.returned (.tuple #[.agg #[.int .i64 vk, .string vx, .slice vla vll vlc, .slice (some ⟨g, 0, none⟩) t.kids.length cap], .bool true])) (setT W8 (w.heap.size + 1 + 1) ⟨vk, vx, vla, vll, vlc, some ⟨g, 0, none⟩, t.kids.length, cap⟩) := by
  obtain ⟨k', hk'⟩ : ∃ k', putT r (kidAt t m) s = some k' := by
    have h1 := put_some s r (kidAt t m)
    rw [hfd] at h1
    exact Option.isSome_iff_exists.1 h1
  have hput : putT ((m : Int) :: r) t s = some (.mk t.kind t.text t.leads (t.kids.set m k')) := by
    rw [putT, hkb]
    simp [hk']
  rw [hk'] at hY
  have h9 := setT_below W8 (w.heap.size + 1 + 1) ⟨vk, vx, vla, vll, vlc, some ⟨g, 0, none⟩, t.kids.length, cap⟩
  have hB9 := hB8.trans (h9.mono (by omega))
  have hg9 := (setT_other (w := W8) (b := w.heap.size + 1 + 1) (k := g) ⟨vk, vx, vla, vll, vlc, some ⟨g, 0, none⟩, t.kids.length, cap⟩ (by omega)).trans hg8
  have hkl := hT.kl
  refine ⟨hB9, ⟨vk, vx, vla, vll, vlc, some ⟨g, 0, none⟩, t.kids.length, cap⟩, by rw [hN]; rfl, fun k => S k ∨ S4 k ∨ k = g, fun k hk => ?_, ?_⟩
  · rw [setT_size]
    rcases hk with hk | hk | hk
    · exact ⟨Nat.lt_of_lt_of_le (hS k hk) hB8.size, .inl hk⟩
    · refine ⟨Nat.lt_of_lt_of_le (hS4 k hk) h58, ?_⟩
      rcases hQ4 k hk with h | h | h
      · exact .inl h
      · exact .inr (.inl h)
      · exact .inr (.inr (by omega))
    · rw [hk]
      exact ⟨lt_of_heap hg8, .inr (.inr (by omega))⟩
  · rw [hput]
    refine TrAt.make (t := .mk t.kind t.text t.leads (t.kids.set m k')) hkl.2.2.1 hkl.2.2.2 hkl.2.1 (by show t.kids.length = (t.kids.set m k').length; rw [List.length_set]) (hT.strsIn.move (fun k hk => .inl hk) (fun k hk _ => hB9.block k (hS k hk))) (fun _ => ⟨g, 0, rfl, .inr (.inr rfl), TrsAt.of _ 0 fun i k hk => ?_⟩) ⟨hT.caps.1, hcap⟩
    change (t.kids.set m k')[i]? = some k at hk
    have hmu : m < us.length := by omega
    have hi : i < t.kids.length := by
      have := (List.getElem?_eq_some_iff.1 hk).1
      rw [List.length_set] at this
      exact this
    obtain ⟨ui, hui⟩ : ∃ u, (us.set m y)[i]? = some u := ⟨_, List.getElem?_eq_getElem (by rw [List.length_set]; omega)⟩
    obtain ⟨d0, d1, d2, d3⟩ := RowIs.at hg9 (hrow.set hmu y) hui
    rw [Nat.zero_add]
    refine ⟨ui, d0, d1, d2, d3, ?_⟩
    by_cases hij : i = m
    · subst hij
      rw [List.getElem?_set_self hmu] at hui
      rw [List.getElem?_set_self hi] at hk
      injection hui with hui
      injection hk with hk
      subst hui hk
      refine TrAt.move (fun k hk => .inr (.inl hk)) (fun k hk hlt' => ?_) _ _ hY
      have hkw : k < w.heap.size ∨ w.heap.size + 3 ≤ k := by
        rcases hQ4 k hk with h | h | h
        · exact .inl (hS k h)
        · exact .inl (hS' k h)
        · exact .inr (by omega)
      exact (setT_other _ (by omega)).trans (ho k hlt' (by omega))
    · rw [List.getElem?_set_ne (fun e => hij e.symm)] at hui hk
      exact TrAt.move (fun k hk => .inl hk) (fun k hk hlt' => (setT_other _ (by have := hS k hk; omega)).trans (ho k hlt' (by have := hS k hk; omega))) _ _ (hut i k ui hk hui)
theorem raw4_cell {w : World} {b k o : Nat} {a0 a1 a2 a3 : Value} {v : Value} (hne : k ≠ b) (h : w.cell? ⟨k, o, none⟩ = some v) : ((((w.setCell ⟨b, 0, none⟩ a0).setCell ⟨b, 1, none⟩ a1).setCell ⟨b, 2, none⟩ a2).setCell ⟨b, 3, none⟩ a3).cell? ⟨k, o, none⟩ = some v :=
  (World.cell?_of_block (w := w) (a := ⟨k, o, none⟩) ((((set_other hne).trans (set_other hne)).trans (set_other hne)).trans (set_other hne))).trans h
theorem al_cell {w : World} {k o : Nat} {x : Obj} {v : Value} (h : w.cell? ⟨k, o, none⟩ = some v) : (w.alloc x).cell? ⟨k, o, none⟩ = some v :=
  (World.cell?_of_block (w := w) (a := ⟨k, o, none⟩) (Below.heap_alloc w x k (World.block_lt_of_cell? w _ h))).trans h
set_option maxRecDepth 100000 in
set_option maxHeartbeats 2000000 in
theorem rreplace_any : ∀ (zs : List Int) (S S' : Nat → Prop) (t s : Tr) (v z : TV) (A : Option Addr) (c : Nat) (w : World), (∀ k, S k → k < w.heap.size) → (∀ k, S' k → k < w.heap.size) → TrAt S w t v → TrAt S' w s z → IntsAt w A zs → zs.length ≤ maxLen → zs.length ≤ c → fitT t = true →
    Calls Try.prog 24 #[.agg #[.int .i64 v.kind, .string v.text, .slice v.la v.ll v.lc, .slice v.ka v.kl v.kc], .slice A zs.length c, .agg #[.int .i64 z.kind, .string z.text, .slice z.la z.ll z.lc, .slice z.ka z.kl z.kc]] w (RRPost S S' t zs s w) := by
  intro zs
  induction zs with
  | nil =>
    intro S S' t s v z A c w hS hS' h h' hA hz hc hf
    have hb0 := (((Below.refl w.heap.size w).alloc (Nat.le_refl _) (trO v)).alloc (by rw [World.size_alloc]; omega) (trO z)).alloc (by rw [World.size_alloc, World.size_alloc]; omega) (.cells #[.int .i64 0, .string ⟨#[]⟩, .slice none 0 0, .slice none 0 0] 25)
    have HB0 := Lib.hid hb0
    have HH := Lib.hid h'
    have HS' := Lib.hid hS'
    clear hS hS'
    obtain ⟨x0, x1, x2⟩ := three_blocks w (trO v) (trO z) (.cells #[.int .i64 0, .string ⟨#[]⟩, .slice none 0 0, .slice none 0 0] 25)
    have HU := Lib.hid x1
    have HR := Lib.hid x2
    have u0 := cells_of x1 0 _ rfl
    have u1 := cells_of x1 1 _ rfl
    have u2 := cells_of x1 2 _ rfl
    have u3 := cells_of x1 3 _ rfl
    have ubl := lt_of_heap x1
    have r0 := cells_of x2 0 _ rfl
    have r1 := cells_of x2 1 _ rfl
    have r2 := cells_of x2 2 _ rfl
    have r3 := cells_of x2 3 _ rfl
    have rbl := lt_of_heap x2
    have rrf := Lib.frozen_of_heap x2
    clear h h' hA hz hc hf hb0 x0 x1 x2
    go_enter Try.func24, Try.ntmps24
    go_wp2
    refine bodyPost_ret (v := .tuple #[.agg #[.int .i64 z.kind, .string z.text, .slice z.la z.ll z.lc, .slice z.ka z.kl z.kc], .bool true]) (by simp [results, Try.results24, go_sem, *]) rfl ?_
    have hb : Below w.heap.size w (((w.alloc (trO v)).alloc (trO z)).alloc (trO z)) := (((Below.refl w.heap.size w).alloc (Nat.le_refl _) (trO v)).alloc (by rw [World.size_alloc]; omega) (trO z)).alloc (by rw [World.size_alloc, World.size_alloc]; omega) (trO z)
    refine ⟨hb, z, rfl, S', fun k hk => ⟨Nat.lt_of_lt_of_le (HS'.out k hk) hb.size, .inr (.inl hk)⟩, ?_⟩
    exact HH.out.keep hb
  | cons q r ih =>
    intro S S' t s v z A c w hS hS' h h' hA hz hc hf
    obtain ⟨ab, ao, rfl, hab, ha0⟩ := ints_head hA
    have hb0 := (((Below.refl w.heap.size w).alloc (Nat.le_refl _) (trO v)).alloc (by rw [World.size_alloc]; omega) (trO z)).alloc (by rw [World.size_alloc, World.size_alloc]; omega) (.cells #[.int .i64 0, .string ⟨#[]⟩, .slice none 0 0, .slice none 0 0] 25)
    have HIH := Lib.hid ih
    have HS := Lib.hid hS
    have HS' := Lib.hid hS'
    clear hS hS'
    have HT := Lib.hid h
    have HH := Lib.hid h'
    have HA := Lib.hid hA
    have HZ := Lib.hid hz
    have HF := Lib.hid hf
    have hkl := h.kl.1
    have HA0 := Lib.hid ha0
    obtain ⟨vk, vx, vla, vll, vlc, vka, vkl, vkc⟩ := v
    simp only at hkl
    subst hkl
    obtain ⟨x0, x1, x2⟩ := three_blocks w (trO ⟨vk, vx, vla, vll, vlc, vka, t.kids.length, vkc⟩) (trO z) (.cells #[.int .i64 0, .string ⟨#[]⟩, .slice none 0 0, .slice none 0 0] 25)
    obtain ⟨W0, hW0⟩ : ∃ W0, W0 = ((w.alloc (trO ⟨vk, vx, vla, vll, vlc, vka, t.kids.length, vkc⟩)).alloc (trO z)).alloc (.cells #[.int .i64 0, .string ⟨#[]⟩, .slice none 0 0, .slice none 0 0] 25) := ⟨_, rfl⟩
    have HSZ := Lib.hid (show W0.heap.size = w.heap.size + 3 from by rw [hW0]; simp)
    have HB0 := Lib.hid (show Below w.heap.size w W0 from by rw [hW0]; exact hb0)
    have HRAW := Lib.hid (show ((w.alloc (.cells #[.int .i64 vk, .string vx, .slice vla vll vlc, .slice vka t.kids.length vkc] 25)).alloc (.cells #[.int .i64 z.kind, .string z.text, .slice z.la z.ll z.lc, .slice z.ka z.kl z.kc] 25)).alloc (.cells #[.int .i64 0, .string ⟨#[]⟩, .slice none 0 0, .slice none 0 0] 25) = W0 from hW0.symm)
    rw [← hW0] at x0 x1 x2
    have HX := Lib.hid x0
    have HU := Lib.hid x1
    have HR := Lib.hid x2
    have HAB := Lib.hid hab
    clear hW0
    have hmax : r.length + 1 ≤ 9223372036854775807 := by unfold maxLen at hz; have h := hz; rw [List.length_cons] at h; omega
    have mixedL : Try.prog.follows Departure.mixedOrders = true := mixed
    change r.length + 1 ≤ c at hc
    clear h h' hA hz hf hb0 x0 x1 x2 ih hab ha0
    show Calls _ _ #[_, .slice _ (r.length + 1) c, _] _ _
    by_cases h0 : q < 0
    · have d0 := decide_eq_true h0
      have hkb : kidB t q = false := by unfold kidB; rw [decide_eq_false (by omega)]; rfl
      have HN := Lib.hid (show findT t (q :: r) = none from by rw [findT, hkb]; rfl)
      clear hkb
      go_enter Try.func24, Try.ntmps24
      go_wp2_with fail
      rw [HRAW.out]
      have a0 := (World.cell?_of_block (w := w) (a := ⟨ab, ao, none⟩) (HB0.out.block ab HAB.out)).trans HA0.out
      have abl := Nat.lt_of_lt_of_le HAB.out HB0.out.size
      have k0 := cells_of HX.out 0 _ rfl
      have k1 := cells_of HX.out 1 _ rfl
      have k2 := cells_of HX.out 2 _ rfl
      have k3 := cells_of HX.out 3 _ rfl
      have hbl := lt_of_heap HX.out
      have u0 := cells_of HU.out 0 _ rfl
      have u1 := cells_of HU.out 1 _ rfl
      have u2 := cells_of HU.out 2 _ rfl
      have u3 := cells_of HU.out 3 _ rfl
      have ubl := lt_of_heap HU.out
      have r0 := cells_of HR.out 0 _ rfl
      have r1 := cells_of HR.out 1 _ rfl
      have r2 := cells_of HR.out 2 _ rfl
      have r3 := cells_of HR.out 3 _ rfl
      have rbl := lt_of_heap HR.out
      have rrf := Lib.frozen_of_heap HR.out
      go_region_o
      go_wp2
      refine bodyPost_ret (v := .tuple #[.agg #[.int .i64 0, .string ⟨#[]⟩, .slice none 0 0, .slice none 0 0], .bool false]) (by simp [results, Try.results24, go_sem, *]) rfl ?_
      exact rep_none HN.out (HB0.out.drew.trans ((setT_below _ (w.heap.size + 1 + 1) noTV).mono (by omega)))
    · have d0 := decide_eq_false h0
      by_cases h1 : q < (t.kids.length : Int)
      · have hkb : kidB t q = true := by unfold kidB; rw [decide_eq_true (by omega), decide_eq_true h1]; rfl
        obtain ⟨z0, _, z2⟩ := kidB_get hkb
        have HKB := Lib.hid hkb
        obtain ⟨m, rfl⟩ : ∃ m : Nat, q = (m : Int) := ⟨q.toNat, by omega⟩
        rw [Int.toNat_natCast] at z2
        have hm : m < t.kids.length := by omega
        obtain ⟨kb, ko, hka⟩ : ∃ b off, vka = some ⟨b, off, none⟩ := HT.out.addr.resolve_left (by omega)
        subst hka
        obtain ⟨x, c0, c1, c2, c3, hx⟩ := HT.out.at rfl z2
        have kbl0 : kb < w.heap.size := World.block_lt_of_cell? w _ c3
        have hblk := HB0.out.block kb kbl0
        have HC := Lib.hid (show CellsAt w kb (ko + m * 4) x from ⟨c0, c1, c2, c3⟩)
        have HXX := Lib.hid hx
        have HFK := Lib.hid ((fitT_kids HF.out).2.2 m _ z2)
        have dn1 : decide (t.kids.length ≤ m) = false := decide_eq_false (by omega)
        have hq0 : (0 : Int) ≤ (m : Int) := by omega
        have HM := Lib.hid hm
        have HZ2 := Lib.hid z2
        obtain ⟨it, hit, ht0, ht1, ht2⟩ := info_parts tree_info
        obtain ⟨A2, hA2, hI2⟩ : ∃ A2 : Option Addr, (if c = 1 then (some ⟨ab, ao, none⟩ : Option Addr) else some ⟨ab, ao + 1, none⟩) = A2 ∧ IntsAt w A2 r := by
          refine ⟨_, rfl, ?_⟩
          by_cases h : c = 1
          · rw [if_pos h]
            have hr : r = [] := List.eq_nil_of_length_eq_zero (by omega)
            subst hr
            exact fun h => absurd rfl h
          · rw [if_neg h]
            exact ints_tail HA.out
        have HI2 := Lib.hid hI2
        have HRL := Lib.hid (show r.length ≤ maxLen from by have := HZ.out; rw [List.length_cons] at this; omega)
        have hr1 : (1 : Int) ≤ (r.length : Int) + 1 := by omega
        have N0 := Lib.hid (show w.heap.size ≠ W0.heap.size from by have := HSZ.out; omega)
        have N1 := Lib.hid (show w.heap.size + 1 ≠ W0.heap.size from by have := HSZ.out; omega)
        have NA := Lib.hid (show ab ≠ W0.heap.size from Nat.ne_of_lt (Nat.lt_of_lt_of_le HAB.out HB0.out.size))
        have NK := Lib.hid (show kb ≠ W0.heap.size from Nat.ne_of_lt (Nat.lt_of_lt_of_le kbl0 HB0.out.size))
        have HC1 := Lib.hid (show r.length ≤ c - 1 from by omega)
        clear hI2
        clear hkb z2 hx h0 z0 c0 c1 c2 c3
        cases hfd : findT (kidAt t m) r with
        | none =>
          have HFD := Lib.hid hfd
          have HN := Lib.hid (show findT t ((m : Int) :: r) = none from by rw [findT, HKB.out]; exact hfd)
          clear hfd
          go_enter Try.func24, Try.ntmps24
          go_wp2_with fail
          rw [HRAW.out]
          have a0 := (World.cell?_of_block (w := w) (a := ⟨ab, ao, none⟩) (HB0.out.block ab HAB.out)).trans HA0.out
          have abl := Nat.lt_of_lt_of_le HAB.out HB0.out.size
          have k0 := cells_of HX.out 0 _ rfl
          have k1 := cells_of HX.out 1 _ rfl
          have k2 := cells_of HX.out 2 _ rfl
          have k3 := cells_of HX.out 3 _ rfl
          have hbl := lt_of_heap HX.out
          have u0 := cells_of HU.out 0 _ rfl
          have u1 := cells_of HU.out 1 _ rfl
          have u2 := cells_of HU.out 2 _ rfl
          have u3 := cells_of HU.out 3 _ rfl
          have ubl := lt_of_heap HU.out
          have kbl := Nat.lt_of_lt_of_le kbl0 HB0.out.size
          have c0 := (World.cell?_of_block (w := w) (a := ⟨kb, ko + m * 4, none⟩) hblk).trans HC.out.1
          have c1 := (World.cell?_of_block (w := w) (a := ⟨kb, ko + m * 4 + 1, none⟩) hblk).trans HC.out.2.1
          have c2 := (World.cell?_of_block (w := w) (a := ⟨kb, ko + m * 4 + 2, none⟩) hblk).trans HC.out.2.2.1
          have c3 := (World.cell?_of_block (w := w) (a := ⟨kb, ko + m * 4 + 3, none⟩) hblk).trans HC.out.2.2.2
          clear hblk
          go_region_o
          go_wp2_with fail
          go_region_held3 (fun w' => w'.cell? ⟨w.heap.size, 3, none⟩ = some (.slice (some ⟨kb, ko, none⟩) t.kids.length vkc) ∧ w'.cell? ⟨ab, ao, none⟩ = some (.int .i64 m) ∧ w'.cell? ⟨kb, ko + m * 4, none⟩ = some (.int .i64 x.kind) ∧ w'.cell? ⟨kb, ko + m * 4 + 1, none⟩ = some (.string x.text) ∧ w'.cell? ⟨kb, ko + m * 4 + 2, none⟩ = some (.slice x.la x.ll x.lc) ∧ w'.cell? ⟨kb, ko + m * 4 + 3, none⟩ = some (.slice x.ka x.kl x.kc) ∧ w'.cell? ⟨w.heap.size + 1, 0, none⟩ = some (.int .i64 z.kind) ∧ w'.cell? ⟨w.heap.size + 1, 1, none⟩ = some (.string z.text) ∧ w'.cell? ⟨w.heap.size + 1, 2, none⟩ = some (.slice z.la z.ll z.lc) ∧ w'.cell? ⟨w.heap.size + 1, 3, none⟩ = some (.slice z.ka z.kl z.kc))(first | with_reducible exact ⟨k3, a0, c0, c1, c2, c3, u0, u1, u2, u3⟩ | with_reducible exact ⟨al_cell k3, al_cell a0, al_cell c0, al_cell c1, al_cell c2, al_cell c3, al_cell u0, al_cell u1, al_cell u2, al_cell u3⟩ | with_reducible exact ⟨raw4_cell N0.out k3, raw4_cell NA.out a0, raw4_cell NK.out c0, raw4_cell NK.out c1, raw4_cell NK.out c2, raw4_cell NK.out c3, raw4_cell N1.out u0, raw4_cell N1.out u1, raw4_cell N1.out u2, raw4_cell N1.out u3⟩ | go_keep) ((go_at_call 24; refine (HIH.out S S' (kidAt t m) s x z A2 (c - 1) _ (fun k hk => Nat.lt_of_lt_of_le (HS.out k hk) (HB0.out.trans ((show Below W0.heap.size W0 _ from (by first | exact (Below.refl _ _).drew.drew | exact ((Below.refl _ _).alloc (Nat.le_refl _) _).drew.drew)).mono HB0.out.size)).size) (fun k hk => Nat.lt_of_lt_of_le (HS'.out k hk) (HB0.out.trans ((show Below W0.heap.size W0 _ from (by first | exact (Below.refl _ _).drew.drew | exact ((Below.refl _ _).alloc (Nat.le_refl _) _).drew.drew)).mono HB0.out.size)).size) (HXX.out.keep (HB0.out.trans ((show Below W0.heap.size W0 _ from (by first | exact (Below.refl _ _).drew.drew | exact ((Below.refl _ _).alloc (Nat.le_refl _) _).drew.drew)).mono HB0.out.size))) (HH.out.keep (HB0.out.trans ((show Below W0.heap.size W0 _ from (by first | exact (Below.refl _ _).drew.drew | exact ((Below.refl _ _).alloc (Nat.le_refl _) _).drew.drew)).mono HB0.out.size))) (HI2.out.keep (HB0.out.trans ((show Below W0.heap.size W0 _ from (by first | exact (Below.refl _ _).drew.drew | exact ((Below.refl _ _).alloc (Nat.le_refl _) _).drew.drew)).mono HB0.out.size))) HRL.out HC1.out HFK.out).mono ?_; rintro e w4 ⟨hb4, y, he, S4, hS4, hy⟩; rw [HFD.out] at he; simp only [Option.isSome_none] at he; subst he; have hb5 : Below W0.heap.size W0 w4 := (by first | exact (Below.refl _ _).drew.drew.trans hb4 | exact (((Below.refl _ _).alloc (Nat.le_refl _) _).drew.drew).trans (hb4.mono (show W0.heap.size ≤ (W0.alloc (.cells #[.int .i64 0, .string ⟨#[]⟩, .slice none 0 0, .slice none 0 0] 25)).heap.size from by rw [World.size_alloc]; exact Nat.le_succ _))); have HB5 := Lib.hid hb5; have HY := Lib.hid hy; have HS4 := Lib.hid hS4; have HQ4 := Lib.hid (show ∀ k, S4 k → S k ∨ S' k ∨ W0.heap.size ≤ k from fun k hk => by rcases (hS4 k hk).2 with h | h | h <;> first | exact .inl h | exact .inr (.inl h) | exact .inr (.inr h) | exact .inr (.inr (Nat.le_trans (show W0.heap.size ≤ (W0.alloc (.cells #[.int .i64 0, .string ⟨#[]⟩, .slice none 0 0, .slice none 0 0] 25)).heap.size from by rw [World.size_alloc]; exact Nat.le_succ _) h))); have HLE := Lib.hid hb5.size; have q0 := (World.cell?_of_block (w := W0) (a := ⟨ab, ao, none⟩) (hb5.block ab abl)).trans a0; have qa := Nat.lt_of_lt_of_le abl hb5.size; have q1 := (World.cell?_of_block (w := W0) (a := ⟨kb, ko + m * 4, none⟩) (hb5.block kb kbl)).trans c0; have q2 := (World.cell?_of_block (w := W0) (a := ⟨kb, ko + m * 4 + 1, none⟩) (hb5.block kb kbl)).trans c1; have q3 := (World.cell?_of_block (w := W0) (a := ⟨kb, ko + m * 4 + 2, none⟩) (hb5.block kb kbl)).trans c2; have q4 := (World.cell?_of_block (w := W0) (a := ⟨kb, ko + m * 4 + 3, none⟩) (hb5.block kb kbl)).trans c3; have qk := Nat.lt_of_lt_of_le kbl hb5.size; have hx4 := (hb5.block w.heap.size hbl).trans HX.out; have hu4 := (hb5.block (w.heap.size + 1) ubl).trans HU.out; (first | (have hbox : w4.heap[W0.heap.size]? = some (.cells #[.int .i64 0, .string ⟨#[]⟩, .slice none 0 0, .slice none 0 0] 25) := (hb4.block W0.heap.size (show W0.heap.size < (W0.alloc (.cells #[.int .i64 0, .string ⟨#[]⟩, .slice none 0 0, .slice none 0 0] 25)).heap.size from by rw [World.size_alloc]; exact Nat.lt_succ_self _)).trans (heap_alloc_new W0 (.cells #[.int .i64 0, .string ⟨#[]⟩, .slice none 0 0, .slice none 0 0] 25)); have b0 := cells_of hbox 0 _ rfl; have b1 := cells_of hbox 1 _ rfl; have b2 := cells_of hbox 2 _ rfl; have b3 := cells_of hbox 3 _ rfl; have bbl := lt_of_heap hbox; have bbf := Lib.frozen_of_heap hbox; have HBOX := Lib.hid hbox; have HNQ := Lib.hid (not_box hS4 HS.out HS'.out HB0.out.size (show W0.heap.size < (W0.alloc (.cells #[.int .i64 0, .string ⟨#[]⟩, .slice none 0 0, .slice none 0 0] 25)).heap.size from by rw [World.size_alloc]; exact Nat.lt_succ_self _)); clear hbox) | skip); clear hb4 hb5 hy hS4 k0 k1 k2 k3 hbl u0 u1 u2 u3 ubl a0 abl c0 c1 c2 c3 kbl; have a0 := q0; have abl := qa; have c0 := q1; have c1 := q2; have c2 := q3; have c3 := q4; have kbl := qk; clear q0 qa q1 q2 q3 q4 qk; have k0 := cells_of hx4 0 _ rfl; have k1 := cells_of hx4 1 _ rfl; have k2 := cells_of hx4 2 _ rfl; have k3 : w4.cell? ⟨w.heap.size, 3, none⟩ = some (.slice (some ⟨kb, ko, none⟩) t.kids.length vkc) := cells_of hx4 3 _ rfl; have hbl := lt_of_heap hx4; have u0 : w4.cell? ⟨w.heap.size + 1, 0, none⟩ = some (.int .i64 z.kind) := cells_of hu4 0 _ rfl; have u1 : w4.cell? ⟨w.heap.size + 1, 1, none⟩ = some (.string z.text) := cells_of hu4 1 _ rfl; have u2 : w4.cell? ⟨w.heap.size + 1, 2, none⟩ = some (.slice z.la z.ll z.lc) := cells_of hu4 2 _ rfl; have u3 : w4.cell? ⟨w.heap.size + 1, 3, none⟩ = some (.slice z.ka z.kl z.kc) := cells_of hu4 3 _ rfl; have ubl := lt_of_heap hu4; clear hx4 hu4))
          all_goals
            first
              | (obtain ⟨W5, hW5⟩ : ∃ W, W = w4.alloc (trO y) := ⟨_, rfl⟩
                 obtain ⟨gb, hgb⟩ : ∃ g, g = w4.heap.size := ⟨_, rfl⟩
                 rw [show w4.alloc (.cells #[.int .i64 y.kind, .string y.text, .slice y.la y.ll y.lc, .slice y.ka y.kl y.kc] 25) = W5 from hW5.symm, show w4.heap.size = gb from hgb.symm]
                 have HBX := Lib.hid (show W5.heap[gb]? = some (trO y) from by rw [hW5, hgb]; exact heap_alloc_new _ _)
                 have HB6 := Lib.hid (show Below W0.heap.size W0 W5 from by rw [hW5]; exact HB5.out.alloc HB5.out.size _)
                 have HY5 := Lib.hid (show TrAt S4 W5 ((putT r (kidAt t m) s).getD noTr) y from by rw [hW5]; exact HY.out.keep ((Below.refl _ _).alloc (Nat.le_refl _) _))
                 have HGB := Lib.hid (show W0.heap.size ≤ gb from by rw [hgb]; exact HLE.out)
                 have HS5 := Lib.hid (show w4.heap.size ≤ W5.heap.size from by rw [hW5, World.size_alloc]; exact Nat.le_succ _)
                 clear hW5 hgb)
              | (obtain ⟨W5, hW5⟩ : ∃ W, W = setT w4 W0.heap.size y := ⟨_, rfl⟩
                 obtain ⟨gb, hgb⟩ : ∃ g, g = W0.heap.size := ⟨_, rfl⟩
                 rw [show (((w4.setCell ⟨W0.heap.size, 0, none⟩ (.int .i64 y.kind)).setCell ⟨W0.heap.size, 1, none⟩ (.string y.text)).setCell ⟨W0.heap.size, 2, none⟩ (.slice y.la y.ll y.lc)).setCell ⟨W0.heap.size, 3, none⟩ (.slice y.ka y.kl y.kc) = W5 from hW5.symm, show W0.heap.size = gb from hgb.symm]
                 have HBX := Lib.hid (show W5.heap[gb]? = some (trO y) from by rw [hW5, hgb]; exact setT_heap (v := noTV) y HBOX.out)
                 have HB6 := Lib.hid (show Below W0.heap.size W0 W5 from by rw [hW5]; exact HB5.out.trans (setT_below w4 W0.heap.size y))
                 have HY5 := Lib.hid (show TrAt S4 W5 ((putT r (kidAt t m) s).getD noTr) y from by rw [hW5]; exact TrAt.move (fun _ h => h) (fun k hk _ => setT_other y (HNQ.out k hk)) _ _ HY.out)
                 have HGB := Lib.hid (show W0.heap.size ≤ gb from by rw [hgb]; exact Nat.le_refl _)
                 have HS5 := Lib.hid (show w4.heap.size ≤ W5.heap.size from by rw [hW5, setT_size]; exact Nat.le_refl _)
                 clear hW5 hgb b0 b1 b2 b3 bbl bbf)
            clear a0 abl c0 c1 c2 c3 kbl k0 k1 k2 k3 hbl u0 u1 u2 u3 ubl
            have hr5 := (HB6.out.block (w.heap.size + 1 + 1) (lt_of_heap HR.out)).trans HR.out
            have r0 := cells_of hr5 0 _ rfl
            have r1 := cells_of hr5 1 _ rfl
            have r2 := cells_of hr5 2 _ rfl
            have r3 := cells_of hr5 3 _ rfl
            have rbl := lt_of_heap hr5
            have rrf := Lib.frozen_of_heap hr5
            clear hr5
            go_wp2
            refine bodyPost_ret (v := .tuple #[.agg #[.int .i64 0, .string ⟨#[]⟩, .slice none 0 0, .slice none 0 0], .bool false]) (by simp [results, Try.results24, go_sem, *]) rfl ?_
            exact rep_none HN.out ((HB0.out.trans (HB6.out.mono HB0.out.size)).trans ((setT_below _ (w.heap.size + 1 + 1) noTV).mono (by omega)))
        | some u5 =>
          have HFD := Lib.hid hfd
          have HN := Lib.hid (show findT t ((m : Int) :: r) = some u5 from by rw [findT, HKB.out]; exact hfd)
          clear hfd
          go_enter Try.func24, Try.ntmps24
          go_wp2_with fail
          rw [HRAW.out]
          have a0 := (World.cell?_of_block (w := w) (a := ⟨ab, ao, none⟩) (HB0.out.block ab HAB.out)).trans HA0.out
          have abl := Nat.lt_of_lt_of_le HAB.out HB0.out.size
          have k0 := cells_of HX.out 0 _ rfl
          have k1 := cells_of HX.out 1 _ rfl
          have k2 := cells_of HX.out 2 _ rfl
          have k3 := cells_of HX.out 3 _ rfl
          have hbl := lt_of_heap HX.out
          have u0 := cells_of HU.out 0 _ rfl
          have u1 := cells_of HU.out 1 _ rfl
          have u2 := cells_of HU.out 2 _ rfl
          have u3 := cells_of HU.out 3 _ rfl
          have ubl := lt_of_heap HU.out
          have kbl := Nat.lt_of_lt_of_le kbl0 HB0.out.size
          have c0 := (World.cell?_of_block (w := w) (a := ⟨kb, ko + m * 4, none⟩) hblk).trans HC.out.1
          have c1 := (World.cell?_of_block (w := w) (a := ⟨kb, ko + m * 4 + 1, none⟩) hblk).trans HC.out.2.1
          have c2 := (World.cell?_of_block (w := w) (a := ⟨kb, ko + m * 4 + 2, none⟩) hblk).trans HC.out.2.2.1
          have c3 := (World.cell?_of_block (w := w) (a := ⟨kb, ko + m * 4 + 3, none⟩) hblk).trans HC.out.2.2.2
          clear hblk
          go_region_o
          go_wp2_with fail
          go_region_held3 (fun w' => w'.cell? ⟨w.heap.size, 3, none⟩ = some (.slice (some ⟨kb, ko, none⟩) t.kids.length vkc) ∧ w'.cell? ⟨ab, ao, none⟩ = some (.int .i64 m) ∧ w'.cell? ⟨kb, ko + m * 4, none⟩ = some (.int .i64 x.kind) ∧ w'.cell? ⟨kb, ko + m * 4 + 1, none⟩ = some (.string x.text) ∧ w'.cell? ⟨kb, ko + m * 4 + 2, none⟩ = some (.slice x.la x.ll x.lc) ∧ w'.cell? ⟨kb, ko + m * 4 + 3, none⟩ = some (.slice x.ka x.kl x.kc) ∧ w'.cell? ⟨w.heap.size + 1, 0, none⟩ = some (.int .i64 z.kind) ∧ w'.cell? ⟨w.heap.size + 1, 1, none⟩ = some (.string z.text) ∧ w'.cell? ⟨w.heap.size + 1, 2, none⟩ = some (.slice z.la z.ll z.lc) ∧ w'.cell? ⟨w.heap.size + 1, 3, none⟩ = some (.slice z.ka z.kl z.kc))(first | with_reducible exact ⟨k3, a0, c0, c1, c2, c3, u0, u1, u2, u3⟩ | with_reducible exact ⟨al_cell k3, al_cell a0, al_cell c0, al_cell c1, al_cell c2, al_cell c3, al_cell u0, al_cell u1, al_cell u2, al_cell u3⟩ | with_reducible exact ⟨raw4_cell N0.out k3, raw4_cell NA.out a0, raw4_cell NK.out c0, raw4_cell NK.out c1, raw4_cell NK.out c2, raw4_cell NK.out c3, raw4_cell N1.out u0, raw4_cell N1.out u1, raw4_cell N1.out u2, raw4_cell N1.out u3⟩ | go_keep) ((go_at_call 24; refine (HIH.out S S' (kidAt t m) s x z A2 (c - 1) _ (fun k hk => Nat.lt_of_lt_of_le (HS.out k hk) (HB0.out.trans ((show Below W0.heap.size W0 _ from (by first | exact (Below.refl _ _).drew.drew | exact ((Below.refl _ _).alloc (Nat.le_refl _) _).drew.drew)).mono HB0.out.size)).size) (fun k hk => Nat.lt_of_lt_of_le (HS'.out k hk) (HB0.out.trans ((show Below W0.heap.size W0 _ from (by first | exact (Below.refl _ _).drew.drew | exact ((Below.refl _ _).alloc (Nat.le_refl _) _).drew.drew)).mono HB0.out.size)).size) (HXX.out.keep (HB0.out.trans ((show Below W0.heap.size W0 _ from (by first | exact (Below.refl _ _).drew.drew | exact ((Below.refl _ _).alloc (Nat.le_refl _) _).drew.drew)).mono HB0.out.size))) (HH.out.keep (HB0.out.trans ((show Below W0.heap.size W0 _ from (by first | exact (Below.refl _ _).drew.drew | exact ((Below.refl _ _).alloc (Nat.le_refl _) _).drew.drew)).mono HB0.out.size))) (HI2.out.keep (HB0.out.trans ((show Below W0.heap.size W0 _ from (by first | exact (Below.refl _ _).drew.drew | exact ((Below.refl _ _).alloc (Nat.le_refl _) _).drew.drew)).mono HB0.out.size))) HRL.out HC1.out HFK.out).mono ?_; rintro e w4 ⟨hb4, y, he, S4, hS4, hy⟩; rw [HFD.out] at he; simp only [Option.isSome_some] at he; subst he; have hb5 : Below W0.heap.size W0 w4 := (by first | exact (Below.refl _ _).drew.drew.trans hb4 | exact (((Below.refl _ _).alloc (Nat.le_refl _) _).drew.drew).trans (hb4.mono (show W0.heap.size ≤ (W0.alloc (.cells #[.int .i64 0, .string ⟨#[]⟩, .slice none 0 0, .slice none 0 0] 25)).heap.size from by rw [World.size_alloc]; exact Nat.le_succ _))); have HB5 := Lib.hid hb5; have HY := Lib.hid hy; have HS4 := Lib.hid hS4; have HQ4 := Lib.hid (show ∀ k, S4 k → S k ∨ S' k ∨ W0.heap.size ≤ k from fun k hk => by rcases (hS4 k hk).2 with h | h | h <;> first | exact .inl h | exact .inr (.inl h) | exact .inr (.inr h) | exact .inr (.inr (Nat.le_trans (show W0.heap.size ≤ (W0.alloc (.cells #[.int .i64 0, .string ⟨#[]⟩, .slice none 0 0, .slice none 0 0] 25)).heap.size from by rw [World.size_alloc]; exact Nat.le_succ _) h))); have HLE := Lib.hid hb5.size; have q0 := (World.cell?_of_block (w := W0) (a := ⟨ab, ao, none⟩) (hb5.block ab abl)).trans a0; have qa := Nat.lt_of_lt_of_le abl hb5.size; have q1 := (World.cell?_of_block (w := W0) (a := ⟨kb, ko + m * 4, none⟩) (hb5.block kb kbl)).trans c0; have q2 := (World.cell?_of_block (w := W0) (a := ⟨kb, ko + m * 4 + 1, none⟩) (hb5.block kb kbl)).trans c1; have q3 := (World.cell?_of_block (w := W0) (a := ⟨kb, ko + m * 4 + 2, none⟩) (hb5.block kb kbl)).trans c2; have q4 := (World.cell?_of_block (w := W0) (a := ⟨kb, ko + m * 4 + 3, none⟩) (hb5.block kb kbl)).trans c3; have qk := Nat.lt_of_lt_of_le kbl hb5.size; have hx4 := (hb5.block w.heap.size hbl).trans HX.out; have hu4 := (hb5.block (w.heap.size + 1) ubl).trans HU.out; (first | (have hbox : w4.heap[W0.heap.size]? = some (.cells #[.int .i64 0, .string ⟨#[]⟩, .slice none 0 0, .slice none 0 0] 25) := (hb4.block W0.heap.size (show W0.heap.size < (W0.alloc (.cells #[.int .i64 0, .string ⟨#[]⟩, .slice none 0 0, .slice none 0 0] 25)).heap.size from by rw [World.size_alloc]; exact Nat.lt_succ_self _)).trans (heap_alloc_new W0 (.cells #[.int .i64 0, .string ⟨#[]⟩, .slice none 0 0, .slice none 0 0] 25)); have b0 := cells_of hbox 0 _ rfl; have b1 := cells_of hbox 1 _ rfl; have b2 := cells_of hbox 2 _ rfl; have b3 := cells_of hbox 3 _ rfl; have bbl := lt_of_heap hbox; have bbf := Lib.frozen_of_heap hbox; have HBOX := Lib.hid hbox; have HNQ := Lib.hid (not_box hS4 HS.out HS'.out HB0.out.size (show W0.heap.size < (W0.alloc (.cells #[.int .i64 0, .string ⟨#[]⟩, .slice none 0 0, .slice none 0 0] 25)).heap.size from by rw [World.size_alloc]; exact Nat.lt_succ_self _)); clear hbox) | skip); clear hb4 hb5 hy hS4 k0 k1 k2 k3 hbl u0 u1 u2 u3 ubl a0 abl c0 c1 c2 c3 kbl; have a0 := q0; have abl := qa; have c0 := q1; have c1 := q2; have c2 := q3; have c3 := q4; have kbl := qk; clear q0 qa q1 q2 q3 q4 qk; have k0 := cells_of hx4 0 _ rfl; have k1 := cells_of hx4 1 _ rfl; have k2 := cells_of hx4 2 _ rfl; have k3 : w4.cell? ⟨w.heap.size, 3, none⟩ = some (.slice (some ⟨kb, ko, none⟩) t.kids.length vkc) := cells_of hx4 3 _ rfl; have hbl := lt_of_heap hx4; have u0 : w4.cell? ⟨w.heap.size + 1, 0, none⟩ = some (.int .i64 z.kind) := cells_of hu4 0 _ rfl; have u1 : w4.cell? ⟨w.heap.size + 1, 1, none⟩ = some (.string z.text) := cells_of hu4 1 _ rfl; have u2 : w4.cell? ⟨w.heap.size + 1, 2, none⟩ = some (.slice z.la z.ll z.lc) := cells_of hu4 2 _ rfl; have u3 : w4.cell? ⟨w.heap.size + 1, 3, none⟩ = some (.slice z.ka z.kl z.kc) := cells_of hu4 3 _ rfl; have ubl := lt_of_heap hu4; clear hx4 hu4))
          all_goals
            first
              | (obtain ⟨W5, hW5⟩ : ∃ W, W = w4.alloc (trO y) := ⟨_, rfl⟩
                 obtain ⟨gb, hgb⟩ : ∃ g, g = w4.heap.size := ⟨_, rfl⟩
                 rw [show w4.alloc (.cells #[.int .i64 y.kind, .string y.text, .slice y.la y.ll y.lc, .slice y.ka y.kl y.kc] 25) = W5 from hW5.symm, show w4.heap.size = gb from hgb.symm]
                 have HBX := Lib.hid (show W5.heap[gb]? = some (trO y) from by rw [hW5, hgb]; exact heap_alloc_new _ _)
                 have HB6 := Lib.hid (show Below W0.heap.size W0 W5 from by rw [hW5]; exact HB5.out.alloc HB5.out.size _)
                 have HY5 := Lib.hid (show TrAt S4 W5 ((putT r (kidAt t m) s).getD noTr) y from by rw [hW5]; exact HY.out.keep ((Below.refl _ _).alloc (Nat.le_refl _) _))
                 have HGB := Lib.hid (show W0.heap.size ≤ gb from by rw [hgb]; exact HLE.out)
                 have HS5 := Lib.hid (show w4.heap.size ≤ W5.heap.size from by rw [hW5, World.size_alloc]; exact Nat.le_succ _)
                 clear hW5 hgb)
              | (obtain ⟨W5, hW5⟩ : ∃ W, W = setT w4 W0.heap.size y := ⟨_, rfl⟩
                 obtain ⟨gb, hgb⟩ : ∃ g, g = W0.heap.size := ⟨_, rfl⟩
                 rw [show (((w4.setCell ⟨W0.heap.size, 0, none⟩ (.int .i64 y.kind)).setCell ⟨W0.heap.size, 1, none⟩ (.string y.text)).setCell ⟨W0.heap.size, 2, none⟩ (.slice y.la y.ll y.lc)).setCell ⟨W0.heap.size, 3, none⟩ (.slice y.ka y.kl y.kc) = W5 from hW5.symm, show W0.heap.size = gb from hgb.symm]
                 have HBX := Lib.hid (show W5.heap[gb]? = some (trO y) from by rw [hW5, hgb]; exact setT_heap (v := noTV) y HBOX.out)
                 have HB6 := Lib.hid (show Below W0.heap.size W0 W5 from by rw [hW5]; exact HB5.out.trans (setT_below w4 W0.heap.size y))
                 have HY5 := Lib.hid (show TrAt S4 W5 ((putT r (kidAt t m) s).getD noTr) y from by rw [hW5]; exact TrAt.move (fun _ h => h) (fun k hk _ => setT_other y (HNQ.out k hk)) _ _ HY.out)
                 have HGB := Lib.hid (show W0.heap.size ≤ gb from by rw [hgb]; exact Nat.le_refl _)
                 have HS5 := Lib.hid (show w4.heap.size ≤ W5.heap.size from by rw [hW5, setT_size]; exact Nat.le_refl _)
                 clear hW5 hgb b0 b1 b2 b3 bbl bbf)
            clear a0 abl c0 c1 c2 c3 kbl k0 k1 k2 k3 hbl u0 u1 u2 u3 ubl
            have hx5 := (HB6.out.block w.heap.size (lt_of_heap HX.out)).trans HX.out
            have HX5 := Lib.hid hx5
            have k3 : W5.cell? ⟨w.heap.size, 3, none⟩ = some (.slice (some ⟨kb, ko, none⟩) t.kids.length vkc) := cells_of hx5 3 _ rfl
            have hbl := lt_of_heap hx5
            have rf := Lib.frozen_of_heap hx5
            clear hx5
            have hbw5 := HB0.out.trans (HB6.out.mono HB0.out.size)
            have HBW5 := Lib.hid hbw5
            obtain ⟨us, hul, hut, huc⟩ := KidsIn.vals (HT.out.keep hbw5)
            obtain ⟨kb', ko', hka', hcs⟩ := huc (Nat.lt_of_le_of_lt (Nat.zero_le _) HM.out)
            have HUL := Lib.hid hul
            have HUT := Lib.hid hut
            have HUC := Lib.hid hcs
            have HKA := Lib.hid hka'
            clear hul hut huc hbw5 hka' hcs
            go_wp2_with (at_builtin; refine wpList_append_lies _ rfl _ _ 23 rfl W5.heap.size 25 it _ 4 72 Try.underlying23 hit ht0 ht1 ht2 rfl (by decide) (.slice (some ⟨W5.heap.size, 0, none⟩) 0 0) 0 [] rfl (own_empty W5 _) ⟨kb, ko, none⟩ t.kids.length vkc (tvCells us) rfl (by rw [tvCells_length, HUL.out]) (kids_at HKA.out HUC.out) (tvCells_one us) (Nat.lt_of_le_of_lt (Nat.zero_le _) HM.out) (by have := (fitT_kids HF.out).2.1; unfold maxLen; omega) (by have := (fitT_kids HF.out).2.1; omega) (by rw [World.size_alloc]; exact Nat.le_succ _) (W5.heap.size + 1) (World.size_alloc _ _) ?_; intro g cap w6 hown hgrow _ hglt; simp only [Nat.zero_add, List.nil_append] at hown ⊢; obtain ⟨hg5, hcap, cur, hcur, hrow⟩ := row_of_own hown (Nat.lt_of_le_of_lt (Nat.zero_le _) HM.out); have hb6 : Below W5.heap.size W5 w6 := ((Below.refl W5.heap.size W5).alloc (Nat.le_refl _) _).grown hgrow (by rw [World.size_alloc]; exact Nat.le_succ _) (fun k hk => by simp [Value.ownBlock] at hk; omega); have HG5 := Lib.hid hg5; have HCAP := Lib.hid hcap; have HCUR := Lib.hid hcur; have HROW := Lib.hid hrow; have HBB := Lib.hid hb6; have hx6 := (hb6.block w.heap.size hbl).trans HX5.out; have HX6 := Lib.hid hx6; clear k3 hbl rf hown hgrow hglt hg5 hcap hcur hrow hb6; have k3 : w6.cell? ⟨w.heap.size, 3, none⟩ = some (.slice (some ⟨kb, ko, none⟩) t.kids.length vkc) := cells_of hx6 3 _ rfl; have hbl := lt_of_heap hx6; have rf := Lib.frozen_of_heap hx6; clear hx6)
            obtain ⟨W7, hW7⟩ : ∃ W, W = w6.setCell ⟨w.heap.size, 3, none⟩ (.slice (some ⟨g, 0, none⟩) t.kids.length cap) := ⟨_, rfl⟩
            rw [← hW7]
            have hlt5 : w.heap.size < W5.heap.size := lt_of_heap HX5.out
            have HX7 := Lib.hid (show W7.heap[w.heap.size]? = some (trO ⟨vk, vx, vla, vll, vlc, some ⟨g, 0, none⟩, t.kids.length, cap⟩) from by rw [hW7]; exact heap_set HX6.out rfl)
            have HO7 := Lib.hid (show ∀ k, k < W5.heap.size → k ≠ w.heap.size → W7.heap[k]? = W5.heap[k]? from fun k hk hne => by rw [hW7]; exact (set_other hne).trans (HBB.out.block k hk))
            have HG7 := Lib.hid (show W7.heap[g]? = some (.cells cur 25 (0, 0)) from by rw [hW7]; exact (set_other (by have := HG5.out; omega)).trans HCUR.out)
            have HB7 := Lib.hid (show Below w.heap.size w W7 from by rw [hW7]; exact (HBW5.out.trans (HBB.out.mono (Nat.le_of_lt hlt5))).setCell (p := ⟨w.heap.size, 3, none⟩) (Nat.le_refl _) _)
            have HS7 := Lib.hid (show W5.heap.size ≤ W7.heap.size from by rw [hW7]; simp only [World.setCell, Array.size_modify]; exact HBB.out.size)
            have hgb7 : W7.heap[gb]? = some (trO y) := (HO7.out gb (lt_of_heap HBX.out) (by have h1 := HGB.out; have h2 := HSZ.out; omega)).trans HBX.out
            have hr7 : W7.heap[w.heap.size + 1 + 1]? = _ := (HO7.out (w.heap.size + 1 + 1) (Nat.lt_of_lt_of_le (lt_of_heap HR.out) HB6.out.size) (by omega)).trans ((HB6.out.block (w.heap.size + 1 + 1) (lt_of_heap HR.out)).trans HR.out)
            have HR7 := Lib.hid hr7
            have HLT5 := Lib.hid hlt5
            clear hW7 k3 hbl rf hlt5 hr7
            obtain ⟨um, hum⟩ : ∃ u, us[m]? = some u := ⟨_, List.getElem?_eq_getElem (by rw [HUL.out]; exact HM.out)⟩
            obtain ⟨q0, q1, q2, q3⟩ := HROW.out m um hum
            have k3 : W7.cell? ⟨w.heap.size, 3, none⟩ = some (.slice (some ⟨g, 0, none⟩) t.kids.length cap) := cells_of HX7.out 3 _ rfl
            have hbl := lt_of_heap HX7.out
            have a0 := (World.cell?_of_block (w := w) (a := ⟨ab, ao, none⟩) (HB7.out.block ab HAB.out)).trans HA0.out
            have y0 : W7.cell? ⟨gb, 0, none⟩ = some (.int .i64 y.kind) := cells_of hgb7 0 _ rfl
            have y1 : W7.cell? ⟨gb, 1, none⟩ = some (.string y.text) := cells_of hgb7 1 _ rfl
            have y2 : W7.cell? ⟨gb, 2, none⟩ = some (.slice y.la y.ll y.lc) := cells_of hgb7 2 _ rfl
            have y3 : W7.cell? ⟨gb, 3, none⟩ = some (.slice y.ka y.kl y.kc) := cells_of hgb7 3 _ rfl
            have c0 := cells_of HG7.out _ _ q0
            have c1 := cells_of HG7.out _ _ q1
            have c2 := cells_of HG7.out _ _ q2
            have c3 := cells_of HG7.out _ _ q3
            have gbl := lt_of_heap HG7.out
            have grf := Lib.frozen_of_heap HG7.out
            have hml : (m : Int) < (t.kids.length : Int) := by have := HM.out; omega
            clear q0 q1 q2 q3 hum hgb7
            go_region
            all_goals
              obtain ⟨W8, hW8⟩ : ∃ W, W = (setK W7 g m y).drew := ⟨_, rfl⟩
              rw [show ((((W7.setCell ⟨g, m * 4, none⟩ (.int .i64 y.kind)).setCell ⟨g, m * 4 + 1, none⟩ (.string y.text)).setCell ⟨g, m * 4 + 2, none⟩ (.slice y.la y.ll y.lc)).setCell ⟨g, m * 4 + 3, none⟩ (.slice y.ka y.kl y.kc)).drew = W8 from hW8.symm]
              have hgw : g ≠ w.heap.size := by have h1 := HG5.out; have h2 := HLT5.out; omega
              have hg3 : w.heap.size + 3 ≤ g := by have h1 := HG5.out; have h2 := HB6.out.size; have h3 := HSZ.out; omega
              have HO8 := Lib.hid (show ∀ k, k < W7.heap.size → k ≠ g → W8.heap[k]? = W7.heap[k]? from fun k hk hne => by rw [hW8]; exact (setK_rest W7 g m y).block k hk hne)
              have HS8 := Lib.hid (show W8.heap.size = W7.heap.size from by rw [hW8]; simp [setK, World.setCell])
              have HG8 := Lib.hid (show W8.heap[g]? = some (.cells (setR cur m y) 25 (0, 0)) from by rw [hW8]; exact setK_heap y HG7.out)
              have HB8 := Lib.hid (show Below w.heap.size w W8 from by rw [hW8]; exact HB7.out.trans (((setK_rest W7 g m y).down (by omega) (Nat.le_of_lt hbl)).drew))
              have hx8 := (HO8.out w.heap.size hbl (by omega)).trans HX7.out
              have hr8 := (HO8.out (w.heap.size + 1 + 1) (lt_of_heap HR7.out) (by omega)).trans HR7.out
              have HG3 := Lib.hid hg3
              clear k3 hbl a0 y0 y1 y2 y3 c0 c1 c2 c3 gbl grf hW8 hgw hg3
              have k0 : W8.cell? ⟨w.heap.size, 0, none⟩ = some (.int .i64 vk) := cells_of hx8 0 _ rfl
              have k1 : W8.cell? ⟨w.heap.size, 1, none⟩ = some (.string vx) := cells_of hx8 1 _ rfl
              have k2 : W8.cell? ⟨w.heap.size, 2, none⟩ = some (.slice vla vll vlc) := cells_of hx8 2 _ rfl
              have k3 : W8.cell? ⟨w.heap.size, 3, none⟩ = some (.slice (some ⟨g, 0, none⟩) t.kids.length cap) := cells_of hx8 3 _ rfl
              have hbl := lt_of_heap hx8
              have r0 := cells_of hr8 0 _ rfl
              have r1 := cells_of hr8 1 _ rfl
              have r2 := cells_of hr8 2 _ rfl
              have r3 := cells_of hr8 3 _ rfl
              have rbl := lt_of_heap hr8
              have rrf := Lib.frozen_of_heap hr8
              clear hx8 hr8
              go_wp2
              refine bodyPost_ret (v := .tuple #[.agg #[.int .i64 vk, .string vx, .slice vla vll vlc, .slice (some ⟨g, 0, none⟩) t.kids.length cap], .bool true]) (by simp [results, Try.results24, go_sem, *]) rfl ?_
              exact rep_some HT.out HS.out HS'.out HB8.out HSZ.out HG3.out HKB.out HM.out HN.out HFD.out HY5.out HQ4.out (fun k hk => Nat.lt_of_lt_of_le (HS4.out k hk).1 HS5.out) HB6.out.size HCAP.out HUL.out HUT.out HROW.out HG8.out HG5.out HLT5.out (fun k hk hne => (HO8.out k (Nat.lt_of_lt_of_le hk HS7.out) (by have := HG5.out; omega)).trans (HO7.out k hk hne)) (by rw [HS8.out]; exact HS7.out)
      · have d1 : decide ((t.kids.length : Int) ≤ q) = true := decide_eq_true (by omega)
        have hkb : kidB t q = false := by unfold kidB; rw [decide_eq_false h1, Bool.and_false]
        have HN := Lib.hid (show findT t (q :: r) = none from by rw [findT, hkb]; rfl)
        clear hkb
        go_enter Try.func24, Try.ntmps24
        go_wp2_with fail
        rw [HRAW.out]
        have a0 := (World.cell?_of_block (w := w) (a := ⟨ab, ao, none⟩) (HB0.out.block ab HAB.out)).trans HA0.out
        have abl := Nat.lt_of_lt_of_le HAB.out HB0.out.size
        have k0 := cells_of HX.out 0 _ rfl
        have k1 := cells_of HX.out 1 _ rfl
        have k2 := cells_of HX.out 2 _ rfl
        have k3 := cells_of HX.out 3 _ rfl
        have hbl := lt_of_heap HX.out
        have u0 := cells_of HU.out 0 _ rfl
        have u1 := cells_of HU.out 1 _ rfl
        have u2 := cells_of HU.out 2 _ rfl
        have u3 := cells_of HU.out 3 _ rfl
        have ubl := lt_of_heap HU.out
        have r0 := cells_of HR.out 0 _ rfl
        have r1 := cells_of HR.out 1 _ rfl
        have r2 := cells_of HR.out 2 _ rfl
        have r3 := cells_of HR.out 3 _ rfl
        have rbl := lt_of_heap HR.out
        have rrf := Lib.frozen_of_heap HR.out
        go_region_o
        all_goals
          go_wp2
          refine bodyPost_ret (v := .tuple #[.agg #[.int .i64 0, .string ⟨#[]⟩, .slice none 0 0, .slice none 0 0], .bool false]) (by simp [results, Try.results24, go_sem, *]) rfl ?_
          exact rep_none HN.out (HB0.out.drew.trans ((setT_below _ (w.heap.size + 1 + 1) noTV).mono (by omega)))
end Go.Proofs.Ytojekhbebcdccaa
