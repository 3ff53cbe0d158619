/- The contract of chains. Condition: at most 1,000 keys. -/
import Derived.Test.YtedlfjolmhkpdaaPosSearch
import Derived.StillTailTactics
namespace Go.Proofs.Ytedlfjolmhkpdaa
open Go.RowKit
theorem int_info : (Try.prog.info? 3).map (fun i => (i.zero, i.size, i.bytes)) = some (some (.int .i64 0), 1, 8) := by kernel_rfl
def ivs (l : List Nat) : List Value := l.map fun n : Nat => .int .i64 (n : Int)
theorem ivs_len (l : List Nat) : (ivs l).length = l.length := by unfold ivs; simp
theorem make_ints (n : Nat) (hn : n ≤ 1000) (w : World) : (Instr.makeSlice 43 (.int .i64 (n : Int)) (.int .i64 (n : Int))).run Try.prog w = .ok (.slice (some ⟨w.heap.size, 0, none⟩) n n) (w.alloc (.cells (madeCells #[.int .i64 0] n) 3)) := by
  obtain ⟨i0, hi, hz0, hz1, hz2⟩ := info_parts int_info
  have hr := run_make (P := Try.prog) w 43 3 i0 _ Try.underlying43 hi hz0 .i64 .i64 (n : Int) (n : Int) (by omega) (by omega) (by rw [hz2]; omega) (by omega)
  rw [hz1, Nat.mul_one, Int.toNat_natCast] at hr
  exact hr
theorem made_list (z : Value) (n : Nat) : (madeCells #[z] n).toList = List.replicate n z := toList_madeCells_one z n
theorem heads_len : (l : List Key) → (chainsP l).2.length ≤ l.length
  | [] => Nat.le_refl 0
  | k :: r => by
    have ih := heads_len r
    rw [chainsP]
    split
    · show (putH (chainsP r).2 k).length ≤ _
      unfold putH
      split <;> simp <;> omega
    · show (chainsP r).2.length ≤ _
      simp
      omega
theorem counts_len (l : List Key) : (chainsP l).1.length = l.length := by rw [(chains_best l).1, best_len]
theorem SRow.put {w : World} {B g n c j : Nat} {l : List Key} {k : Key} (h : SRow w B (.slice (some ⟨g, 0, none⟩) n c) l) : SRow (w.setCell ⟨g, j, none⟩ (.string (strL k))) B (.slice (some ⟨g, 0, none⟩) n c) (l.set j k) := by
  refine ⟨⟨by rw [svs_len, List.length_set, Nat.mul_one], ?_⟩, by simpa [World.setCell] using h.2⟩
  rcases h.1.2 with ⟨hv, _⟩ | ⟨g', cap, cur, hv, hb, hh, hnc, hm, hsz, htk⟩
  · cases hv
  · injection hv with e1 e2 e3
    injection e1 with e1
    injection e1 with e1
    subst e1 e3
    refine .inr ⟨g, c, _, by rw [List.length_set, ← e2], hb, heap_set hh _, by simpa using hnc, hm, by simpa using hsz, ?_⟩
    rw [Array.toList_setIfInBounds, List.take_set, List.length_set, htk]
    unfold svs
    rw [List.map_set]
/-- The blocks of chains: the box of the keys, the counts, the box of the heads, the box of the index, the heads. -/
structure Pk (wr : World) (b1 g3 b4 bi n B : Nat) (kv hv iv : Value) (cs : List Value) (hs : List Key) : Prop where
  k : CAt wr b1 28 1 [kv]
  c : CAt wr g3 3 n cs
  h : CAt wr b4 28 1 [hv]
  i : CAt wr bi 3 1 [iv]
  r : SRow wr B hv hs
section
variable {wr w' : World} {b1 g3 b4 bi n B : Nat} {kv hv iv : Value} {cs : List Value} {hs : List Key}
theorem Pk.below (p : Pk wr b1 g3 b4 bi n B kv hv iv cs hs) (hb : Below wr.heap.size wr w') : Pk w' b1 g3 b4 bi n B kv hv iv cs hs :=
  ⟨p.k.below hb p.k.lt, p.c.below hb p.c.lt, p.h.below hb p.h.lt, p.i.below hb p.i.lt, p.r.keep hb⟩
theorem Pk.alloc (p : Pk wr b1 g3 b4 bi n B kv hv iv cs hs) (o : Obj) : Pk (wr.alloc o) b1 g3 b4 bi n B kv hv iv cs hs :=
  p.below ((Below.refl _ _).alloc (Nat.le_refl _) o)
theorem Pk.cells (p : Pk wr b1 g3 b4 bi n B kv hv iv cs hs) : wr.cell? ⟨b1, 0, none⟩ = some kv ∧ wr.cell? ⟨b4, 0, none⟩ = some hv ∧ wr.cell? ⟨bi, 0, none⟩ = some iv ∧ wr.frozen? ⟨b4, 0, none⟩ = false ∧ wr.frozen? ⟨bi, 0, none⟩ = false :=
  ⟨p.k.cell rfl, p.h.cell rfl, p.i.cell rfl, p.h.frozen 0, p.i.frozen 0⟩
end
theorem heap_type {w : World} {g c : Nat} {T T' : TypeId} {vs : List Value} {cur : Array Value} {f : Nat × Nat} (h : CAt w g T c vs) {g' : Nat} (h' : w.heap[g']? = some (.cells cur T' f)) (hne : T ≠ T') : g ≠ g' := by
  rintro rfl
  obtain ⟨cs, hh, _⟩ := h
  rw [hh] at h'
  injection h' with h'
  injection h' with _ ht
  exact hne ht
theorem SRow.heap {w : World} {B g n c : Nat} {l : List Key} (h : SRow w B (.slice (some ⟨g, 0, none⟩) n c) l) : ∃ cur, w.heap[g]? = some (.cells cur 9 (0, 0)) := by
  rcases h.1.2 with ⟨hv, _⟩ | ⟨g', cap, cur, hv, hb, hh, _⟩
  · cases hv
  · injection hv with e1
    injection e1 with e1
    injection e1 with e1
    subst e1
    exact ⟨cur, hh⟩
theorem SRow.far {w : World} {B : Nat} {v : Value} {l : List Key} (h : SRow w B v l) {p : Addr} {c : Nat} {T : TypeId} {vs : List Value} (hp : CAt w p.block T c vs) (hT : T ≠ 9) (u : Value) : SRow (w.setCell p u) B v l := by
  refine ⟨⟨h.1.1, ?_⟩, by simpa [World.setCell] using h.2⟩
  rcases h.1.2 with h0 | ⟨g, cap, cur, hv, hb', hh, hr⟩
  · exact .inl h0
  · exact .inr ⟨g, cap, cur, hv, hb', (Below.heap_setCell _ _ _ _ (fun e => heap_type hp (g' := g) hh hT e.symm)).trans hh, hr⟩
section
variable {wr : World} {b1 g3 b4 bi n B : Nat} {kv hv iv : Value} {cs : List Value} {hs : List Key}
theorem Pk.setI (p : Pk wr b1 g3 b4 bi n B kv hv iv cs hs) (hg : g3 ≠ bi) (u : Value) : Pk (wr.setCell ⟨bi, 0, none⟩ u) b1 g3 b4 bi n B kv hv u cs hs :=
  ⟨p.k.far (p.k.ne p.i (by decide)) u, p.c.far hg u, p.h.far (p.h.ne p.i (by decide)) u, p.i.set (j := 0) u, p.r.far p.i (by decide) u⟩
theorem Pk.setC (p : Pk wr b1 g3 b4 bi n B kv hv iv cs hs) (hg : g3 ≠ bi) (j : Nat) (u : Value) : Pk (wr.setCell ⟨g3, j, none⟩ u) b1 g3 b4 bi n B kv hv iv (cs.set j u) hs :=
  ⟨p.k.far (p.k.ne p.c (by decide)) u, p.c.set u, p.h.far (p.h.ne p.c (by decide)) u, p.i.far hg.symm u, p.r.far p.c (by decide) u⟩
theorem Pk.newI (p : Pk wr b1 g3 b4 bi n B kv hv iv cs hs) (x : Value) : Pk (wr.alloc (.cells #[x] 3)) b1 g3 b4 wr.heap.size n B kv hv x cs hs := by
  have q := p.alloc (.cells #[x] 3)
  exact ⟨q.k, q.c, q.h, CAt.whole wr 3 #[x] (by unfold maxLen; simp), q.r⟩
theorem Pk.setR {g m c : Nat} (p : Pk wr b1 g3 b4 bi n B kv (.slice (some ⟨g, 0, none⟩) m c) iv cs hs) (j : Nat) (k : Key) : Pk (wr.setCell ⟨g, j, none⟩ (.string (strL k))) b1 g3 b4 bi n B kv (.slice (some ⟨g, 0, none⟩) m c) iv cs (hs.set j k) := by
  obtain ⟨cur, hh⟩ := p.r.heap
  exact ⟨p.k.far (heap_type p.k hh (by decide)) _, p.c.far (heap_type p.c hh (by decide)) _, p.h.far (heap_type p.h hh (by decide)) _, p.i.far (heap_type p.i hh (by decide)) _, p.r.put⟩
end
section
variable {wr w' : World} {b1 g3 b4 bi n B : Nat} {kv hv iv : Value} {cs : List Value} {hs : List Key}
theorem Pk.setH (p : Pk wr b1 g3 b4 bi n B kv hv iv cs hs) (hb : b1 ≠ b4) (u : Value) (l : List Key) (hr : SRow wr B u l) : Pk (wr.setCell ⟨b4, 0, none⟩ u) b1 g3 b4 bi n B kv u iv cs l :=
  ⟨p.k.far hb u, p.c.far (p.c.ne p.h (by decide)) u, p.h.set (j := 0) u, p.i.far (p.i.ne p.h (by decide)) u, hr.far p.h (by decide) u⟩
theorem Pk.drew (p : Pk wr b1 g3 b4 bi n B kv hv iv cs hs) : Pk wr.drew b1 g3 b4 bi n B kv hv iv cs hs := p.below (Below.refl _ _).drew
theorem Pk.grown (p : Pk wr b1 g3 b4 bi n B kv hv iv cs hs) (hg : wr.grownBy w' hv.ownBlock) : CAt w' b1 28 1 [kv] ∧ CAt w' g3 3 n cs ∧ CAt w' b4 28 1 [hv] ∧ CAt w' bi 3 1 [iv] := by
  have hne : ∀ {g c : Nat} {T : TypeId} {vs : List Value}, CAt wr g T c vs → T ≠ 9 → some g ≠ hv.ownBlock := fun {g c T vs} h hT e => by
    rcases p.r.1.2 with ⟨hv', _⟩ | ⟨g', cap, cur, hv', _, hh, _⟩
    · rw [hv'] at e; cases e
    · rw [hv'] at e
      injection e with e
      exact heap_type h hh hT e
  exact ⟨p.k.grown hg (hne p.k (by decide)), p.c.grown hg (hne p.c (by decide)), p.h.grown hg (hne p.h (by decide)), p.i.grown hg (hne p.i (by decide))⟩
end
theorem Pk.ofH {w5 : World} {b1 g3 b4 bi n B : Nat} {kv ov iv : Value} {cs : List Value} (hk : CAt w5 b1 28 1 [kv]) (hc : CAt w5 g3 3 n cs) (hh : CAt w5 b4 28 1 [ov]) (hi : CAt w5 bi 3 1 [iv]) (hb : b1 ≠ b4) (u : Value) (l : List Key) (hr : SRow w5 B u l) : Pk (w5.setCell ⟨b4, 0, none⟩ u) b1 g3 b4 bi n B kv u iv cs l :=
  ⟨hk.far hb u, hc.far (hc.ne hh (by decide)) u, hh.set (j := 0) u, hi.far (hi.ne hh (by decide)) u, hr.far hh (by decide) u⟩
theorem put_is (hs : List Key) (k : Key) : putH hs k = ((if findH hs k = hs.length then hs ++ [[]] else hs).set (findH hs k) k) := by
  unfold putH
  split
  · rename_i h
    rw [h, List.set_append_right _ _ (Nat.le_refl _), Nat.sub_self]
    rfl
  · rfl
theorem SRow.spot {w : World} {B g n c j : Nat} {l : List Key} (h : SRow w B (.slice (some ⟨g, 0, none⟩) n c) l) (hj : j < l.length) : (∃ x, w.cell? ⟨g, j, none⟩ = some x) ∧ w.frozen? ⟨g, j, none⟩ = false := by
  obtain ⟨cur, hh⟩ := h.heap
  obtain ⟨g', c', hv, _, _, hat⟩ := h.at (by omega)
  injection hv with e1
  injection e1 with e1
  injection e1 with e1
  subst e1
  exact ⟨⟨_, hat j _ (List.getElem?_eq_getElem hj)⟩, by simp [World.frozen?, hh]⟩
theorem counts_set (j f : Nat) (cs : List Nat) : (ivs (List.replicate (j + 1) 0 ++ cs)).set j (.int .i64 ((f : Int) + 1)) = ivs (List.replicate j 0 ++ (f + 1) :: cs) := by
  unfold ivs
  rw [show (Value.int .i64 ((f : Int) + 1)) = (fun n : Nat => Value.int .i64 (n : Int)) (f + 1) from rfl, ← List.map_set, List.replicate_succ', List.append_assoc, List.set_append_right _ _ (by simp), List.length_replicate, Nat.sub_self]
  rfl
/-- The relation of the loop of chains. -/
def ChRel (ks : List Key) (AK : Option Addr) (n c b1 g3 b4 B : Nat) (w : World) (kx : Nat) (pv : Value) (wr : World) : Prop :=
  ∃ (j bi : Nat) (hv : Value), j ≤ n ∧ j ≤ kx ∧ pv = .pointer (some ⟨bi, 0, none⟩) ∧ g3 < bi ∧ bi < wr.heap.size ∧ Below w.heap.size w wr ∧
    Pk wr b1 g3 b4 bi n B (.slice AK n c) hv (.int .i64 ((j : Int) - 1)) (ivs (List.replicate j 0 ++ (chainsP (ks.drop j)).1)) (chainsP (ks.drop j)).2
def ChPost (ks : List Key) (w : World) (e : Ending) (w' : World) : Prop := ∃ g c, e = .returned (.slice (some ⟨g, 0, none⟩) ks.length c) ∧ w.heap.size ≤ g ∧ CAt w' g 3 c (ivs (bestP ks)) ∧ Below w.heap.size w w'
set_option maxRecDepth 100000 in
set_option maxHeartbeats 4000000 in
theorem chains_any (ks : List Key) (AK : Option Addr) (c : Nat) (w : World) (hT : TAt w AK ks) (hn : ks.length ≤ 1000) (hl : ∀ k ∈ ks, k.length ≤ maxLen) :
    Calls Try.prog 29 #[.slice AK ks.length c] w (ChPost ks w) := by
  obtain ⟨i0, hi0, hz0, hz1, hz2⟩ := info_parts string_info
  obtain ⟨n, hnn⟩ : ∃ n, n = ks.length := ⟨_, rfl⟩
  have HNN := Lib.hid hnn
  obtain ⟨C0, hC0⟩ : ∃ C, C = madeCells #[Value.int .i64 0] n := ⟨_, rfl⟩
  have hmk := make_ints n (by omega) (w.alloc (.cells #[.slice AK n c] 28))
  rw [← hC0, World.size_alloc] at hmk
  have hC0l : C0.toList = ivs (List.replicate n 0) := by rw [hC0, made_list]; unfold ivs; simp
  have hC0s : C0.size = n := by rw [hC0, size_madeCells]
  obtain ⟨W4, hW4⟩ : ∃ W, W = (((w.alloc (.cells #[.slice AK n c] 28)).alloc (.cells C0 3)).alloc (.cells #[.slice none 0 0] 28)).alloc (.cells #[.int .i64 ((n : Int) - 1)] 3) := ⟨_, rfl⟩
  have hP0 : Pk W4 w.heap.size (w.heap.size + 1) (w.heap.size + 1 + 1) (w.heap.size + 1 + 1 + 1) n (w.heap.size + 1 + 1 + 1) (.slice AK n c) (.slice none 0 0) (.int .i64 ((n : Int) - 1)) (ivs (List.replicate n 0)) [] := by
    rw [hW4]
    refine ⟨?_, ?_, ?_, ?_, ?_⟩
    · exact (((CAt.whole w 28 #[.slice AK n c] (by unfold maxLen; simp)).alloc _).alloc _).alloc _
    · have h := ((CAt.whole (w.alloc (.cells #[.slice AK n c] 28)) 3 C0 (by unfold maxLen; omega)).alloc (.cells #[.slice none 0 0] 28)).alloc (.cells #[.int .i64 ((n : Int) - 1)] 3)
      rw [World.size_alloc, hC0l, hC0s] at h
      exact h
    · have h := (CAt.whole ((w.alloc (.cells #[.slice AK n c] 28)).alloc (.cells C0 3)) 28 #[.slice none 0 0] (by unfold maxLen; simp)).alloc (.cells #[.int .i64 ((n : Int) - 1)] 3)
      rw [World.size_alloc, World.size_alloc] at h
      exact h
    · have h := CAt.whole (((w.alloc (.cells #[.slice AK n c] 28)).alloc (.cells C0 3)).alloc (.cells #[.slice none 0 0] 28)) 3 #[.int .i64 ((n : Int) - 1)] (by unfold maxLen; simp)
      rw [World.size_alloc, World.size_alloc, World.size_alloc] at h
      exact h
    · exact SRow.nil (by rw [World.size_alloc, World.size_alloc, World.size_alloc, World.size_alloc]; omega)
  have hB0 : Below w.heap.size w W4 := by
    rw [hW4]
    exact ((((Below.refl _ _).alloc (Nat.le_refl _) _).alloc (by rw [World.size_alloc]; omega) _).alloc (by rw [World.size_alloc, World.size_alloc]; omega) _).alloc (by rw [World.size_alloc, World.size_alloc, World.size_alloc]; omega) _
  have hz4 : w.heap.size + 3 < W4.heap.size := by rw [hW4, World.size_alloc, World.size_alloc, World.size_alloc, World.size_alloc]; omega
  have HP0 := Lib.hid hP0
  have HB0 := Lib.hid hB0
  have HW4 := Lib.hid hW4
  have HT := Lib.hid hT
  have HL := Lib.hid hl
  rw [← hnn] at hn ⊢
  clear hP0 hB0 hW4 hC0 hC0l hC0s hnn hT hl
  go_enter Try.func29, Try.ntmps29
  go_wp2
  clear hmk
  rw [← HW4.out]
  go_loopg [5] n (fun kx pv wr => ChRel ks AK n c w.heap.size (w.heap.size + 1) (w.heap.size + 1 + 1) (w.heap.size + 1 + 1 + 1) w kx pv wr)
  case atStart =>
    refine ⟨n, w.heap.size + 1 + 1 + 1, .slice none 0 0, Nat.le_refl _, Nat.le_refl _, rfl, by omega, by omega, HB0.out, ?_⟩
    rw [List.drop_of_length_le (by rw [← HNN.out]; exact Nat.le_refl _)]
    show Pk W4 _ _ _ _ _ _ _ _ _ (ivs (List.replicate n 0 ++ [])) []
    rw [List.append_nil]
    exact HP0.out
  case round =>
    obtain ⟨j', bi, hv, hj, hjk, rfl, hgb, hbz, hbl, hp⟩ := hrel
    obtain ⟨k1, k2, k3, k4, k5⟩ := hp.cells
    have HBL := Lib.hid hbl
    have HP := Lib.hid hp
    clear hbl hp
    by_cases h0 : j' = 0
    · subst h0
      have HR := Lib.hid (show CAt wr (w.heap.size + 1) 3 n (ivs (bestP ks)) from by
        have h := HP.out.c
        rw [List.drop_zero, (chains_best ks).1] at h
        exact h)
      rw [show (((0 : Nat) : Int) - 1) = -1 from rfl] at k3
      go_wp2
      go_ret
      exact ⟨w.heap.size + 1, n, by rw [← HNN.out]; rfl, by omega, HR.out, HBL.out⟩
    · obtain ⟨j, rfl⟩ : ∃ j, j' = j + 1 := ⟨j' - 1, by omega⟩
      have hji : (((j + 1 : Nat) : Int) - 1) = (j : Int) := by omega
      have hjn : j < n := hj
      have hjl : j < ks.length := by rw [← HNN.out]; exact hjn
      obtain ⟨kb, ko, rfl, hkb, hcs⟩ := HT.out (by rintro rfl; simp at hjl)
      obtain ⟨k, hk⟩ : ∃ k, k = ks[j] := ⟨_, rfl⟩
      have hgk : ks[j]? = some k := by rw [hk]; exact List.getElem?_eq_getElem hjl
      have hkl : k.length ≤ maxLen := HL.out k (by rw [hk]; exact List.getElem_mem _)
      have hdrop : ks.drop j = k :: ks.drop (j + 1) := by rw [hk]; exact List.drop_eq_getElem_cons hjl
      have c5 : wr.cell? ⟨kb, ko + j, none⟩ = some (.string (strL k)) := (HBL.out.cell (p := ⟨kb, ko + j, none⟩) hkb).trans (hcs j k hgk)
      have hkbr : kb < wr.heap.size := Nat.lt_of_lt_of_le hkb HBL.out.size
      rw [hji] at HP k3
      have HDR := Lib.hid hdrop
      obtain ⟨K, hK⟩ : ∃ K, K = strL k := ⟨_, rfl⟩
      rw [← hK] at c5
      have HKK := Lib.hid hK
      have HV := Lib.hid (fun w => by have h := valid_list k w hkl; rw [← hK] at h; exact h : ∀ w, Calls Try.prog 14 #[.string K] w fun e w' => e = .returned (.bool (vldB k)) ∧ w = w')
      clear hji h0 hk hgk hdrop hcs hkl hK hj
      cases hvk : vldB k
      · rw [hvk] at HV
        have HDC := Lib.hid (show chainsP (k :: ks.drop (j + 1)) = (0 :: (chainsP (ks.drop (j + 1))).1, (chainsP (ks.drop (j + 1))).2) by rw [chainsP, if_neg (by rw [hvk]; decide)])
        clear hvk
        go_wp2_with ((go_at_call 14; (with_reducible refine (HV.out _).mono ?_); rintro e w' ⟨rfl, rfl⟩))
        go_roundg j
        case rel =>
          refine ⟨j, wr.heap.size, hv, by omega, Nat.le_refl _, rfl, by omega, by rw [World.size_alloc]; omega, HBL.out.alloc HBL.out.size _, ?_⟩
          rw [HDR.out, HDC.out]
          have h := HP.out.newI (.int .i64 ((j : Int) - 1))
          rw [List.replicate_succ', List.append_assoc] at h
          exact h
        case measure => omega
      · rw [hvk] at HV
        obtain ⟨hs, hhs⟩ : ∃ hs, hs = (chainsP (ks.drop (j + 1))).2 := ⟨_, rfl⟩
        obtain ⟨cs1, hcs1⟩ : ∃ cs, cs = (chainsP (ks.drop (j + 1))).1 := ⟨_, rfl⟩
        have hcl : cs1.length = n - (j + 1) := by rw [hcs1, counts_len, List.length_drop, ← HNN.out]
        have hhl : hs.length ≤ 1000 := by rw [hhs]; have h := heads_len (ks.drop (j + 1)); rw [List.length_drop, ← HNN.out] at h; omega
        have hds : Desc hs := by rw [hhs]; exact (chains_best _).2.1
        rw [← hhs, ← hcs1] at HP
        obtain ⟨f, hf⟩ : ∃ f, f = findH hs k := ⟨_, rfl⟩
        have hfl : f ≤ hs.length := by rw [hf]; exact find_le hs k
        have HDC := Lib.hid (show chainsP (ks.drop j) = ((f + 1) :: cs1, (if f = hs.length then hs ++ [[]] else hs).set f k) by
          rw [HDR.out, chainsP, if_pos hvk, ← hhs, ← hcs1, ← hf, put_is, ← hf])
        obtain ⟨A, hc, rfl⟩ := HP.out.r.form
        obtain ⟨_, hTA⟩ := HP.out.r.texts
        have hse := search_any (w.heap.size + 1 + 1) w.heap.size bi hc kb ko n c j A hs k wr hjn (by omega) hds hTA hkbr k2 k1 k3 (by rw [← HKK.out]; exact c5)
        rw [← hf] at hse
        have HSE := Lib.hid hse
        have HCL := Lib.hid hcl
        have HF := Lib.hid hf
        clear hvk hhs hcs1 hds hf hTA hse hcl
        go_wp2_with ((go_at_call 14; (with_reducible refine (HV.out _).mono ?_); rintro e w' ⟨rfl, rfl⟩))
        refine HSE.out.mono ?_
        rintro e w2 ⟨rfl, hb2⟩
        have P2 := Lib.hid (HP.out.below hb2)
        have B2 := Lib.hid (HBL.out.trans (hb2.mono HBL.out.size))
        have K2 := Lib.hid (show w2.cell? ⟨kb, ko + j, none⟩ = some (.string K) from (hb2.cell (p := ⟨kb, ko + j, none⟩) hkbr).trans c5)
        have hsz2 := hb2.size
        clear k1 k2 k3 k4 k5 c5 hb2
        obtain ⟨k1, k2, k3, k4, k5⟩ := P2.out.cells
        by_cases hfe : f = hs.length
        · have hte : ((f : Int) == (hs.length : Int)) = true := by simp [hfe]
          have HFE := Lib.hid hfe
          clear hfe
          go_wp2_with (at_builtin; refine wpList_append_own _ rfl (.tmp 31) (.tmp 32) 28 rfl (w.heap.size + 1 + 1 + 1) 9 i0 _ 1 16 Try.underlying28 hi0 hz0 hz1 hz2 rfl (by omega) (.slice A hs.length hc) hs.length (svs hs) rfl (P2.out.r.1.alloc _) ⟨w2.heap.size, 0, none⟩ 1 1 [.string ⟨#[]⟩] rfl rfl ?c1 ?c2 ?c3 ?c4 ?c5 ?_)
          case c1 => exact cell_one_new _ _ _
          case c2 => simp [Value.oneCell']
          case c3 => unfold maxLen; omega
          case c4 => omega
          case c5 => rw [World.size_alloc]; have := P2.out.r.2; omega
          intro v5 w5 hown5 hgr5 _
          have hgr := srow_grow (c := []) P2.out.r hown5 hgr5
          have hbl5 : Below w.heap.size w w5 := B2.out.trans (hgr.2.mono (by omega))
          have p5 := (P2.out.alloc (.cells #[.string ⟨#[]⟩] 9)).grown hgr5
          obtain ⟨g5, hc5, rfl, hg5, _, _⟩ := hgr.1.at (by rw [List.length_append]; simp)
          rw [List.length_append, List.length_singleton] at hgr ⊢
          have hl5 := hgr.1
          obtain ⟨w6, hw6⟩ : ∃ W, W = w5.setCell ⟨w.heap.size + 1 + 1, 0, none⟩ (.slice (some ⟨g5, 0, none⟩) (hs.length + 1) hc5) := ⟨_, rfl⟩
          have P6 := Lib.hid (by have h := Pk.ofH p5.1 p5.2.1 p5.2.2.1 p5.2.2.2 (by omega) _ _ hl5; rw [← hw6] at h; exact h : Pk w6 w.heap.size (w.heap.size + 1) (w.heap.size + 1 + 1) bi n (w.heap.size + 1 + 1 + 1) _ _ _ _ _)
          have B6 := Lib.hid (show Below w.heap.size w w6 from by rw [hw6]; exact hbl5.setCell (by show w.heap.size ≤ w.heap.size + 1 + 1; omega) _)
          have K6 := Lib.hid (show w6.cell? ⟨kb, ko + j, none⟩ = some (.string K) from by
            have h0 := K2.out
            have h1 := hgr.2.cell (p := ⟨kb, ko + j, none⟩) (Nat.lt_of_lt_of_le hkb (by omega))
            rw [hw6, World.cell?_setCell_other _ _ _ _ (by intro e; injection e with e _ _; omega)]
            exact h1.trans h0)
          have k2' := p5.2.2.1.cell (j := 0) rfl
          have k4' := p5.2.2.1.frozen 0
          have HG5 := Lib.hid (show w.heap.size ≤ g5 by omega)
          have HFM := Lib.hid (show f < (hs ++ [[]]).length by rw [List.length_append, List.length_singleton, ← HFE.out]; exact Nat.lt_succ_self f)
          have hfm : f < hs.length + 1 := by have := HFM.out; simpa using this
          have HW6 := Lib.hid hw6
          clear k1 k2 k3 k4 k5 hown5 hgr5 hgr hbl5 p5 hl5 hw6
          go_upto_region 10 with (fail)
          rw [← HW6.out]
          clear k2' k4'
          obtain ⟨d1, d2, d3, _, _⟩ := P6.out.cells
          have c5' : w6.cell? ⟨kb, ko + j, none⟩ = some (.string K) := K6.out
          have hfm' : (f : Int) < (hs.length : Int) + 1 := by omega
          have hjn' : (j : Int) < (n : Int) := by omega
          go_still_tail 7, (by kernel_rfl)
          change wpList _ _ _ _ _ w6.drew
          have PD := Lib.hid P6.out.drew
          have BD := Lib.hid (B6.out.trans ((show Below w6.heap.size w6 w6.drew from (Below.refl _ _).drew).mono B6.out.size))
          clear d1 d2 d3 c5' hfm' hjn'
          generalize w6.drew = wd at PD BD ⊢
          obtain ⟨⟨x, hx⟩, hxf⟩ := PD.out.r.spot (j := f) HFM.out
          have P8 := Lib.hid (by have h := PD.out.setR f k; rw [← HKK.out] at h; exact h : Pk (wd.setCell ⟨g5, f, none⟩ (.string K)) w.heap.size (w.heap.size + 1) (w.heap.size + 1 + 1) bi n (w.heap.size + 1 + 1 + 1) _ _ _ _ _)
          have P9 := Lib.hid (P8.out.setC (by omega) j (.int .i64 ((f : Int) + 1)))
          have B9 := Lib.hid ((BD.out.setCell (p := ⟨g5, f, none⟩) HG5.out (.string K)).setCell (p := ⟨w.heap.size + 1, j, none⟩) (Nat.le_succ _) (.int .i64 ((f : Int) + 1)))
          obtain ⟨_, _, d3, _, _⟩ := P8.out.cells
          obtain ⟨_, _, e3, _, _⟩ := P9.out.cells
          obtain ⟨y, hy⟩ := P8.out.c.any (j := j) hjn
          have hyf := P8.out.c.frozen j
          repeat (first | go_values | go_skip | go_guarded | go_step | go_upon)
          go_wp2
          go_roundg j
          case rel =>
            have hs9 : ((wd.setCell ⟨g5, f, none⟩ (.string K)).setCell ⟨w.heap.size + 1, j, none⟩ (.int .i64 ((f : Int) + 1))).heap.size = wd.heap.size := by simp [World.setCell]
            refine ⟨j, _, .slice (some ⟨g5, 0, none⟩) (hs.length + 1) hc5, by omega, Nat.le_refl _, rfl, ?_, by rw [World.size_alloc]; simp [World.setCell], B9.out.alloc B9.out.size _, ?_⟩
            · have := P9.out.c.lt
              rw [hs9] at this
              exact this
            · rw [HDC.out]
              have h := P9.out.newI (.int .i64 ((j : Int) - 1))
              rw [counts_set, hs9] at h
              rw [if_pos HFE.out]
              exact h
          case measure => omega
        · have hte : ((f : Int) == (hs.length : Int)) = false := by simp; omega
          have HFE := Lib.hid hfe
          have HFM := Lib.hid (show f < hs.length by omega)
          clear hfe
          go_upto_region 10 with (fail)
          obtain ⟨g5, hc5, hv5, hg5, _, _⟩ := P2.out.r.at (Nat.lt_of_le_of_lt (Nat.zero_le _) HFM.out)
          injection hv5 with hA5 _ hc5'
          subst hA5 hc5'
          have HG5 := Lib.hid (show w.heap.size ≤ g5 by omega)
          have hfm := HFM.out
          clear k1 k2 k3 k4 k5
          obtain ⟨d1, d2, d3, _, _⟩ := P2.out.cells
          have c5' : w2.cell? ⟨kb, ko + j, none⟩ = some (.string K) := K2.out
          have hfm' : (f : Int) < (hs.length : Int) := by omega
          have hjn' : (j : Int) < (n : Int) := by omega
          go_still_tail 7, (by kernel_rfl)
          change wpList _ _ _ _ _ w2.drew
          have PD := Lib.hid P2.out.drew
          have BD := Lib.hid (B2.out.trans ((show Below w2.heap.size w2 w2.drew from (Below.refl _ _).drew).mono B2.out.size))
          clear d1 d2 d3 c5' hfm' hjn'
          generalize w2.drew = wd at PD BD ⊢
          obtain ⟨⟨x, hx⟩, hxf⟩ := PD.out.r.spot (j := f) HFM.out
          have P8 := Lib.hid (by have h := PD.out.setR f k; rw [← HKK.out] at h; exact h : Pk (wd.setCell ⟨g5, f, none⟩ (.string K)) w.heap.size (w.heap.size + 1) (w.heap.size + 1 + 1) bi n (w.heap.size + 1 + 1 + 1) _ _ _ _ _)
          have P9 := Lib.hid (P8.out.setC (by omega) j (.int .i64 ((f : Int) + 1)))
          have B9 := Lib.hid ((BD.out.setCell (p := ⟨g5, f, none⟩) HG5.out (.string K)).setCell (p := ⟨w.heap.size + 1, j, none⟩) (Nat.le_succ _) (.int .i64 ((f : Int) + 1)))
          obtain ⟨_, _, d3, _, _⟩ := P8.out.cells
          obtain ⟨_, _, e3, _, _⟩ := P9.out.cells
          obtain ⟨y, hy⟩ := P8.out.c.any (j := j) hjn
          have hyf := P8.out.c.frozen j
          repeat (first | go_values | go_skip | go_guarded | go_step | go_upon)
          go_wp2
          go_roundg j
          case rel =>
            have hs9 : ((wd.setCell ⟨g5, f, none⟩ (.string K)).setCell ⟨w.heap.size + 1, j, none⟩ (.int .i64 ((f : Int) + 1))).heap.size = wd.heap.size := by simp [World.setCell]
            refine ⟨j, _, .slice (some ⟨g5, 0, none⟩) hs.length hc, by omega, Nat.le_refl _, rfl, ?_, by rw [World.size_alloc]; simp [World.setCell], B9.out.alloc B9.out.size _, ?_⟩
            · have := P9.out.c.lt
              rw [hs9] at this
              exact this
            · rw [HDC.out]
              have h := P9.out.newI (.int .i64 ((j : Int) - 1))
              rw [counts_set, hs9] at h
              rw [if_neg HFE.out]
              exact h
          case measure => omega
end Go.Proofs.Ytedlfjolmhkpdaa
