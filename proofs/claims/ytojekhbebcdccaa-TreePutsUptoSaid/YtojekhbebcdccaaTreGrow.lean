/- The contracts of slices.Grow at nil and of slices.Concat of two slices of ints. Conditions: at least one element, and few. -/
import Derived.Test.YtojekhbebcdccaaTreClone
import Derived.Lib.AppendZerosOnto
import Derived.Lib.Walk
import Derived.Lib.SliceRun
namespace Go.Proofs.Ytojekhbebcdccaa
open Go.RowKit Go.Shelf
theorem int_info : (Try.prog.info? 3).map (fun i => (i.zero, i.size, i.bytes)) = some (some (.int .i64 0), 1, 8) := by kernel_rfl
theorem zero_size (z : Value) (h : z.cells.size = 1) (n : Nat) : (Builtin.zeroCells z.cells n).size = n := by
  unfold Builtin.zeroCells
  rw [h]
  simp
set_option maxRecDepth 100000 in
set_option maxHeartbeats 1000000 in
theorem grow_nil (z : Int) (w : World) (h1 : 1 ≤ z) (h2 : z ≤ 2000000) :
    Calls Try.prog 40 #[.slice none 0 0, .int .i64 z] w fun e w' => ∃ c, e = .returned (.slice (some ⟨w.heap.size, 0, none⟩) 0 c) ∧ w'.ownsRow w.heap.size 3 1 (.slice (some ⟨w.heap.size, 0, none⟩) 0 c) 0 [] ∧ Below w.heap.size w w' := by
  obtain ⟨n, rfl⟩ := Int.eq_ofNat_of_zero_le (show 0 ≤ z by omega)
  obtain ⟨i, hi, hz0, hz1, hz2⟩ := info_parts int_info
  have hs : 0 < i.size := by rw [hz1]; decide
  have hold : (Builtin.firstCells i.size 0 (.slice none 0 0)).run Try.prog w.drew = .ok ([] : List Value).toArray w.drew := by rw [hz1]; rfl
  have hrz := fun ty => Lib.run_append_grow_zeros (P := Try.prog) w 33 3 ty 3 i (.int .i64 0) .i64 .i64 Try.underlying33 Try.underlying3 hi hz0 none 0 0 [] hold n (by omega) hs (by omega) (by omega) (by rw [hz2]; omega) (by rw [hz2]; unfold Builtin.nextslicecap; split <;> omega)
  have hle : grownCap w (0 + n) 0 3 ≤ maxLen := grownCap_le_maxLen w (0 + n) 0 3 (by unfold maxLen; omega)
  have hge : 0 + n ≤ grownCap w (0 + n) 0 3 := grownCap_ge w _ _ _
  obtain ⟨G, hG⟩ : ∃ G, G = grownCap w (0 + n) 0 3 := ⟨_, rfl⟩
  rw [← hG] at hrz hle hge
  have HLE := Lib.hid hle
  have hG63 : G ≤ 9223372036854775807 := by unfold maxLen at hle; omega
  have hn0 : 0 < (n : Int) := by omega
  rw [Nat.zero_add] at hrz hge
  have HGE := Lib.hid hge
  have HS0 := Lib.hid hz0
  clear hG hle hold hge hi hz0 hz1 hz2 hs
  go_enter Try.func40, Try.ntmps40
  go_wp2_with (at_builtin; refine Lib.wpList_append_run _ rfl _ _ _ _ rfl _ _ rfl rfl _ _ (hrz _) ?_)
  all_goals
    go_ret
    refine ⟨G, rfl, ⟨rfl, .inr ⟨w.heap.size, G, _, rfl, Nat.le_refl _, heap_alloc_new w.drew _, Nat.zero_le _, HLE.out, ?_, rfl⟩⟩, ((Below.refl _ _).drew).alloc (Nat.le_refl _) _⟩
    have h0 := HGE.out
    have h1 : (Builtin.zeroCells #[Value.int .i64 0] n).size = n := zero_size (.int .i64 0) rfl n
    have h2 : (Builtin.zeroCells #[Value.int .i64 0] (G - n)).size = G - n := zero_size (.int .i64 0) rfl (G - n)
    simp
    omega
section
variable {P : Program} {w : World} {ops : Array Oper} {rest : List Oper} {o : Oper} {a : Act} {Q : Exit → Act → World → Prop}
theorem wpList_append_none (hgd : o.guard = none) (s x : Operand) (t : TypeId)
    (ho : o.op = .call { callee := .builtin .append, args := #[s, x], argTypes := #[t, t] }) (e : TypeId) (i : TypeInfo) (ht : P.underlying t = some (.slice e)) (hi : P.info? e = some i)
    {ad : Addr} {n cap : Nat} (hs : a.eval s = .slice (some ad) n cap) (hn : n ≤ cap) {A : Option Addr} {m c : Nat} (hm : m = 0) (hx : a.eval x = .slice A m c) (h : wpList P ops Q rest (a.put o.dst (.slice (some ad) n cap)) w) : wpList P ops Q (o :: rest) a w := by
  subst hm
  refine wpList_plain hgd fun K hK => ?_
  have hr : (Builtin.append_ #[t, t] o.type #[.slice (some ad) n cap, .slice A 0 c]).run P w = .ok (.slice (some ad) n cap) w := by
    cases A <;> simp [Builtin.append_, run_underlying ht, sizeOf, typeInfo, hi, Builtin.lenOf, Builtin.firstCells, loadCells, loadCellsFrom, hn, storeCells]
  unfold Oper.wp execOp
  simp only [ho, resolve, invoke, builtin, Sem.run_bind, Sem.run_pure, Result.andThen_ok, List.map_toArray, List.map_cons, List.map_nil, hs, hx, hr]
  exact hK _ _ h
end
/-- A row of ints of the call's own. -/
def IntRow (w : World) (B : Nat) (v : Value) (p : List Int) : Prop := w.ownsRow B 3 1 v p.length (p.map (Value.int .i64))
theorem IntRow.cells {w : World} {B n c : Nat} {A : Option Addr} {p : List Int} (h : IntRow w B (.slice A n c) p) (hp : 0 < p.length) : ∃ g, A = some ⟨g, 0, none⟩ ∧ ∀ (j : Nat) (u : Value), (p.map (Value.int .i64))[j]? = some u → w.cell? ⟨g, 0 + j, none⟩ = some u := by
  rcases h.2 with ⟨_, h0⟩ | ⟨g, cap, cur, hv, hb, hh, hnc, hm, hsz, htk⟩
  · omega
  · injection hv with e1 e2 e3
    refine ⟨g, e1, fun j u hu => ?_⟩
    rw [Nat.zero_add, Lib.cell_of_heap hh]
    have hj := (List.getElem?_eq_some_iff.1 hu).1
    rw [List.length_map] at hj
    rw [← htk, List.getElem?_take_of_lt (by omega)] at hu
    rw [← Array.getElem?_toList]
    exact hu
theorem own_base {w : World} {B n size : Nat} {T : TypeId} {v : Value} {xs : List Value} (h : w.ownsRow B T size v n xs) : ∀ k, v.ownBlock = some k → B ≤ k := fun k hk => by
  rcases h.2 with ⟨hv, _⟩ | ⟨g, _, _, hv, hb, _⟩
  · subst hv
    cases hk
  · subst hv
    injection hk with hk
    subst hk
    exact hb
def Cat1 (n : Nat) (z i : Value) : Prop := (i = .int .i64 0 ∧ z = .int .i64 0) ∨ (i = .int .i64 1 ∧ z = .int .i64 n) ∨ (i = .int .i64 2 ∧ z = .int .i64 (n + 1))
def Cat2 (B : Nat) (W : World) (p : List Int) (x : Int) (v i : Value) (w : World) : Prop :=
  (∃ g c, (i = .int .i64 0 ∧ v = .slice (some ⟨g, 0, none⟩) 0 c ∧ IntRow w B v []) ∨ (i = .int .i64 1 ∧ v = .slice (some ⟨g, 0, none⟩) p.length c ∧ IntRow w B v p) ∨ (i = .int .i64 2 ∧ v = .slice (some ⟨g, 0, none⟩) (p.length + 1) c ∧ IntRow w B v (p ++ [x]))) ∧ Below W.heap.size W w
theorem int_ones (p : List Int) : ∀ u ∈ p.map (Value.int .i64), u.oneCell' = true := by
  intro u hu
  obtain ⟨x, _, rfl⟩ := List.mem_map.1 hu
  rfl
set_option maxRecDepth 100000 in
set_option maxHeartbeats 2000000 in
theorem concat_any (B ab ib : Nat) (A : Option Addr) (c : Nat) (p : List Int) (x : Int) (w : World) (h0 : w.cell? ⟨ab, 0, none⟩ = some (.slice A p.length c)) (h1 : w.cell? ⟨ab, 1, none⟩ = some (.slice (some ⟨ib, 0, none⟩) 1 1)) (hx : w.cell? ⟨ib, 0, none⟩ = some (.int .i64 x)) (hp : IntRow w B (.slice A p.length c) p) (hl : p.length ≤ 1000000) :
    Calls Try.prog 32 #[.slice (some ⟨ab, 0, none⟩) 2 2] w fun e w' => ∃ v, e = .returned v ∧ IntRow w' w.heap.size v (p ++ [x]) ∧ Below w.heap.size w w' := by
  have HP := Lib.hid hp
  have H0 := Lib.hid h0
  have H1 := Lib.hid h1
  have HX := Lib.hid hx
  have abl := World.block_lt_of_cell? w _ h0
  have HAB := Lib.hid abl
  have HIB := Lib.hid (World.block_lt_of_cell? w _ hx)
  clear hp hx
  go_enter Try.func32, Try.ntmps32
  go_wp2
  go_loop [3, 11] (fun z i => Cat1 p.length z i) (fun _ i => 2 - (intOf i).toNat)
  case atStart => exact .inl ⟨rfl, rfl⟩
  case round =>
    rcases hrel with ⟨rfl, rfl⟩ | ⟨rfl, rfl⟩ | ⟨rfl, rfl⟩
    · go_wp2
      go_round
      case rel => exact .inr (.inl ⟨rfl, rfl⟩)
      case measure => simp [intOf]
    · go_wp2
      go_round
      case rel => exact .inr (.inr ⟨rfl, rfl⟩)
      case measure => simp [intOf]
    · go_wp2_with fail
      go_at_call 40
      refine (grow_nil _ w (by omega) (by omega)).mono ?_
      rintro e w2 ⟨cg, rfl, hown, hb2⟩
      have HB2 := Lib.hid hb2
      have HO2 := Lib.hid hown
      clear hown hb2 h0 h1 abl
      go_wp2
      go_loopw [6, 27] (fun v i wr => Cat2 w.heap.size w p x v i wr) (fun _ i _ => 2 - (intOf i).toNat)
      case atStart => exact ⟨⟨_, _, .inl ⟨rfl, rfl, HO2.out⟩⟩, HB2.out⟩
      case round =>
        obtain ⟨⟨g, c', hd⟩, hbr⟩ := hrel
        have HBR := Lib.hid hbr
        have h0 := (World.cell?_of_block (w := w) (a := ⟨ab, 0, none⟩) (hbr.block ab HAB.out)).trans H0.out
        have h1 := (World.cell?_of_block (w := w) (a := ⟨ab, 1, none⟩) (hbr.block ab HAB.out)).trans H1.out
        have hx := (World.cell?_of_block (w := w) (a := ⟨ib, 0, none⟩) (hbr.block ib HIB.out)).trans HX.out
        have abl := Nat.lt_of_lt_of_le HAB.out hbr.size
        have HSZ := Lib.hid hbr.size
        obtain ⟨ii, hii, iz0, iz1, iz2⟩ := info_parts int_info
        clear hbr
        rcases hd with ⟨rfl, rfl, hr⟩ | ⟨rfl, rfl, hr⟩ | ⟨rfl, rfl, hr⟩
        · have HR := Lib.hid hr
          clear hr hx
          rcases Nat.eq_zero_or_pos p.length with hp0 | hp0
          · have hpn : p = [] := List.eq_nil_of_length_eq_zero hp0
            have HPN := Lib.hid hpn
            have HP0 := Lib.hid hp0
            clear hp0 hpn
            go_wp2_with (at_builtin; refine wpList_append_none rfl _ _ 33 rfl 3 ii Try.underlying33 hii (ad := ⟨g, 0, none⟩) (n := 0) (cap := c') rfl (Nat.zero_le _) (A := A) (m := p.length) (c := c) HP0.out rfl ?_)
            go_roundw
            case rel => exact ⟨⟨g, c', .inr (.inl ⟨rfl, by rw [HP0.out], by rw [HPN.out]; exact HR.out⟩)⟩, HBR.out⟩
            case measure => simp [intOf]
          · obtain ⟨pg, hA, hcs⟩ := IntRow.cells HP.out hp0
            subst hA
            have HCS := Lib.hid (show ∀ (j : Nat) (u : Value), (p.map (Value.int .i64))[j]? = some u → wr.cell? ((⟨pg, 0, none⟩ : Addr).add j) = some u from fun j u hu => by
              have h2 := hcs j u hu
              rw [show ((⟨pg, 0, none⟩ : Addr).add j) = ⟨pg, 0 + j, none⟩ from by unfold Addr.add; split <;> simp_all]
              exact (World.cell?_of_block (w := w) (a := ⟨pg, 0 + j, none⟩) (HBR.out.block pg (World.block_lt_of_cell? w _ h2))).trans h2)
            have HP0 := Lib.hid hp0
            clear hcs hp0
            go_wp2_with (at_builtin; refine wpList_append_lies _ rfl _ _ 33 rfl w.heap.size 3 ii _ 1 8 Try.underlying33 hii iz0 iz1 iz2 rfl (by decide) (.slice (some ⟨g, 0, none⟩) 0 c') 0 [] rfl HR.out ⟨pg, 0, none⟩ p.length c (p.map (Value.int .i64)) rfl (by simp) HCS.out (int_ones p) HP0.out (by unfold maxLen; omega) (by omega) HSZ.out _ rfl ?_; intro g2 c2 w3 hown hgr _ hlt; simp only [Nat.zero_add, List.nil_append] at hown ⊢; have HR3 := Lib.hid (show IntRow w3 w.heap.size (.slice (some ⟨g2, 0, none⟩) p.length c2) p from hown); have HB3 := Lib.hid (HBR.out.grown hgr HSZ.out (own_base HR.out)); clear hown hgr hlt)
            go_roundw
            case rel => exact ⟨⟨g2, c2, .inr (.inl ⟨rfl, rfl, HR3.out⟩)⟩, HB3.out⟩
            case measure => simp [intOf]
        · have HR := Lib.hid hr
          have hcs : ∀ (j : Nat) (u : Value), [Value.int .i64 x][j]? = some u → wr.cell? ((⟨ib, 0, none⟩ : Addr).add j) = some u := fun j u hu => by
            cases j with
            | zero =>
              injection hu with hu
              subst hu
              exact hx
            | succ j => simp at hu
          have HCS := Lib.hid hcs
          clear hr hx hcs
          go_wp2_with (at_builtin; refine wpList_append_lies _ rfl _ _ 33 rfl w.heap.size 3 ii _ 1 8 Try.underlying33 hii iz0 iz1 iz2 rfl (by decide) (.slice (some ⟨g, 0, none⟩) p.length c') p.length (p.map (Value.int .i64)) rfl HR.out ⟨ib, 0, none⟩ 1 1 [.int .i64 x] rfl rfl HCS.out (int_ones [x]) (by decide) (by unfold maxLen; omega) (by omega) HSZ.out _ rfl ?_; intro g2 c2 w3 hown hgr _ hlt; have HR3 := Lib.hid (show IntRow w3 w.heap.size (.slice (some ⟨g2, 0, none⟩) (p.length + 1) c2) (p ++ [x]) from by unfold IntRow; rw [List.length_append, List.map_append]; exact hown); have HB3 := Lib.hid (HBR.out.grown hgr HSZ.out (own_base HR.out)); clear hown hgr hlt)
          go_roundw
          case rel => exact ⟨⟨g2, c2, .inr (.inr ⟨rfl, rfl, HR3.out⟩)⟩, HB3.out⟩
          case measure => simp [intOf]
        · have HR := Lib.hid hr
          clear hr hx
          go_wp2
          go_ret
          exact ⟨_, rfl, HR.out, HBR.out⟩
end Go.Proofs.Ytojekhbebcdccaa
