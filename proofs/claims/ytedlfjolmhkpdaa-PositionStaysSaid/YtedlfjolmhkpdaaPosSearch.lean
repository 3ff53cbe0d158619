/- sort.Search over the heads of the columns: the closure's contract, the search's. Condition: fewer than 2^62 heads. -/
import Derived.Test.YtedlfjolmhkpdaaPosTexts
import Derived.Test.YtedlfjolmhkpdaaPosKeepP
import Derived.Shelf.SlSorted.Search
namespace Go.Proofs.Ytedlfjolmhkpdaa
open Go.RowKit Go.Shelf Go.Sort
attribute [local go_sem 2000] str_gtr str_leq
def seaRen : Go.Shelf.Ren := ⟨fun | 16 => 33 | n => n, fun | 3 => 3 | 4 => 4 | 35 => 31 | 38 => 50 | n => n, fun n => n⟩
theorem seaLays : SlLaysO.n16 Try.prog seaRen := {
  mixed := by kernel_rfl
  f16 := Try.func33.trans (congrArg some (by kernel_rfl))
  t3 := Try.underlying3
  a3 := Try.isAgg3
  z3 := Try.sizeOf3
  v3 := Try.zeroValue3
  t4 := Try.underlying4
  a4 := Try.isAgg4
  z4 := Try.sizeOf4
  v4 := Try.zeroValue4
  t35 := Try.underlying31
  a35 := Try.isAgg31
  z35 := Try.sizeOf31
  v35 := Try.zeroValue31
  t38 := Try.underlying50
  a38 := Try.isAgg50
  z38 := Try.sizeOf50
  v38 := Try.zeroValue50 }
set_option maxHeartbeats 1000000 in
theorem closure_any (bh bk bi hb ho hn hc kb ko kn kc i j : Nat) (h k : Key) (W : World) (hj : j < hn) (hi : i < kn)
    (c1 : W.cell? ⟨bh, 0, none⟩ = some (.slice (some ⟨hb, ho, none⟩) hn hc)) (c2 : W.cell? ⟨bk, 0, none⟩ = some (.slice (some ⟨kb, ko, none⟩) kn kc)) (c3 : W.cell? ⟨bi, 0, none⟩ = some (.int .i64 (i : Int)))
    (c4 : W.cell? ⟨hb, ho + j, none⟩ = some (.string (strL h))) (c5 : W.cell? ⟨kb, ko + i, none⟩ = some (.string (strL k))) :
    Calls Try.prog 34 (#[.int .i64 (j : Int)] ++ #[.pointer (some ⟨bh, 0, none⟩), .pointer (some ⟨bk, 0, none⟩), .pointer (some ⟨bi, 0, none⟩)]) W fun e w' => e = .returned (.bool (!bl k h)) ∧ ∃ q, w' = W.drewN q := by
  have hb : Op.bytesLess (strL k).toList (strL h).toList = bl k h := by rw [strL_toList, strL_toList]; rfl
  obtain ⟨H, hH⟩ : ∃ H, H = strL h := ⟨_, rfl⟩
  obtain ⟨K, hK⟩ : ∃ K, K = strL k := ⟨_, rfl⟩
  rw [← hH, ← hK] at hb
  rw [← hH] at c4
  rw [← hK] at c5
  clear hH hK
  have HB := Lib.hid hb
  have hj' : (j : Int) < (hn : Int) := by omega
  have hi' : (i : Int) < (kn : Int) := by omega
  clear hb
  go_enter Try.func34, Try.ntmps34
  go_wp2
  go_quiet (fail)
  go_wp2
  go_ret
  exact ⟨ret_bool (by rw [HB.out]), _, rfl⟩
theorem count_range (hs : List Key) (k : Key) : (List.range hs.length).countP (fun i => !(!bl k (hs.getD i []))) = findH hs k := by
  unfold findH
  have h : hs = (List.range hs.length).map (fun i => hs.getD i []) := by
    apply List.ext_getElem
    · simp
    · intro i h1 h2
      simp [List.getD_eq_getElem?_getD, List.getElem?_eq_getElem h1]
  conv => rhs; rw [h, List.countP_map]
  congr 1
  funext i
  show (!(!bl k (hs.getD i []))) = bl k (hs.getD i [])
  rw [Bool.not_not]
def SeaPost (n : Nat) (w : World) (e : Ending) (w' : World) : Prop := e = .returned (.int .i64 (n : Int)) ∧ Below w.heap.size w w'
theorem search_any (bh bk bi hc kb ko kn kc i : Nat) (A : Option Addr) (hs : List Key) (k : Key) (W : World) (hi : i < kn) (hsz : hs.length ≤ 1000000) (hd : Desc hs) (hT : TAt W A hs) (hkb : kb < W.heap.size)
    (c1 : W.cell? ⟨bh, 0, none⟩ = some (.slice A hs.length hc)) (c2 : W.cell? ⟨bk, 0, none⟩ = some (.slice (some ⟨kb, ko, none⟩) kn kc)) (c3 : W.cell? ⟨bi, 0, none⟩ = some (.int .i64 (i : Int)))
    (c5 : W.cell? ⟨kb, ko + i, none⟩ = some (.string (strL k))) :
    Calls Try.prog 33 #[.int .i64 (hs.length : Int), .func (.func 34) #[] #[.pointer (some ⟨bh, 0, none⟩), .pointer (some ⟨bk, 0, none⟩), .pointer (some ⟨bi, 0, none⟩)]] W (SeaPost (findH hs k) W) := by
  have eg : ∀ args w, (callFunc 34 args).run Try.prog w = .ok (.enter 34 args) w := enters_of Try.func34 (by kernel_rfl) rfl
  have l1 := World.block_lt_of_cell? _ _ c1
  have l2 := World.block_lt_of_cell? _ _ c2
  have l3 := World.block_lt_of_cell? _ _ c3
  have hS := Any.sort_Search seaLays 34 #[.pointer (some ⟨bh, 0, none⟩), .pointer (some ⟨bk, 0, none⟩), .pointer (some ⟨bi, 0, none⟩)] hs.length (fun j => !bl k (hs.getD j [])) W eg (by omega)
    (fun m os j hj => by
      obtain ⟨hb, ho, rfl, hbl, hcs⟩ := hT (by rintro rfl; simp at hj)
      have c4 := hcs j (hs.getD j []) (by rw [List.getD_eq_getElem?_getD, List.getElem?_eq_getElem hj]; rfl)
      exact (closure_any bh bk bi hb ho hs.length hc kb ko kn kc i j _ k _ hj hi (cell_grown l1 c1 m os) (cell_grown l2 c2 m os) (cell_grown l3 c3 m os) (cell_grown hbl c4 m os) (cell_grown hkb c5 m os)).mono
        fun _ _ ⟨he, q, hq⟩ => ⟨he, q, #[], by rw [hq, grow_empty]⟩)
    (fun a b hab hbn h => by
      have ha : hs[a]? = some (hs.getD a []) := by rw [List.getD_eq_getElem?_getD, List.getElem?_eq_getElem (by omega)]; rfl
      have hb : hs[b]? = some (hs.getD b []) := by rw [List.getD_eq_getElem?_getD, List.getElem?_eq_getElem hbn]; rfl
      have h1 := desc_find hs k hd a _ ha
      have h2 := desc_find hs k hd b _ hb
      simp only [Bool.not_eq_true'] at h ⊢
      rw [← Bool.not_eq_true, h1] at h
      rw [← Bool.not_eq_true, h2]
      omega)
  rw [count_range] at hS
  refine hS.mono ?_
  rintro e w' ⟨he, q, os, rfl⟩
  exact ⟨he, below_grown_sl W.heap.size W q os (Nat.le_refl _)⟩
end Go.Proofs.Ytedlfjolmhkpdaa
