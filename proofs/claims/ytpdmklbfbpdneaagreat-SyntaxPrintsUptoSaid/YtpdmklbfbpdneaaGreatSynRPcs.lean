/- The contract of the reference's pieces at every tree of the right shape. Conditions: at most 1000 nodes, few tokens. -/
import Derived.Test.YtpdmklbfbpdneaaGreatSynRPcA
import Derived.Test.YtpdmklbfbpdneaaGreatSynRPcB
import Derived.Test.YtpdmklbfbpdneaaGreatSynRPcC
import Derived.Test.YtpdmklbfbpdneaaGreatSynRPcD
namespace Go.Proofs.YtpdmklbfbpdneaaGreat
open Go.RowKit
theorem shapedRL_all (k : Int) (n : Nat) : ∀ (ks : List Tr) (i : Nat), shapedRL k n i ks = true → ∀ a ∈ ks, shapedR a = true
  | [], _, _, a, h => by simp at h
  | b :: r, i, h, a, ha => by
    rw [shapedRL, Bool.and_eq_true, Bool.and_eq_true] at h
    rcases List.mem_cons.1 ha with rfl | ha
    · exact h.1.2
    · exact shapedRL_all k n r (i + 1) h.2 a ha
theorem shaped_kids {t : Tr} (hz : sizeT t ≤ 1000) (h : shapedT t = true) : 0 ≤ leadsR t.kind t.kids.length ∧ ∀ a ∈ t.kids, shapedT a = true := by
  rw [← shaped_same _ t (Nat.le_refl _) hz, shapedR_eq, Bool.and_eq_true, Bool.and_eq_true] at h
  refine ⟨by have h1 := h.1.1; rw [Bool.not_eq_true'] at h1; have h2 := of_decide_eq_false h1; omega, fun a ha => ?_⟩
  have h1 := shapedRL_all _ _ _ _ h.2 a ha
  rw [← shaped_same _ a (Nat.le_refl _) (by have h2 := mem_size ha; have h3 := sizeT_eq t; omega)]
  exact h1
theorem two_last {α : Type} (l : List α) (h : 2 ≤ l.length) : ∃ qs a b, l = qs ++ [a, b] := by
  have hd : (l.drop (l.length - 2)).length = 2 := by rw [List.length_drop]; omega
  match hm : l.drop (l.length - 2), hd with
  | [a, b], _ => exact ⟨l.take (l.length - 2), a, b, by rw [← hm, List.take_append_drop]⟩
theorem only_le {n : Nat} {must m : Int} (h : 0 ≤ onlyR n must m) : (n : Int) = must := by
  unfold onlyR at h
  by_cases e : (n : Int) = must
  · exact e
  · rw [if_neg e] at h
    omega
theorem len_two {α : Type} (l : List α) (h : l.length = 2) : ∃ a b, l = [a, b] := by
  match l, h with
  | [a, b], _ => exact ⟨a, b, rfl⟩
theorem len_three {α : Type} (l : List α) (h : l.length = 3) : ∃ a b c, l = [a, b, c] := by
  match l, h with
  | [a, b, c], _ => exact ⟨a, b, c, rfl⟩
theorem rpieces_all : ∀ N : Nat, PcC N
  | 0 => fun B l ps t v w h => by have := tr_pos t; omega
  | N + 1 => by
    have ih := rpieces_all N
    intro B l ps t v w hN ht hs hz hl hB hb
    obtain ⟨h1, h2⟩ := shaped_kids hz hs
    have hkl := ht.kl
    obtain ⟨k, x, ls, ks⟩ := t
    obtain ⟨vk, vx, vla, vll, vlc, vka, vkl, vkc⟩ := v
    simp only [Tr.kind, Tr.text, Tr.leads, Tr.kids] at hkl h1 h2
    obtain ⟨rfl, rfl, rfl, rfl⟩ := hkl
    by_cases h0 : vk ≤ 0 ∨ 23 ≤ vk
    · have hm : leadsR vk ks.length = -1 := by unfold leadsR; simp only [show vk ≠ 1 from by omega, show vk ≠ 2 from by omega, show vk ≠ 3 from by omega, show vk ≠ 4 from by omega, show vk ≠ 5 from by omega, show vk ≠ 6 from by omega, show vk ≠ 7 from by omega, show vk ≠ 8 from by omega, show vk ≠ 9 from by omega, show vk ≠ 10 from by omega, show vk ≠ 11 from by omega, show vk ≠ 12 from by omega, show vk ≠ 13 from by omega, show vk ≠ 14 from by omega, show vk ≠ 15 from by omega, show vk ≠ 16 from by omega, show vk ≠ 17 from by omega, show vk ≠ 18 from by omega, show vk ≠ 19 from by omega, show vk ≠ 20 from by omega, show vk ≠ 21 from by omega, show vk ≠ 22 from by omega, if_false]
      omega
    · rcases kid_cases h0 with rfl | rfl | rfl | rfl | rfl | rfl | rfl | rfl | rfl | rfl | rfl | rfl | rfl | rfl | rfl | rfl | rfl | rfl | rfl | rfl | rfl | rfl
      · exact rpieces_1 ih B l ps vx ls ks vla vka vlc vkc w hN ht (fun j k hk => h2 k (List.mem_of_getElem? hk)) hz hl hB hb
      · have hn : 2 ≤ ks.length := by
          rcases Nat.lt_or_ge ks.length 2 with h' | h'
          · have hm : leadsR 2 ks.length = -1 := by show (if 2 ≤ (ks.length : Int) then 6 + max 0 ((ks.length : Int) - 3) else -1) = _; rw [if_neg (by omega)]
            omega
          · exact h'
        obtain ⟨qs, a, b, rfl⟩ := two_last ks hn
        have hlen : (qs ++ [a, b]).length = qs.length + 2 := by simp
        rw [hlen] at ht ⊢
        exact rpieces_2 ih B l ps vx ls qs a b vla vka vlc vkc w hN ht (h2 a (by simp)) (h2 b (by simp)) (fun k hk => h2 k (by simp [hk])) hz hl hB hb
      · have hn := only_le (n := ks.length) (must := 1) (m := 3) h1
        obtain ⟨a, rfl⟩ := List.length_eq_one_iff.1 (show ks.length = 1 from by omega)
        exact rpieces_3 ih B l ps vx ls a vla vka vlc vkc w hN ht (h2 a (by simp)) hz hl hB hb
      · have hn := only_le (n := ks.length) (must := 1) (m := 2) h1
        obtain ⟨a, rfl⟩ := List.length_eq_one_iff.1 (show ks.length = 1 from by omega)
        exact rpieces_4 ih B l ps vx ls a vla vka vlc vkc w hN ht (h2 a (by simp)) hz hl hB hb
      · obtain rfl : ks = [] := List.eq_nil_of_length_eq_zero (by have hn := only_le (n := ks.length) (must := 0) (m := 1) h1; omega)
        exact rpieces_5 ih B l ps vx ls vla vka vlc vkc w hN ht hz hl hB hb
      · obtain rfl : ks = [] := List.eq_nil_of_length_eq_zero (by have hn := only_le (n := ks.length) (must := 0) (m := 1) h1; omega)
        exact rpieces_6 ih B l ps vx ls vla vka vlc vkc w hN ht hz hl hB hb
      · obtain rfl : ks = [] := List.eq_nil_of_length_eq_zero (by have hn := only_le (n := ks.length) (must := 0) (m := 1) h1; omega)
        exact rpieces_7 ih B l ps vx ls vla vka vlc vkc w hN ht hz hl hB hb
      · have hn := only_le (n := ks.length) (must := 1) (m := 2) h1
        obtain ⟨a, rfl⟩ := List.length_eq_one_iff.1 (show ks.length = 1 from by omega)
        exact rpieces_8 ih B l ps vx ls a vla vka vlc vkc w hN ht (h2 a (by simp)) hz hl hB hb
      · obtain rfl : ks = [] := List.eq_nil_of_length_eq_zero (by have hn := only_le (n := ks.length) (must := 0) (m := 1) h1; omega)
        exact rpieces_9 ih B l ps vx ls vla vka vlc vkc w hN ht hz hl hB hb
      · obtain rfl : ks = [] := List.eq_nil_of_length_eq_zero (by have hn := only_le (n := ks.length) (must := 0) (m := 1) h1; omega)
        exact rpieces_10 ih B l ps vx ls vla vka vlc vkc w hN ht hz hl hB hb
      · obtain rfl : ks = [] := List.eq_nil_of_length_eq_zero (by have hn := only_le (n := ks.length) (must := 0) (m := 1) h1; omega)
        exact rpieces_11 ih B l ps vx ls vla vka vlc vkc w hN ht hz hl hB hb
      · obtain rfl : ks = [] := List.eq_nil_of_length_eq_zero (by have hn := only_le (n := ks.length) (must := 0) (m := 1) h1; omega)
        exact rpieces_12 ih B l ps vx ls vla vka vlc vkc w hN ht hz hl hB hb
      · obtain rfl : ks = [] := List.eq_nil_of_length_eq_zero (by have hn := only_le (n := ks.length) (must := 0) (m := 1) h1; omega)
        exact rpieces_13 ih B l ps vx ls vla vka vlc vkc w hN ht hz hl hB hb
      · obtain rfl : ks = [] := List.eq_nil_of_length_eq_zero (by have hn := only_le (n := ks.length) (must := 0) (m := 1) h1; omega)
        exact rpieces_14 ih B l ps vx ls vla vka vlc vkc w hN ht hz hl hB hb
      · obtain rfl : ks = [] := List.eq_nil_of_length_eq_zero (by have hn := only_le (n := ks.length) (must := 0) (m := 1) h1; omega)
        exact rpieces_15 ih B l ps vx ls vla vka vlc vkc w hN ht hz hl hB hb
      · exact rpieces_16 ih B l ps vx ls ks vla vka vlc vkc w hN ht (fun j k hk => h2 k (List.mem_of_getElem? hk)) hz hl hB hb
      · have hn := only_le (n := ks.length) (must := 1) (m := 0) h1
        obtain ⟨a, rfl⟩ := List.length_eq_one_iff.1 (show ks.length = 1 from by omega)
        exact rpieces_17 ih B l ps vx ls a vla vka vlc vkc w hN ht (h2 a (by simp)) hz hl hB hb
      · exact rpieces_18 ih B l ps vx ls ks vla vka vlc vkc w hN ht (fun j k hk => h2 k (List.mem_of_getElem? hk)) hz hl hB hb
      · have hn := only_le (n := ks.length) (must := 3) (m := 3) h1
        obtain ⟨a, b, c, rfl⟩ := len_three ks (show ks.length = 3 from by omega)
        exact rpieces_19 ih B l ps vx ls a b c vla vka vlc vkc w hN ht (h2 a (by simp)) (h2 b (by simp)) (h2 c (by simp)) hz hl hB hb
      · have hn := only_le (n := ks.length) (must := 2) (m := 4) h1
        obtain ⟨a, b, rfl⟩ := len_two ks (show ks.length = 2 from by omega)
        exact rpieces_20 ih B l ps vx ls a b vla vka vlc vkc w hN ht (h2 a (by simp)) (h2 b (by simp)) hz hl hB hb
      · have hn := only_le (n := ks.length) (must := 2) (m := 1) h1
        obtain ⟨a, b, rfl⟩ := len_two ks (show ks.length = 2 from by omega)
        exact rpieces_21 ih B l ps vx ls a b vla vka vlc vkc w hN ht (h2 a (by simp)) (h2 b (by simp)) hz hl hB hb
      · have hn := only_le (n := ks.length) (must := 1) (m := 2) h1
        obtain ⟨a, rfl⟩ := List.length_eq_one_iff.1 (show ks.length = 1 from by omega)
        exact rpieces_22 ih B l ps vx ls a vla vka vlc vkc w hN ht (h2 a (by simp)) hz hl hB hb
end Go.Proofs.YtpdmklbfbpdneaaGreat
