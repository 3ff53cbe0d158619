/- The contracts of text, Print, limited and Valid. Conditions: lengths that a machine can hold. -/
import Derived.Test.YtpdmklbfbpdneaaGreatSynWTree
import Derived.Test.YtpdmklbfbpdneaaGreatSynBuild
namespace Go.Proofs.YtpdmklbfbpdneaaGreat
open Go.RowKit
theorem tree_wr (N : Nat) : TreeWr N := by
  induction N with
  | zero =>
    intro B b s t v w hN
    exfalso
    cases t with
    | mk kd tx ls ks => rw [Tr.mk.sizeOf_spec] at hN; omega
  | succ N ih => exact tree_step ih
theorem StrsAt.low {S : Nat → Prop} {w : World} {A : Option Addr} {l : List ByteArray} (h : StrsAt S w A l) : StrsAt (fun k => k < w.heap.size) w A l := fun hne => by
  obtain ⟨b, off, hA, _, hc⟩ := h hne
  refine ⟨b, off, hA, ?_, hc⟩
  cases l with
  | nil => exact absurd rfl hne
  | cons a r => exact World.block_lt_of_cell? w _ (hc 0 a rfl)
mutual
theorem TrAt.low {S : Nat → Prop} {w : World} : (t : Tr) → (v : TV) → TrAt S w t v → TrAt (fun k => k < w.heap.size) w t v
  | .mk k x ls ks, v, h => by
    unfold TrAt at h ⊢
    obtain ⟨h1, h2, h3, h4, h5, h6, h7⟩ := h
    refine ⟨h1, h2, h3, h4, h5.low, fun hne => ?_, h7⟩
    obtain ⟨b, off, hA, hb, hc⟩ := h6 hne
    refine ⟨b, off, hA, ?_, TrsAt.low b ks off hc⟩
    cases ks with
    | nil => exact absurd rfl hne
    | cons a r =>
      unfold TrsAt at hc
      obtain ⟨u, c0, _⟩ := hc
      exact World.block_lt_of_cell? w _ c0
theorem TrsAt.low {S : Nat → Prop} {w : World} (b : Nat) : (l : List Tr) → (off : Nat) → TrsAt S w b off l → TrsAt (fun k => k < w.heap.size) w b off l
  | [], off, h => trivial
  | t :: r, off, h => by
    unfold TrsAt at h ⊢
    obtain ⟨v, c0, c1, c2, c3, ht, hr⟩ := h
    exact ⟨v, c0, c1, c2, c3, TrAt.low t v ht, TrsAt.low b r _ hr⟩
end
theorem WrS.new (W : World) (B : Nat) (hB : B ≤ W.heap.size) : WrS B W.heap.size ([], ⟨#[]⟩) (W.alloc (.cells #[.pointer none, .slice none 0 0, .string ⟨#[]⟩] 127)) :=
  ⟨.inl ⟨hB, .slice none 0 0, heap_alloc_new W _, ⟨rfl, .inl ⟨rfl, rfl⟩⟩, by simp [Value.ownBlock]⟩, Nat.le_refl 0⟩
set_option maxRecDepth 100000 in
set_option maxHeartbeats 2000000 in
theorem text_syn (S : Nat → Prop) (t : Tr) (v : TV) (w : World) (h : TrAt S w t v) (hs : smallT t = true) (hl : ledT t = true) (hsz : sizeP (pieces t) < 140737488355328) :
    Calls Tryz.prog 68 #[.agg #[.int .i64 v.kind, .string v.text, .slice v.la v.ll v.lc, .slice v.ka v.kl v.kc]] w fun e w' => e = .returned (.string ⟨(textL t).toArray⟩) ∧ Below w.heap.size w w' := by
  have HT := Lib.hid (h.low)
  have HS := Lib.hid hs
  have HL := Lib.hid hl
  have HZ := Lib.hid hsz
  clear h hs hl hsz
  go_enter Tryz.func68, Tryz.ntmps68
  go_wp2_with fail
  have HB1 := Lib.hid ((Below.refl w.heap.size w).alloc (Nat.le_refl _) (.cells #[.int .i64 v.kind, .string v.text, .slice v.la v.ll v.lc, .slice v.ka v.kl v.kc] 25))
  have hz1 : (w.alloc (.cells #[.int .i64 v.kind, .string v.text, .slice v.la v.ll v.lc, .slice v.ka v.kl v.kc] 25)).heap.size = w.heap.size + 1 := by simp
  rw [← hz1]
  generalize w.alloc (.cells #[.int .i64 v.kind, .string v.text, .slice v.la v.ll v.lc, .slice v.ka v.kl v.kc] 25) = W1 at HB1 hz1 ⊢
  have HW := Lib.hid (WrS.new W1 w.heap.size HB1.out.size)
  have HB2 := Lib.hid (HB1.out.alloc HB1.out.size (.cells #[.pointer none, .slice none 0 0, .string ⟨#[]⟩] 127))
  clear hz1
  go_at_call 108
  refine (tree_wr _ w.heap.size W1.heap.size ([], ⟨#[]⟩) t v _ (Nat.le_refl _) (HT.out.lows HB2.out) HW.out HB2.out.size HS.out HL.out (by have := HZ.out; show 0 + _ < _; omega)).mono ?_
  rintro e w2 ⟨rfl, h1, h2, h3⟩
  have H1 := Lib.hid h1
  have H2 := Lib.hid (HB2.out.trans h2)
  clear h1 h2 h3
  go_wp2_with fail
  go_at_call 109
  refine (stringW_any w.heap.size W1.heap.size (textL t) _ _ H1.out.1 H2.out.size).mono ?_
  rintro e w3 ⟨rfl, h4⟩
  have H4 := Lib.hid (H2.out.trans h4)
  clear h4
  go_wp2
  go_ret
  exact ⟨rfl, H4.out⟩
/-- Print's answer. -/
def printT (t : Tr) : ByteArray := if shapedT t && ledT t then ⟨(textL t).toArray⟩ else ⟨#[]⟩
set_option maxRecDepth 100000 in
set_option maxHeartbeats 2000000 in
theorem print_syn (S : Nat → Prop) (t : Tr) (v : TV) (w : World) (h : TrAt S w t v) (hs : smallT t = true) (hw : wordsT t = true) (hsz : sizeP (pieces t) < 140737488355328) :
    Calls Tryz.prog 36 #[.agg #[.int .i64 v.kind, .string v.text, .slice v.la v.ll v.lc, .slice v.ka v.kl v.kc]] w fun e w' => e = .returned (.string (printT t)) ∧ Below w.heap.size w w' := by
  have HW0 := Lib.hid ((Below.refl w.heap.size w).alloc (Nat.le_refl _) (.cells #[.int .i64 v.kind, .string v.text, .slice v.la v.ll v.lc, .slice v.ka v.kl v.kc] 25))
  have HG0 := Lib.hid (heap_alloc_new w (.cells #[.int .i64 v.kind, .string v.text, .slice v.la v.ll v.lc, .slice v.ka v.kl v.kc] 25))
  have HT := Lib.hid h
  have HS := Lib.hid hs
  have HW := Lib.hid hw
  have HZ := Lib.hid hsz
  clear h hs hw hsz
  cases hp : (shapedT t && ledT t)
  · have HR := Lib.hid (show printT t = ⟨#[]⟩ from by unfold printT; rw [hp]; rfl)
    go_enter Tryz.func36, Tryz.ntmps36
    go_wp2_with fail
    go_at_call 65
    refine (printable_syn S t v _ (HT.out.keep HW0.out) HS.out HW.out).mono ?_
    rw [hp]
    rintro e w1 ⟨rfl, hb⟩
    have HB := Lib.hid (HW0.out.trans (hb.mono HW0.out.size))
    clear hb
    go_wp2
    go_ret
    exact ⟨by rw [HR.out]; rfl, HB.out⟩
  · have HR := Lib.hid (show printT t = ⟨(textL t).toArray⟩ from by unfold printT; rw [hp]; rfl)
    have HL := Lib.hid (show ledT t = true from by rw [Bool.and_eq_true] at hp; exact hp.2)
    go_enter Tryz.func36, Tryz.ntmps36
    go_wp2_with fail
    go_at_call 65
    refine (printable_syn S t v _ (HT.out.keep HW0.out) HS.out HW.out).mono ?_
    rw [hp]
    rintro e w1 ⟨rfl, hb⟩
    have HB := Lib.hid (HW0.out.trans (hb.mono HW0.out.size))
    have HG1 := Lib.hid ((hb.block w.heap.size (by simp)).trans HG0.out)
    clear hb
    have k0 : w1.cell? ⟨w.heap.size, 0, none⟩ = some (.int .i64 v.kind) := cells_of HG1.out 0 _ rfl
    have k1 : w1.cell? ⟨w.heap.size, 1, none⟩ = some (.string v.text) := cells_of HG1.out 1 _ rfl
    have k2 : w1.cell? ⟨w.heap.size, 2, none⟩ = some (.slice v.la v.ll v.lc) := cells_of HG1.out 2 _ rfl
    have k3 : w1.cell? ⟨w.heap.size, 3, none⟩ = some (.slice v.ka v.kl v.kc) := cells_of HG1.out 3 _ rfl
    go_wp2_with fail
    go_at_call 68
    refine (text_syn S t v _ (HT.out.keep HB.out) HS.out HL.out HZ.out).mono ?_
    rintro e w2 ⟨rfl, hb2⟩
    have HB2 := Lib.hid (HB.out.trans (hb2.mono HB.out.size))
    clear hb2 k0 k1 k2 k3
    go_wp2
    go_ret
    exact ⟨by rw [HR.out]; rfl, HB2.out⟩
end Go.Proofs.YtpdmklbfbpdneaaGreat
namespace Go.Proofs.YtpdmklbfbpdneaaGreat
open Go.RowKit
def mostP : List Part → Int → Bool
  | [], _ => true
  | x :: r, n => decide (countP x n ≤ x.most) && mostP r n
mutual
/-- No node has too many kids. -/
def limT : Tr → Bool
  | .mk kd _ _ ks => mostP (partsP kd) (freeP (partsP kd) ks.length).1 && limL ks
def limL : List Tr → Bool
  | [] => true
  | k :: r => limT k && limL r
end
theorem limT_eq (t : Tr) : limT t = (mostP (partsP t.kind) (freeP (partsP t.kind) t.kids.length).1 && limL t.kids) := by
  cases t with
  | mk kd x ls ks => rw [limT]; rfl
theorem limL_at (l : List Tr) (j : Nat) (k : Tr) (hk : l[j]? = some k) : limL (l.drop j) = (limT k && limL (l.drop (j + 1))) := by
  obtain ⟨hj, he⟩ := List.getElem?_eq_some_iff.1 hk
  rw [List.drop_eq_getElem_cons hj, he, limL]
theorem limL_end (l : List Tr) (j : Nat) (h : l.length ≤ j) : limL (l.drop j) = true := by
  rw [List.drop_eq_nil_of_le h, limL]
set_option maxRecDepth 100000 in
set_option maxHeartbeats 4000000 in
theorem limited_syn (N : Nat) : ∀ (S : Nat → Prop) (t : Tr) (v : TV) (w : World), SizeOf.sizeOf t ≤ N → TrAt S w t v → smallT t = true →
      Calls Tryz.prog 66 #[.agg #[.int .i64 v.kind, .string v.text, .slice v.la v.ll v.lc, .slice v.ka v.kl v.kc]] w fun e w' => e = .returned (.bool (limT t)) ∧ Below w.heap.size w w' := by
  induction N with
  | zero =>
    intro S t v w hN
    exfalso
    cases t with
    | mk kd tx ls ks => rw [Tr.mk.sizeOf_spec] at hN; omega
  | succ N ih =>
    intro S t v w hN h hs
    obtain ⟨_, hk1, hk2⟩ := smallT_kids hs
    obtain ⟨e1, e2, e3, e4⟩ := h.kl
    obtain ⟨vk, vx, vla, vll, vlc, vka, vkl, vkc⟩ := v
    simp only at e1 e2 e3 e4
    subst e1 e2 e3 e4
    have HT := Lib.hid h
    have HK2 := Lib.hid hk2
    have HIH := Lib.hid ih
    have HSZ := Lib.hid hN
    have HPL := Lib.hid (partsP_len t.kind)
    have HKI := Lib.hid (show (t.kids.length : Int) ≤ 140737488355328 from by omega)
    have HW0 := Lib.hid ((Below.refl w.heap.size w).alloc (Nat.le_refl _) (.cells #[.int .i64 t.kind, .string t.text, .slice vla t.leads.length vlc, .slice vka t.kids.length vkc] 25))
    have HG0 := Lib.hid (heap_alloc_new w (.cells #[.int .i64 t.kind, .string t.text, .slice vla t.leads.length vlc, .slice vka t.kids.length vkc] 25))
    have HLT := Lib.hid (limT_eq t)
    generalize hfp : freeP (partsP t.kind) t.kids.length = fr at HLT
    have HFE := Lib.hid hfp
    obtain ⟨n, ok⟩ := fr
    clear h hs hk2 ih hN hfp
    go_enter Tryz.func66, Tryz.ntmps66
    go_wp2_with fail
    go_at_call 57
    refine (parts_any t.kind _).mono ?_
    rintro e w1 ⟨A, c, rfl, hp, hb⟩
    have HP := Lib.hid hp
    have HB1 := Lib.hid (HW0.out.trans (hb.mono HW0.out.size))
    have HG1 := Lib.hid ((hb.block w.heap.size (by simp)).trans HG0.out)
    clear hp hb
    have k0 : w1.cell? ⟨w.heap.size, 0, none⟩ = some (.int .i64 t.kind) := cells_of HG1.out 0 _ rfl
    have k3 : w1.cell? ⟨w.heap.size, 3, none⟩ = some (.slice vka t.kids.length vkc) := cells_of HG1.out 3 _ rfl
    go_wp2_with fail
    go_at_call 58
    refine (free_syn A c _ t.kids.length _ HP.out HPL.out HKI.out).mono ?_
    rw [HFE.out]
    rintro e w2 ⟨rfl, hb2⟩
    have HB2 := Lib.hid (HB1.out.trans (hb2.mono HB1.out.size))
    have HG2 := Lib.hid ((hb2.block w.heap.size (lt_of_heap HG1.out)).trans HG1.out)
    have HP2 := Lib.hid (HP.out.keep hb2)
    clear hb2 k0 k3
    go_wp2_with fail
    go_loopg [23] (partsP t.kind).length (fun g u23 wr => ∃ j : Nat, u23 = .int .i64 j ∧ j + g = (partsP t.kind).length ∧ limT t = (mostP ((partsP t.kind).drop j) n && limL t.kids) ∧ Below w2.heap.size w2 wr)
    case atStart => exact ⟨0, rfl, by omega, HLT.out, Below.refl _ _⟩
    case round =>
      obtain ⟨j, rfl, hj, hl, hb⟩ := hrel
      have HJ := Lib.hid hj
      have HL := Lib.hid hl
      have HBR := Lib.hid hb
      clear hj hl hb
      by_cases hlt : j < (partsP t.kind).length
      · obtain ⟨pk, pcs, rfl, _, hph, hpc⟩ := HP2.out.at (by omega)
        obtain ⟨x, hx⟩ : ∃ x, (partsP t.kind)[j]? = some x := ⟨_, List.getElem?_eq_getElem hlt⟩
        obtain ⟨p0, p1, p2, p3, p4, p5, p6⟩ := parts_at ((HBR.out.block pk (lt_of_heap hph)).trans hph) hpc j x hx
        obtain ⟨hjl, hje⟩ := List.getElem?_eq_some_iff.1 hx
        have hl := HL.out
        rw [List.drop_eq_getElem_cons hjl, hje, mostP] at hl
        have hj0 : (0 : Int) ≤ (j : Int) := by omega
        have hj1 : (j : Int) < ((partsP t.kind).length : Int) := by omega
        have hj2 : (j : Int) + 1 ≤ 10 := by have := HPL.out; omega
        have HJL := Lib.hid hlt
        have HL2 := Lib.hid hl
        clear hx hjl hje hl hph hpc
        obtain ⟨wd, nm, kd, lst, mst, se, co⟩ := x
        have HX0 := Lib.hid (heap_alloc_new wr (.cells #[.string wd, fnV nm, .int .i64 kd, .int .i64 lst, .int .i64 mst, .bool se, .bool co] 82))
        have HBX := Lib.hid (HBR.out.alloc HBR.out.size (.cells #[.string wd, fnV nm, .int .i64 kd, .int .i64 lst, .int .i64 mst, .bool se, .bool co] 82))
        go_wp2_with fail
        clear p0 p1 p2 p3 p4 p5 p6
        generalize wr.alloc (.cells #[.string wd, fnV nm, .int .i64 kd, .int .i64 lst, .int .i64 mst, .bool se, .bool co] 82) = WX at HX0 HBX ⊢
        generalize hxb : wr.heap.size = xb at HX0 ⊢
        clear hxb
        obtain ⟨x0, x1, x2, x3, x4, x5, x6⟩ := part_cells (x := ⟨wd, nm, kd, lst, mst, se, co⟩) HX0.out
        have xlt := lt_of_heap HX0.out
        go_region_law (go_simp; go_at_call 60; refine (count_syn ⟨wd, nm, kd, lst, mst, se, co⟩ n _).mono ?_; rintro e w4 ⟨rfl, hb4⟩; have HB4 := Lib.hid (((Below.refl _ _).drew).trans hb4); have HX4 := Lib.hid ((HB4.out.block xb (lt_of_heap HX0.out)).trans HX0.out); clear hb4 x0 x1 x2 x3 x4 x5 x6 xlt; obtain ⟨x0, x1, x2, x3, x4, x5, x6⟩ := part_cells (x := ⟨wd, nm, kd, lst, mst, se, co⟩) HX4.out; have xlt := lt_of_heap HX4.out)
        all_goals
          have HB5 := Lib.hid (HBX.out.trans (HB4.out.mono HBX.out.size))
          clear x0 x1 x2 x3 x4 x5 x6 xlt
          by_cases hc : countP ⟨wd, nm, kd, lst, mst, se, co⟩ n ≤ mst
          · have HR := Lib.hid (show limT t = (mostP ((partsP t.kind).drop (j + 1)) n && limL t.kids) from by rw [HL2.out, decide_eq_true (show countP ⟨wd, nm, kd, lst, mst, se, co⟩ n ≤ (⟨wd, nm, kd, lst, mst, se, co⟩ : Part).most from hc), Bool.true_and])
            go_wp2
            go_roundg (gk - 1)
            case measure => have := HJ.out; have := HJL.out; omega
            case rel => exact ⟨j + 1, by go_num, by have := HJ.out; have := HJL.out; omega, HR.out, HB5.out⟩
          · have HR := Lib.hid (show limT t = false from by rw [HL2.out, decide_eq_false (show ¬ countP ⟨wd, nm, kd, lst, mst, se, co⟩ n ≤ (⟨wd, nm, kd, lst, mst, se, co⟩ : Part).most from hc), Bool.false_and, Bool.false_and])
            go_wp2
            go_ret
            exact ⟨by rw [HR.out]; rfl, HB2.out.trans (HB5.out.mono HB2.out.size)⟩
      · have HKR := Lib.hid (show limT t = limL t.kids from by rw [HL.out, List.drop_eq_nil_of_le (by omega), mostP, Bool.true_and])
        have HB5 := Lib.hid (HB2.out.trans (HBR.out.mono HB2.out.size))
        have hG := (HBR.out.block w.heap.size (lt_of_heap HG2.out)).trans HG2.out
        have f3 : wr.cell? ⟨w.heap.size, 3, none⟩ = some (.slice vka t.kids.length vkc) := cells_of hG 3 _ rfl
        clear hG
        go_wp2_with fail
        clear f3
        go_loopg [37] t.kids.length (fun g u37 wi => ∃ j : Nat, u37 = .int .i64 j ∧ j + g = t.kids.length ∧ limT t = limL (t.kids.drop j) ∧ Below w.heap.size w wi)
        case atStart => exact ⟨0, rfl, by omega, HKR.out, HB5.out⟩
        case round =>
          obtain ⟨j, rfl, hj, hsj, hb⟩ := hrel
          have HJ2 := Lib.hid hj
          have HSJ := Lib.hid hsj
          have HB := Lib.hid hb
          clear hj hsj hb
          by_cases hlt2 : j < t.kids.length
          · obtain ⟨kb, ko, hka⟩ : ∃ b off, vka = some ⟨b, off, none⟩ := HT.out.addr.resolve_left (by omega)
            subst hka
            obtain ⟨k, hk⟩ : ∃ k, t.kids[j]? = some k := ⟨_, List.getElem?_eq_getElem hlt2⟩
            obtain ⟨u, c0, c1, c2, c3, hu⟩ := (HT.out.keep HB.out).at rfl hk
            have HU := Lib.hid hu
            have HSK := Lib.hid (HK2.out j k hk)
            have HZK := Lib.hid (show SizeOf.sizeOf k ≤ N from by have := kid_size hk; have := HSZ.out; omega)
            have HLT2 := Lib.hid hlt2
            have HAT := Lib.hid (HSJ.out.trans (limL_at t.kids j k hk))
            have hj0 : (0 : Int) ≤ (j : Int) := by omega
            have hj1 : (j : Int) < (t.kids.length : Int) := by omega
            have hj2 : (j : Int) + 1 ≤ 140737488355328 := by omega
            clear hk hu
            cases hwk : limT k
            · have HRR := Lib.hid (show limT t = false from by rw [HAT.out, hwk]; rfl)
              go_wp2_with (go_at_call 66; refine (HIH.out S k u _ HZK.out (HU.out.keep ((Below.refl _ _).alloc (Nat.le_refl _) _)) HSK.out).mono ?_; rintro e w2 ⟨rfl, hb2⟩; have HB6 := Lib.hid ((HB.out.alloc HB.out.size (.cells #[.int .i64 u.kind, .string u.text, .slice u.la u.ll u.lc, .slice u.ka u.kl u.kc] 25)).trans (hb2.mono (by have := HB.out.size; simp; omega))); clear hb2)
              go_ret
              exact ⟨by rw [HRR.out]; rfl, HB6.out⟩
            · have HRR := Lib.hid (show limT t = limL (t.kids.drop (j + 1)) from by rw [HAT.out, hwk, Bool.true_and])
              go_wp2_with (go_at_call 66; refine (HIH.out S k u _ HZK.out (HU.out.keep ((Below.refl _ _).alloc (Nat.le_refl _) _)) HSK.out).mono ?_; rintro e w2 ⟨rfl, hb2⟩; have HB6 := Lib.hid ((HB.out.alloc HB.out.size (.cells #[.int .i64 u.kind, .string u.text, .slice u.la u.ll u.lc, .slice u.ka u.kl u.kc] 25)).trans (hb2.mono (by have := HB.out.size; simp; omega))); clear hb2)
              go_roundg (gk - 1)
              case measure => have := HJ2.out; have := HLT2.out; omega
              case rel => exact ⟨j + 1, by go_num, by have := HJ2.out; have := HLT2.out; omega, HRR.out, HB6.out⟩
          · have HRR := Lib.hid (HSJ.out.trans (limL_end t.kids j (by omega)))
            go_wp2
            go_ret
            exact ⟨by rw [HRR.out]; rfl, HB.out⟩
end Go.Proofs.YtpdmklbfbpdneaaGreat
namespace Go.Proofs.YtpdmklbfbpdneaaGreat
open Go.RowKit
/-- Valid's answer. -/
def validT (t : Tr) : Bool := shapedT t && ledT t && limT t && withinT t 40 && decide ((textL t).length ≤ 4096)
set_option maxRecDepth 100000 in
set_option maxHeartbeats 4000000 in
theorem valid_syn (S : Nat → Prop) (t : Tr) (v : TV) (w : World) (h : TrAt S w t v) (hs : smallT t = true) (hw : wordsT t = true) (hsz : sizeP (pieces t) < 140737488355328) :
    Calls Tryz.prog 34 #[.agg #[.int .i64 v.kind, .string v.text, .slice v.la v.ll v.lc, .slice v.ka v.kl v.kc]] w fun e w' => e = .returned (.bool (validT t)) ∧ Below w.heap.size w w' := by
  have HW0 := Lib.hid ((Below.refl w.heap.size w).alloc (Nat.le_refl _) (.cells #[.int .i64 v.kind, .string v.text, .slice v.la v.ll v.lc, .slice v.ka v.kl v.kc] 25))
  have HG0 := Lib.hid (heap_alloc_new w (.cells #[.int .i64 v.kind, .string v.text, .slice v.la v.ll v.lc, .slice v.ka v.kl v.kc] 25))
  have HT := Lib.hid h
  have HS := Lib.hid hs
  have HW := Lib.hid hw
  have HZ := Lib.hid hsz
  clear h hs hw hsz
  cases h1 : (shapedT t && ledT t)
  · have HR := Lib.hid (show validT t = false from by unfold validT; rw [h1]; rfl)
    go_enter Tryz.func34, Tryz.ntmps34
    go_wp2_with fail
    go_at_call 65
    refine (printable_syn S t v _ (HT.out.keep HW0.out) HS.out HW.out).mono ?_
    rw [h1]
    rintro e w1 ⟨rfl, hb⟩
    have HB1 := Lib.hid (HW0.out.trans (hb.mono HW0.out.size))
    have HG1 := Lib.hid ((hb.block w.heap.size (lt_of_heap HG0.out)).trans HG0.out)
    clear hb
    go_wp2
    go_ret
    exact ⟨by rw [HR.out]; rfl, HB1.out⟩
  · have HL := Lib.hid (show ledT t = true from by rw [Bool.and_eq_true] at h1; exact h1.2)
    cases h2 : limT t
    · have HR := Lib.hid (show validT t = false from by unfold validT; rw [h1, h2]; rfl)
      go_enter Tryz.func34, Tryz.ntmps34
      go_wp2_with fail
      go_at_call 65
      refine (printable_syn S t v _ (HT.out.keep HW0.out) HS.out HW.out).mono ?_
      rw [h1]
      rintro e w1 ⟨rfl, hb⟩
      have HB1 := Lib.hid (HW0.out.trans (hb.mono HW0.out.size))
      have HG1 := Lib.hid ((hb.block w.heap.size (lt_of_heap HG0.out)).trans HG0.out)
      clear hb
      have k0 : w1.cell? ⟨w.heap.size, 0, none⟩ = some (.int .i64 v.kind) := cells_of HG1.out 0 _ rfl
      have k1 : w1.cell? ⟨w.heap.size, 1, none⟩ = some (.string v.text) := cells_of HG1.out 1 _ rfl
      have k2 : w1.cell? ⟨w.heap.size, 2, none⟩ = some (.slice v.la v.ll v.lc) := cells_of HG1.out 2 _ rfl
      have k3 : w1.cell? ⟨w.heap.size, 3, none⟩ = some (.slice v.ka v.kl v.kc) := cells_of HG1.out 3 _ rfl
      go_wp2_with fail
      go_at_call 66
      refine (limited_syn _ S t v _ (Nat.le_refl _) (HT.out.keep HB1.out) HS.out).mono ?_
      rw [h2]
      rintro e w2 ⟨rfl, hb⟩
      have HB2 := Lib.hid (HB1.out.trans (hb.mono HB1.out.size))
      have HG2 := Lib.hid ((hb.block w.heap.size (lt_of_heap HG1.out)).trans HG1.out)
      clear hb k0 k1 k2 k3
      go_wp2
      go_ret
      exact ⟨by rw [HR.out]; rfl, HB2.out⟩
    · cases h3 : withinT t 40
      · have HR := Lib.hid (show validT t = false from by unfold validT; rw [h1, h2, h3]; rfl)
        go_enter Tryz.func34, Tryz.ntmps34
        go_wp2_with fail
        go_at_call 65
        refine (printable_syn S t v _ (HT.out.keep HW0.out) HS.out HW.out).mono ?_
        rw [h1]
        rintro e w1 ⟨rfl, hb⟩
        have HB1 := Lib.hid (HW0.out.trans (hb.mono HW0.out.size))
        have HG1 := Lib.hid ((hb.block w.heap.size (lt_of_heap HG0.out)).trans HG0.out)
        clear hb
        have k0 : w1.cell? ⟨w.heap.size, 0, none⟩ = some (.int .i64 v.kind) := cells_of HG1.out 0 _ rfl
        have k1 : w1.cell? ⟨w.heap.size, 1, none⟩ = some (.string v.text) := cells_of HG1.out 1 _ rfl
        have k2 : w1.cell? ⟨w.heap.size, 2, none⟩ = some (.slice v.la v.ll v.lc) := cells_of HG1.out 2 _ rfl
        have k3 : w1.cell? ⟨w.heap.size, 3, none⟩ = some (.slice v.ka v.kl v.kc) := cells_of HG1.out 3 _ rfl
        go_wp2_with fail
        go_at_call 66
        refine (limited_syn _ S t v _ (Nat.le_refl _) (HT.out.keep HB1.out) HS.out).mono ?_
        rw [h2]
        rintro e w2 ⟨rfl, hb⟩
        have HB2 := Lib.hid (HB1.out.trans (hb.mono HB1.out.size))
        have HG2 := Lib.hid ((hb.block w.heap.size (lt_of_heap HG1.out)).trans HG1.out)
        clear hb k0 k1 k2 k3
        have k0 : w2.cell? ⟨w.heap.size, 0, none⟩ = some (.int .i64 v.kind) := cells_of HG2.out 0 _ rfl
        have k1 : w2.cell? ⟨w.heap.size, 1, none⟩ = some (.string v.text) := cells_of HG2.out 1 _ rfl
        have k2 : w2.cell? ⟨w.heap.size, 2, none⟩ = some (.slice v.la v.ll v.lc) := cells_of HG2.out 2 _ rfl
        have k3 : w2.cell? ⟨w.heap.size, 3, none⟩ = some (.slice v.ka v.kl v.kc) := cells_of HG2.out 3 _ rfl
        go_wp2_with fail
        go_at_call 67
        refine (within_syn 40 S t v _ (by decide) (HT.out.keep HB2.out) HS.out).mono ?_
        rw [h3]
        rintro e w3 ⟨rfl, hb⟩
        have HB3 := Lib.hid (HB2.out.trans (hb.mono HB2.out.size))
        have HG3 := Lib.hid ((hb.block w.heap.size (lt_of_heap HG2.out)).trans HG2.out)
        clear hb k0 k1 k2 k3
        go_wp2
        go_ret
        exact ⟨by rw [HR.out]; rfl, HB3.out⟩
      · have HR := Lib.hid (show validT t = decide (((textL t).length : Int) ≤ 4096) from by unfold validT; rw [h1, h2, h3]; exact decide_eq_decide.2 (by omega))
        go_enter Tryz.func34, Tryz.ntmps34
        go_wp2_with fail
        go_at_call 65
        refine (printable_syn S t v _ (HT.out.keep HW0.out) HS.out HW.out).mono ?_
        rw [h1]
        rintro e w1 ⟨rfl, hb⟩
        have HB1 := Lib.hid (HW0.out.trans (hb.mono HW0.out.size))
        have HG1 := Lib.hid ((hb.block w.heap.size (lt_of_heap HG0.out)).trans HG0.out)
        clear hb
        have k0 : w1.cell? ⟨w.heap.size, 0, none⟩ = some (.int .i64 v.kind) := cells_of HG1.out 0 _ rfl
        have k1 : w1.cell? ⟨w.heap.size, 1, none⟩ = some (.string v.text) := cells_of HG1.out 1 _ rfl
        have k2 : w1.cell? ⟨w.heap.size, 2, none⟩ = some (.slice v.la v.ll v.lc) := cells_of HG1.out 2 _ rfl
        have k3 : w1.cell? ⟨w.heap.size, 3, none⟩ = some (.slice v.ka v.kl v.kc) := cells_of HG1.out 3 _ rfl
        go_wp2_with fail
        go_at_call 66
        refine (limited_syn _ S t v _ (Nat.le_refl _) (HT.out.keep HB1.out) HS.out).mono ?_
        rw [h2]
        rintro e w2 ⟨rfl, hb⟩
        have HB2 := Lib.hid (HB1.out.trans (hb.mono HB1.out.size))
        have HG2 := Lib.hid ((hb.block w.heap.size (lt_of_heap HG1.out)).trans HG1.out)
        clear hb k0 k1 k2 k3
        have k0 : w2.cell? ⟨w.heap.size, 0, none⟩ = some (.int .i64 v.kind) := cells_of HG2.out 0 _ rfl
        have k1 : w2.cell? ⟨w.heap.size, 1, none⟩ = some (.string v.text) := cells_of HG2.out 1 _ rfl
        have k2 : w2.cell? ⟨w.heap.size, 2, none⟩ = some (.slice v.la v.ll v.lc) := cells_of HG2.out 2 _ rfl
        have k3 : w2.cell? ⟨w.heap.size, 3, none⟩ = some (.slice v.ka v.kl v.kc) := cells_of HG2.out 3 _ rfl
        go_wp2_with fail
        go_at_call 67
        refine (within_syn 40 S t v _ (by decide) (HT.out.keep HB2.out) HS.out).mono ?_
        rw [h3]
        rintro e w3 ⟨rfl, hb⟩
        have HB3 := Lib.hid (HB2.out.trans (hb.mono HB2.out.size))
        have HG3 := Lib.hid ((hb.block w.heap.size (lt_of_heap HG2.out)).trans HG2.out)
        clear hb k0 k1 k2 k3
        have k0 : w3.cell? ⟨w.heap.size, 0, none⟩ = some (.int .i64 v.kind) := cells_of HG3.out 0 _ rfl
        have k1 : w3.cell? ⟨w.heap.size, 1, none⟩ = some (.string v.text) := cells_of HG3.out 1 _ rfl
        have k2 : w3.cell? ⟨w.heap.size, 2, none⟩ = some (.slice v.la v.ll v.lc) := cells_of HG3.out 2 _ rfl
        have k3 : w3.cell? ⟨w.heap.size, 3, none⟩ = some (.slice v.ka v.kl v.kc) := cells_of HG3.out 3 _ rfl
        go_wp2_with fail
        go_at_call 68
        refine (text_syn S t v _ (HT.out.keep HB3.out) HS.out HL.out HZ.out).mono ?_
        rintro e w4 ⟨rfl, hb⟩
        have HB4 := Lib.hid (HB3.out.trans (hb.mono HB3.out.size))
        have HG4 := Lib.hid ((hb.block w.heap.size (lt_of_heap HG3.out)).trans HG3.out)
        clear hb k0 k1 k2 k3
        go_wp2
        go_ret
        exact ⟨by rw [HR.out]; rfl, HB4.out⟩
end Go.Proofs.YtpdmklbfbpdneaaGreat
