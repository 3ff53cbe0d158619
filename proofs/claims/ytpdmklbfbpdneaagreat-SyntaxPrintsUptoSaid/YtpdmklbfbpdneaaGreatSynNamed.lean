/- The contract of named. Conditions: lengths that a machine can hold. -/
import Derived.Test.YtpdmklbfbpdneaaGreatSynCounts
import Derived.Test.YtpdmklbfbpdneaaGreatSynFits
import Derived.Test.YtpdmklbfbpdneaaGreatLexClass
import Derived.Deep.RegionHeld3
namespace Go.Proofs.YtpdmklbfbpdneaaGreat
open Go.RowKit
/-- Whether a text is one of a node of these parts. -/
def namedP : List Part → ByteArray → Bool
  | [], x => is x []
  | p :: r, x => if p.nm = 0 then namedP r x else nameB p.nm (classN (bl x)) x
theorem nm_cases {n : Nat} (h : n ≤ 7) : n = 0 ∨ n = 1 ∨ n = 2 ∨ n = 3 ∨ n = 4 ∨ n = 5 ∨ n = 6 ∨ n = 7 := by omega
set_option maxRecDepth 100000 in
set_option maxHeartbeats 4000000 in
theorem named_syn {B : Nat} (A : Option Addr) (c : Nat) (l : List Part) (v : TV) (w : World) (hp : Parts B w A l) (hl : l.length ≤ 9) (hnm : ∀ x ∈ l, x.nm ≤ 7) (hs : v.text.size < maxLen) : Calls Tryz.prog 59 #[.agg #[.int .i64 v.kind, .string v.text, .slice v.la v.ll v.lc, .slice v.ka v.kl v.kc], .slice A l.length c] w fun e w' => e = .returned (.bool (namedP l v.text)) ∧ Below w.heap.size w w' := by
  have HS := Lib.hid hs
  have HNM := Lib.hid hnm
  have HW0 := Lib.hid ((Below.refl w.heap.size w).alloc (Nat.le_refl _) (.cells #[.int .i64 v.kind, .string v.text, .slice v.la v.ll v.lc, .slice v.ka v.kl v.kc] 25))
  have HG0 := Lib.hid (heap_alloc_new w (.cells #[.int .i64 v.kind, .string v.text, .slice v.la v.ll v.lc, .slice v.ka v.kl v.kc] 25))
  have HS0 := Lib.hid (show (w.alloc (.cells #[.int .i64 v.kind, .string v.text, .slice v.la v.ll v.lc, .slice v.ka v.kl v.kc] 25)).heap.size = w.heap.size + 1 from by simp)
  have hie : (v.text.toList.isEmpty) = is v.text [] := by rw [ByteArray.toList_eq]; unfold is; cases v.text.data.toList <;> rfl
  have hfc := fn_cmp
  have hfg := fn_guard
  clear hs hnm
  by_cases hne : l.length = 0
  · have HL := Lib.hid (List.eq_nil_of_length_eq_zero hne)
    go_enter Tryz.func59, Tryz.ntmps59
    go_wp2
    go_loopg [9] 0 (fun _ u9 wr => u9 = .int .i64 0 ∧ wr = w.alloc (.cells #[.int .i64 v.kind, .string v.text, .slice v.la v.ll v.lc, .slice v.ka v.kl v.kc] 25))
    case atStart => exact ⟨rfl, rfl⟩
    case round =>
      obtain ⟨rfl, rfl⟩ := hrel
      go_wp2
      go_ret
      exact ⟨by rw [HL.out]; rfl, HW0.out⟩
  · obtain ⟨pk, cs, rfl, _, hh, hc⟩ := hp.at (by omega)
    have HH := Lib.hid ((Below.heap_alloc w (.cells #[.int .i64 v.kind, .string v.text, .slice v.la v.ll v.lc, .slice v.ka v.kl v.kc] 25) pk (lt_of_heap hh)).trans hh)
    have HC := Lib.hid hc
    have HL := Lib.hid hl
    clear hp hh hc
    go_enter Tryz.func59, Tryz.ntmps59
    go_wp2
    generalize w.alloc (.cells #[.int .i64 v.kind, .string v.text, .slice v.la v.ll v.lc, .slice v.ka v.kl v.kc] 25) = W0 at HW0 HG0 HS0 HH ⊢
    go_loopg [9] l.length (fun g u9 wr => ∃ j : Nat, u9 = .int .i64 j ∧ j + g = l.length ∧ namedP l v.text = namedP (l.drop j) v.text ∧ Below W0.heap.size W0 wr)
    case atStart => exact ⟨0, rfl, by omega, rfl, Below.refl _ _⟩
    case round =>
      obtain ⟨j, rfl, hj, hm, hb⟩ := hrel
      have HJ := Lib.hid hj
      have HM := Lib.hid hm
      have HB := Lib.hid hb
      clear hj hm hb
      have HBW := Lib.hid (HW0.out.trans (HB.out.mono HW0.out.size))
      by_cases hlt : j < l.length
      · obtain ⟨x, hx⟩ : ∃ x, l[j]? = some x := ⟨_, List.getElem?_eq_getElem hlt⟩
        have hc := parts_at ((HB.out.block pk (lt_of_heap HH.out)).trans HH.out) HC.out j x hx
        obtain ⟨hjl, hje⟩ := List.getElem?_eq_some_iff.1 hx
        have hm := HM.out
        rw [List.drop_eq_getElem_cons hjl, hje, namedP] at hm
        have hn7 := HNM.out x (List.mem_of_getElem? hx)
        obtain ⟨wd, nm, kd, lst, mst, se, co⟩ := x
        have hj0 : (0 : Int) ≤ (j : Int) := by omega
        have hj1 : (j : Int) < (l.length : Int) := by omega
        have hj2 : (j : Int) + 1 ≤ 10 := by have := HL.out; omega
        have HLT := Lib.hid hlt
        have HGW := Lib.hid ((HB.out.block w.heap.size (by rw [HS0.out]; omega)).trans HG0.out)
        have tx : wr.cell? ⟨w.heap.size, 1, none⟩ = some (.string v.text) := cells_of HGW.out 1 _ rfl
        have te : w.heap.size < wr.heap.size := lt_of_heap HGW.out
        clear hx hjl hje
        rcases nm_cases hn7 with rfl | rfl | rfl | rfl | rfl | rfl | rfl | rfl
        · have HM2 := Lib.hid (show namedP l v.text = namedP (l.drop (j + 1)) v.text from hm)
          obtain ⟨p0, p1, p2, p3, p4, p5, p6⟩ := hc
          replace p1 : wr.cell? ⟨pk, j * 7 + 1, none⟩ = some .nilFunc := p1
          clear hm tx te
          have hn := fn_nil
          go_wp2
          go_roundg (gk - 1)
          case measure => have := HJ.out; have := HLT.out; omega
          case rel => exact ⟨j + 1, by go_num, by have := HJ.out; have := HLT.out; omega, HM2.out, HB.out.alloc HB.out.size _⟩
        · have HM2 := Lib.hid (show namedP l v.text = nameB 1 (classN (bl v.text)) v.text from hm)
          obtain ⟨p0, p1, p2, p3, p4, p5, p6⟩ := hc
          replace p1 : wr.cell? ⟨pk, j * 7 + 1, none⟩ = some (.func (.func 94) #[] #[]) := p1
          clear hm
          have hn := fn_ne
          have GX := heap_alloc_new wr (.cells #[.string wd, .func (.func 94) #[] #[], .int .i64 kd, .int .i64 lst, .int .i64 mst, .bool se, .bool co] 82)
          have GT := (Below.heap_alloc wr (.cells #[.string wd, .func (.func 94) #[] #[], .int .i64 kd, .int .i64 lst, .int .i64 mst, .bool se, .bool co] 82) w.heap.size te).trans HGW.out
          have HBA := Lib.hid (HBW.out.alloc HBW.out.size (.cells #[.string wd, .func (.func 94) #[] #[], .int .i64 kd, .int .i64 lst, .int .i64 mst, .bool se, .bool co] 82))
          go_wp2_with fail
          generalize wr.alloc (.cells #[.string wd, .func (.func 94) #[] #[], .int .i64 kd, .int .i64 lst, .int .i64 mst, .bool se, .bool co] 82) = WA at GX GT HBA ⊢
          generalize hxb : wr.heap.size = xb at GX ⊢
          have f1 : WA.cell? ⟨xb, 1, none⟩ = some (.func (.func 94) #[] #[]) := cells_of GX 1 _ rfl
          have f2 : WA.cell? ⟨w.heap.size, 1, none⟩ = some (.string v.text) := cells_of GT 1 _ rfl
          go_region_held3 (fun w' => w'.cell? ⟨xb, 1, none⟩ = some (.func (.func 94) #[] #[]) ∧ w'.cell? ⟨w.heap.size, 1, none⟩ = some (.string v.text)) (go_keep)
            (first | (go_at_call 100; refine (class_any v.text _ HS.out).mono ?_; rintro e w2 ⟨rfl, rfl⟩) | (go_at_call 94; refine (upper_syn ⟨classN (bl v.text), ⟨#[]⟩, v.text⟩ _).mono ?_; rintro e w3 ⟨rfl, hb3⟩; have HB3 := Lib.hid hb3; have g1 := (World.cell?_of_block (w := WA.drew) (a := ⟨xb, 1, none⟩) (hb3.block xb (lt_of_heap GX))).trans f1; have g2 := (World.cell?_of_block (w := WA.drew) (a := ⟨w.heap.size, 1, none⟩) (hb3.block w.heap.size (lt_of_heap GT))).trans f2; clear hb3 f1 f2))
          all_goals
            go_wp2
            go_ret
            exact ⟨by rw [HM2.out]; rfl, HBA.out.drew.trans (HB3.out.mono HBA.out.size)⟩
        · have HM2 := Lib.hid (show namedP l v.text = nameB 2 (classN (bl v.text)) v.text from hm)
          obtain ⟨p0, p1, p2, p3, p4, p5, p6⟩ := hc
          replace p1 : wr.cell? ⟨pk, j * 7 + 1, none⟩ = some (.func (.func 96) #[] #[]) := p1
          clear hm
          have hn := fn_ne
          have GX := heap_alloc_new wr (.cells #[.string wd, .func (.func 96) #[] #[], .int .i64 kd, .int .i64 lst, .int .i64 mst, .bool se, .bool co] 82)
          have GT := (Below.heap_alloc wr (.cells #[.string wd, .func (.func 96) #[] #[], .int .i64 kd, .int .i64 lst, .int .i64 mst, .bool se, .bool co] 82) w.heap.size te).trans HGW.out
          have HBA := Lib.hid (HBW.out.alloc HBW.out.size (.cells #[.string wd, .func (.func 96) #[] #[], .int .i64 kd, .int .i64 lst, .int .i64 mst, .bool se, .bool co] 82))
          go_wp2_with fail
          generalize wr.alloc (.cells #[.string wd, .func (.func 96) #[] #[], .int .i64 kd, .int .i64 lst, .int .i64 mst, .bool se, .bool co] 82) = WA at GX GT HBA ⊢
          generalize hxb : wr.heap.size = xb at GX ⊢
          have f1 : WA.cell? ⟨xb, 1, none⟩ = some (.func (.func 96) #[] #[]) := cells_of GX 1 _ rfl
          have f2 : WA.cell? ⟨w.heap.size, 1, none⟩ = some (.string v.text) := cells_of GT 1 _ rfl
          go_region_held3 (fun w' => w'.cell? ⟨xb, 1, none⟩ = some (.func (.func 96) #[] #[]) ∧ w'.cell? ⟨w.heap.size, 1, none⟩ = some (.string v.text)) (go_keep)
            (first | (go_at_call 100; refine (class_any v.text _ HS.out).mono ?_; rintro e w2 ⟨rfl, rfl⟩) | (go_at_call 96; refine (lower_syn ⟨classN (bl v.text), ⟨#[]⟩, v.text⟩ _).mono ?_; rintro e w3 ⟨rfl, hb3⟩; have HB3 := Lib.hid hb3; have g1 := (World.cell?_of_block (w := WA.drew) (a := ⟨xb, 1, none⟩) (hb3.block xb (lt_of_heap GX))).trans f1; have g2 := (World.cell?_of_block (w := WA.drew) (a := ⟨w.heap.size, 1, none⟩) (hb3.block w.heap.size (lt_of_heap GT))).trans f2; clear hb3 f1 f2))
          all_goals
            go_wp2
            go_ret
            exact ⟨by rw [HM2.out]; rfl, HBA.out.drew.trans (HB3.out.mono HBA.out.size)⟩
        · have HM2 := Lib.hid (show namedP l v.text = nameB 3 (classN (bl v.text)) v.text from hm)
          obtain ⟨p0, p1, p2, p3, p4, p5, p6⟩ := hc
          replace p1 : wr.cell? ⟨pk, j * 7 + 1, none⟩ = some (.func (.func 98) #[] #[]) := p1
          clear hm
          have hn := fn_ne
          have GX := heap_alloc_new wr (.cells #[.string wd, .func (.func 98) #[] #[], .int .i64 kd, .int .i64 lst, .int .i64 mst, .bool se, .bool co] 82)
          have GT := (Below.heap_alloc wr (.cells #[.string wd, .func (.func 98) #[] #[], .int .i64 kd, .int .i64 lst, .int .i64 mst, .bool se, .bool co] 82) w.heap.size te).trans HGW.out
          have HBA := Lib.hid (HBW.out.alloc HBW.out.size (.cells #[.string wd, .func (.func 98) #[] #[], .int .i64 kd, .int .i64 lst, .int .i64 mst, .bool se, .bool co] 82))
          go_wp2_with fail
          generalize wr.alloc (.cells #[.string wd, .func (.func 98) #[] #[], .int .i64 kd, .int .i64 lst, .int .i64 mst, .bool se, .bool co] 82) = WA at GX GT HBA ⊢
          generalize hxb : wr.heap.size = xb at GX ⊢
          have f1 : WA.cell? ⟨xb, 1, none⟩ = some (.func (.func 98) #[] #[]) := cells_of GX 1 _ rfl
          have f2 : WA.cell? ⟨w.heap.size, 1, none⟩ = some (.string v.text) := cells_of GT 1 _ rfl
          go_region_held3 (fun w' => w'.cell? ⟨xb, 1, none⟩ = some (.func (.func 98) #[] #[]) ∧ w'.cell? ⟨w.heap.size, 1, none⟩ = some (.string v.text)) (go_keep)
            (first | (go_at_call 100; refine (class_any v.text _ HS.out).mono ?_; rintro e w2 ⟨rfl, rfl⟩) | (go_at_call 98; refine (reference_syn ⟨classN (bl v.text), ⟨#[]⟩, v.text⟩ _).mono ?_; rintro e w3 ⟨rfl, hb3⟩; have HB3 := Lib.hid hb3; have g1 := (World.cell?_of_block (w := WA.drew) (a := ⟨xb, 1, none⟩) (hb3.block xb (lt_of_heap GX))).trans f1; have g2 := (World.cell?_of_block (w := WA.drew) (a := ⟨w.heap.size, 1, none⟩) (hb3.block w.heap.size (lt_of_heap GT))).trans f2; clear hb3 f1 f2))
          all_goals
            go_wp2
            go_ret
            exact ⟨by rw [HM2.out]; rfl, HBA.out.drew.trans (HB3.out.mono HBA.out.size)⟩
        · have HM2 := Lib.hid (show namedP l v.text = nameB 4 (classN (bl v.text)) v.text from hm)
          obtain ⟨p0, p1, p2, p3, p4, p5, p6⟩ := hc
          replace p1 : wr.cell? ⟨pk, j * 7 + 1, none⟩ = some (.func (.func 136) #[] #[]) := p1
          clear hm
          have hn := fn_ne
          have GX := heap_alloc_new wr (.cells #[.string wd, .func (.func 136) #[] #[], .int .i64 kd, .int .i64 lst, .int .i64 mst, .bool se, .bool co] 82)
          have GT := (Below.heap_alloc wr (.cells #[.string wd, .func (.func 136) #[] #[], .int .i64 kd, .int .i64 lst, .int .i64 mst, .bool se, .bool co] 82) w.heap.size te).trans HGW.out
          have HBA := Lib.hid (HBW.out.alloc HBW.out.size (.cells #[.string wd, .func (.func 136) #[] #[], .int .i64 kd, .int .i64 lst, .int .i64 mst, .bool se, .bool co] 82))
          go_wp2_with fail
          generalize wr.alloc (.cells #[.string wd, .func (.func 136) #[] #[], .int .i64 kd, .int .i64 lst, .int .i64 mst, .bool se, .bool co] 82) = WA at GX GT HBA ⊢
          generalize hxb : wr.heap.size = xb at GX ⊢
          have f1 : WA.cell? ⟨xb, 1, none⟩ = some (.func (.func 136) #[] #[]) := cells_of GX 1 _ rfl
          have f2 : WA.cell? ⟨w.heap.size, 1, none⟩ = some (.string v.text) := cells_of GT 1 _ rfl
          go_region_held3 (fun w' => w'.cell? ⟨xb, 1, none⟩ = some (.func (.func 136) #[] #[]) ∧ w'.cell? ⟨w.heap.size, 1, none⟩ = some (.string v.text)) (go_keep)
            (first | (go_at_call 100; refine (class_any v.text _ HS.out).mono ?_; rintro e w2 ⟨rfl, rfl⟩) | (go_at_call 136; refine (callee_syn ⟨classN (bl v.text), ⟨#[]⟩, v.text⟩ _).mono ?_; rintro e w3 ⟨rfl, hb3⟩; have HB3 := Lib.hid hb3; have g1 := (World.cell?_of_block (w := WA.drew) (a := ⟨xb, 1, none⟩) (hb3.block xb (lt_of_heap GX))).trans f1; have g2 := (World.cell?_of_block (w := WA.drew) (a := ⟨w.heap.size, 1, none⟩) (hb3.block w.heap.size (lt_of_heap GT))).trans f2; clear hb3 f1 f2))
          all_goals
            go_wp2
            go_ret
            exact ⟨by rw [HM2.out]; rfl, HBA.out.drew.trans (HB3.out.mono HBA.out.size)⟩
        · have HM2 := Lib.hid (show namedP l v.text = nameB 5 (classN (bl v.text)) v.text from hm)
          obtain ⟨p0, p1, p2, p3, p4, p5, p6⟩ := hc
          replace p1 : wr.cell? ⟨pk, j * 7 + 1, none⟩ = some (.func (.func 134) #[] #[]) := p1
          clear hm
          have hn := fn_ne
          have GX := heap_alloc_new wr (.cells #[.string wd, .func (.func 134) #[] #[], .int .i64 kd, .int .i64 lst, .int .i64 mst, .bool se, .bool co] 82)
          have GT := (Below.heap_alloc wr (.cells #[.string wd, .func (.func 134) #[] #[], .int .i64 kd, .int .i64 lst, .int .i64 mst, .bool se, .bool co] 82) w.heap.size te).trans HGW.out
          have HBA := Lib.hid (HBW.out.alloc HBW.out.size (.cells #[.string wd, .func (.func 134) #[] #[], .int .i64 kd, .int .i64 lst, .int .i64 mst, .bool se, .bool co] 82))
          go_wp2_with fail
          generalize wr.alloc (.cells #[.string wd, .func (.func 134) #[] #[], .int .i64 kd, .int .i64 lst, .int .i64 mst, .bool se, .bool co] 82) = WA at GX GT HBA ⊢
          generalize hxb : wr.heap.size = xb at GX ⊢
          have f1 : WA.cell? ⟨xb, 1, none⟩ = some (.func (.func 134) #[] #[]) := cells_of GX 1 _ rfl
          have f2 : WA.cell? ⟨w.heap.size, 1, none⟩ = some (.string v.text) := cells_of GT 1 _ rfl
          go_region_held3 (fun w' => w'.cell? ⟨xb, 1, none⟩ = some (.func (.func 134) #[] #[]) ∧ w'.cell? ⟨w.heap.size, 1, none⟩ = some (.string v.text)) (go_keep)
            (first | (go_at_call 100; refine (class_any v.text _ HS.out).mono ?_; rintro e w2 ⟨rfl, rfl⟩) | (go_at_call 134; refine (number_syn ⟨classN (bl v.text), ⟨#[]⟩, v.text⟩ _).mono ?_; rintro e w3 ⟨rfl, hb3⟩; have HB3 := Lib.hid hb3; have g1 := (World.cell?_of_block (w := WA.drew) (a := ⟨xb, 1, none⟩) (hb3.block xb (lt_of_heap GX))).trans f1; have g2 := (World.cell?_of_block (w := WA.drew) (a := ⟨w.heap.size, 1, none⟩) (hb3.block w.heap.size (lt_of_heap GT))).trans f2; clear hb3 f1 f2))
          all_goals
            go_wp2
            go_ret
            exact ⟨by rw [HM2.out]; rfl, HBA.out.drew.trans (HB3.out.mono HBA.out.size)⟩
        · have HM2 := Lib.hid (show namedP l v.text = nameB 6 (classN (bl v.text)) v.text from hm)
          obtain ⟨p0, p1, p2, p3, p4, p5, p6⟩ := hc
          replace p1 : wr.cell? ⟨pk, j * 7 + 1, none⟩ = some (.func (.func 135) #[] #[]) := p1
          clear hm
          have hn := fn_ne
          have GX := heap_alloc_new wr (.cells #[.string wd, .func (.func 135) #[] #[], .int .i64 kd, .int .i64 lst, .int .i64 mst, .bool se, .bool co] 82)
          have GT := (Below.heap_alloc wr (.cells #[.string wd, .func (.func 135) #[] #[], .int .i64 kd, .int .i64 lst, .int .i64 mst, .bool se, .bool co] 82) w.heap.size te).trans HGW.out
          have HBA := Lib.hid (HBW.out.alloc HBW.out.size (.cells #[.string wd, .func (.func 135) #[] #[], .int .i64 kd, .int .i64 lst, .int .i64 mst, .bool se, .bool co] 82))
          go_wp2_with fail
          generalize wr.alloc (.cells #[.string wd, .func (.func 135) #[] #[], .int .i64 kd, .int .i64 lst, .int .i64 mst, .bool se, .bool co] 82) = WA at GX GT HBA ⊢
          generalize hxb : wr.heap.size = xb at GX ⊢
          have f1 : WA.cell? ⟨xb, 1, none⟩ = some (.func (.func 135) #[] #[]) := cells_of GX 1 _ rfl
          have f2 : WA.cell? ⟨w.heap.size, 1, none⟩ = some (.string v.text) := cells_of GT 1 _ rfl
          go_region_held3 (fun w' => w'.cell? ⟨xb, 1, none⟩ = some (.func (.func 135) #[] #[]) ∧ w'.cell? ⟨w.heap.size, 1, none⟩ = some (.string v.text)) (go_keep)
            (first | (go_at_call 100; refine (class_any v.text _ HS.out).mono ?_; rintro e w2 ⟨rfl, rfl⟩) | (go_at_call 135; refine (quoted_syn ⟨classN (bl v.text), ⟨#[]⟩, v.text⟩ _).mono ?_; rintro e w3 ⟨rfl, hb3⟩; have HB3 := Lib.hid hb3; have g1 := (World.cell?_of_block (w := WA.drew) (a := ⟨xb, 1, none⟩) (hb3.block xb (lt_of_heap GX))).trans f1; have g2 := (World.cell?_of_block (w := WA.drew) (a := ⟨w.heap.size, 1, none⟩) (hb3.block w.heap.size (lt_of_heap GT))).trans f2; clear hb3 f1 f2))
          all_goals
            go_wp2
            go_ret
            exact ⟨by rw [HM2.out]; rfl, HBA.out.drew.trans (HB3.out.mono HBA.out.size)⟩
        · have HM2 := Lib.hid (show namedP l v.text = nameB 7 (classN (bl v.text)) v.text from hm)
          obtain ⟨p0, p1, p2, p3, p4, p5, p6⟩ := hc
          replace p1 : wr.cell? ⟨pk, j * 7 + 1, none⟩ = some (.func (.func 137) #[] #[]) := p1
          clear hm
          have hn := fn_ne
          have GX := heap_alloc_new wr (.cells #[.string wd, .func (.func 137) #[] #[], .int .i64 kd, .int .i64 lst, .int .i64 mst, .bool se, .bool co] 82)
          have GT := (Below.heap_alloc wr (.cells #[.string wd, .func (.func 137) #[] #[], .int .i64 kd, .int .i64 lst, .int .i64 mst, .bool se, .bool co] 82) w.heap.size te).trans HGW.out
          have HBA := Lib.hid (HBW.out.alloc HBW.out.size (.cells #[.string wd, .func (.func 137) #[] #[], .int .i64 kd, .int .i64 lst, .int .i64 mst, .bool se, .bool co] 82))
          go_wp2_with fail
          generalize wr.alloc (.cells #[.string wd, .func (.func 137) #[] #[], .int .i64 kd, .int .i64 lst, .int .i64 mst, .bool se, .bool co] 82) = WA at GX GT HBA ⊢
          generalize hxb : wr.heap.size = xb at GX ⊢
          have f1 : WA.cell? ⟨xb, 1, none⟩ = some (.func (.func 137) #[] #[]) := cells_of GX 1 _ rfl
          have f2 : WA.cell? ⟨w.heap.size, 1, none⟩ = some (.string v.text) := cells_of GT 1 _ rfl
          go_region_held3 (fun w' => w'.cell? ⟨xb, 1, none⟩ = some (.func (.func 137) #[] #[]) ∧ w'.cell? ⟨w.heap.size, 1, none⟩ = some (.string v.text)) (go_keep)
            (first | (go_at_call 100; refine (class_any v.text _ HS.out).mono ?_; rintro e w2 ⟨rfl, rfl⟩) | (go_at_call 137; refine (operator_syn ⟨classN (bl v.text), ⟨#[]⟩, v.text⟩ _).mono ?_; rintro e w3 ⟨rfl, hb3⟩; have HB3 := Lib.hid hb3; have g1 := (World.cell?_of_block (w := WA.drew) (a := ⟨xb, 1, none⟩) (hb3.block xb (lt_of_heap GX))).trans f1; have g2 := (World.cell?_of_block (w := WA.drew) (a := ⟨w.heap.size, 1, none⟩) (hb3.block w.heap.size (lt_of_heap GT))).trans f2; clear hb3 f1 f2))
          all_goals
            go_wp2
            go_ret
            exact ⟨by rw [HM2.out]; rfl, HBA.out.drew.trans (HB3.out.mono HBA.out.size)⟩
      · have HR := Lib.hid (show namedP l v.text = is v.text [] from by rw [HM.out, List.drop_eq_nil_of_le (by omega), namedP])
        have HGW := Lib.hid ((HB.out.block w.heap.size (by rw [HS0.out]; omega)).trans HG0.out)
        have tx : wr.cell? ⟨w.heap.size, 1, none⟩ = some (.string v.text) := cells_of HGW.out 1 _ rfl
        go_wp2
        go_ret
        exact ⟨by rw [HR.out]; rfl, HBW.out⟩
end Go.Proofs.YtpdmklbfbpdneaaGreat
