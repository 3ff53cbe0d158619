/- The contract of (*parser).series. Conditions: the contract of tree, the parser's state has an end, nothing in it is too long, at most 65536 rounds. -/
import Derived.Test.YtipkmffhebachaaSynRows
import Derived.Test.YtipkmffhebachaaSynExpr
import Derived.Deep.LoopGhost
namespace Go.Proofs.Ytipkmffhebachaa
open Go.RowKit
theorem tree_info : (Try.prog.info? 26).map (fun i => (i.zero, i.size, i.bytes)) = some (some (.agg #[.int .i64 0, .string ByteArray.empty, .slice none 0 0, .slice none 0 0]), 4, 72) := by kernel_rfl
/-- What series leaves. -/
def SeriesPost (b : Nat) (r : List Tr × List ByteArray × PS) (w : World) (e : Ending) (w' : World) : Prop :=
  ∃ ka kc ca cc, e = .returned (.tuple #[.slice ka r.1.length kc, .slice ca r.2.1.length cc]) ∧ KidsAt (w.heap.size + 1) (fun k => blk ca = some k) w' ka kc r.1 ∧ LeadsAt (w.heap.size + 1) w' ca cc r.2.1 ∧ PIn w' b r.2.2 ∧ Off b w w' ∧ (r.1 = [] → ka = none ∧ kc = 0) ∧ (r.2.1 = [] → ca = none ∧ cc = 0)
/-- The state of the parser behind the test of the limit. -/
def limP (x : Part) (ks : List Tr) (p : PS) : PS := if (ks.length : Int) = x.most ∧ beginsP x.kids p ≠ 0 then failP p 3 else p
theorem series_step {T : Int → PS → Option (Tr × PS)} {x : Part} {n : Nat} {ks : List Tr} {cs : List ByteArray} {p : PS} {r : List Tr × List ByteArray × PS} (h : seriesG T x (n + 1) true ks cs p = some r) :
    ∃ t q, T x.kids (limP x ks p) = some (t, q) ∧ ((x.commas = true ∧ is (nextP q).text [44] = true ∧ seriesG T x n true (ks ++ [t]) (cs ++ [(nextP q).lead]) (takeP q) = some r) ∨ (x.commas = true ∧ is (nextP q).text [44] = false ∧ seriesG T x n false (ks ++ [t]) cs q = some r) ∨ (x.commas = false ∧ seriesG T x n (beginsP x.kids q != 0) (ks ++ [t]) cs q = some r)) := by
  unfold seriesG at h
  change (match T x.kids (limP x ks p) with | none => none | some (t, q) => _) = some r at h
  cases hT : T x.kids (limP x ks p) with
  | none => rw [hT] at h; cases h
  | some tq =>
    obtain ⟨t, q⟩ := tq
    rw [hT] at h
    simp only [] at h
    refine ⟨t, q, rfl, ?_⟩
    cases hc : x.commas
    · rw [hc] at h
      simp only [Bool.false_eq_true, if_false] at h
      exact .inr (.inr ⟨rfl, h⟩)
    · rw [hc] at h
      simp only [if_true] at h
      cases hk : is (nextP q).text [44]
      · rw [hk] at h
        simp only [Bool.false_eq_true, if_false] at h
        exact .inr (.inl ⟨rfl, rfl, h⟩)
      · rw [hk] at h
        simp only [if_true] at h
        exact .inl ⟨rfl, rfl, h⟩
theorem series_done {T : Int → PS → Option (Tr × PS)} {x : Part} {n : Nat} {ks : List Tr} {cs : List ByteArray} {p : PS} {r : List Tr × List ByteArray × PS} (h : seriesG T x n false ks cs p = some r) : (ks, cs, p) = r := by
  unfold seriesG at h
  simpa using h
def partO (x : Part) : Obj := .cells #[.string x.word, fnV x.nm, .int .i64 x.kids, .int .i64 x.least, .int .i64 x.most, .bool x.series, .bool x.commas] 63
/-- The state of the loop of series. -/
def SeriesRel (T : Int → PS → Option (Tr × PS)) (x : Part) (b N : Nat) (r : List Tr × List ByteArray × PS) (w : World) (n : Nat) (u4 u5 u6 : Value) (wr : World) : Prop :=
  ∃ (more : Bool) (ks : List Tr) (cs : List ByteArray) (p : PS) (ka : Option Addr) (kc : Nat) (ca : Option Addr) (cc : Nat), u4 = .slice ka ks.length kc ∧ u5 = .slice ca cs.length cc ∧ u6 = .bool more ∧ seriesG T x n more ks cs p = some r ∧ ks.length + n ≤ N ∧ cs.length + n ≤ N ∧
    KidsAt (w.heap.size + 1) (fun k => blk ca = some k) wr ka kc ks ∧ LeadsAt (w.heap.size + 1) wr ca cc cs ∧ PIn wr b p ∧ Off b w wr ∧ wr.heap[w.heap.size]? = some (partO x) ∧ (ks = [] → ka = none ∧ kc = 0) ∧ (cs = [] → ca = none ∧ cc = 0)
/-- The world of a round keeps what the relation says, when only the parser's block and new ones are written. -/
theorem keepK {B b : Nat} {X : Nat → Prop} {w w' : World} {ka : Option Addr} {kc : Nat} {ks : List Tr} (h : KidsAt B X w ka kc ks) (hw : Off b w w') (hb : b < B) : KidsAt B X w' ka kc ks :=
  h.rest (Rest.off hw) (fun k _ e => .inl (by have : k = b := e; omega)) (fun _ _ h => h) (fun k hk e => by have := (h.blk hk).1; have : k = b := e; omega)
theorem keepL {B b : Nat} {w w' : World} {la : Option Addr} {lc : Nat} {ls : List ByteArray} (h : LeadsAt B w la lc ls) (hw : Off b w w') (hb : b < B) : LeadsAt B w' la lc ls :=
  h.rest (Rest.off hw) (fun k hk e => by have := (row_blk h hk).1; have : k = b := e; omega)
theorem limP_no {x : Part} {ks : List Tr} {p : PS} (h : ((ks.length : Int) == x.most) = false) : limP x ks p = p := by
  unfold limP
  rw [if_neg]
  intro e
  rw [e.1] at h
  simp at h
theorem limP_none {x : Part} {ks : List Tr} {p : PS} (h : (beginsP x.kids p != 0) = false) : limP x ks p = p := by
  unfold limP
  rw [if_neg]
  intro e
  simp only [bne_eq_false_iff_eq] at h
  exact e.2 h
theorem limP_yes {x : Part} {ks : List Tr} {p : PS} (h : ((ks.length : Int) == x.most) = true) (h' : (beginsP x.kids p != 0) = true) : limP x ks p = failP p 3 := by
  unfold limP
  rw [if_pos]
  exact ⟨by simpa using h, by simpa using h'⟩
theorem tv_news (v : TV) : ∀ u ∈ v.cells, u.oneCell' = true := by
  intro u hu
  simp [TV.cells] at hu
  rcases hu with rfl | rfl | rfl | rfl <;> rfl
/-- What a round of series holds behind its append. -/
structure Grown (b B xb : Nat) (x : Part) (w0 w : World) (ka : Option Addr) (kc : Nat) (ks : List Tr) (ca : Option Addr) (cc : Nat) (cs : List ByteArray) (p : PS) : Prop where
  kids : KidsAt B (fun k => blk ca = some k) w ka kc ks
  leads : LeadsAt B w ca cc cs
  state : PIn w b p
  off : Off b w0 w
  part : w.heap[xb]? = some (partO x)
theorem Grown.keep {b B xb : Nat} {x : Part} {w0 w w' : World} {ka : Option Addr} {kc : Nat} {ks : List Tr} {ca : Option Addr} {cc : Nat} {cs : List ByteArray} {p q : PS} (h : Grown b B xb x w0 w ka kc ks ca cc cs p) (ho : Off b w w') (hp : PIn w' b q) (hb : b < xb) (hx : xb < B) : Grown b B xb x w0 w' ka kc ks ca cc cs q :=
  ⟨keepK h.kids ho (by omega), keepL h.leads ho (by omega), hp, h.off.trans ho, (ho.block xb (lt_of_heap h.part) (by omega)).trans h.part⟩
theorem Grown.below {b B xb : Nat} {x : Part} {w0 w w' : World} {ka : Option Addr} {kc : Nat} {ks : List Tr} {ca : Option Addr} {cc : Nat} {cs : List ByteArray} {p : PS} (h : Grown b B xb x w0 w ka kc ks ca cc cs p) (ho : Below w.heap.size w w') (hb : b < xb) (hx : xb < B) : Grown b B xb x w0 w' ka kc ks ca cc cs p :=
  h.keep (Off.of ho) (h.state.keep ho) hb hx
/-- A kid is appended. -/
theorem Grown.kid {b B xb g cap : Nat} {x : Part} {w0 wc w w' : World} {ka : Option Addr} {kc : Nat} {ks : List Tr} {ca : Option Addr} {cc : Nat} {cs : List ByteArray} {p : PS} {t : Tr} {v : TV} {vs : List TV} {o : Obj} (h : Grown b B xb x w0 w ka kc ks ca cc cs p) (hb : b < xb) (hx : xb < B) (hx0 : w0.heap.size ≤ xb)
    (hin : TrsIn (KidS B (fun k => blk ca = some k) w ka) w ks vs) (hc : B ≤ wc.heap.size) (hkc : ∀ k, blk ka = some k → k < wc.heap.size) (hlc : ∀ k, blk ca = some k → k < wc.heap.size) (ht : TrAt (fun k => wc.heap.size ≤ k ∧ k < w.heap.size) w t v)
    (hown : w'.ownsRow B 26 4 (.slice (some ⟨g, 0, none⟩) (ks.length + 1) cap) (ks.length + 1) (tvCells vs ++ v.cells)) (hg : (w.alloc o).grownBy w' (Value.slice ka ks.length kc).ownBlock) (hat : (Value.slice ka ks.length kc).ownBlock = some g ∨ g = w.heap.size + 1) :
    Grown b B xb x w0 w' (some ⟨g, 0, none⟩) cap (ks ++ [t]) ca cc cs p := by
  have hmv : ∀ k, KidS B (fun k => blk ca = some k) w ka k → KidS B (fun k => blk ca = some k) (w.alloc o) ka k := fun k hk => ⟨hk.1, by rw [World.size_alloc]; have := hk.2.1; omega, hk.2.2.1, hk.2.2.2⟩
  have hsame : ∀ k, k < w.heap.size → (w.alloc o).heap[k]? = w.heap[k]? := fun k hk => Below.heap_alloc w o k hk
  have hka : ∀ k, blk ka = some k → B ≤ k := fun k hk => (h.kids.blk hk).1
  have hR : Rest (fun k => blk ka = some k) w w' := (Rest.alloc o).trans (Rest.grown hg (fun k hk => by rwa [ownB] at hk))
  refine ⟨?_, h.leads.rest hR (fun k hk e => rows_ne h.kids h.leads e hk), h.state.upto (fun k hk => hR.block k (by have := h.state.lt; omega) (fun e => by have := hka k e; omega)), ⟨hR.os.trans h.off.os, hR.tape.trans h.off.tape, hR.output.trans h.off.output, Nat.le_trans h.off.size hR.size, fun k hk hkb => (hR.block k (Nat.lt_of_lt_of_le hk h.off.size) (fun e => by have := hka k e; omega)).trans (h.off.block k hk hkb)⟩, (hR.block xb (lt_of_heap h.part) (fun e => by have := hka xb e; omega)).trans h.part⟩
  refine KidsAt.grow (us := [t]) (xs := [v]) (hin.move hmv (fun k _ hlt => hsame k hlt)) (TrsIn.one (TrAt.move (fun k hk => ⟨by omega, by rw [World.size_alloc]; omega, fun e => by have := hkc k e; omega, fun e => by have := hlc k e; omega⟩) (fun k _ hlt => hsame k hlt) t v ht)) ?_ hg (hat.elim .inl (fun e => .inr (by rw [World.size_alloc]; omega)))
  have e1 : tvCells [v] = v.cells := by unfold tvCells; simp
  rw [e1]
  exact hown
/-- A lead is appended. -/
theorem Grown.lead {b B xb g cap : Nat} {x : Part} {w0 w w' : World} {ka : Option Addr} {kc : Nat} {ks : List Tr} {ca : Option Addr} {cc : Nat} {cs : List ByteArray} {p : PS} {y : ByteArray} {o : Obj} (h : Grown b B xb x w0 w ka kc ks ca cc cs p) (hb : b < xb) (hx : xb < B) (hx0 : w0.heap.size ≤ xb) (hB : B ≤ w.heap.size)
    (hown : w'.ownsRow B 9 1 (.slice (some ⟨g, 0, none⟩) (cs.length + 1) cap) (cs.length + 1) (cs.map Value.string ++ [.string y])) (hg : (w.alloc o).grownBy w' (Value.slice ca cs.length cc).ownBlock) (hat : (Value.slice ca cs.length cc).ownBlock = some g ∨ g = w.heap.size + 1) :
    Grown b B xb x w0 w' ka kc ks (some ⟨g, 0, none⟩) cap (cs ++ [y]) p := by
  have hca : ∀ k, blk ca = some k → B ≤ k := fun k hk => (row_blk h.leads hk).1
  have hR : Rest (fun k => blk ca = some k) w w' := (Rest.alloc o).trans (Rest.grown hg (fun k hk => by rwa [ownB] at hk))
  refine ⟨h.kids.rest hR (fun k _ e => .inr e) (fun k hk e => ?_) (fun k hk e => rows_ne h.kids h.leads hk e), ?_, h.state.upto (fun k hk => hR.block k (by have := h.state.lt; omega) (fun e => by have := hca k e; omega)), ⟨hR.os.trans h.off.os, hR.tape.trans h.off.tape, hR.output.trans h.off.output, Nat.le_trans h.off.size hR.size, fun k hk hkb => (hR.block k (Nat.lt_of_lt_of_le hk h.off.size) (fun e => by have := hca k e; omega)).trans (h.off.block k hk hkb)⟩, (hR.block xb (lt_of_heap h.part) (fun e => by have := hca xb e; omega)).trans h.part⟩
  · have : g = k := by simpa [blk] using e
    subst this
    rcases hat with h' | h'
    · rwa [ownB] at h'
    · omega
  · unfold LeadsAt
    rw [List.length_append, List.map_append]
    exact hown
set_option maxRecDepth 100000 in
set_option maxHeartbeats 2000000 in
theorem series_syn {T : Int → PS → Option (Tr × PS)} (hT : TreeC T) {b N : Nat} {p : PS} (x : Part) (r : List Tr × List ByteArray × PS) (w : World) (h : PIn w b p) (hr : seriesG T x N (decide (0 < x.least) || beginsP x.kids p != 0) [] [] p = some r) (hN : N ≤ 65536) :
    Calls Try.prog 38 #[.pointer (some ⟨b, 0, none⟩), .agg #[.string x.word, fnV x.nm, .int .i64 x.kids, .int .i64 x.least, .int .i64 x.most, .bool x.series, .bool x.commas]] w (SeriesPost b r w) := by
  have HI := Lib.hid h
  have HR := Lib.hid hr
  have HN := Lib.hid hN
  have HTC := Lib.hid hT
  clear h hr hN hT
  have HW0 := Lib.hid ((Below.refl w.heap.size w).alloc (Nat.le_refl _) (partO x))
  have HG0 := Lib.hid (heap_alloc_new w (.cells #[.string x.word, fnV x.nm, .int .i64 x.kids, .int .i64 x.least, .int .i64 x.most, .bool x.series, .bool x.commas] 63))
  cases hl : decide (0 < x.least)
  · go_enter Try.func38, Try.ntmps38
    go_wp2_with (go_at_call 67; refine (begins_syn x.kids _ (HI.out.keep HW0.out)).mono ?_; rintro e w1 ⟨rfl, hb⟩; have HB := Lib.hid hb; clear hb)
    have HB1 := Lib.hid (HW0.out.trans (HB.out.mono HW0.out.size))
    have HB0 := Lib.hid ((HB.out.block w.heap.size (by simp)).trans HG0.out)
    go_loopg [4, 5, 6] N (fun g u4 u5 u6 wr => SeriesRel T x b N r w g u4 u5 u6 wr)
    case atStart => exact ⟨beginsP x.kids p != 0, [], [], p, none, 0, none, 0, rfl, rfl, rfl, by have := HR.out; rw [hl] at this; exact this, by simp, by simp, KidsAt.nil _ _ _, LeadsAt.nil _ _, HI.out.keep HB1.out, Off.of HB1.out, HB0.out, fun _ => ⟨rfl, rfl⟩, fun _ => ⟨rfl, rfl⟩⟩
    case round =>
      obtain ⟨more, ks, cs, p', ka, kc, ca, cc, rfl, rfl, rfl, hs, hkn, hcn, hkid, hlead, hp, ho, hx, hk0, hc0⟩ := hrel
      have HK := Lib.hid hkid
      have HLd := Lib.hid hlead
      have HP := Lib.hid hp
      have HO := Lib.hid ho
      have HX := Lib.hid hx
      have HKN := Lib.hid hkn
      have HCN := Lib.hid hcn
      have HK0 := Lib.hid hk0
      have HC0 := Lib.hid hc0
      clear hkid hlead hp ho hkn hcn hk0 hc0 HB0 HB1
      cases more
      · have HE := Lib.hid (series_done hs)
        clear hs hx
        go_wp2
        refine bodyPost_ret (v := .tuple #[.slice ka ks.length kc, .slice ca cs.length cc]) (by simp [results, Try.results38, go_sem]) rfl ?_
        rw [← HE.out]
        exact ⟨ka, kc, ca, cc, rfl, HK.out, HLd.out, HP.out, HO.out, HK0.out, HC0.out⟩
      · obtain ⟨n, hn⟩ : ∃ n, gk = n + 1 := by
          cases gk with
          | zero => unfold seriesG at hs; cases hs
          | succ n => exact ⟨n, rfl⟩
        rw [hn] at hs
        obtain ⟨t, q, ht, hw⟩ := series_step hs
        have HTE := Lib.hid ht
        have HWY := Lib.hid hw
        have HNG := Lib.hid hn
        clear hs ht hw hn
        obtain ⟨x0, x1, x2, x3, x4, x5, x6⟩ := part_cells hx
        clear hx
        have GR := Lib.hid (show Grown b (w.heap.size + 1) w.heap.size x w wr ka kc ks ca cc cs p' from ⟨HK.out, HLd.out, HP.out, HO.out, HX.out⟩)
        have HBX := Lib.hid HI.out.lt
        clear HK HLd HP HO HX
        cases hlm : ((ks.length : Int) == x.most)
        · have HLM := Lib.hid (limP_no (p := p') hlm)
          rw [HLM.out] at HTE
          have GC := GR
          clear GR HLM
          go_wp2_with fail
          go_at_call 39
          refine (HTC.out b x.kids _ t q _ HTE.out GC.out.state).mono ?_
          rintro e w4 ⟨v, rfl, htr, hp4, ho4⟩
          have HTR := Lib.hid htr
          have HSZ := Lib.hid GC.out.off.size
          have HKC := Lib.hid (show ∀ k, blk ka = some k → k < wr.heap.size from fun k hk => (GC.out.kids.blk hk).2.1)
          have HLC := Lib.hid (show ∀ k, blk ca = some k → k < wr.heap.size from fun k hk => (row_blk GC.out.leads hk).2.1)
          have HPC := Lib.hid (lt_of_heap GC.out.part)
          have G4 := Lib.hid (GC.out.keep ho4 hp4 HBX.out (Nat.lt_succ_self _))
          clear htr hp4 ho4 GC
          obtain ⟨vs, hown, hin⟩ := G4.out.kids
          have HIN := Lib.hid hin
          have HOW := Lib.hid hown
          clear hin hown
          obtain ⟨i0, hi, hz0, hz1, hz2⟩ := info_parts tree_info
          have h4s := Lib.hid G4.out.off.size
          go_wp2_with (at_builtin; refine wpList_append_lies _ (by rfl) _ _ _ (by rfl) (w.heap.size + 1) 26 i0 _ 4 72 Try.underlying24 hi hz0 hz1 hz2 rfl (by decide) (.slice ka ks.length kc) ks.length (tvCells vs) (by rfl) (HOW.out.alloc _) ⟨w4.heap.size, 0, none⟩ 1 1 v.cells (by rfl) (by rfl) (World.news_of_block (cs := v.cells.toArray) (t := 26) (fr := (0, 0)) (heap_alloc_new w4 _)) (tv_news v) (by decide) ?b1 ?b2 ?b3 (w4.heap.size + 1) (by simp) ?_)
          case b1 => unfold maxLen; have := HKN.out; have := HN.out; omega
          case b2 => have := HKN.out; have := HN.out; omega
          case b3 => rw [World.size_alloc]; have := lt_of_heap G4.out.part; omega
          intro g cap w5 hown5 hgrow hat5 hlt5
          have G5 := Lib.hid (G4.out.kid HBX.out (Nat.lt_succ_self _) (Nat.le_refl _) HIN.out HPC.out HKC.out HLC.out HTR.out hown5 hgrow hat5)
          clear hown5 hgrow hat5 hlt5 hi hz0 hz1 hz2 x0 x1 x2 x3 x4 x5 x6
          obtain ⟨x0, x1, x2, x3, x4, x5, x6⟩ := part_cells G5.out.part
          rcases HWY.out with ⟨hc, hk, hs⟩ | ⟨hc, hk, hs⟩ | ⟨hc, hs⟩
          · have hk' : ((nextP q).text.toList == [44]) = true := by rw [is_list]; exact hk
            have HS := Lib.hid hs
            clear hs hk
            rw [hc] at x6
            clear hc
            have hft := fun (w : World) => tok_text (nextP q).kind (nextP q).lead (nextP q).text w
            have hfl := fun (w : World) => tok_lead (nextP q).kind (nextP q).lead (nextP q).text w
            go_wp2_with fail
            go_at_call 69
            refine (next_syn _ G5.out.state).mono ?_
            rintro e w6 ⟨rfl, hb6⟩
            have G6 := Lib.hid (G5.out.below hb6 HBX.out (Nat.lt_succ_self _))
            clear hb6 G5
            go_wp2_with fail
            go_at_call 70
            refine (take_syn _ G6.out.state).mono ?_
            rintro e w7 ⟨rfl, hp7, ho7⟩
            have G7 := Lib.hid (G6.out.keep ho7 hp7 HBX.out (Nat.lt_succ_self _))
            clear hp7 ho7 G6
            obtain ⟨j0, hi, hz0, hz1, hz2⟩ := info_parts string_info
            go_wp2_with (at_builtin; refine wpList_append_lies _ (by rfl) _ _ _ (by rfl) (w.heap.size + 1) 9 j0 _ 1 16 Try.underlying23 hi hz0 hz1 hz2 rfl (by decide) (.slice ca cs.length cc) cs.length (cs.map Value.string) (by rfl) (G7.out.leads.alloc _) ⟨w7.heap.size, 0, none⟩ 1 1 [.string (nextP q).lead] (by rfl) (by rfl) (World.news_of_block (cs := #[.string (nextP q).lead]) (t := 9) (fr := (0, 0)) (heap_alloc_new w7 _)) (fun u hu => by simp at hu; subst hu; rfl) (by decide) ?d1 ?d2 ?d3 (w7.heap.size + 1) (by simp) ?_)
            case d1 => unfold maxLen; have := HCN.out; have := HN.out; omega
            case d2 => have := HCN.out; have := HN.out; omega
            case d3 => rw [World.size_alloc]; have := lt_of_heap G7.out.part; omega
            intro g' cap' w8 hown8 hgrow8 hat8 hlt8
            have G8 := Lib.hid (G7.out.lead HBX.out (Nat.lt_succ_self _) (Nat.le_refl _) (Nat.succ_le_of_lt (lt_of_heap G7.out.part)) hown8 hgrow8 hat8)
            clear hown8 hgrow8 hat8 hlt8 hi hz0 hz1 hz2 hft hfl x0 x1 x2 x3 x4 x5 x6
            go_wp2
            go_roundg n
            case measure => have := HNG.out; omega
            case rel => exact ⟨true, ks ++ [t], cs ++ [(nextP q).lead], takeP q, _, _, _, _, by simp, by simp, rfl, HS.out, by have := HKN.out; have := HNG.out; simp; omega, by have := HCN.out; have := HNG.out; simp; omega, G8.out.kids, G8.out.leads, G8.out.state, G8.out.off, G8.out.part, by simp, by simp⟩
          · have hk' : ((nextP q).text.toList == [44]) = false := by rw [is_list]; exact hk
            have HS := Lib.hid hs
            clear hs hk
            rw [hc] at x6
            clear hc
            have hft := fun (w : World) => tok_text (nextP q).kind (nextP q).lead (nextP q).text w
            go_wp2_with fail
            go_at_call 69
            refine (next_syn _ G5.out.state).mono ?_
            rintro e w6 ⟨rfl, hb6⟩
            have G6 := Lib.hid (G5.out.below hb6 HBX.out (Nat.lt_succ_self _))
            clear hb6 G5 x0 x1 x2 x3 x4 x5 x6
            go_wp2
            go_roundg n
            case measure => have := HNG.out; omega
            case rel => exact ⟨false, ks ++ [t], cs, q, _, _, _, _, by simp, rfl, rfl, HS.out, by have := HKN.out; have := HNG.out; simp; omega, by have := HCN.out; have := HNG.out; omega, G6.out.kids, G6.out.leads, G6.out.state, G6.out.off, G6.out.part, by simp, HC0.out⟩
          · have HS := Lib.hid hs
            clear hs
            rw [hc] at x6
            clear hc
            go_wp2_with fail
            go_at_call 67
            refine (begins_syn x.kids _ G5.out.state).mono ?_
            rintro e w6 ⟨rfl, hb6⟩
            have G6 := Lib.hid (G5.out.below hb6 HBX.out (Nat.lt_succ_self _))
            clear hb6 G5 x0 x1 x2 x3 x4 x5 x6
            go_wp2
            go_roundg n
            case measure => have := HNG.out; omega
            case rel => exact ⟨beginsP x.kids q != 0, ks ++ [t], cs, q, _, _, _, _, by simp, rfl, rfl, HS.out, by have := HKN.out; have := HNG.out; simp; omega, by have := HCN.out; have := HNG.out; omega, G6.out.kids, G6.out.leads, G6.out.state, G6.out.off, G6.out.part, by simp, HC0.out⟩
        · cases hbg : (beginsP x.kids p' != 0)
          · have HLM := Lib.hid (limP_none (ks := ks) hbg)
            rw [HLM.out] at HTE
            go_wp2_with fail
            go_at_call 67
            refine (begins_syn x.kids _ GR.out.state).mono ?_
            rintro e w2 ⟨rfl, hb2⟩
            have GC := Lib.hid (GR.out.below hb2 HBX.out (Nat.lt_succ_self _))
            clear GR HLM hb2 x0 x1 x2 x3 x4 x5 x6
            obtain ⟨x0, x1, x2, x3, x4, x5, x6⟩ := part_cells GC.out.part
            go_wp2_with fail
            go_at_call 39
            refine (HTC.out b x.kids _ t q _ HTE.out GC.out.state).mono ?_
            rintro e w4 ⟨v, rfl, htr, hp4, ho4⟩
            have HTR := Lib.hid htr
            have HSZ := Lib.hid GC.out.off.size
            have HKC := Lib.hid (show ∀ k, blk ka = some k → k < w2.heap.size from fun k hk => (GC.out.kids.blk hk).2.1)
            have HLC := Lib.hid (show ∀ k, blk ca = some k → k < w2.heap.size from fun k hk => (row_blk GC.out.leads hk).2.1)
            have HPC := Lib.hid (lt_of_heap GC.out.part)
            have G4 := Lib.hid (GC.out.keep ho4 hp4 HBX.out (Nat.lt_succ_self _))
            clear htr hp4 ho4 GC
            obtain ⟨vs, hown, hin⟩ := G4.out.kids
            have HIN := Lib.hid hin
            have HOW := Lib.hid hown
            clear hin hown
            obtain ⟨i0, hi, hz0, hz1, hz2⟩ := info_parts tree_info
            have h4s := Lib.hid G4.out.off.size
            go_wp2_with (at_builtin; refine wpList_append_lies _ (by rfl) _ _ _ (by rfl) (w.heap.size + 1) 26 i0 _ 4 72 Try.underlying24 hi hz0 hz1 hz2 rfl (by decide) (.slice ka ks.length kc) ks.length (tvCells vs) (by rfl) (HOW.out.alloc _) ⟨w4.heap.size, 0, none⟩ 1 1 v.cells (by rfl) (by rfl) (World.news_of_block (cs := v.cells.toArray) (t := 26) (fr := (0, 0)) (heap_alloc_new w4 _)) (tv_news v) (by decide) ?b1 ?b2 ?b3 (w4.heap.size + 1) (by simp) ?_)
            case b1 => unfold maxLen; have := HKN.out; have := HN.out; omega
            case b2 => have := HKN.out; have := HN.out; omega
            case b3 => rw [World.size_alloc]; have := lt_of_heap G4.out.part; omega
            intro g cap w5 hown5 hgrow hat5 hlt5
            have G5 := Lib.hid (G4.out.kid HBX.out (Nat.lt_succ_self _) (Nat.le_refl _) HIN.out HPC.out HKC.out HLC.out HTR.out hown5 hgrow hat5)
            clear hown5 hgrow hat5 hlt5 hi hz0 hz1 hz2 x0 x1 x2 x3 x4 x5 x6
            obtain ⟨x0, x1, x2, x3, x4, x5, x6⟩ := part_cells G5.out.part
            rcases HWY.out with ⟨hc, hk, hs⟩ | ⟨hc, hk, hs⟩ | ⟨hc, hs⟩
            · have hk' : ((nextP q).text.toList == [44]) = true := by rw [is_list]; exact hk
              have HS := Lib.hid hs
              clear hs hk
              rw [hc] at x6
              clear hc
              have hft := fun (w : World) => tok_text (nextP q).kind (nextP q).lead (nextP q).text w
              have hfl := fun (w : World) => tok_lead (nextP q).kind (nextP q).lead (nextP q).text w
              go_wp2_with fail
              go_at_call 69
              refine (next_syn _ G5.out.state).mono ?_
              rintro e w6 ⟨rfl, hb6⟩
              have G6 := Lib.hid (G5.out.below hb6 HBX.out (Nat.lt_succ_self _))
              clear hb6 G5
              go_wp2_with fail
              go_at_call 70
              refine (take_syn _ G6.out.state).mono ?_
              rintro e w7 ⟨rfl, hp7, ho7⟩
              have G7 := Lib.hid (G6.out.keep ho7 hp7 HBX.out (Nat.lt_succ_self _))
              clear hp7 ho7 G6
              obtain ⟨j0, hi, hz0, hz1, hz2⟩ := info_parts string_info
              go_wp2_with (at_builtin; refine wpList_append_lies _ (by rfl) _ _ _ (by rfl) (w.heap.size + 1) 9 j0 _ 1 16 Try.underlying23 hi hz0 hz1 hz2 rfl (by decide) (.slice ca cs.length cc) cs.length (cs.map Value.string) (by rfl) (G7.out.leads.alloc _) ⟨w7.heap.size, 0, none⟩ 1 1 [.string (nextP q).lead] (by rfl) (by rfl) (World.news_of_block (cs := #[.string (nextP q).lead]) (t := 9) (fr := (0, 0)) (heap_alloc_new w7 _)) (fun u hu => by simp at hu; subst hu; rfl) (by decide) ?d1 ?d2 ?d3 (w7.heap.size + 1) (by simp) ?_)
              case d1 => unfold maxLen; have := HCN.out; have := HN.out; omega
              case d2 => have := HCN.out; have := HN.out; omega
              case d3 => rw [World.size_alloc]; have := lt_of_heap G7.out.part; omega
              intro g' cap' w8 hown8 hgrow8 hat8 hlt8
              have G8 := Lib.hid (G7.out.lead HBX.out (Nat.lt_succ_self _) (Nat.le_refl _) (Nat.succ_le_of_lt (lt_of_heap G7.out.part)) hown8 hgrow8 hat8)
              clear hown8 hgrow8 hat8 hlt8 hi hz0 hz1 hz2 hft hfl x0 x1 x2 x3 x4 x5 x6
              go_wp2
              go_roundg n
              case measure => have := HNG.out; omega
              case rel => exact ⟨true, ks ++ [t], cs ++ [(nextP q).lead], takeP q, _, _, _, _, by simp, by simp, rfl, HS.out, by have := HKN.out; have := HNG.out; simp; omega, by have := HCN.out; have := HNG.out; simp; omega, G8.out.kids, G8.out.leads, G8.out.state, G8.out.off, G8.out.part, by simp, by simp⟩
            · have hk' : ((nextP q).text.toList == [44]) = false := by rw [is_list]; exact hk
              have HS := Lib.hid hs
              clear hs hk
              rw [hc] at x6
              clear hc
              have hft := fun (w : World) => tok_text (nextP q).kind (nextP q).lead (nextP q).text w
              go_wp2_with fail
              go_at_call 69
              refine (next_syn _ G5.out.state).mono ?_
              rintro e w6 ⟨rfl, hb6⟩
              have G6 := Lib.hid (G5.out.below hb6 HBX.out (Nat.lt_succ_self _))
              clear hb6 G5 x0 x1 x2 x3 x4 x5 x6
              go_wp2
              go_roundg n
              case measure => have := HNG.out; omega
              case rel => exact ⟨false, ks ++ [t], cs, q, _, _, _, _, by simp, rfl, rfl, HS.out, by have := HKN.out; have := HNG.out; simp; omega, by have := HCN.out; have := HNG.out; omega, G6.out.kids, G6.out.leads, G6.out.state, G6.out.off, G6.out.part, by simp, HC0.out⟩
            · have HS := Lib.hid hs
              clear hs
              rw [hc] at x6
              clear hc
              go_wp2_with fail
              go_at_call 67
              refine (begins_syn x.kids _ G5.out.state).mono ?_
              rintro e w6 ⟨rfl, hb6⟩
              have G6 := Lib.hid (G5.out.below hb6 HBX.out (Nat.lt_succ_self _))
              clear hb6 G5 x0 x1 x2 x3 x4 x5 x6
              go_wp2
              go_roundg n
              case measure => have := HNG.out; omega
              case rel => exact ⟨beginsP x.kids q != 0, ks ++ [t], cs, q, _, _, _, _, by simp, rfl, rfl, HS.out, by have := HKN.out; have := HNG.out; simp; omega, by have := HCN.out; have := HNG.out; omega, G6.out.kids, G6.out.leads, G6.out.state, G6.out.off, G6.out.part, by simp, HC0.out⟩
          · have HLM := Lib.hid (limP_yes hlm hbg)
            rw [HLM.out] at HTE
            go_wp2_with fail
            go_at_call 67
            refine (begins_syn x.kids _ GR.out.state).mono ?_
            rintro e w2 ⟨rfl, hb2⟩
            have GB := Lib.hid (GR.out.below hb2 HBX.out (Nat.lt_succ_self _))
            clear GR HLM hb2 x0 x1 x2 x3 x4 x5 x6
            go_wp2_with fail
            go_at_call 68
            refine (fail_syn (x := 3) _ GB.out.state).mono ?_
            rintro e w3 ⟨rfl, hp3, ho3⟩
            have GC := Lib.hid (GB.out.keep ho3 hp3 HBX.out (Nat.lt_succ_self _))
            clear GB hp3 ho3
            obtain ⟨x0, x1, x2, x3, x4, x5, x6⟩ := part_cells GC.out.part
            go_wp2_with fail
            go_at_call 39
            refine (HTC.out b x.kids _ t q _ HTE.out GC.out.state).mono ?_
            rintro e w4 ⟨v, rfl, htr, hp4, ho4⟩
            have HTR := Lib.hid htr
            have HSZ := Lib.hid GC.out.off.size
            have HKC := Lib.hid (show ∀ k, blk ka = some k → k < w3.heap.size from fun k hk => (GC.out.kids.blk hk).2.1)
            have HLC := Lib.hid (show ∀ k, blk ca = some k → k < w3.heap.size from fun k hk => (row_blk GC.out.leads hk).2.1)
            have HPC := Lib.hid (lt_of_heap GC.out.part)
            have G4 := Lib.hid (GC.out.keep ho4 hp4 HBX.out (Nat.lt_succ_self _))
            clear htr hp4 ho4 GC
            obtain ⟨vs, hown, hin⟩ := G4.out.kids
            have HIN := Lib.hid hin
            have HOW := Lib.hid hown
            clear hin hown
            obtain ⟨i0, hi, hz0, hz1, hz2⟩ := info_parts tree_info
            have h4s := Lib.hid G4.out.off.size
            go_wp2_with (at_builtin; refine wpList_append_lies _ (by rfl) _ _ _ (by rfl) (w.heap.size + 1) 26 i0 _ 4 72 Try.underlying24 hi hz0 hz1 hz2 rfl (by decide) (.slice ka ks.length kc) ks.length (tvCells vs) (by rfl) (HOW.out.alloc _) ⟨w4.heap.size, 0, none⟩ 1 1 v.cells (by rfl) (by rfl) (World.news_of_block (cs := v.cells.toArray) (t := 26) (fr := (0, 0)) (heap_alloc_new w4 _)) (tv_news v) (by decide) ?b1 ?b2 ?b3 (w4.heap.size + 1) (by simp) ?_)
            case b1 => unfold maxLen; have := HKN.out; have := HN.out; omega
            case b2 => have := HKN.out; have := HN.out; omega
            case b3 => rw [World.size_alloc]; have := lt_of_heap G4.out.part; omega
            intro g cap w5 hown5 hgrow hat5 hlt5
            have G5 := Lib.hid (G4.out.kid HBX.out (Nat.lt_succ_self _) (Nat.le_refl _) HIN.out HPC.out HKC.out HLC.out HTR.out hown5 hgrow hat5)
            clear hown5 hgrow hat5 hlt5 hi hz0 hz1 hz2 x0 x1 x2 x3 x4 x5 x6
            obtain ⟨x0, x1, x2, x3, x4, x5, x6⟩ := part_cells G5.out.part
            rcases HWY.out with ⟨hc, hk, hs⟩ | ⟨hc, hk, hs⟩ | ⟨hc, hs⟩
            · have hk' : ((nextP q).text.toList == [44]) = true := by rw [is_list]; exact hk
              have HS := Lib.hid hs
              clear hs hk
              rw [hc] at x6
              clear hc
              have hft := fun (w : World) => tok_text (nextP q).kind (nextP q).lead (nextP q).text w
              have hfl := fun (w : World) => tok_lead (nextP q).kind (nextP q).lead (nextP q).text w
              go_wp2_with fail
              go_at_call 69
              refine (next_syn _ G5.out.state).mono ?_
              rintro e w6 ⟨rfl, hb6⟩
              have G6 := Lib.hid (G5.out.below hb6 HBX.out (Nat.lt_succ_self _))
              clear hb6 G5
              go_wp2_with fail
              go_at_call 70
              refine (take_syn _ G6.out.state).mono ?_
              rintro e w7 ⟨rfl, hp7, ho7⟩
              have G7 := Lib.hid (G6.out.keep ho7 hp7 HBX.out (Nat.lt_succ_self _))
              clear hp7 ho7 G6
              obtain ⟨j0, hi, hz0, hz1, hz2⟩ := info_parts string_info
              go_wp2_with (at_builtin; refine wpList_append_lies _ (by rfl) _ _ _ (by rfl) (w.heap.size + 1) 9 j0 _ 1 16 Try.underlying23 hi hz0 hz1 hz2 rfl (by decide) (.slice ca cs.length cc) cs.length (cs.map Value.string) (by rfl) (G7.out.leads.alloc _) ⟨w7.heap.size, 0, none⟩ 1 1 [.string (nextP q).lead] (by rfl) (by rfl) (World.news_of_block (cs := #[.string (nextP q).lead]) (t := 9) (fr := (0, 0)) (heap_alloc_new w7 _)) (fun u hu => by simp at hu; subst hu; rfl) (by decide) ?d1 ?d2 ?d3 (w7.heap.size + 1) (by simp) ?_)
              case d1 => unfold maxLen; have := HCN.out; have := HN.out; omega
              case d2 => have := HCN.out; have := HN.out; omega
              case d3 => rw [World.size_alloc]; have := lt_of_heap G7.out.part; omega
              intro g' cap' w8 hown8 hgrow8 hat8 hlt8
              have G8 := Lib.hid (G7.out.lead HBX.out (Nat.lt_succ_self _) (Nat.le_refl _) (Nat.succ_le_of_lt (lt_of_heap G7.out.part)) hown8 hgrow8 hat8)
              clear hown8 hgrow8 hat8 hlt8 hi hz0 hz1 hz2 hft hfl x0 x1 x2 x3 x4 x5 x6
              go_wp2
              go_roundg n
              case measure => have := HNG.out; omega
              case rel => exact ⟨true, ks ++ [t], cs ++ [(nextP q).lead], takeP q, _, _, _, _, by simp, by simp, rfl, HS.out, by have := HKN.out; have := HNG.out; simp; omega, by have := HCN.out; have := HNG.out; simp; omega, G8.out.kids, G8.out.leads, G8.out.state, G8.out.off, G8.out.part, by simp, by simp⟩
            · have hk' : ((nextP q).text.toList == [44]) = false := by rw [is_list]; exact hk
              have HS := Lib.hid hs
              clear hs hk
              rw [hc] at x6
              clear hc
              have hft := fun (w : World) => tok_text (nextP q).kind (nextP q).lead (nextP q).text w
              go_wp2_with fail
              go_at_call 69
              refine (next_syn _ G5.out.state).mono ?_
              rintro e w6 ⟨rfl, hb6⟩
              have G6 := Lib.hid (G5.out.below hb6 HBX.out (Nat.lt_succ_self _))
              clear hb6 G5 x0 x1 x2 x3 x4 x5 x6
              go_wp2
              go_roundg n
              case measure => have := HNG.out; omega
              case rel => exact ⟨false, ks ++ [t], cs, q, _, _, _, _, by simp, rfl, rfl, HS.out, by have := HKN.out; have := HNG.out; simp; omega, by have := HCN.out; have := HNG.out; omega, G6.out.kids, G6.out.leads, G6.out.state, G6.out.off, G6.out.part, by simp, HC0.out⟩
            · have HS := Lib.hid hs
              clear hs
              rw [hc] at x6
              clear hc
              go_wp2_with fail
              go_at_call 67
              refine (begins_syn x.kids _ G5.out.state).mono ?_
              rintro e w6 ⟨rfl, hb6⟩
              have G6 := Lib.hid (G5.out.below hb6 HBX.out (Nat.lt_succ_self _))
              clear hb6 G5 x0 x1 x2 x3 x4 x5 x6
              go_wp2
              go_roundg n
              case measure => have := HNG.out; omega
              case rel => exact ⟨beginsP x.kids q != 0, ks ++ [t], cs, q, _, _, _, _, by simp, rfl, rfl, HS.out, by have := HKN.out; have := HNG.out; simp; omega, by have := HCN.out; have := HNG.out; omega, G6.out.kids, G6.out.leads, G6.out.state, G6.out.off, G6.out.part, by simp, HC0.out⟩
  · go_enter Try.func38, Try.ntmps38
    go_wp2_with fail
    have HB1 := HW0
    have HB0 := HG0
    go_loopg [4, 5, 6] N (fun g u4 u5 u6 wr => SeriesRel T x b N r w g u4 u5 u6 wr)
    case atStart => exact ⟨true, [], [], p, none, 0, none, 0, rfl, rfl, rfl, by have := HR.out; rw [hl] at this; exact this, by simp, by simp, KidsAt.nil _ _ _, LeadsAt.nil _ _, HI.out.keep HB1.out, Off.of HB1.out, HB0.out, fun _ => ⟨rfl, rfl⟩, fun _ => ⟨rfl, rfl⟩⟩
    case round =>
      obtain ⟨more, ks, cs, p', ka, kc, ca, cc, rfl, rfl, rfl, hs, hkn, hcn, hkid, hlead, hp, ho, hx, hk0, hc0⟩ := hrel
      have HK := Lib.hid hkid
      have HLd := Lib.hid hlead
      have HP := Lib.hid hp
      have HO := Lib.hid ho
      have HX := Lib.hid hx
      have HKN := Lib.hid hkn
      have HCN := Lib.hid hcn
      have HK0 := Lib.hid hk0
      have HC0 := Lib.hid hc0
      clear hkid hlead hp ho hkn hcn hk0 hc0 HB0 HB1
      cases more
      · have HE := Lib.hid (series_done hs)
        clear hs hx
        go_wp2
        refine bodyPost_ret (v := .tuple #[.slice ka ks.length kc, .slice ca cs.length cc]) (by simp [results, Try.results38, go_sem]) rfl ?_
        rw [← HE.out]
        exact ⟨ka, kc, ca, cc, rfl, HK.out, HLd.out, HP.out, HO.out, HK0.out, HC0.out⟩
      · obtain ⟨n, hn⟩ : ∃ n, gk = n + 1 := by
          cases gk with
          | zero => unfold seriesG at hs; cases hs
          | succ n => exact ⟨n, rfl⟩
        rw [hn] at hs
        obtain ⟨t, q, ht, hw⟩ := series_step hs
        have HTE := Lib.hid ht
        have HWY := Lib.hid hw
        have HNG := Lib.hid hn
        clear hs ht hw hn
        obtain ⟨x0, x1, x2, x3, x4, x5, x6⟩ := part_cells hx
        clear hx
        have GR := Lib.hid (show Grown b (w.heap.size + 1) w.heap.size x w wr ka kc ks ca cc cs p' from ⟨HK.out, HLd.out, HP.out, HO.out, HX.out⟩)
        have HBX := Lib.hid HI.out.lt
        clear HK HLd HP HO HX
        cases hlm : ((ks.length : Int) == x.most)
        · have HLM := Lib.hid (limP_no (p := p') hlm)
          rw [HLM.out] at HTE
          have GC := GR
          clear GR HLM
          go_wp2_with fail
          go_at_call 39
          refine (HTC.out b x.kids _ t q _ HTE.out GC.out.state).mono ?_
          rintro e w4 ⟨v, rfl, htr, hp4, ho4⟩
          have HTR := Lib.hid htr
          have HSZ := Lib.hid GC.out.off.size
          have HKC := Lib.hid (show ∀ k, blk ka = some k → k < wr.heap.size from fun k hk => (GC.out.kids.blk hk).2.1)
          have HLC := Lib.hid (show ∀ k, blk ca = some k → k < wr.heap.size from fun k hk => (row_blk GC.out.leads hk).2.1)
          have HPC := Lib.hid (lt_of_heap GC.out.part)
          have G4 := Lib.hid (GC.out.keep ho4 hp4 HBX.out (Nat.lt_succ_self _))
          clear htr hp4 ho4 GC
          obtain ⟨vs, hown, hin⟩ := G4.out.kids
          have HIN := Lib.hid hin
          have HOW := Lib.hid hown
          clear hin hown
          obtain ⟨i0, hi, hz0, hz1, hz2⟩ := info_parts tree_info
          have h4s := Lib.hid G4.out.off.size
          go_wp2_with (at_builtin; refine wpList_append_lies _ (by rfl) _ _ _ (by rfl) (w.heap.size + 1) 26 i0 _ 4 72 Try.underlying24 hi hz0 hz1 hz2 rfl (by decide) (.slice ka ks.length kc) ks.length (tvCells vs) (by rfl) (HOW.out.alloc _) ⟨w4.heap.size, 0, none⟩ 1 1 v.cells (by rfl) (by rfl) (World.news_of_block (cs := v.cells.toArray) (t := 26) (fr := (0, 0)) (heap_alloc_new w4 _)) (tv_news v) (by decide) ?b1 ?b2 ?b3 (w4.heap.size + 1) (by simp) ?_)
          case b1 => unfold maxLen; have := HKN.out; have := HN.out; omega
          case b2 => have := HKN.out; have := HN.out; omega
          case b3 => rw [World.size_alloc]; have := lt_of_heap G4.out.part; omega
          intro g cap w5 hown5 hgrow hat5 hlt5
          have G5 := Lib.hid (G4.out.kid HBX.out (Nat.lt_succ_self _) (Nat.le_refl _) HIN.out HPC.out HKC.out HLC.out HTR.out hown5 hgrow hat5)
          clear hown5 hgrow hat5 hlt5 hi hz0 hz1 hz2 x0 x1 x2 x3 x4 x5 x6
          obtain ⟨x0, x1, x2, x3, x4, x5, x6⟩ := part_cells G5.out.part
          rcases HWY.out with ⟨hc, hk, hs⟩ | ⟨hc, hk, hs⟩ | ⟨hc, hs⟩
          · have hk' : ((nextP q).text.toList == [44]) = true := by rw [is_list]; exact hk
            have HS := Lib.hid hs
            clear hs hk
            rw [hc] at x6
            clear hc
            have hft := fun (w : World) => tok_text (nextP q).kind (nextP q).lead (nextP q).text w
            have hfl := fun (w : World) => tok_lead (nextP q).kind (nextP q).lead (nextP q).text w
            go_wp2_with fail
            go_at_call 69
            refine (next_syn _ G5.out.state).mono ?_
            rintro e w6 ⟨rfl, hb6⟩
            have G6 := Lib.hid (G5.out.below hb6 HBX.out (Nat.lt_succ_self _))
            clear hb6 G5
            go_wp2_with fail
            go_at_call 70
            refine (take_syn _ G6.out.state).mono ?_
            rintro e w7 ⟨rfl, hp7, ho7⟩
            have G7 := Lib.hid (G6.out.keep ho7 hp7 HBX.out (Nat.lt_succ_self _))
            clear hp7 ho7 G6
            obtain ⟨j0, hi, hz0, hz1, hz2⟩ := info_parts string_info
            go_wp2_with (at_builtin; refine wpList_append_lies _ (by rfl) _ _ _ (by rfl) (w.heap.size + 1) 9 j0 _ 1 16 Try.underlying23 hi hz0 hz1 hz2 rfl (by decide) (.slice ca cs.length cc) cs.length (cs.map Value.string) (by rfl) (G7.out.leads.alloc _) ⟨w7.heap.size, 0, none⟩ 1 1 [.string (nextP q).lead] (by rfl) (by rfl) (World.news_of_block (cs := #[.string (nextP q).lead]) (t := 9) (fr := (0, 0)) (heap_alloc_new w7 _)) (fun u hu => by simp at hu; subst hu; rfl) (by decide) ?d1 ?d2 ?d3 (w7.heap.size + 1) (by simp) ?_)
            case d1 => unfold maxLen; have := HCN.out; have := HN.out; omega
            case d2 => have := HCN.out; have := HN.out; omega
            case d3 => rw [World.size_alloc]; have := lt_of_heap G7.out.part; omega
            intro g' cap' w8 hown8 hgrow8 hat8 hlt8
            have G8 := Lib.hid (G7.out.lead HBX.out (Nat.lt_succ_self _) (Nat.le_refl _) (Nat.succ_le_of_lt (lt_of_heap G7.out.part)) hown8 hgrow8 hat8)
            clear hown8 hgrow8 hat8 hlt8 hi hz0 hz1 hz2 hft hfl x0 x1 x2 x3 x4 x5 x6
            go_wp2
            go_roundg n
            case measure => have := HNG.out; omega
            case rel => exact ⟨true, ks ++ [t], cs ++ [(nextP q).lead], takeP q, _, _, _, _, by simp, by simp, rfl, HS.out, by have := HKN.out; have := HNG.out; simp; omega, by have := HCN.out; have := HNG.out; simp; omega, G8.out.kids, G8.out.leads, G8.out.state, G8.out.off, G8.out.part, by simp, by simp⟩
          · have hk' : ((nextP q).text.toList == [44]) = false := by rw [is_list]; exact hk
            have HS := Lib.hid hs
            clear hs hk
            rw [hc] at x6
            clear hc
            have hft := fun (w : World) => tok_text (nextP q).kind (nextP q).lead (nextP q).text w
            go_wp2_with fail
            go_at_call 69
            refine (next_syn _ G5.out.state).mono ?_
            rintro e w6 ⟨rfl, hb6⟩
            have G6 := Lib.hid (G5.out.below hb6 HBX.out (Nat.lt_succ_self _))
            clear hb6 G5 x0 x1 x2 x3 x4 x5 x6
            go_wp2
            go_roundg n
            case measure => have := HNG.out; omega
            case rel => exact ⟨false, ks ++ [t], cs, q, _, _, _, _, by simp, rfl, rfl, HS.out, by have := HKN.out; have := HNG.out; simp; omega, by have := HCN.out; have := HNG.out; omega, G6.out.kids, G6.out.leads, G6.out.state, G6.out.off, G6.out.part, by simp, HC0.out⟩
          · have HS := Lib.hid hs
            clear hs
            rw [hc] at x6
            clear hc
            go_wp2_with fail
            go_at_call 67
            refine (begins_syn x.kids _ G5.out.state).mono ?_
            rintro e w6 ⟨rfl, hb6⟩
            have G6 := Lib.hid (G5.out.below hb6 HBX.out (Nat.lt_succ_self _))
            clear hb6 G5 x0 x1 x2 x3 x4 x5 x6
            go_wp2
            go_roundg n
            case measure => have := HNG.out; omega
            case rel => exact ⟨beginsP x.kids q != 0, ks ++ [t], cs, q, _, _, _, _, by simp, rfl, rfl, HS.out, by have := HKN.out; have := HNG.out; simp; omega, by have := HCN.out; have := HNG.out; omega, G6.out.kids, G6.out.leads, G6.out.state, G6.out.off, G6.out.part, by simp, HC0.out⟩
        · cases hbg : (beginsP x.kids p' != 0)
          · have HLM := Lib.hid (limP_none (ks := ks) hbg)
            rw [HLM.out] at HTE
            go_wp2_with fail
            go_at_call 67
            refine (begins_syn x.kids _ GR.out.state).mono ?_
            rintro e w2 ⟨rfl, hb2⟩
            have GC := Lib.hid (GR.out.below hb2 HBX.out (Nat.lt_succ_self _))
            clear GR HLM hb2 x0 x1 x2 x3 x4 x5 x6
            obtain ⟨x0, x1, x2, x3, x4, x5, x6⟩ := part_cells GC.out.part
            go_wp2_with fail
            go_at_call 39
            refine (HTC.out b x.kids _ t q _ HTE.out GC.out.state).mono ?_
            rintro e w4 ⟨v, rfl, htr, hp4, ho4⟩
            have HTR := Lib.hid htr
            have HSZ := Lib.hid GC.out.off.size
            have HKC := Lib.hid (show ∀ k, blk ka = some k → k < w2.heap.size from fun k hk => (GC.out.kids.blk hk).2.1)
            have HLC := Lib.hid (show ∀ k, blk ca = some k → k < w2.heap.size from fun k hk => (row_blk GC.out.leads hk).2.1)
            have HPC := Lib.hid (lt_of_heap GC.out.part)
            have G4 := Lib.hid (GC.out.keep ho4 hp4 HBX.out (Nat.lt_succ_self _))
            clear htr hp4 ho4 GC
            obtain ⟨vs, hown, hin⟩ := G4.out.kids
            have HIN := Lib.hid hin
            have HOW := Lib.hid hown
            clear hin hown
            obtain ⟨i0, hi, hz0, hz1, hz2⟩ := info_parts tree_info
            have h4s := Lib.hid G4.out.off.size
            go_wp2_with (at_builtin; refine wpList_append_lies _ (by rfl) _ _ _ (by rfl) (w.heap.size + 1) 26 i0 _ 4 72 Try.underlying24 hi hz0 hz1 hz2 rfl (by decide) (.slice ka ks.length kc) ks.length (tvCells vs) (by rfl) (HOW.out.alloc _) ⟨w4.heap.size, 0, none⟩ 1 1 v.cells (by rfl) (by rfl) (World.news_of_block (cs := v.cells.toArray) (t := 26) (fr := (0, 0)) (heap_alloc_new w4 _)) (tv_news v) (by decide) ?b1 ?b2 ?b3 (w4.heap.size + 1) (by simp) ?_)
            case b1 => unfold maxLen; have := HKN.out; have := HN.out; omega
            case b2 => have := HKN.out; have := HN.out; omega
            case b3 => rw [World.size_alloc]; have := lt_of_heap G4.out.part; omega
            intro g cap w5 hown5 hgrow hat5 hlt5
            have G5 := Lib.hid (G4.out.kid HBX.out (Nat.lt_succ_self _) (Nat.le_refl _) HIN.out HPC.out HKC.out HLC.out HTR.out hown5 hgrow hat5)
            clear hown5 hgrow hat5 hlt5 hi hz0 hz1 hz2 x0 x1 x2 x3 x4 x5 x6
            obtain ⟨x0, x1, x2, x3, x4, x5, x6⟩ := part_cells G5.out.part
            rcases HWY.out with ⟨hc, hk, hs⟩ | ⟨hc, hk, hs⟩ | ⟨hc, hs⟩
            · have hk' : ((nextP q).text.toList == [44]) = true := by rw [is_list]; exact hk
              have HS := Lib.hid hs
              clear hs hk
              rw [hc] at x6
              clear hc
              have hft := fun (w : World) => tok_text (nextP q).kind (nextP q).lead (nextP q).text w
              have hfl := fun (w : World) => tok_lead (nextP q).kind (nextP q).lead (nextP q).text w
              go_wp2_with fail
              go_at_call 69
              refine (next_syn _ G5.out.state).mono ?_
              rintro e w6 ⟨rfl, hb6⟩
              have G6 := Lib.hid (G5.out.below hb6 HBX.out (Nat.lt_succ_self _))
              clear hb6 G5
              go_wp2_with fail
              go_at_call 70
              refine (take_syn _ G6.out.state).mono ?_
              rintro e w7 ⟨rfl, hp7, ho7⟩
              have G7 := Lib.hid (G6.out.keep ho7 hp7 HBX.out (Nat.lt_succ_self _))
              clear hp7 ho7 G6
              obtain ⟨j0, hi, hz0, hz1, hz2⟩ := info_parts string_info
              go_wp2_with (at_builtin; refine wpList_append_lies _ (by rfl) _ _ _ (by rfl) (w.heap.size + 1) 9 j0 _ 1 16 Try.underlying23 hi hz0 hz1 hz2 rfl (by decide) (.slice ca cs.length cc) cs.length (cs.map Value.string) (by rfl) (G7.out.leads.alloc _) ⟨w7.heap.size, 0, none⟩ 1 1 [.string (nextP q).lead] (by rfl) (by rfl) (World.news_of_block (cs := #[.string (nextP q).lead]) (t := 9) (fr := (0, 0)) (heap_alloc_new w7 _)) (fun u hu => by simp at hu; subst hu; rfl) (by decide) ?d1 ?d2 ?d3 (w7.heap.size + 1) (by simp) ?_)
              case d1 => unfold maxLen; have := HCN.out; have := HN.out; omega
              case d2 => have := HCN.out; have := HN.out; omega
              case d3 => rw [World.size_alloc]; have := lt_of_heap G7.out.part; omega
              intro g' cap' w8 hown8 hgrow8 hat8 hlt8
              have G8 := Lib.hid (G7.out.lead HBX.out (Nat.lt_succ_self _) (Nat.le_refl _) (Nat.succ_le_of_lt (lt_of_heap G7.out.part)) hown8 hgrow8 hat8)
              clear hown8 hgrow8 hat8 hlt8 hi hz0 hz1 hz2 hft hfl x0 x1 x2 x3 x4 x5 x6
              go_wp2
              go_roundg n
              case measure => have := HNG.out; omega
              case rel => exact ⟨true, ks ++ [t], cs ++ [(nextP q).lead], takeP q, _, _, _, _, by simp, by simp, rfl, HS.out, by have := HKN.out; have := HNG.out; simp; omega, by have := HCN.out; have := HNG.out; simp; omega, G8.out.kids, G8.out.leads, G8.out.state, G8.out.off, G8.out.part, by simp, by simp⟩
            · have hk' : ((nextP q).text.toList == [44]) = false := by rw [is_list]; exact hk
              have HS := Lib.hid hs
              clear hs hk
              rw [hc] at x6
              clear hc
              have hft := fun (w : World) => tok_text (nextP q).kind (nextP q).lead (nextP q).text w
              go_wp2_with fail
              go_at_call 69
              refine (next_syn _ G5.out.state).mono ?_
              rintro e w6 ⟨rfl, hb6⟩
              have G6 := Lib.hid (G5.out.below hb6 HBX.out (Nat.lt_succ_self _))
              clear hb6 G5 x0 x1 x2 x3 x4 x5 x6
              go_wp2
              go_roundg n
              case measure => have := HNG.out; omega
              case rel => exact ⟨false, ks ++ [t], cs, q, _, _, _, _, by simp, rfl, rfl, HS.out, by have := HKN.out; have := HNG.out; simp; omega, by have := HCN.out; have := HNG.out; omega, G6.out.kids, G6.out.leads, G6.out.state, G6.out.off, G6.out.part, by simp, HC0.out⟩
            · have HS := Lib.hid hs
              clear hs
              rw [hc] at x6
              clear hc
              go_wp2_with fail
              go_at_call 67
              refine (begins_syn x.kids _ G5.out.state).mono ?_
              rintro e w6 ⟨rfl, hb6⟩
              have G6 := Lib.hid (G5.out.below hb6 HBX.out (Nat.lt_succ_self _))
              clear hb6 G5 x0 x1 x2 x3 x4 x5 x6
              go_wp2
              go_roundg n
              case measure => have := HNG.out; omega
              case rel => exact ⟨beginsP x.kids q != 0, ks ++ [t], cs, q, _, _, _, _, by simp, rfl, rfl, HS.out, by have := HKN.out; have := HNG.out; simp; omega, by have := HCN.out; have := HNG.out; omega, G6.out.kids, G6.out.leads, G6.out.state, G6.out.off, G6.out.part, by simp, HC0.out⟩
          · have HLM := Lib.hid (limP_yes hlm hbg)
            rw [HLM.out] at HTE
            go_wp2_with fail
            go_at_call 67
            refine (begins_syn x.kids _ GR.out.state).mono ?_
            rintro e w2 ⟨rfl, hb2⟩
            have GB := Lib.hid (GR.out.below hb2 HBX.out (Nat.lt_succ_self _))
            clear GR HLM hb2 x0 x1 x2 x3 x4 x5 x6
            go_wp2_with fail
            go_at_call 68
            refine (fail_syn (x := 3) _ GB.out.state).mono ?_
            rintro e w3 ⟨rfl, hp3, ho3⟩
            have GC := Lib.hid (GB.out.keep ho3 hp3 HBX.out (Nat.lt_succ_self _))
            clear GB hp3 ho3
            obtain ⟨x0, x1, x2, x3, x4, x5, x6⟩ := part_cells GC.out.part
            go_wp2_with fail
            go_at_call 39
            refine (HTC.out b x.kids _ t q _ HTE.out GC.out.state).mono ?_
            rintro e w4 ⟨v, rfl, htr, hp4, ho4⟩
            have HTR := Lib.hid htr
            have HSZ := Lib.hid GC.out.off.size
            have HKC := Lib.hid (show ∀ k, blk ka = some k → k < w3.heap.size from fun k hk => (GC.out.kids.blk hk).2.1)
            have HLC := Lib.hid (show ∀ k, blk ca = some k → k < w3.heap.size from fun k hk => (row_blk GC.out.leads hk).2.1)
            have HPC := Lib.hid (lt_of_heap GC.out.part)
            have G4 := Lib.hid (GC.out.keep ho4 hp4 HBX.out (Nat.lt_succ_self _))
            clear htr hp4 ho4 GC
            obtain ⟨vs, hown, hin⟩ := G4.out.kids
            have HIN := Lib.hid hin
            have HOW := Lib.hid hown
            clear hin hown
            obtain ⟨i0, hi, hz0, hz1, hz2⟩ := info_parts tree_info
            have h4s := Lib.hid G4.out.off.size
            go_wp2_with (at_builtin; refine wpList_append_lies _ (by rfl) _ _ _ (by rfl) (w.heap.size + 1) 26 i0 _ 4 72 Try.underlying24 hi hz0 hz1 hz2 rfl (by decide) (.slice ka ks.length kc) ks.length (tvCells vs) (by rfl) (HOW.out.alloc _) ⟨w4.heap.size, 0, none⟩ 1 1 v.cells (by rfl) (by rfl) (World.news_of_block (cs := v.cells.toArray) (t := 26) (fr := (0, 0)) (heap_alloc_new w4 _)) (tv_news v) (by decide) ?b1 ?b2 ?b3 (w4.heap.size + 1) (by simp) ?_)
            case b1 => unfold maxLen; have := HKN.out; have := HN.out; omega
            case b2 => have := HKN.out; have := HN.out; omega
            case b3 => rw [World.size_alloc]; have := lt_of_heap G4.out.part; omega
            intro g cap w5 hown5 hgrow hat5 hlt5
            have G5 := Lib.hid (G4.out.kid HBX.out (Nat.lt_succ_self _) (Nat.le_refl _) HIN.out HPC.out HKC.out HLC.out HTR.out hown5 hgrow hat5)
            clear hown5 hgrow hat5 hlt5 hi hz0 hz1 hz2 x0 x1 x2 x3 x4 x5 x6
            obtain ⟨x0, x1, x2, x3, x4, x5, x6⟩ := part_cells G5.out.part
            rcases HWY.out with ⟨hc, hk, hs⟩ | ⟨hc, hk, hs⟩ | ⟨hc, hs⟩
            · have hk' : ((nextP q).text.toList == [44]) = true := by rw [is_list]; exact hk
              have HS := Lib.hid hs
              clear hs hk
              rw [hc] at x6
              clear hc
              have hft := fun (w : World) => tok_text (nextP q).kind (nextP q).lead (nextP q).text w
              have hfl := fun (w : World) => tok_lead (nextP q).kind (nextP q).lead (nextP q).text w
              go_wp2_with fail
              go_at_call 69
              refine (next_syn _ G5.out.state).mono ?_
              rintro e w6 ⟨rfl, hb6⟩
              have G6 := Lib.hid (G5.out.below hb6 HBX.out (Nat.lt_succ_self _))
              clear hb6 G5
              go_wp2_with fail
              go_at_call 70
              refine (take_syn _ G6.out.state).mono ?_
              rintro e w7 ⟨rfl, hp7, ho7⟩
              have G7 := Lib.hid (G6.out.keep ho7 hp7 HBX.out (Nat.lt_succ_self _))
              clear hp7 ho7 G6
              obtain ⟨j0, hi, hz0, hz1, hz2⟩ := info_parts string_info
              go_wp2_with (at_builtin; refine wpList_append_lies _ (by rfl) _ _ _ (by rfl) (w.heap.size + 1) 9 j0 _ 1 16 Try.underlying23 hi hz0 hz1 hz2 rfl (by decide) (.slice ca cs.length cc) cs.length (cs.map Value.string) (by rfl) (G7.out.leads.alloc _) ⟨w7.heap.size, 0, none⟩ 1 1 [.string (nextP q).lead] (by rfl) (by rfl) (World.news_of_block (cs := #[.string (nextP q).lead]) (t := 9) (fr := (0, 0)) (heap_alloc_new w7 _)) (fun u hu => by simp at hu; subst hu; rfl) (by decide) ?d1 ?d2 ?d3 (w7.heap.size + 1) (by simp) ?_)
              case d1 => unfold maxLen; have := HCN.out; have := HN.out; omega
              case d2 => have := HCN.out; have := HN.out; omega
              case d3 => rw [World.size_alloc]; have := lt_of_heap G7.out.part; omega
              intro g' cap' w8 hown8 hgrow8 hat8 hlt8
              have G8 := Lib.hid (G7.out.lead HBX.out (Nat.lt_succ_self _) (Nat.le_refl _) (Nat.succ_le_of_lt (lt_of_heap G7.out.part)) hown8 hgrow8 hat8)
              clear hown8 hgrow8 hat8 hlt8 hi hz0 hz1 hz2 hft hfl x0 x1 x2 x3 x4 x5 x6
              go_wp2
              go_roundg n
              case measure => have := HNG.out; omega
              case rel => exact ⟨true, ks ++ [t], cs ++ [(nextP q).lead], takeP q, _, _, _, _, by simp, by simp, rfl, HS.out, by have := HKN.out; have := HNG.out; simp; omega, by have := HCN.out; have := HNG.out; simp; omega, G8.out.kids, G8.out.leads, G8.out.state, G8.out.off, G8.out.part, by simp, by simp⟩
            · have hk' : ((nextP q).text.toList == [44]) = false := by rw [is_list]; exact hk
              have HS := Lib.hid hs
              clear hs hk
              rw [hc] at x6
              clear hc
              have hft := fun (w : World) => tok_text (nextP q).kind (nextP q).lead (nextP q).text w
              go_wp2_with fail
              go_at_call 69
              refine (next_syn _ G5.out.state).mono ?_
              rintro e w6 ⟨rfl, hb6⟩
              have G6 := Lib.hid (G5.out.below hb6 HBX.out (Nat.lt_succ_self _))
              clear hb6 G5 x0 x1 x2 x3 x4 x5 x6
              go_wp2
              go_roundg n
              case measure => have := HNG.out; omega
              case rel => exact ⟨false, ks ++ [t], cs, q, _, _, _, _, by simp, rfl, rfl, HS.out, by have := HKN.out; have := HNG.out; simp; omega, by have := HCN.out; have := HNG.out; omega, G6.out.kids, G6.out.leads, G6.out.state, G6.out.off, G6.out.part, by simp, HC0.out⟩
            · have HS := Lib.hid hs
              clear hs
              rw [hc] at x6
              clear hc
              go_wp2_with fail
              go_at_call 67
              refine (begins_syn x.kids _ G5.out.state).mono ?_
              rintro e w6 ⟨rfl, hb6⟩
              have G6 := Lib.hid (G5.out.below hb6 HBX.out (Nat.lt_succ_self _))
              clear hb6 G5 x0 x1 x2 x3 x4 x5 x6
              go_wp2
              go_roundg n
              case measure => have := HNG.out; omega
              case rel => exact ⟨beginsP x.kids q != 0, ks ++ [t], cs, q, _, _, _, _, by simp, rfl, rfl, HS.out, by have := HKN.out; have := HNG.out; simp; omega, by have := HCN.out; have := HNG.out; omega, G6.out.kids, G6.out.leads, G6.out.state, G6.out.off, G6.out.part, by simp, HC0.out⟩
end Go.Proofs.Ytipkmffhebachaa
