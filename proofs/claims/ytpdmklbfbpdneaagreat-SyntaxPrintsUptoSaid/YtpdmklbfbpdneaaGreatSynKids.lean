/- The contract of (*writer).kids, given tree's. -/
import Derived.Test.YtpdmklbfbpdneaaGreatSynPieces
import Derived.Deep.LoopGhost
namespace Go.Proofs.YtpdmklbfbpdneaaGreat
open Go.RowKit
/-- tree's contract, for trees of at most this size. -/
def TreeWr (N : Nat) : Prop := ∀ (B b : Nat) (s : List UInt8 × ByteArray) (t : Tr) (v : TV) (w : World), SizeOf.sizeOf t ≤ N → TrAt (fun k => k < B) w t v → WrS B b s w → B ≤ w.heap.size → smallT t = true → ledT t = true → s.1.length + sizeP (pieces t) < 140737488355328 →
  Calls Tryz.prog 108 #[.pointer (some ⟨b, 0, none⟩), .agg #[.int .i64 v.kind, .string v.text, .slice v.la v.ll v.lc, .slice v.ka v.kl v.kc]] w fun e w' => e = .returned (.tuple #[]) ∧ WrS B b (foldW s (pieces t)) w' ∧ Below B w w' ∧ Kept b w w'
theorem WrS.keep {B b : Nat} {s : List UInt8 × ByteArray} {w w' : World} (h : WrS B b s w) (hb : Below w.heap.size w w') : WrS B b s w' := ⟨h.1.keep hb, h.2⟩
theorem WrS.alloc {B b : Nat} {s : List UInt8 × ByteArray} {w : World} (h : WrS B b s w) (o : Obj) : WrS B b s (w.alloc o) := h.keep ((Below.refl _ _).alloc (Nat.le_refl _) o)
theorem Kept.alloc (b : Nat) (w : World) (o : Obj) : Kept b w (w.alloc o) := Kept.below ((Below.refl _ _).alloc (Nat.le_refl _) o)
theorem TrAt.lows {B : Nat} {w w' : World} {t : Tr} {v : TV} (h : TrAt (fun k => k < B) w t v) (hb : Below B w w') : TrAt (fun k => k < B) w' t v := TrAt.move (fun _ h => h) (fun k hk _ => hb.block k hk) t v h
theorem TrsAt.lows {B : Nat} {w w' : World} {l : List Tr} {kb ko : Nat} (h : TrsAt (fun k => k < B) w kb ko l) (hk : kb < B) (hb : Below B w w') : TrsAt (fun k => k < B) w' kb ko l := TrsAt.move (fun _ h => h) (fun k hk _ => hb.block k hk) kb hk l ko h
theorem StrsAt.lows {B : Nat} {w w' : World} {A : Option Addr} {l : List ByteArray} (h : StrsAt (fun k => k < B) w A l) (hb : Below B w w') : StrsAt (fun k => k < B) w' A l := StrsAt.move h (fun _ h => h) (fun k hk _ => hb.block k hk)
/-- What a round of kids needs of the list. -/
def KidsSt (N : Nat) (ks : List Tr) : Prop := ∀ (i : Nat) (k : Tr), ks[i]? = some k → SizeOf.sizeOf k ≤ N ∧ smallT k = true ∧ ledT k = true
set_option maxRecDepth 100000 in
set_option maxHeartbeats 4000000 in
theorem kids_wr {N : Nat} (ih : TreeWr N) (B b : Nat) (s : List UInt8 × ByteArray) (ks : List Tr) (kb ko kc : Nat) (cs : List ByteArray) (cA : Option Addr) (cc : Nat) (x : Part) (w : World)
    (hk : KidsSt N ks) (ht : TrsAt (fun k => k < B) w kb ko ks) (hkb : kb < B) (hlen : ks.length ≤ 140737488355328) (hc : StrsAt (fun k => k < B) w cA cs) (hcl : x.commas = true → ks.length ≤ cs.length + 1) (h : WrS B b s w) (hB : B ≤ w.heap.size) (hsz : s.1.length + sizeP (piecesAt x.commas cs 0 (ks.map pieces)) < 140737488355328) :
    Calls Tryz.prog 141 #[.pointer (some ⟨b, 0, none⟩), .slice (some ⟨kb, ko, none⟩) ks.length kc, .slice cA cs.length cc, .agg #[.string x.word, fnV x.nm, .int .i64 x.kids, .int .i64 x.least, .int .i64 x.most, .bool x.series, .bool x.commas]] w
      fun e w' => e = .returned (.tuple #[]) ∧ WrS B b (foldW s (piecesAt x.commas cs 0 (ks.map pieces))) w' ∧ Below B w w' ∧ Kept b w w' := by
  have HIH := Lib.hid ih
  have HK := Lib.hid hk
  have HI0 := Lib.hid (h.alloc (.cells #[.string x.word, fnV x.nm, .int .i64 x.kids, .int .i64 x.least, .int .i64 x.most, .bool x.series, .bool x.commas] 82))
  have HB0 := Lib.hid ((Below.refl B w).alloc hB (.cells #[.string x.word, fnV x.nm, .int .i64 x.kids, .int .i64 x.least, .int .i64 x.most, .bool x.series, .bool x.commas] 82))
  have HKP0 := Lib.hid (Kept.alloc b w (.cells #[.string x.word, fnV x.nm, .int .i64 x.kids, .int .i64 x.least, .int .i64 x.most, .bool x.series, .bool x.commas] 82))
  have HG0 := Lib.hid (heap_alloc_new w (.cells #[.string x.word, fnV x.nm, .int .i64 x.kids, .int .i64 x.least, .int .i64 x.most, .bool x.series, .bool x.commas] 82))
  have HXB := Lib.hid (show w.heap.size ≠ b from by have := h.1.lt; omega)
  have HT := Lib.hid ht
  have HC := Lib.hid hc
  have HKB := Lib.hid hkb
  have HCL := Lib.hid hcl
  have HSZ := Lib.hid hsz
  have HBW := Lib.hid hB
  have HLEN := Lib.hid hlen
  clear hk h ht hc hkb hcl hsz hB ih hlen
  obtain ⟨wd, nm, kd, lst, mst, se, co⟩ := x
  go_enter Tryz.func141, Tryz.ntmps141
  go_wp2_with fail
  generalize w.alloc (.cells #[.string wd, fnV nm, .int .i64 kd, .int .i64 lst, .int .i64 mst, .bool se, .bool co] 82) = w0 at HI0 HB0 HKP0 HG0 ⊢
  generalize hxb : w.heap.size = xb at HG0 HXB ⊢
  go_loopg [12] ks.length (fun g u12 wr => ∃ (i : Nat) (si : List UInt8 × ByteArray), u12 = .int .i64 i ∧ i + g = ks.length ∧ foldW s (piecesAt co cs 0 (ks.map pieces)) = foldW si (piecesAt co cs i ((ks.map pieces).drop i)) ∧ WrS B b si wr ∧ si.1.length + sizeP (piecesAt co cs i ((ks.map pieces).drop i)) < 140737488355328 ∧ Below B w0 wr ∧ Kept b w0 wr)
  case atStart => exact ⟨0, s, rfl, by omega, rfl, HI0.out, HSZ.out, Below.refl _ _, Kept.refl _ _⟩
  case round =>
    obtain ⟨i, si, rfl, hi, hf, hw, hs, hb, hkp⟩ := hrel
    have HI := Lib.hid hi
    have HF := Lib.hid hf
    have HW := Lib.hid hw
    have HS := Lib.hid hs
    have HBR := Lib.hid hb
    have HKR := Lib.hid hkp
    clear hi hf hw hs hb hkp
    by_cases hlt : i < ks.length
    · obtain ⟨k, hk⟩ : ∃ k, ks[i]? = some k := ⟨_, List.getElem?_eq_getElem hlt⟩
      obtain ⟨hz, hsm, hld⟩ := HK.out i k hk
      obtain ⟨v, c0, c1, c2, c3, hv⟩ := TrsAt.get _ _ (HT.out.lows HKB.out (HB0.out.trans HBR.out)) i k hk
      have HV := Lib.hid hv
      have HZ := Lib.hid hz
      have HSM := Lib.hid hsm
      have HLD := Lib.hid hld
      have hxh := HKR.out _ _ _ _ HG0.out HXB.out (by decide)
      obtain ⟨x0, x1, x2, x3, x4, x5, x6⟩ := part_cells (x := ⟨wd, nm, kd, lst, mst, se, co⟩) hxh
      have xlt := lt_of_heap hxh
      have HXH := Lib.hid hxh
      have hst : piecesAt co cs i ((ks.map pieces).drop i) = (if 0 < i ∧ co = true then [((cs[i - 1]?).getD ⟨#[]⟩, ⟨#[44]⟩)] else []) ++ pieces k ++ piecesAt co cs (i + 1) ((ks.map pieces).drop (i + 1)) := by
        obtain ⟨hl, he⟩ := List.getElem?_eq_some_iff.1 hk
        rw [List.drop_eq_getElem_cons (by rw [List.length_map]; exact hl), List.getElem_map, he, piecesAt]
      have hi0 : (0 : Int) ≤ (i : Int) := by omega
      have hi1 : (i : Int) < (ks.length : Int) := by omega
      have hi2 : (i : Int) + 1 ≤ 140737488355328 := by have := HLEN.out; omega
      have HLT := Lib.hid hlt
      have hBr : B ≤ wr.heap.size := Nat.le_trans HBW.out (Nat.le_trans HB0.out.size HBR.out.size)
      have HBU := Lib.hid ((Below.refl B wr).alloc hBr (.cells #[.int .i64 v.kind, .string v.text, .slice v.la v.ll v.lc, .slice v.ka v.kl v.kc] 25))
      have HKU := Lib.hid (Kept.alloc b wr (.cells #[.int .i64 v.kind, .string v.text, .slice v.la v.ll v.lc, .slice v.ka v.kl v.kc] 25))
      have HVU := Lib.hid (HV.out.lows HBU.out)
      have HWU := Lib.hid (HW.out.alloc (.cells #[.int .i64 v.kind, .string v.text, .slice v.la v.ll v.lc, .slice v.ka v.kl v.kc] 25))
      have HBS := Lib.hid (Nat.le_trans HBW.out (HB0.out.trans (HBR.out.trans (HBU.out.mono (Nat.le_refl _)))).size)
      clear hv hk hz hsm hld hxh hBr
      by_cases h0 : 0 < i
      · have hg : decide (0 < i) = true := decide_eq_true h0
        rcases Bool.eq_false_or_eq_true co with hco | hco
        rotate_left
        · rw [if_neg (fun e => by rw [hco] at e; cases e.2)] at hst
          rw [hco] at x6
          clear hco
          have HST := Lib.hid hst
          have HSZ2 := Lib.hid (show si.1.length + sizeP (pieces k) < 140737488355328 from by have := HS.out; rw [HST.out, List.nil_append, sizeP_append] at this; omega)
          have HSZ3 := Lib.hid (show (foldW si (pieces k)).1.length + sizeP (piecesAt co cs (i + 1) ((ks.map pieces).drop (i + 1))) < 140737488355328 from by have := HS.out; have h2 := foldW_le (pieces k) si; rw [HST.out, List.nil_append, sizeP_append] at this; omega)
          have HF2 := Lib.hid (show foldW s (piecesAt co cs 0 (ks.map pieces)) = foldW (foldW si (pieces k)) (piecesAt co cs (i + 1) ((ks.map pieces).drop (i + 1))) from by rw [HF.out, HST.out, List.nil_append, foldW_append])
          clear hst h0
          go_wp2_with fail
          go_at_call 108
          refine (HIH.out B b si k v _ HZ.out HVU.out HWU.out HBS.out HSM.out HLD.out HSZ2.out).mono ?_
          rintro e w2 ⟨rfl, h1, h2, h3⟩
          have H1 := Lib.hid h1
          have H2 := Lib.hid ((HBR.out.trans (HBU.out.trans h2)))
          have H3 := Lib.hid ((HKR.out.trans HKU.out).trans h3)
          clear h1 h2 h3
          go_wp2
          go_roundg (gk - 1)
          case measure => have := HI.out; have := HLT.out; omega
          case rel => exact ⟨i + 1, _, by go_num, by have := HI.out; have := HLT.out; omega, HF2.out, H1.out, HSZ3.out, H2.out, H3.out⟩
        · obtain ⟨j, hij⟩ : ∃ j, i = j + 1 := ⟨i - 1, by omega⟩
          obtain ⟨y, hy⟩ : ∃ y, cs[j]? = some y := ⟨_, List.getElem?_eq_getElem (by have := HCL.out hco; omega)⟩
          obtain ⟨cb, cf, hcA, hcb, hcc⟩ := (HC.out.lows (HB0.out.trans (HBR.out.trans HBU.out))) (by intro e; rw [e] at hy; simp at hy)
          have hcy := hcc j y hy
          have hjc : (j : Int) < (cs.length : Int) := by have := (List.getElem?_eq_some_iff.1 hy).1; omega
          have hj0 : (0 : Int) ≤ (j : Int) := by omega
          have hje : (i : Int) - 1 = (j : Int) := by omega
          rw [if_pos ⟨h0, hco⟩, show i - 1 = j from by omega, hy, Option.getD_some] at hst
          rw [hco] at x6
          have HST := Lib.hid hst
          have HIJ := Lib.hid hij
          subst hcA
          clear hst h0 hco hcb hcc hy hij
          have HSZA := Lib.hid (show si.1.length + y.size + (⟨#[44]⟩ : ByteArray).size + 1 < 140737488355328 from by have := HS.out; rw [HST.out, sizeP_append, sizeP_append] at this; simp only [sizeP] at this; omega)
          have HSZ2 := Lib.hid (show (tokW si y ⟨#[44]⟩).1.length + sizeP (pieces k) < 140737488355328 from by have := HS.out; have h2 := foldW_le [(y, ⟨#[44]⟩)] si; rw [HST.out, sizeP_append, sizeP_append] at this; rw [foldW_one] at h2; simp only at h2; omega)
          have HSZ3 := Lib.hid (show (foldW (tokW si y ⟨#[44]⟩) (pieces k)).1.length + sizeP (piecesAt co cs (i + 1) ((ks.map pieces).drop (i + 1))) < 140737488355328 from by have := HS.out; have h2 := foldW_le ([(y, ⟨#[44]⟩)] ++ pieces k) si; rw [HST.out, sizeP_append] at this; rw [foldW_append, foldW_one] at h2; simp only at h2; omega)
          have HF2 := Lib.hid (show foldW s (piecesAt co cs 0 (ks.map pieces)) = foldW (foldW (tokW si y ⟨#[44]⟩) (pieces k)) (piecesAt co cs (i + 1) ((ks.map pieces).drop (i + 1))) from by rw [HF.out, HST.out, foldW_append, foldW_append, foldW_one])
          go_wp2_with fail
          go_at_call 142
          refine (token_wr B b si y ⟨#[44]⟩ _ HWU.out HSZA.out HBS.out).mono ?_
          rintro e w1 ⟨rfl, g1, g2, g3⟩
          have G1 := Lib.hid g1
          have G2 := Lib.hid g2
          have G3 := Lib.hid g3
          have HVU1 := Lib.hid (HVU.out.lows g2)
          have HBS1 := Lib.hid (Nat.le_trans HBS.out g2.size)
          have hgu := G3.out _ _ _ _ (heap_alloc_new wr (.cells #[.int .i64 v.kind, .string v.text, .slice v.la v.ll v.lc, .slice v.ka v.kl v.kc] 25)) (by have := HW.out.1.lt; omega) (by decide)
          have c0 : w1.cell? ⟨wr.heap.size, 0, none⟩ = some (.int .i64 v.kind) := cells_of hgu 0 _ rfl
          have c1 : w1.cell? ⟨wr.heap.size, 1, none⟩ = some (.string v.text) := cells_of hgu 1 _ rfl
          have c2 : w1.cell? ⟨wr.heap.size, 2, none⟩ = some (.slice v.la v.ll v.lc) := cells_of hgu 2 _ rfl
          have c3 : w1.cell? ⟨wr.heap.size, 3, none⟩ = some (.slice v.ka v.kl v.kc) := cells_of hgu 3 _ rfl
          clear g1 g2 g3 hgu
          go_wp2_with fail
          go_at_call 108
          refine (HIH.out B b (tokW si y ⟨#[44]⟩) k v _ HZ.out HVU1.out G1.out HBS1.out HSM.out HLD.out HSZ2.out).mono ?_
          rintro e w2 ⟨rfl, h1, h2, h3⟩
          have H1 := Lib.hid h1
          have H2 := Lib.hid (HBR.out.trans (HBU.out.trans (G2.out.trans h2)))
          have H3 := Lib.hid ((HKR.out.trans HKU.out).trans (G3.out.trans h3))
          clear h1 h2 h3 c0 c1 c2 c3
          go_wp2
          go_roundg (gk - 1)
          case measure => have := HI.out; have := HLT.out; omega
          case rel => exact ⟨i + 1, _, by go_num, by have := HI.out; have := HLT.out; omega, HF2.out, H1.out, HSZ3.out, H2.out, H3.out⟩
      · have hg : decide (0 < i) = false := decide_eq_false h0
        rw [if_neg (fun e => h0 e.1)] at hst
        have HST := Lib.hid hst
        have HSZ2 := Lib.hid (show si.1.length + sizeP (pieces k) < 140737488355328 from by have := HS.out; rw [HST.out, List.nil_append, sizeP_append] at this; omega)
        have HSZ3 := Lib.hid (show (foldW si (pieces k)).1.length + sizeP (piecesAt co cs (i + 1) ((ks.map pieces).drop (i + 1))) < 140737488355328 from by have := HS.out; have h2 := foldW_le (pieces k) si; rw [HST.out, List.nil_append, sizeP_append] at this; omega)
        have HF2 := Lib.hid (show foldW s (piecesAt co cs 0 (ks.map pieces)) = foldW (foldW si (pieces k)) (piecesAt co cs (i + 1) ((ks.map pieces).drop (i + 1))) from by rw [HF.out, HST.out, List.nil_append, foldW_append])
        clear hst h0
        go_wp2_with fail
        go_at_call 108
        refine (HIH.out B b si k v _ HZ.out HVU.out HWU.out HBS.out HSM.out HLD.out HSZ2.out).mono ?_
        rintro e w2 ⟨rfl, h1, h2, h3⟩
        have H1 := Lib.hid h1
        have H2 := Lib.hid ((HBR.out.trans (HBU.out.trans h2)))
        have H3 := Lib.hid ((HKR.out.trans HKU.out).trans h3)
        clear h1 h2 h3
        go_wp2
        go_roundg (gk - 1)
        case measure => have := HI.out; have := HLT.out; omega
        case rel => exact ⟨i + 1, _, by go_num, by have := HI.out; have := HLT.out; omega, HF2.out, H1.out, HSZ3.out, H2.out, H3.out⟩
    · have HE := Lib.hid (show foldW s (piecesAt co cs 0 (ks.map pieces)) = si from by rw [HF.out, List.drop_eq_nil_of_le (by rw [List.length_map]; omega), piecesAt]; rfl)
      have hi1 : ¬ (i : Int) < (ks.length : Int) := by omega
      go_wp2
      go_end0
      rw [HE.out]
      exact ⟨rfl, HW.out, HB0.out.trans HBR.out, HKP0.out.trans HKR.out⟩
set_option maxRecDepth 100000 in
set_option maxHeartbeats 2000000 in
theorem kids_none (B b : Nat) (s : List UInt8 × ByteArray) (A : Option Addr) (c : Nat) (cv : Value) (x : Part) (w : World) (h : WrS B b s w) (hB : B ≤ w.heap.size) :
    Calls Tryz.prog 141 #[.pointer (some ⟨b, 0, none⟩), .slice A 0 c, cv, .agg #[.string x.word, fnV x.nm, .int .i64 x.kids, .int .i64 x.least, .int .i64 x.most, .bool x.series, .bool x.commas]] w fun e w' => e = .returned (.tuple #[]) ∧ WrS B b s w' ∧ Below B w w' ∧ Kept b w w' := by
  have HI0 := Lib.hid (h.alloc (.cells #[.string x.word, fnV x.nm, .int .i64 x.kids, .int .i64 x.least, .int .i64 x.most, .bool x.series, .bool x.commas] 82))
  have HB0 := Lib.hid ((Below.refl B w).alloc hB (.cells #[.string x.word, fnV x.nm, .int .i64 x.kids, .int .i64 x.least, .int .i64 x.most, .bool x.series, .bool x.commas] 82))
  have HKP0 := Lib.hid (Kept.alloc b w (.cells #[.string x.word, fnV x.nm, .int .i64 x.kids, .int .i64 x.least, .int .i64 x.most, .bool x.series, .bool x.commas] 82))
  clear h hB
  go_enter Tryz.func141, Tryz.ntmps141
  go_wp2_with fail
  generalize w.alloc (.cells #[.string x.word, fnV x.nm, .int .i64 x.kids, .int .i64 x.least, .int .i64 x.most, .bool x.series, .bool x.commas] 82) = w0 at HI0 HB0 HKP0 ⊢
  go_loopg [12] 0 (fun _ u12 wr => u12 = .int .i64 0 ∧ wr = w0)
  case atStart => exact ⟨rfl, rfl⟩
  case round =>
    obtain ⟨rfl, rfl⟩ := hrel
    go_wp2
    go_end0
    exact ⟨rfl, HI0.out, HB0.out, HKP0.out⟩
end Go.Proofs.YtpdmklbfbpdneaaGreat
