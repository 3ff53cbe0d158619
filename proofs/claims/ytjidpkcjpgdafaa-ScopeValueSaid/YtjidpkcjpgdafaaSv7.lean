/- Part 7: The contracts of the small functions of package syntax that say what a node consists of. -/
import Derived.Test.YtjidpkcjpgdafaaSv1
import Derived.Test.YtjidpkcjpgdafaaSv6
import Derived.Test.YtjidpkcjpgdafaaSv4
import Derived.Laws.EntriesVeiled
set_option maxRecDepth 100000
set_option maxHeartbeats 4000000
namespace Go.Proofs.Ytjidpkcjpgdafaa
open Go.RowKit
def fnV (n:Nat):Value :=
 match n with
 | 0=>.nilFunc
 | 1=>.func (.func 42) #[] #[]
 | 2=>.func (.func 44) #[] #[]
 | 3=>.func (.func 46) #[] #[]
 | 4=>.func (.func 70) #[] #[]
 | 5=>.func (.func 68) #[] #[]
 | 6=>.func (.func 69) #[] #[]
 | _=>.func (.func 62) #[] #[]
def partL (x:Part):List Value:=[.string x.word,fnV x.nm,.int .i64 x.kids,.int .i64 x.least,.int .i64 x.most,.bool x.series,.bool x.commas]
theorem Qat (s:ByteArray) (w:World):Calls Try.prog 40 #[.string s] w fun e w'=>e = .returned (.agg #[.string s,.nilFunc,.int .i64 0,.int .i64 0,.int .i64 0,.bool false,.bool false]) ∧ Below w.heap.size w w':=by
 go_enter Try.func40,Try.ntmps40
 go_wp2
 exact bodyPost_ret (v:=.agg #[.string s,.nilFunc,.int .i64 0,.int .i64 0,.int .i64 0,.bool false,.bool false]) (by simp [results,Try.results40,go_sem]) rfl ⟨rfl,(xC _ _).alloc (xA _) _⟩
theorem Qau (f:FuncId) (w:World):Calls Try.prog 41 #[.func (.func f) #[] #[]] w fun e w'=>e = .returned (.agg #[.string ⟨#[]⟩,.func (.func f) #[] #[],.int .i64 0,.int .i64 0,.int .i64 0,.bool false,.bool false]) ∧ Below w.heap.size w w':=by
 go_enter Try.func41,Try.ntmps41
 go_wp2
 exact bodyPost_ret (v:=.agg #[.string ⟨#[]⟩,.func (.func f) #[] #[],.int .i64 0,.int .i64 0,.int .i64 0,.bool false,.bool false]) (by simp [results,Try.results41,go_sem]) rfl ⟨rfl,(xC _ _).alloc (xA _) _⟩
theorem Qa6 (s:Int) (w:World):Calls Try.prog 45 #[.int .i64 s] w fun e w'=>e = .returned (.agg #[.string ⟨#[]⟩,.nilFunc,.int .i64 s,.int .i64 0,.int .i64 1,.bool false,.bool false]) ∧ Below w.heap.size w w':=by
 go_enter Try.func45,Try.ntmps45
 go_wp2
 exact bodyPost_ret (v:=.agg #[.string ⟨#[]⟩,.nilFunc,.int .i64 s,.int .i64 0,.int .i64 1,.bool false,.bool false]) (by simp [results,Try.results45,go_sem]) rfl ⟨rfl,(xC _ _).alloc (xA _) _⟩
theorem Qav (s least most:Int) (w:World):Calls Try.prog 43 #[.int .i64 s,.int .i64 least,.int .i64 most] w fun e w'=>e = .returned (.agg #[.string ⟨#[]⟩,.nilFunc,.int .i64 s,.int .i64 least,.int .i64 most,.bool true,.bool (s != 1)]) ∧ Below w.heap.size w w':=by
 go_enter Try.func43,Try.ntmps43
 go_wp2
 exact bodyPost_ret (v:=.agg #[.string ⟨#[]⟩,.nilFunc,.int .i64 s,.int .i64 least,.int .i64 most,.bool true,.bool (s != 1)]) (by simp [results,Try.results43,go_sem]) rfl ⟨rfl,(xC _ _).alloc (xA _) _⟩
def Parts (B:Nat) (w:World) (A:Option Addr) (l:List Part):Prop :=
 l ≠ [] → ∃ b cs,A = some ⟨b,0,none⟩ ∧ B ≤ b ∧ w.heap[b]? = some (.cells cs 69 (0,0)) ∧ cs.toList = l.flatMap partL
theorem Parts.nil (B:Nat) (w:World):Parts B w none []:=fun h=>absurd rfl h
theorem Parts.lit (w:World) (l:List Part) (cs:Array Value) (h:cs.toList = l.flatMap partL) {B:Nat} (hB:B ≤ w.heap.size):Parts B (w.alloc (.cells cs 69)) (some ⟨w.heap.size,0,none⟩) l :=
 fun _=>⟨w.heap.size,cs,rfl,hB,xH w _,h⟩
def Qaj (k:Int) (w:World) (e:Ending) (w':World):Prop :=
 ∃ A c,e = .returned (.slice A (Qae k).length c) ∧ Parts w.heap.size w' A (Qae k) ∧ Below w.heap.size w w'
theorem parts_1 (w:World):Calls Try.prog 23 #[.int .i64 1] w (Qaj 1 w):=by
 go_enter Try.func23,Try.ntmps23
 have HB:=hQ (xC w.heap.size w)
 go_wp2_with (first
  | (go_at_call 40;refine (Qat _ _).mono ?_;rintro e w' ⟨rfl,hb⟩;replace HB:=hQ (HB.out.trans (hb.mono HB.out.size));clear hb)
  | (go_at_call 41;refine (Qau _ _).mono ?_;rintro e w' ⟨rfl,hb⟩;replace HB:=hQ (HB.out.trans (hb.mono HB.out.size));clear hb)
  | (go_at_call 45;refine (Qa6 _ _).mono ?_;rintro e w' ⟨rfl,hb⟩;replace HB:=hQ (HB.out.trans (hb.mono HB.out.size));clear hb)
  | (go_at_call 43;refine (Qav _ _ _ _).mono ?_;rintro e w' ⟨rfl,hb⟩;replace HB:=hQ (HB.out.trans (hb.mono HB.out.size));clear hb))
 go_ret
 exact ⟨some ⟨_,0,none⟩,4,rfl,Parts.lit _ _ _ rfl HB.out.size,HB.out.alloc HB.out.size _⟩
theorem parts_2 (w:World):Calls Try.prog 23 #[.int .i64 2] w (Qaj 2 w):=by
 go_enter Try.func23,Try.ntmps23
 have HB:=hQ (xC w.heap.size w)
 go_wp2_with (first
  | (go_at_call 40;refine (Qat _ _).mono ?_;rintro e w' ⟨rfl,hb⟩;replace HB:=hQ (HB.out.trans (hb.mono HB.out.size));clear hb)
  | (go_at_call 41;refine (Qau _ _).mono ?_;rintro e w' ⟨rfl,hb⟩;replace HB:=hQ (HB.out.trans (hb.mono HB.out.size));clear hb)
  | (go_at_call 45;refine (Qa6 _ _).mono ?_;rintro e w' ⟨rfl,hb⟩;replace HB:=hQ (HB.out.trans (hb.mono HB.out.size));clear hb)
  | (go_at_call 43;refine (Qav _ _ _ _).mono ?_;rintro e w' ⟨rfl,hb⟩;replace HB:=hQ (HB.out.trans (hb.mono HB.out.size));clear hb))
 go_ret
 exact ⟨some ⟨_,0,none⟩,9,rfl,Parts.lit _ _ _ rfl HB.out.size,HB.out.alloc HB.out.size _⟩
theorem parts_3 (w:World):Calls Try.prog 23 #[.int .i64 3] w (Qaj 3 w):=by
 go_enter Try.func23,Try.ntmps23
 have HB:=hQ (xC w.heap.size w)
 go_wp2_with (first
  | (go_at_call 40;refine (Qat _ _).mono ?_;rintro e w' ⟨rfl,hb⟩;replace HB:=hQ (HB.out.trans (hb.mono HB.out.size));clear hb)
  | (go_at_call 41;refine (Qau _ _).mono ?_;rintro e w' ⟨rfl,hb⟩;replace HB:=hQ (HB.out.trans (hb.mono HB.out.size));clear hb)
  | (go_at_call 45;refine (Qa6 _ _).mono ?_;rintro e w' ⟨rfl,hb⟩;replace HB:=hQ (HB.out.trans (hb.mono HB.out.size));clear hb)
  | (go_at_call 43;refine (Qav _ _ _ _).mono ?_;rintro e w' ⟨rfl,hb⟩;replace HB:=hQ (HB.out.trans (hb.mono HB.out.size));clear hb))
 go_ret
 exact ⟨some ⟨_,0,none⟩,4,rfl,Parts.lit _ _ _ rfl HB.out.size,HB.out.alloc HB.out.size _⟩
theorem parts_4 (w:World):Calls Try.prog 23 #[.int .i64 4] w (Qaj 4 w):=by
 go_enter Try.func23,Try.ntmps23
 have HB:=hQ (xC w.heap.size w)
 go_wp2_with (first
  | (go_at_call 40;refine (Qat _ _).mono ?_;rintro e w' ⟨rfl,hb⟩;replace HB:=hQ (HB.out.trans (hb.mono HB.out.size));clear hb)
  | (go_at_call 41;refine (Qau _ _).mono ?_;rintro e w' ⟨rfl,hb⟩;replace HB:=hQ (HB.out.trans (hb.mono HB.out.size));clear hb)
  | (go_at_call 45;refine (Qa6 _ _).mono ?_;rintro e w' ⟨rfl,hb⟩;replace HB:=hQ (HB.out.trans (hb.mono HB.out.size));clear hb)
  | (go_at_call 43;refine (Qav _ _ _ _).mono ?_;rintro e w' ⟨rfl,hb⟩;replace HB:=hQ (HB.out.trans (hb.mono HB.out.size));clear hb))
 go_ret
 exact ⟨some ⟨_,0,none⟩,3,rfl,Parts.lit _ _ _ rfl HB.out.size,HB.out.alloc HB.out.size _⟩
theorem parts_5 (w:World):Calls Try.prog 23 #[.int .i64 5] w (Qaj 5 w):=by
 go_enter Try.func23,Try.ntmps23
 have HB:=hQ (xC w.heap.size w)
 go_wp2_with (first
  | (go_at_call 40;refine (Qat _ _).mono ?_;rintro e w' ⟨rfl,hb⟩;replace HB:=hQ (HB.out.trans (hb.mono HB.out.size));clear hb)
  | (go_at_call 41;refine (Qau _ _).mono ?_;rintro e w' ⟨rfl,hb⟩;replace HB:=hQ (HB.out.trans (hb.mono HB.out.size));clear hb)
  | (go_at_call 45;refine (Qa6 _ _).mono ?_;rintro e w' ⟨rfl,hb⟩;replace HB:=hQ (HB.out.trans (hb.mono HB.out.size));clear hb)
  | (go_at_call 43;refine (Qav _ _ _ _).mono ?_;rintro e w' ⟨rfl,hb⟩;replace HB:=hQ (HB.out.trans (hb.mono HB.out.size));clear hb))
 go_ret
 exact ⟨some ⟨_,0,none⟩,1,rfl,Parts.lit _ _ _ rfl HB.out.size,HB.out.alloc HB.out.size _⟩
theorem parts_6 (w:World):Calls Try.prog 23 #[.int .i64 6] w (Qaj 6 w):=by
 go_enter Try.func23,Try.ntmps23
 have HB:=hQ (xC w.heap.size w)
 go_wp2_with (first
  | (go_at_call 40;refine (Qat _ _).mono ?_;rintro e w' ⟨rfl,hb⟩;replace HB:=hQ (HB.out.trans (hb.mono HB.out.size));clear hb)
  | (go_at_call 41;refine (Qau _ _).mono ?_;rintro e w' ⟨rfl,hb⟩;replace HB:=hQ (HB.out.trans (hb.mono HB.out.size));clear hb)
  | (go_at_call 45;refine (Qa6 _ _).mono ?_;rintro e w' ⟨rfl,hb⟩;replace HB:=hQ (HB.out.trans (hb.mono HB.out.size));clear hb)
  | (go_at_call 43;refine (Qav _ _ _ _).mono ?_;rintro e w' ⟨rfl,hb⟩;replace HB:=hQ (HB.out.trans (hb.mono HB.out.size));clear hb))
 go_ret
 exact ⟨some ⟨_,0,none⟩,1,rfl,Parts.lit _ _ _ rfl HB.out.size,HB.out.alloc HB.out.size _⟩
theorem parts_7 (w:World):Calls Try.prog 23 #[.int .i64 7] w (Qaj 7 w):=by
 go_enter Try.func23,Try.ntmps23
 have HB:=hQ (xC w.heap.size w)
 go_wp2_with (first
  | (go_at_call 40;refine (Qat _ _).mono ?_;rintro e w' ⟨rfl,hb⟩;replace HB:=hQ (HB.out.trans (hb.mono HB.out.size));clear hb)
  | (go_at_call 41;refine (Qau _ _).mono ?_;rintro e w' ⟨rfl,hb⟩;replace HB:=hQ (HB.out.trans (hb.mono HB.out.size));clear hb)
  | (go_at_call 45;refine (Qa6 _ _).mono ?_;rintro e w' ⟨rfl,hb⟩;replace HB:=hQ (HB.out.trans (hb.mono HB.out.size));clear hb)
  | (go_at_call 43;refine (Qav _ _ _ _).mono ?_;rintro e w' ⟨rfl,hb⟩;replace HB:=hQ (HB.out.trans (hb.mono HB.out.size));clear hb))
 go_ret
 exact ⟨some ⟨_,0,none⟩,1,rfl,Parts.lit _ _ _ rfl HB.out.size,HB.out.alloc HB.out.size _⟩
theorem parts_8 (w:World):Calls Try.prog 23 #[.int .i64 8] w (Qaj 8 w):=by
 go_enter Try.func23,Try.ntmps23
 have HB:=hQ (xC w.heap.size w)
 go_wp2_with (first
  | (go_at_call 40;refine (Qat _ _).mono ?_;rintro e w' ⟨rfl,hb⟩;replace HB:=hQ (HB.out.trans (hb.mono HB.out.size));clear hb)
  | (go_at_call 41;refine (Qau _ _).mono ?_;rintro e w' ⟨rfl,hb⟩;replace HB:=hQ (HB.out.trans (hb.mono HB.out.size));clear hb)
  | (go_at_call 45;refine (Qa6 _ _).mono ?_;rintro e w' ⟨rfl,hb⟩;replace HB:=hQ (HB.out.trans (hb.mono HB.out.size));clear hb)
  | (go_at_call 43;refine (Qav _ _ _ _).mono ?_;rintro e w' ⟨rfl,hb⟩;replace HB:=hQ (HB.out.trans (hb.mono HB.out.size));clear hb))
 go_ret
 exact ⟨some ⟨_,0,none⟩,3,rfl,Parts.lit _ _ _ rfl HB.out.size,HB.out.alloc HB.out.size _⟩
theorem parts_9 (w:World):Calls Try.prog 23 #[.int .i64 9] w (Qaj 9 w):=by
 go_enter Try.func23,Try.ntmps23
 have HB:=hQ (xC w.heap.size w)
 go_wp2_with (first
  | (go_at_call 40;refine (Qat _ _).mono ?_;rintro e w' ⟨rfl,hb⟩;replace HB:=hQ (HB.out.trans (hb.mono HB.out.size));clear hb)
  | (go_at_call 41;refine (Qau _ _).mono ?_;rintro e w' ⟨rfl,hb⟩;replace HB:=hQ (HB.out.trans (hb.mono HB.out.size));clear hb)
  | (go_at_call 45;refine (Qa6 _ _).mono ?_;rintro e w' ⟨rfl,hb⟩;replace HB:=hQ (HB.out.trans (hb.mono HB.out.size));clear hb)
  | (go_at_call 43;refine (Qav _ _ _ _).mono ?_;rintro e w' ⟨rfl,hb⟩;replace HB:=hQ (HB.out.trans (hb.mono HB.out.size));clear hb))
 go_ret
 exact ⟨some ⟨_,0,none⟩,1,rfl,Parts.lit _ _ _ rfl HB.out.size,HB.out.alloc HB.out.size _⟩
theorem eparts_10 (w:World):Calls Try.prog 47 #[.int .i64 10] w (Qaj 10 w):=by
 go_enter Try.func47,Try.ntmps47
 have HB:=hQ (xC w.heap.size w)
 go_wp2_with (first
  | (go_at_call 40;refine (Qat _ _).mono ?_;rintro e w' ⟨rfl,hb⟩;replace HB:=hQ (HB.out.trans (hb.mono HB.out.size));clear hb)
  | (go_at_call 41;refine (Qau _ _).mono ?_;rintro e w' ⟨rfl,hb⟩;replace HB:=hQ (HB.out.trans (hb.mono HB.out.size));clear hb)
  | (go_at_call 45;refine (Qa6 _ _).mono ?_;rintro e w' ⟨rfl,hb⟩;replace HB:=hQ (HB.out.trans (hb.mono HB.out.size));clear hb)
  | (go_at_call 43;refine (Qav _ _ _ _).mono ?_;rintro e w' ⟨rfl,hb⟩;replace HB:=hQ (HB.out.trans (hb.mono HB.out.size));clear hb))
 go_ret
 exact ⟨some ⟨_,0,none⟩,1,rfl,Parts.lit _ _ _ rfl HB.out.size,HB.out.alloc HB.out.size _⟩
theorem eparts_11 (w:World):Calls Try.prog 47 #[.int .i64 11] w (Qaj 11 w):=by
 go_enter Try.func47,Try.ntmps47
 have HB:=hQ (xC w.heap.size w)
 go_wp2_with (first
  | (go_at_call 40;refine (Qat _ _).mono ?_;rintro e w' ⟨rfl,hb⟩;replace HB:=hQ (HB.out.trans (hb.mono HB.out.size));clear hb)
  | (go_at_call 41;refine (Qau _ _).mono ?_;rintro e w' ⟨rfl,hb⟩;replace HB:=hQ (HB.out.trans (hb.mono HB.out.size));clear hb)
  | (go_at_call 45;refine (Qa6 _ _).mono ?_;rintro e w' ⟨rfl,hb⟩;replace HB:=hQ (HB.out.trans (hb.mono HB.out.size));clear hb)
  | (go_at_call 43;refine (Qav _ _ _ _).mono ?_;rintro e w' ⟨rfl,hb⟩;replace HB:=hQ (HB.out.trans (hb.mono HB.out.size));clear hb))
 go_ret
 exact ⟨some ⟨_,0,none⟩,1,rfl,Parts.lit _ _ _ rfl HB.out.size,HB.out.alloc HB.out.size _⟩
theorem eparts_12 (w:World):Calls Try.prog 47 #[.int .i64 12] w (Qaj 12 w):=by
 go_enter Try.func47,Try.ntmps47
 have HB:=hQ (xC w.heap.size w)
 go_wp2_with (first
  | (go_at_call 40;refine (Qat _ _).mono ?_;rintro e w' ⟨rfl,hb⟩;replace HB:=hQ (HB.out.trans (hb.mono HB.out.size));clear hb)
  | (go_at_call 41;refine (Qau _ _).mono ?_;rintro e w' ⟨rfl,hb⟩;replace HB:=hQ (HB.out.trans (hb.mono HB.out.size));clear hb)
  | (go_at_call 45;refine (Qa6 _ _).mono ?_;rintro e w' ⟨rfl,hb⟩;replace HB:=hQ (HB.out.trans (hb.mono HB.out.size));clear hb)
  | (go_at_call 43;refine (Qav _ _ _ _).mono ?_;rintro e w' ⟨rfl,hb⟩;replace HB:=hQ (HB.out.trans (hb.mono HB.out.size));clear hb))
 go_ret
 exact ⟨some ⟨_,0,none⟩,1,rfl,Parts.lit _ _ _ rfl HB.out.size,HB.out.alloc HB.out.size _⟩
theorem eparts_13 (w:World):Calls Try.prog 47 #[.int .i64 13] w (Qaj 13 w):=by
 go_enter Try.func47,Try.ntmps47
 have HB:=hQ (xC w.heap.size w)
 go_wp2_with (first
  | (go_at_call 40;refine (Qat _ _).mono ?_;rintro e w' ⟨rfl,hb⟩;replace HB:=hQ (HB.out.trans (hb.mono HB.out.size));clear hb)
  | (go_at_call 41;refine (Qau _ _).mono ?_;rintro e w' ⟨rfl,hb⟩;replace HB:=hQ (HB.out.trans (hb.mono HB.out.size));clear hb)
  | (go_at_call 45;refine (Qa6 _ _).mono ?_;rintro e w' ⟨rfl,hb⟩;replace HB:=hQ (HB.out.trans (hb.mono HB.out.size));clear hb)
  | (go_at_call 43;refine (Qav _ _ _ _).mono ?_;rintro e w' ⟨rfl,hb⟩;replace HB:=hQ (HB.out.trans (hb.mono HB.out.size));clear hb))
 go_ret
 exact ⟨some ⟨_,0,none⟩,1,rfl,Parts.lit _ _ _ rfl HB.out.size,HB.out.alloc HB.out.size _⟩
theorem eparts_14 (w:World):Calls Try.prog 47 #[.int .i64 14] w (Qaj 14 w):=by
 go_enter Try.func47,Try.ntmps47
 have HB:=hQ (xC w.heap.size w)
 go_wp2_with (first
  | (go_at_call 40;refine (Qat _ _).mono ?_;rintro e w' ⟨rfl,hb⟩;replace HB:=hQ (HB.out.trans (hb.mono HB.out.size));clear hb)
  | (go_at_call 41;refine (Qau _ _).mono ?_;rintro e w' ⟨rfl,hb⟩;replace HB:=hQ (HB.out.trans (hb.mono HB.out.size));clear hb)
  | (go_at_call 45;refine (Qa6 _ _).mono ?_;rintro e w' ⟨rfl,hb⟩;replace HB:=hQ (HB.out.trans (hb.mono HB.out.size));clear hb)
  | (go_at_call 43;refine (Qav _ _ _ _).mono ?_;rintro e w' ⟨rfl,hb⟩;replace HB:=hQ (HB.out.trans (hb.mono HB.out.size));clear hb))
 go_ret
 exact ⟨some ⟨_,0,none⟩,1,rfl,Parts.lit _ _ _ rfl HB.out.size,HB.out.alloc HB.out.size _⟩
theorem eparts_15 (w:World):Calls Try.prog 47 #[.int .i64 15] w (Qaj 15 w):=by
 go_enter Try.func47,Try.ntmps47
 have HB:=hQ (xC w.heap.size w)
 go_wp2_with (first
  | (go_at_call 40;refine (Qat _ _).mono ?_;rintro e w' ⟨rfl,hb⟩;replace HB:=hQ (HB.out.trans (hb.mono HB.out.size));clear hb)
  | (go_at_call 41;refine (Qau _ _).mono ?_;rintro e w' ⟨rfl,hb⟩;replace HB:=hQ (HB.out.trans (hb.mono HB.out.size));clear hb)
  | (go_at_call 45;refine (Qa6 _ _).mono ?_;rintro e w' ⟨rfl,hb⟩;replace HB:=hQ (HB.out.trans (hb.mono HB.out.size));clear hb)
  | (go_at_call 43;refine (Qav _ _ _ _).mono ?_;rintro e w' ⟨rfl,hb⟩;replace HB:=hQ (HB.out.trans (hb.mono HB.out.size));clear hb))
 go_ret
 exact ⟨some ⟨_,0,none⟩,1,rfl,Parts.lit _ _ _ rfl HB.out.size,HB.out.alloc HB.out.size _⟩
theorem eparts_16 (w:World):Calls Try.prog 47 #[.int .i64 16] w (Qaj 16 w):=by
 go_enter Try.func47,Try.ntmps47
 have HB:=hQ (xC w.heap.size w)
 go_wp2_with (first
  | (go_at_call 40;refine (Qat _ _).mono ?_;rintro e w' ⟨rfl,hb⟩;replace HB:=hQ (HB.out.trans (hb.mono HB.out.size));clear hb)
  | (go_at_call 41;refine (Qau _ _).mono ?_;rintro e w' ⟨rfl,hb⟩;replace HB:=hQ (HB.out.trans (hb.mono HB.out.size));clear hb)
  | (go_at_call 45;refine (Qa6 _ _).mono ?_;rintro e w' ⟨rfl,hb⟩;replace HB:=hQ (HB.out.trans (hb.mono HB.out.size));clear hb)
  | (go_at_call 43;refine (Qav _ _ _ _).mono ?_;rintro e w' ⟨rfl,hb⟩;replace HB:=hQ (HB.out.trans (hb.mono HB.out.size));clear hb))
 go_ret
 exact ⟨some ⟨_,0,none⟩,4,rfl,Parts.lit _ _ _ rfl HB.out.size,HB.out.alloc HB.out.size _⟩
theorem eparts_17 (w:World):Calls Try.prog 47 #[.int .i64 17] w (Qaj 17 w):=by
 go_enter Try.func47,Try.ntmps47
 have HB:=hQ (xC w.heap.size w)
 go_wp2_with (first
  | (go_at_call 40;refine (Qat _ _).mono ?_;rintro e w' ⟨rfl,hb⟩;replace HB:=hQ (HB.out.trans (hb.mono HB.out.size));clear hb)
  | (go_at_call 41;refine (Qau _ _).mono ?_;rintro e w' ⟨rfl,hb⟩;replace HB:=hQ (HB.out.trans (hb.mono HB.out.size));clear hb)
  | (go_at_call 45;refine (Qa6 _ _).mono ?_;rintro e w' ⟨rfl,hb⟩;replace HB:=hQ (HB.out.trans (hb.mono HB.out.size));clear hb)
  | (go_at_call 43;refine (Qav _ _ _ _).mono ?_;rintro e w' ⟨rfl,hb⟩;replace HB:=hQ (HB.out.trans (hb.mono HB.out.size));clear hb))
 go_ret
 exact ⟨some ⟨_,0,none⟩,1,rfl,Parts.lit _ _ _ rfl HB.out.size,HB.out.alloc HB.out.size _⟩
theorem eparts_18 (w:World):Calls Try.prog 47 #[.int .i64 18] w (Qaj 18 w):=by
 go_enter Try.func47,Try.ntmps47
 have HB:=hQ (xC w.heap.size w)
 go_wp2_with (first
  | (go_at_call 40;refine (Qat _ _).mono ?_;rintro e w' ⟨rfl,hb⟩;replace HB:=hQ (HB.out.trans (hb.mono HB.out.size));clear hb)
  | (go_at_call 41;refine (Qau _ _).mono ?_;rintro e w' ⟨rfl,hb⟩;replace HB:=hQ (HB.out.trans (hb.mono HB.out.size));clear hb)
  | (go_at_call 45;refine (Qa6 _ _).mono ?_;rintro e w' ⟨rfl,hb⟩;replace HB:=hQ (HB.out.trans (hb.mono HB.out.size));clear hb)
  | (go_at_call 43;refine (Qav _ _ _ _).mono ?_;rintro e w' ⟨rfl,hb⟩;replace HB:=hQ (HB.out.trans (hb.mono HB.out.size));clear hb))
 go_ret
 exact ⟨some ⟨_,0,none⟩,3,rfl,Parts.lit _ _ _ rfl HB.out.size,HB.out.alloc HB.out.size _⟩
theorem eparts_19 (w:World):Calls Try.prog 47 #[.int .i64 19] w (Qaj 19 w):=by
 go_enter Try.func47,Try.ntmps47
 have HB:=hQ (xC w.heap.size w)
 go_wp2_with (first
  | (go_at_call 40;refine (Qat _ _).mono ?_;rintro e w' ⟨rfl,hb⟩;replace HB:=hQ (HB.out.trans (hb.mono HB.out.size));clear hb)
  | (go_at_call 41;refine (Qau _ _).mono ?_;rintro e w' ⟨rfl,hb⟩;replace HB:=hQ (HB.out.trans (hb.mono HB.out.size));clear hb)
  | (go_at_call 45;refine (Qa6 _ _).mono ?_;rintro e w' ⟨rfl,hb⟩;replace HB:=hQ (HB.out.trans (hb.mono HB.out.size));clear hb)
  | (go_at_call 43;refine (Qav _ _ _ _).mono ?_;rintro e w' ⟨rfl,hb⟩;replace HB:=hQ (HB.out.trans (hb.mono HB.out.size));clear hb))
 go_ret
 exact ⟨some ⟨_,0,none⟩,6,rfl,Parts.lit _ _ _ rfl HB.out.size,HB.out.alloc HB.out.size _⟩
theorem eparts_20 (w:World):Calls Try.prog 47 #[.int .i64 20] w (Qaj 20 w):=by
 go_enter Try.func47,Try.ntmps47
 have HB:=hQ (xC w.heap.size w)
 go_wp2_with (first
  | (go_at_call 40;refine (Qat _ _).mono ?_;rintro e w' ⟨rfl,hb⟩;replace HB:=hQ (HB.out.trans (hb.mono HB.out.size));clear hb)
  | (go_at_call 41;refine (Qau _ _).mono ?_;rintro e w' ⟨rfl,hb⟩;replace HB:=hQ (HB.out.trans (hb.mono HB.out.size));clear hb)
  | (go_at_call 45;refine (Qa6 _ _).mono ?_;rintro e w' ⟨rfl,hb⟩;replace HB:=hQ (HB.out.trans (hb.mono HB.out.size));clear hb)
  | (go_at_call 43;refine (Qav _ _ _ _).mono ?_;rintro e w' ⟨rfl,hb⟩;replace HB:=hQ (HB.out.trans (hb.mono HB.out.size));clear hb))
 go_ret
 exact ⟨some ⟨_,0,none⟩,6,rfl,Parts.lit _ _ _ rfl HB.out.size,HB.out.alloc HB.out.size _⟩
theorem eparts_21 (w:World):Calls Try.prog 47 #[.int .i64 21] w (Qaj 21 w):=by
 go_enter Try.func47,Try.ntmps47
 have HB:=hQ (xC w.heap.size w)
 go_wp2_with (first
  | (go_at_call 40;refine (Qat _ _).mono ?_;rintro e w' ⟨rfl,hb⟩;replace HB:=hQ (HB.out.trans (hb.mono HB.out.size));clear hb)
  | (go_at_call 41;refine (Qau _ _).mono ?_;rintro e w' ⟨rfl,hb⟩;replace HB:=hQ (HB.out.trans (hb.mono HB.out.size));clear hb)
  | (go_at_call 45;refine (Qa6 _ _).mono ?_;rintro e w' ⟨rfl,hb⟩;replace HB:=hQ (HB.out.trans (hb.mono HB.out.size));clear hb)
  | (go_at_call 43;refine (Qav _ _ _ _).mono ?_;rintro e w' ⟨rfl,hb⟩;replace HB:=hQ (HB.out.trans (hb.mono HB.out.size));clear hb))
 go_ret
 exact ⟨some ⟨_,0,none⟩,3,rfl,Parts.lit _ _ _ rfl HB.out.size,HB.out.alloc HB.out.size _⟩
theorem eparts_22 (w:World):Calls Try.prog 47 #[.int .i64 22] w (Qaj 22 w):=by
 go_enter Try.func47,Try.ntmps47
 have HB:=hQ (xC w.heap.size w)
 go_wp2_with (first
  | (go_at_call 40;refine (Qat _ _).mono ?_;rintro e w' ⟨rfl,hb⟩;replace HB:=hQ (HB.out.trans (hb.mono HB.out.size));clear hb)
  | (go_at_call 41;refine (Qau _ _).mono ?_;rintro e w' ⟨rfl,hb⟩;replace HB:=hQ (HB.out.trans (hb.mono HB.out.size));clear hb)
  | (go_at_call 45;refine (Qa6 _ _).mono ?_;rintro e w' ⟨rfl,hb⟩;replace HB:=hQ (HB.out.trans (hb.mono HB.out.size));clear hb)
  | (go_at_call 43;refine (Qav _ _ _ _).mono ?_;rintro e w' ⟨rfl,hb⟩;replace HB:=hQ (HB.out.trans (hb.mono HB.out.size));clear hb))
 go_ret
 exact ⟨some ⟨_,0,none⟩,3,rfl,Parts.lit _ _ _ rfl HB.out.size,HB.out.alloc HB.out.size _⟩
theorem partsP_none {k:Int} (h:k ≤ 0 ∨ 23 ≤ k):Qae k = []:=by
 unfold Qae
 simp only [show k ≠ 1 from by omega,show k ≠ 2 from by omega,show k ≠ 3 from by omega,show k ≠ 4 from by omega,show k ≠ 5 from by omega,show k ≠ 6 from by omega,show k ≠ 7 from by omega,show k ≠ 8 from by omega,show k ≠ 9 from by omega,show k ≠ 10 from by omega,show k ≠ 11 from by omega,show k ≠ 12 from by omega,show k ≠ 13 from by omega,show k ≠ 14 from by omega,show k ≠ 15 from by omega,show k ≠ 16 from by omega,show k ≠ 17 from by omega,show k ≠ 18 from by omega,show k ≠ 19 from by omega,show k ≠ 20 from by omega,show k ≠ 21 from by omega,show k ≠ 22 from by omega,if_false]
theorem beqF {a b:Int} (h:a ≠ b):(a == b) = false:=by simpa using h
theorem eparts_none (k:Int) (w:World) (h:k ≤ 0 ∨ 23 ≤ k):Calls Try.prog 47 #[.int .i64 k] w (Qaj k w):=by
 have e10:=beqF (show k ≠ 10 from by omega)
 have e11:=beqF (show k ≠ 11 from by omega)
 have e12:=beqF (show k ≠ 12 from by omega)
 have e13:=beqF (show k ≠ 13 from by omega)
 have e14:=beqF (show k ≠ 14 from by omega)
 have e15:=beqF (show k ≠ 15 from by omega)
 have e16:=beqF (show k ≠ 16 from by omega)
 have e17:=beqF (show k ≠ 17 from by omega)
 have e18:=beqF (show k ≠ 18 from by omega)
 have e19:=beqF (show k ≠ 19 from by omega)
 have e20:=beqF (show k ≠ 20 from by omega)
 have e21:=beqF (show k ≠ 21 from by omega)
 have e22:=beqF (show k ≠ 22 from by omega)
 have HP:=hQ (partsP_none h)
 clear h
 go_enter Try.func47,Try.ntmps47
 go_wp2
 go_ret
 exact ⟨none,0,by rw [HP.out];rfl,by rw [HP.out];exact Parts.nil _ _,xC _ _⟩
theorem eparts_any (k:Int) (w:World) (h:k ≤ 0 ∨ 10 ≤ k):Calls Try.prog 47 #[.int .i64 k] w (Qaj k w):=by
 by_cases e10:k = 10
 ·subst e10
  exact eparts_10 w
 by_cases e11:k = 11
 ·subst e11
  exact eparts_11 w
 by_cases e12:k = 12
 ·subst e12
  exact eparts_12 w
 by_cases e13:k = 13
 ·subst e13
  exact eparts_13 w
 by_cases e14:k = 14
 ·subst e14
  exact eparts_14 w
 by_cases e15:k = 15
 ·subst e15
  exact eparts_15 w
 by_cases e16:k = 16
 ·subst e16
  exact eparts_16 w
 by_cases e17:k = 17
 ·subst e17
  exact eparts_17 w
 by_cases e18:k = 18
 ·subst e18
  exact eparts_18 w
 by_cases e19:k = 19
 ·subst e19
  exact eparts_19 w
 by_cases e20:k = 20
 ·subst e20
  exact eparts_20 w
 by_cases e21:k = 21
 ·subst e21
  exact eparts_21 w
 by_cases e22:k = 22
 ·subst e22
  exact eparts_22 w
 exact eparts_none k w (by omega)
theorem parts_far (k:Int) (w:World) (h:k ≤ 0 ∨ 10 ≤ k):Calls Try.prog 23 #[.int .i64 k] w (Qaj k w):=by
 have e1:=beqF (show k ≠ 1 from by omega)
 have e2:=beqF (show k ≠ 2 from by omega)
 have e3:=beqF (show k ≠ 3 from by omega)
 have e4:=beqF (show k ≠ 4 from by omega)
 have e5:=beqF (show k ≠ 5 from by omega)
 have e6:=beqF (show k ≠ 6 from by omega)
 have e7:=beqF (show k ≠ 7 from by omega)
 have e8:=beqF (show k ≠ 8 from by omega)
 have e9:=beqF (show k ≠ 9 from by omega)
 have HK:=hQ h
 clear h
 go_enter Try.func23,Try.ntmps23
 go_wp2_with (go_at_call 47;refine (eparts_any _ _ HK.out).mono ?_;rintro e w' ⟨A,c,rfl,hp,hb⟩)
 go_ret
 exact ⟨A,c,rfl,hp,hb⟩
theorem Qc0 (k:Int) (w:World):Calls Try.prog 23 #[.int .i64 k] w (Qaj k w):=by
 by_cases e1:k = 1
 ·subst e1
  exact parts_1 w
 by_cases e2:k = 2
 ·subst e2
  exact parts_2 w
 by_cases e3:k = 3
 ·subst e3
  exact parts_3 w
 by_cases e4:k = 4
 ·subst e4
  exact parts_4 w
 by_cases e5:k = 5
 ·subst e5
  exact parts_5 w
 by_cases e6:k = 6
 ·subst e6
  exact parts_6 w
 by_cases e7:k = 7
 ·subst e7
  exact parts_7 w
 by_cases e8:k = 8
 ·subst e8
  exact parts_8 w
 by_cases e9:k = 9
 ·subst e9
  exact parts_9 w
 exact parts_far k w (by omega)
end Go.Proofs.Ytjidpkcjpgdafaa
