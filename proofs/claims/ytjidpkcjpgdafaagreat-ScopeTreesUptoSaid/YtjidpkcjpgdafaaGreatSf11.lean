/- Part 11 -/
import Derived.Test.YtjidpkcjpgdafaaGreatSf4
import Derived.Test.YtjidpkcjpgdafaaGreatSf10
import Derived.Laws.EntriesVeiled
set_option maxRecDepth 100000
set_option maxHeartbeats 4000000
namespace Go.Proofs.YtjidpkcjpgdafaaGreat
open Go.RowKit
def fnV (n:Nat):Value :=
 match n with
 | 0=>.nilFunc
 | 1=>.func (.func 174) #[] #[]
 | 2=>.func (.func 176) #[] #[]
 | 3=>.func (.func 178) #[] #[]
 | 4=>.func (.func 223) #[] #[]
 | 5=>.func (.func 221) #[] #[]
 | 6=>.func (.func 222) #[] #[]
 | _=>.func (.func 184) #[] #[]
def Qm4 (x:Part):List Value:=[.string x.word,fnV x.nm,.int .i64 x.kids,.int .i64 x.least,.int .i64 x.most,.bool x.series,.bool x.commas]
theorem Qbp (s:ByteArray) (w:World):Calls Tryz.prog 172 #[.string s] w fun e w'=>e = .returned (.agg #[.string s,.nilFunc,.int .i64 0,.int .i64 0,.int .i64 0,.bool false,.bool false])∧Below w.heap.size w w':=by
 go_enter Tryz.func172,Tryz.ntmps172
 go_wp2
 exact bodyPost_ret (v:=.agg #[.string s,.nilFunc,.int .i64 0,.int .i64 0,.int .i64 0,.bool false,.bool false]) (by simp [results,Tryz.results172,go_sem]) rfl ⟨rfl,(xC _ _).alloc (xA _) _⟩
theorem Qbq (f:FuncId) (w:World):Calls Tryz.prog 173 #[.func (.func f) #[] #[]] w fun e w'=>e = .returned (.agg #[.string ⟨#[]⟩,.func (.func f) #[] #[],.int .i64 0,.int .i64 0,.int .i64 0,.bool false,.bool false])∧Below w.heap.size w w':=by
 go_enter Tryz.func173,Tryz.ntmps173
 go_wp2
 exact bodyPost_ret (v:=.agg #[.string ⟨#[]⟩,.func (.func f) #[] #[],.int .i64 0,.int .i64 0,.int .i64 0,.bool false,.bool false]) (by simp [results,Tryz.results173,go_sem]) rfl ⟨rfl,(xC _ _).alloc (xA _) _⟩
theorem Qb9 (s:Int) (w:World):Calls Tryz.prog 177 #[.int .i64 s] w fun e w'=>e = .returned (.agg #[.string ⟨#[]⟩,.nilFunc,.int .i64 s,.int .i64 0,.int .i64 1,.bool false,.bool false])∧Below w.heap.size w w':=by
 go_enter Tryz.func177,Tryz.ntmps177
 go_wp2
 exact bodyPost_ret (v:=.agg #[.string ⟨#[]⟩,.nilFunc,.int .i64 s,.int .i64 0,.int .i64 1,.bool false,.bool false]) (by simp [results,Tryz.results177,go_sem]) rfl ⟨rfl,(xC _ _).alloc (xA _) _⟩
theorem Qbr (s least most:Int) (w:World):Calls Tryz.prog 175 #[.int .i64 s,.int .i64 least,.int .i64 most] w fun e w'=>e = .returned (.agg #[.string ⟨#[]⟩,.nilFunc,.int .i64 s,.int .i64 least,.int .i64 most,.bool true,.bool (s != 1)])∧Below w.heap.size w w':=by
 go_enter Tryz.func175,Tryz.ntmps175
 go_wp2
 exact bodyPost_ret (v:=.agg #[.string ⟨#[]⟩,.nilFunc,.int .i64 s,.int .i64 least,.int .i64 most,.bool true,.bool (s != 1)]) (by simp [results,Tryz.results175,go_sem]) rfl ⟨rfl,(xC _ _).alloc (xA _) _⟩
def Parts (B:Nat) (w:World) (A:Option Addr) (l:List Part):Prop :=
 l≠[]→∃ b cs,A=some ⟨b,0,none⟩∧B≤b∧w.heap[b]? = some (.cells cs 176 (0,0))∧cs.toList=l.flatMap Qm4
theorem Parts.nil (B:Nat) (w:World):Parts B w none []:=fun h=>absurd rfl h
theorem Parts.lit (w:World) (l:List Part) (cs:Array Value) (h:cs.toList=l.flatMap Qm4) {B:Nat} (hB:B≤w.heap.size):Parts B (w.alloc (.cells cs 176)) (some ⟨w.heap.size,0,none⟩) l :=
 fun _=>⟨w.heap.size,cs,rfl,hB,xH w _,h⟩
def Qaw (k:Int) (w:World) (e:Ending) (w':World):Prop :=
 ∃ A c,e = .returned (.slice A (Qae k).length c)∧Parts w.heap.size w' A (Qae k)∧Below w.heap.size w w'
theorem Qxu (w:World):Calls Tryz.prog 124 #[.int .i64 1] w (Qaw 1 w):=by
 go_enter Tryz.func124,Tryz.ntmps124
 have HB:=hQ (xC w.heap.size w)
 go_wp2_with (first
  | (go_at_call 172;refine (Qbp _ _).mono ?_;rintro e w' ⟨rfl,hb⟩;replace HB:=hQ (HB.out.trans (hb.mono HB.out.size));clear hb)
  | (go_at_call 173;refine (Qbq _ _).mono ?_;rintro e w' ⟨rfl,hb⟩;replace HB:=hQ (HB.out.trans (hb.mono HB.out.size));clear hb)
  | (go_at_call 177;refine (Qb9 _ _).mono ?_;rintro e w' ⟨rfl,hb⟩;replace HB:=hQ (HB.out.trans (hb.mono HB.out.size));clear hb)
  | (go_at_call 175;refine (Qbr _ _ _ _).mono ?_;rintro e w' ⟨rfl,hb⟩;replace HB:=hQ (HB.out.trans (hb.mono HB.out.size));clear hb))
 go_ret
 exact ⟨some ⟨_,0,none⟩,4,rfl,Parts.lit _ _ _ rfl HB.out.size,HB.out.alloc HB.out.size _⟩
theorem Qxv (w:World):Calls Tryz.prog 124 #[.int .i64 2] w (Qaw 2 w):=by
 go_enter Tryz.func124,Tryz.ntmps124
 have HB:=hQ (xC w.heap.size w)
 go_wp2_with (first
  | (go_at_call 172;refine (Qbp _ _).mono ?_;rintro e w' ⟨rfl,hb⟩;replace HB:=hQ (HB.out.trans (hb.mono HB.out.size));clear hb)
  | (go_at_call 173;refine (Qbq _ _).mono ?_;rintro e w' ⟨rfl,hb⟩;replace HB:=hQ (HB.out.trans (hb.mono HB.out.size));clear hb)
  | (go_at_call 177;refine (Qb9 _ _).mono ?_;rintro e w' ⟨rfl,hb⟩;replace HB:=hQ (HB.out.trans (hb.mono HB.out.size));clear hb)
  | (go_at_call 175;refine (Qbr _ _ _ _).mono ?_;rintro e w' ⟨rfl,hb⟩;replace HB:=hQ (HB.out.trans (hb.mono HB.out.size));clear hb))
 go_ret
 exact ⟨some ⟨_,0,none⟩,9,rfl,Parts.lit _ _ _ rfl HB.out.size,HB.out.alloc HB.out.size _⟩
theorem Qxw (w:World):Calls Tryz.prog 124 #[.int .i64 3] w (Qaw 3 w):=by
 go_enter Tryz.func124,Tryz.ntmps124
 have HB:=hQ (xC w.heap.size w)
 go_wp2_with (first
  | (go_at_call 172;refine (Qbp _ _).mono ?_;rintro e w' ⟨rfl,hb⟩;replace HB:=hQ (HB.out.trans (hb.mono HB.out.size));clear hb)
  | (go_at_call 173;refine (Qbq _ _).mono ?_;rintro e w' ⟨rfl,hb⟩;replace HB:=hQ (HB.out.trans (hb.mono HB.out.size));clear hb)
  | (go_at_call 177;refine (Qb9 _ _).mono ?_;rintro e w' ⟨rfl,hb⟩;replace HB:=hQ (HB.out.trans (hb.mono HB.out.size));clear hb)
  | (go_at_call 175;refine (Qbr _ _ _ _).mono ?_;rintro e w' ⟨rfl,hb⟩;replace HB:=hQ (HB.out.trans (hb.mono HB.out.size));clear hb))
 go_ret
 exact ⟨some ⟨_,0,none⟩,4,rfl,Parts.lit _ _ _ rfl HB.out.size,HB.out.alloc HB.out.size _⟩
theorem Qxx (w:World):Calls Tryz.prog 124 #[.int .i64 4] w (Qaw 4 w):=by
 go_enter Tryz.func124,Tryz.ntmps124
 have HB:=hQ (xC w.heap.size w)
 go_wp2_with (first
  | (go_at_call 172;refine (Qbp _ _).mono ?_;rintro e w' ⟨rfl,hb⟩;replace HB:=hQ (HB.out.trans (hb.mono HB.out.size));clear hb)
  | (go_at_call 173;refine (Qbq _ _).mono ?_;rintro e w' ⟨rfl,hb⟩;replace HB:=hQ (HB.out.trans (hb.mono HB.out.size));clear hb)
  | (go_at_call 177;refine (Qb9 _ _).mono ?_;rintro e w' ⟨rfl,hb⟩;replace HB:=hQ (HB.out.trans (hb.mono HB.out.size));clear hb)
  | (go_at_call 175;refine (Qbr _ _ _ _).mono ?_;rintro e w' ⟨rfl,hb⟩;replace HB:=hQ (HB.out.trans (hb.mono HB.out.size));clear hb))
 go_ret
 exact ⟨some ⟨_,0,none⟩,3,rfl,Parts.lit _ _ _ rfl HB.out.size,HB.out.alloc HB.out.size _⟩
theorem Qxy (w:World):Calls Tryz.prog 124 #[.int .i64 5] w (Qaw 5 w):=by
 go_enter Tryz.func124,Tryz.ntmps124
 have HB:=hQ (xC w.heap.size w)
 go_wp2_with (first
  | (go_at_call 172;refine (Qbp _ _).mono ?_;rintro e w' ⟨rfl,hb⟩;replace HB:=hQ (HB.out.trans (hb.mono HB.out.size));clear hb)
  | (go_at_call 173;refine (Qbq _ _).mono ?_;rintro e w' ⟨rfl,hb⟩;replace HB:=hQ (HB.out.trans (hb.mono HB.out.size));clear hb)
  | (go_at_call 177;refine (Qb9 _ _).mono ?_;rintro e w' ⟨rfl,hb⟩;replace HB:=hQ (HB.out.trans (hb.mono HB.out.size));clear hb)
  | (go_at_call 175;refine (Qbr _ _ _ _).mono ?_;rintro e w' ⟨rfl,hb⟩;replace HB:=hQ (HB.out.trans (hb.mono HB.out.size));clear hb))
 go_ret
 exact ⟨some ⟨_,0,none⟩,1,rfl,Parts.lit _ _ _ rfl HB.out.size,HB.out.alloc HB.out.size _⟩
theorem Qxz (w:World):Calls Tryz.prog 124 #[.int .i64 6] w (Qaw 6 w):=by
 go_enter Tryz.func124,Tryz.ntmps124
 have HB:=hQ (xC w.heap.size w)
 go_wp2_with (first
  | (go_at_call 172;refine (Qbp _ _).mono ?_;rintro e w' ⟨rfl,hb⟩;replace HB:=hQ (HB.out.trans (hb.mono HB.out.size));clear hb)
  | (go_at_call 173;refine (Qbq _ _).mono ?_;rintro e w' ⟨rfl,hb⟩;replace HB:=hQ (HB.out.trans (hb.mono HB.out.size));clear hb)
  | (go_at_call 177;refine (Qb9 _ _).mono ?_;rintro e w' ⟨rfl,hb⟩;replace HB:=hQ (HB.out.trans (hb.mono HB.out.size));clear hb)
  | (go_at_call 175;refine (Qbr _ _ _ _).mono ?_;rintro e w' ⟨rfl,hb⟩;replace HB:=hQ (HB.out.trans (hb.mono HB.out.size));clear hb))
 go_ret
 exact ⟨some ⟨_,0,none⟩,1,rfl,Parts.lit _ _ _ rfl HB.out.size,HB.out.alloc HB.out.size _⟩
theorem Qx0 (w:World):Calls Tryz.prog 124 #[.int .i64 7] w (Qaw 7 w):=by
 go_enter Tryz.func124,Tryz.ntmps124
 have HB:=hQ (xC w.heap.size w)
 go_wp2_with (first
  | (go_at_call 172;refine (Qbp _ _).mono ?_;rintro e w' ⟨rfl,hb⟩;replace HB:=hQ (HB.out.trans (hb.mono HB.out.size));clear hb)
  | (go_at_call 173;refine (Qbq _ _).mono ?_;rintro e w' ⟨rfl,hb⟩;replace HB:=hQ (HB.out.trans (hb.mono HB.out.size));clear hb)
  | (go_at_call 177;refine (Qb9 _ _).mono ?_;rintro e w' ⟨rfl,hb⟩;replace HB:=hQ (HB.out.trans (hb.mono HB.out.size));clear hb)
  | (go_at_call 175;refine (Qbr _ _ _ _).mono ?_;rintro e w' ⟨rfl,hb⟩;replace HB:=hQ (HB.out.trans (hb.mono HB.out.size));clear hb))
 go_ret
 exact ⟨some ⟨_,0,none⟩,1,rfl,Parts.lit _ _ _ rfl HB.out.size,HB.out.alloc HB.out.size _⟩
theorem Qx1 (w:World):Calls Tryz.prog 124 #[.int .i64 8] w (Qaw 8 w):=by
 go_enter Tryz.func124,Tryz.ntmps124
 have HB:=hQ (xC w.heap.size w)
 go_wp2_with (first
  | (go_at_call 172;refine (Qbp _ _).mono ?_;rintro e w' ⟨rfl,hb⟩;replace HB:=hQ (HB.out.trans (hb.mono HB.out.size));clear hb)
  | (go_at_call 173;refine (Qbq _ _).mono ?_;rintro e w' ⟨rfl,hb⟩;replace HB:=hQ (HB.out.trans (hb.mono HB.out.size));clear hb)
  | (go_at_call 177;refine (Qb9 _ _).mono ?_;rintro e w' ⟨rfl,hb⟩;replace HB:=hQ (HB.out.trans (hb.mono HB.out.size));clear hb)
  | (go_at_call 175;refine (Qbr _ _ _ _).mono ?_;rintro e w' ⟨rfl,hb⟩;replace HB:=hQ (HB.out.trans (hb.mono HB.out.size));clear hb))
 go_ret
 exact ⟨some ⟨_,0,none⟩,3,rfl,Parts.lit _ _ _ rfl HB.out.size,HB.out.alloc HB.out.size _⟩
theorem Qx2 (w:World):Calls Tryz.prog 124 #[.int .i64 9] w (Qaw 9 w):=by
 go_enter Tryz.func124,Tryz.ntmps124
 have HB:=hQ (xC w.heap.size w)
 go_wp2_with (first
  | (go_at_call 172;refine (Qbp _ _).mono ?_;rintro e w' ⟨rfl,hb⟩;replace HB:=hQ (HB.out.trans (hb.mono HB.out.size));clear hb)
  | (go_at_call 173;refine (Qbq _ _).mono ?_;rintro e w' ⟨rfl,hb⟩;replace HB:=hQ (HB.out.trans (hb.mono HB.out.size));clear hb)
  | (go_at_call 177;refine (Qb9 _ _).mono ?_;rintro e w' ⟨rfl,hb⟩;replace HB:=hQ (HB.out.trans (hb.mono HB.out.size));clear hb)
  | (go_at_call 175;refine (Qbr _ _ _ _).mono ?_;rintro e w' ⟨rfl,hb⟩;replace HB:=hQ (HB.out.trans (hb.mono HB.out.size));clear hb))
 go_ret
 exact ⟨some ⟨_,0,none⟩,1,rfl,Parts.lit _ _ _ rfl HB.out.size,HB.out.alloc HB.out.size _⟩
theorem Qsv (w:World):Calls Tryz.prog 179 #[.int .i64 10] w (Qaw 10 w):=by
 go_enter Tryz.func179,Tryz.ntmps179
 have HB:=hQ (xC w.heap.size w)
 go_wp2_with (first
  | (go_at_call 172;refine (Qbp _ _).mono ?_;rintro e w' ⟨rfl,hb⟩;replace HB:=hQ (HB.out.trans (hb.mono HB.out.size));clear hb)
  | (go_at_call 173;refine (Qbq _ _).mono ?_;rintro e w' ⟨rfl,hb⟩;replace HB:=hQ (HB.out.trans (hb.mono HB.out.size));clear hb)
  | (go_at_call 177;refine (Qb9 _ _).mono ?_;rintro e w' ⟨rfl,hb⟩;replace HB:=hQ (HB.out.trans (hb.mono HB.out.size));clear hb)
  | (go_at_call 175;refine (Qbr _ _ _ _).mono ?_;rintro e w' ⟨rfl,hb⟩;replace HB:=hQ (HB.out.trans (hb.mono HB.out.size));clear hb))
 go_ret
 exact ⟨some ⟨_,0,none⟩,1,rfl,Parts.lit _ _ _ rfl HB.out.size,HB.out.alloc HB.out.size _⟩
theorem Qsw (w:World):Calls Tryz.prog 179 #[.int .i64 11] w (Qaw 11 w):=by
 go_enter Tryz.func179,Tryz.ntmps179
 have HB:=hQ (xC w.heap.size w)
 go_wp2_with (first
  | (go_at_call 172;refine (Qbp _ _).mono ?_;rintro e w' ⟨rfl,hb⟩;replace HB:=hQ (HB.out.trans (hb.mono HB.out.size));clear hb)
  | (go_at_call 173;refine (Qbq _ _).mono ?_;rintro e w' ⟨rfl,hb⟩;replace HB:=hQ (HB.out.trans (hb.mono HB.out.size));clear hb)
  | (go_at_call 177;refine (Qb9 _ _).mono ?_;rintro e w' ⟨rfl,hb⟩;replace HB:=hQ (HB.out.trans (hb.mono HB.out.size));clear hb)
  | (go_at_call 175;refine (Qbr _ _ _ _).mono ?_;rintro e w' ⟨rfl,hb⟩;replace HB:=hQ (HB.out.trans (hb.mono HB.out.size));clear hb))
 go_ret
 exact ⟨some ⟨_,0,none⟩,1,rfl,Parts.lit _ _ _ rfl HB.out.size,HB.out.alloc HB.out.size _⟩
theorem Qsx (w:World):Calls Tryz.prog 179 #[.int .i64 12] w (Qaw 12 w):=by
 go_enter Tryz.func179,Tryz.ntmps179
 have HB:=hQ (xC w.heap.size w)
 go_wp2_with (first
  | (go_at_call 172;refine (Qbp _ _).mono ?_;rintro e w' ⟨rfl,hb⟩;replace HB:=hQ (HB.out.trans (hb.mono HB.out.size));clear hb)
  | (go_at_call 173;refine (Qbq _ _).mono ?_;rintro e w' ⟨rfl,hb⟩;replace HB:=hQ (HB.out.trans (hb.mono HB.out.size));clear hb)
  | (go_at_call 177;refine (Qb9 _ _).mono ?_;rintro e w' ⟨rfl,hb⟩;replace HB:=hQ (HB.out.trans (hb.mono HB.out.size));clear hb)
  | (go_at_call 175;refine (Qbr _ _ _ _).mono ?_;rintro e w' ⟨rfl,hb⟩;replace HB:=hQ (HB.out.trans (hb.mono HB.out.size));clear hb))
 go_ret
 exact ⟨some ⟨_,0,none⟩,1,rfl,Parts.lit _ _ _ rfl HB.out.size,HB.out.alloc HB.out.size _⟩
theorem Qsy (w:World):Calls Tryz.prog 179 #[.int .i64 13] w (Qaw 13 w):=by
 go_enter Tryz.func179,Tryz.ntmps179
 have HB:=hQ (xC w.heap.size w)
 go_wp2_with (first
  | (go_at_call 172;refine (Qbp _ _).mono ?_;rintro e w' ⟨rfl,hb⟩;replace HB:=hQ (HB.out.trans (hb.mono HB.out.size));clear hb)
  | (go_at_call 173;refine (Qbq _ _).mono ?_;rintro e w' ⟨rfl,hb⟩;replace HB:=hQ (HB.out.trans (hb.mono HB.out.size));clear hb)
  | (go_at_call 177;refine (Qb9 _ _).mono ?_;rintro e w' ⟨rfl,hb⟩;replace HB:=hQ (HB.out.trans (hb.mono HB.out.size));clear hb)
  | (go_at_call 175;refine (Qbr _ _ _ _).mono ?_;rintro e w' ⟨rfl,hb⟩;replace HB:=hQ (HB.out.trans (hb.mono HB.out.size));clear hb))
 go_ret
 exact ⟨some ⟨_,0,none⟩,1,rfl,Parts.lit _ _ _ rfl HB.out.size,HB.out.alloc HB.out.size _⟩
theorem Qsz (w:World):Calls Tryz.prog 179 #[.int .i64 14] w (Qaw 14 w):=by
 go_enter Tryz.func179,Tryz.ntmps179
 have HB:=hQ (xC w.heap.size w)
 go_wp2_with (first
  | (go_at_call 172;refine (Qbp _ _).mono ?_;rintro e w' ⟨rfl,hb⟩;replace HB:=hQ (HB.out.trans (hb.mono HB.out.size));clear hb)
  | (go_at_call 173;refine (Qbq _ _).mono ?_;rintro e w' ⟨rfl,hb⟩;replace HB:=hQ (HB.out.trans (hb.mono HB.out.size));clear hb)
  | (go_at_call 177;refine (Qb9 _ _).mono ?_;rintro e w' ⟨rfl,hb⟩;replace HB:=hQ (HB.out.trans (hb.mono HB.out.size));clear hb)
  | (go_at_call 175;refine (Qbr _ _ _ _).mono ?_;rintro e w' ⟨rfl,hb⟩;replace HB:=hQ (HB.out.trans (hb.mono HB.out.size));clear hb))
 go_ret
 exact ⟨some ⟨_,0,none⟩,1,rfl,Parts.lit _ _ _ rfl HB.out.size,HB.out.alloc HB.out.size _⟩
theorem Qs0 (w:World):Calls Tryz.prog 179 #[.int .i64 15] w (Qaw 15 w):=by
 go_enter Tryz.func179,Tryz.ntmps179
 have HB:=hQ (xC w.heap.size w)
 go_wp2_with (first
  | (go_at_call 172;refine (Qbp _ _).mono ?_;rintro e w' ⟨rfl,hb⟩;replace HB:=hQ (HB.out.trans (hb.mono HB.out.size));clear hb)
  | (go_at_call 173;refine (Qbq _ _).mono ?_;rintro e w' ⟨rfl,hb⟩;replace HB:=hQ (HB.out.trans (hb.mono HB.out.size));clear hb)
  | (go_at_call 177;refine (Qb9 _ _).mono ?_;rintro e w' ⟨rfl,hb⟩;replace HB:=hQ (HB.out.trans (hb.mono HB.out.size));clear hb)
  | (go_at_call 175;refine (Qbr _ _ _ _).mono ?_;rintro e w' ⟨rfl,hb⟩;replace HB:=hQ (HB.out.trans (hb.mono HB.out.size));clear hb))
 go_ret
 exact ⟨some ⟨_,0,none⟩,1,rfl,Parts.lit _ _ _ rfl HB.out.size,HB.out.alloc HB.out.size _⟩
theorem Qs1 (w:World):Calls Tryz.prog 179 #[.int .i64 16] w (Qaw 16 w):=by
 go_enter Tryz.func179,Tryz.ntmps179
 have HB:=hQ (xC w.heap.size w)
 go_wp2_with (first
  | (go_at_call 172;refine (Qbp _ _).mono ?_;rintro e w' ⟨rfl,hb⟩;replace HB:=hQ (HB.out.trans (hb.mono HB.out.size));clear hb)
  | (go_at_call 173;refine (Qbq _ _).mono ?_;rintro e w' ⟨rfl,hb⟩;replace HB:=hQ (HB.out.trans (hb.mono HB.out.size));clear hb)
  | (go_at_call 177;refine (Qb9 _ _).mono ?_;rintro e w' ⟨rfl,hb⟩;replace HB:=hQ (HB.out.trans (hb.mono HB.out.size));clear hb)
  | (go_at_call 175;refine (Qbr _ _ _ _).mono ?_;rintro e w' ⟨rfl,hb⟩;replace HB:=hQ (HB.out.trans (hb.mono HB.out.size));clear hb))
 go_ret
 exact ⟨some ⟨_,0,none⟩,4,rfl,Parts.lit _ _ _ rfl HB.out.size,HB.out.alloc HB.out.size _⟩
theorem Qs2 (w:World):Calls Tryz.prog 179 #[.int .i64 17] w (Qaw 17 w):=by
 go_enter Tryz.func179,Tryz.ntmps179
 have HB:=hQ (xC w.heap.size w)
 go_wp2_with (first
  | (go_at_call 172;refine (Qbp _ _).mono ?_;rintro e w' ⟨rfl,hb⟩;replace HB:=hQ (HB.out.trans (hb.mono HB.out.size));clear hb)
  | (go_at_call 173;refine (Qbq _ _).mono ?_;rintro e w' ⟨rfl,hb⟩;replace HB:=hQ (HB.out.trans (hb.mono HB.out.size));clear hb)
  | (go_at_call 177;refine (Qb9 _ _).mono ?_;rintro e w' ⟨rfl,hb⟩;replace HB:=hQ (HB.out.trans (hb.mono HB.out.size));clear hb)
  | (go_at_call 175;refine (Qbr _ _ _ _).mono ?_;rintro e w' ⟨rfl,hb⟩;replace HB:=hQ (HB.out.trans (hb.mono HB.out.size));clear hb))
 go_ret
 exact ⟨some ⟨_,0,none⟩,1,rfl,Parts.lit _ _ _ rfl HB.out.size,HB.out.alloc HB.out.size _⟩
theorem Qs3 (w:World):Calls Tryz.prog 179 #[.int .i64 18] w (Qaw 18 w):=by
 go_enter Tryz.func179,Tryz.ntmps179
 have HB:=hQ (xC w.heap.size w)
 go_wp2_with (first
  | (go_at_call 172;refine (Qbp _ _).mono ?_;rintro e w' ⟨rfl,hb⟩;replace HB:=hQ (HB.out.trans (hb.mono HB.out.size));clear hb)
  | (go_at_call 173;refine (Qbq _ _).mono ?_;rintro e w' ⟨rfl,hb⟩;replace HB:=hQ (HB.out.trans (hb.mono HB.out.size));clear hb)
  | (go_at_call 177;refine (Qb9 _ _).mono ?_;rintro e w' ⟨rfl,hb⟩;replace HB:=hQ (HB.out.trans (hb.mono HB.out.size));clear hb)
  | (go_at_call 175;refine (Qbr _ _ _ _).mono ?_;rintro e w' ⟨rfl,hb⟩;replace HB:=hQ (HB.out.trans (hb.mono HB.out.size));clear hb))
 go_ret
 exact ⟨some ⟨_,0,none⟩,3,rfl,Parts.lit _ _ _ rfl HB.out.size,HB.out.alloc HB.out.size _⟩
theorem Qs4 (w:World):Calls Tryz.prog 179 #[.int .i64 19] w (Qaw 19 w):=by
 go_enter Tryz.func179,Tryz.ntmps179
 have HB:=hQ (xC w.heap.size w)
 go_wp2_with (first
  | (go_at_call 172;refine (Qbp _ _).mono ?_;rintro e w' ⟨rfl,hb⟩;replace HB:=hQ (HB.out.trans (hb.mono HB.out.size));clear hb)
  | (go_at_call 173;refine (Qbq _ _).mono ?_;rintro e w' ⟨rfl,hb⟩;replace HB:=hQ (HB.out.trans (hb.mono HB.out.size));clear hb)
  | (go_at_call 177;refine (Qb9 _ _).mono ?_;rintro e w' ⟨rfl,hb⟩;replace HB:=hQ (HB.out.trans (hb.mono HB.out.size));clear hb)
  | (go_at_call 175;refine (Qbr _ _ _ _).mono ?_;rintro e w' ⟨rfl,hb⟩;replace HB:=hQ (HB.out.trans (hb.mono HB.out.size));clear hb))
 go_ret
 exact ⟨some ⟨_,0,none⟩,6,rfl,Parts.lit _ _ _ rfl HB.out.size,HB.out.alloc HB.out.size _⟩
theorem Qs5 (w:World):Calls Tryz.prog 179 #[.int .i64 20] w (Qaw 20 w):=by
 go_enter Tryz.func179,Tryz.ntmps179
 have HB:=hQ (xC w.heap.size w)
 go_wp2_with (first
  | (go_at_call 172;refine (Qbp _ _).mono ?_;rintro e w' ⟨rfl,hb⟩;replace HB:=hQ (HB.out.trans (hb.mono HB.out.size));clear hb)
  | (go_at_call 173;refine (Qbq _ _).mono ?_;rintro e w' ⟨rfl,hb⟩;replace HB:=hQ (HB.out.trans (hb.mono HB.out.size));clear hb)
  | (go_at_call 177;refine (Qb9 _ _).mono ?_;rintro e w' ⟨rfl,hb⟩;replace HB:=hQ (HB.out.trans (hb.mono HB.out.size));clear hb)
  | (go_at_call 175;refine (Qbr _ _ _ _).mono ?_;rintro e w' ⟨rfl,hb⟩;replace HB:=hQ (HB.out.trans (hb.mono HB.out.size));clear hb))
 go_ret
 exact ⟨some ⟨_,0,none⟩,6,rfl,Parts.lit _ _ _ rfl HB.out.size,HB.out.alloc HB.out.size _⟩
theorem Qs6 (w:World):Calls Tryz.prog 179 #[.int .i64 21] w (Qaw 21 w):=by
 go_enter Tryz.func179,Tryz.ntmps179
 have HB:=hQ (xC w.heap.size w)
 go_wp2_with (first
  | (go_at_call 172;refine (Qbp _ _).mono ?_;rintro e w' ⟨rfl,hb⟩;replace HB:=hQ (HB.out.trans (hb.mono HB.out.size));clear hb)
  | (go_at_call 173;refine (Qbq _ _).mono ?_;rintro e w' ⟨rfl,hb⟩;replace HB:=hQ (HB.out.trans (hb.mono HB.out.size));clear hb)
  | (go_at_call 177;refine (Qb9 _ _).mono ?_;rintro e w' ⟨rfl,hb⟩;replace HB:=hQ (HB.out.trans (hb.mono HB.out.size));clear hb)
  | (go_at_call 175;refine (Qbr _ _ _ _).mono ?_;rintro e w' ⟨rfl,hb⟩;replace HB:=hQ (HB.out.trans (hb.mono HB.out.size));clear hb))
 go_ret
 exact ⟨some ⟨_,0,none⟩,3,rfl,Parts.lit _ _ _ rfl HB.out.size,HB.out.alloc HB.out.size _⟩
theorem Qs7 (w:World):Calls Tryz.prog 179 #[.int .i64 22] w (Qaw 22 w):=by
 go_enter Tryz.func179,Tryz.ntmps179
 have HB:=hQ (xC w.heap.size w)
 go_wp2_with (first
  | (go_at_call 172;refine (Qbp _ _).mono ?_;rintro e w' ⟨rfl,hb⟩;replace HB:=hQ (HB.out.trans (hb.mono HB.out.size));clear hb)
  | (go_at_call 173;refine (Qbq _ _).mono ?_;rintro e w' ⟨rfl,hb⟩;replace HB:=hQ (HB.out.trans (hb.mono HB.out.size));clear hb)
  | (go_at_call 177;refine (Qb9 _ _).mono ?_;rintro e w' ⟨rfl,hb⟩;replace HB:=hQ (HB.out.trans (hb.mono HB.out.size));clear hb)
  | (go_at_call 175;refine (Qbr _ _ _ _).mono ?_;rintro e w' ⟨rfl,hb⟩;replace HB:=hQ (HB.out.trans (hb.mono HB.out.size));clear hb))
 go_ret
 exact ⟨some ⟨_,0,none⟩,3,rfl,Parts.lit _ _ _ rfl HB.out.size,HB.out.alloc HB.out.size _⟩
theorem Qee {k:Int} (h:k≤0∨23≤k):Qae k = []:=by
 unfold Qae
 simp only [show k≠1 from by omega,show k≠2 from by omega,show k≠3 from by omega,show k≠4 from by omega,show k≠5 from by omega,show k≠6 from by omega,show k≠7 from by omega,show k≠8 from by omega,show k≠9 from by omega,show k≠10 from by omega,show k≠11 from by omega,show k≠12 from by omega,show k≠13 from by omega,show k≠14 from by omega,show k≠15 from by omega,show k≠16 from by omega,show k≠17 from by omega,show k≠18 from by omega,show k≠19 from by omega,show k≠20 from by omega,show k≠21 from by omega,show k≠22 from by omega,if_false]
theorem Qdh {a b:Int} (h:a≠b):(a==b)=false:=by simpa using h
theorem Qon (k:Int) (w:World) (h:k≤0∨23≤k):Calls Tryz.prog 179 #[.int .i64 k] w (Qaw k w):=by
 have e10:=Qdh (show k≠10 from by omega)
 have e11:=Qdh (show k≠11 from by omega)
 have e12:=Qdh (show k≠12 from by omega)
 have e13:=Qdh (show k≠13 from by omega)
 have e14:=Qdh (show k≠14 from by omega)
 have e15:=Qdh (show k≠15 from by omega)
 have e16:=Qdh (show k≠16 from by omega)
 have e17:=Qdh (show k≠17 from by omega)
 have e18:=Qdh (show k≠18 from by omega)
 have e19:=Qdh (show k≠19 from by omega)
 have e20:=Qdh (show k≠20 from by omega)
 have e21:=Qdh (show k≠21 from by omega)
 have e22:=Qdh (show k≠22 from by omega)
 have HP:=hQ (Qee h)
 clear h
 go_enter Tryz.func179,Tryz.ntmps179
 go_wp2
 go_ret
 exact ⟨none,0,by rw [HP.out];rfl,by rw [HP.out];exact Parts.nil _ _,xC _ _⟩
theorem Qq9 (k:Int) (w:World) (h:k≤0∨10≤k):Calls Tryz.prog 179 #[.int .i64 k] w (Qaw k w):=by
 by_cases e10:k=10
 ·subst e10
  exact Qsv w
 by_cases e11:k=11
 ·subst e11
  exact Qsw w
 by_cases e12:k=12
 ·subst e12
  exact Qsx w
 by_cases e13:k=13
 ·subst e13
  exact Qsy w
 by_cases e14:k=14
 ·subst e14
  exact Qsz w
 by_cases e15:k=15
 ·subst e15
  exact Qs0 w
 by_cases e16:k=16
 ·subst e16
  exact Qs1 w
 by_cases e17:k=17
 ·subst e17
  exact Qs2 w
 by_cases e18:k=18
 ·subst e18
  exact Qs3 w
 by_cases e19:k=19
 ·subst e19
  exact Qs4 w
 by_cases e20:k=20
 ·subst e20
  exact Qs5 w
 by_cases e21:k=21
 ·subst e21
  exact Qs6 w
 by_cases e22:k=22
 ·subst e22
  exact Qs7 w
 exact Qon k w (by omega)
theorem Qs8 (k:Int) (w:World) (h:k≤0∨10≤k):Calls Tryz.prog 124 #[.int .i64 k] w (Qaw k w):=by
 have e1:=Qdh (show k≠1 from by omega)
 have e2:=Qdh (show k≠2 from by omega)
 have e3:=Qdh (show k≠3 from by omega)
 have e4:=Qdh (show k≠4 from by omega)
 have e5:=Qdh (show k≠5 from by omega)
 have e6:=Qdh (show k≠6 from by omega)
 have e7:=Qdh (show k≠7 from by omega)
 have e8:=Qdh (show k≠8 from by omega)
 have e9:=Qdh (show k≠9 from by omega)
 have HK:=hQ h
 clear h
 go_enter Tryz.func124,Tryz.ntmps124
 go_wp2_with (go_at_call 179;refine (Qq9 _ _ HK.out).mono ?_;rintro e w' ⟨A,c,rfl,hp,hb⟩)
 go_ret
 exact ⟨A,c,rfl,hp,hb⟩
theorem Qe0 (k:Int) (w:World):Calls Tryz.prog 124 #[.int .i64 k] w (Qaw k w):=by
 by_cases e1:k=1
 ·subst e1
  exact Qxu w
 by_cases e2:k=2
 ·subst e2
  exact Qxv w
 by_cases e3:k=3
 ·subst e3
  exact Qxw w
 by_cases e4:k=4
 ·subst e4
  exact Qxx w
 by_cases e5:k=5
 ·subst e5
  exact Qxy w
 by_cases e6:k=6
 ·subst e6
  exact Qxz w
 by_cases e7:k=7
 ·subst e7
  exact Qx0 w
 by_cases e8:k=8
 ·subst e8
  exact Qx1 w
 by_cases e9:k=9
 ·subst e9
  exact Qx2 w
 exact Qs8 k w (by omega)
end Go.Proofs.YtjidpkcjpgdafaaGreat
