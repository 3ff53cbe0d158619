/- Part 10 -/
import Derived.Test.YtfjpemdejoejbaaGreatTt4
import Derived.Test.YtfjpemdejoejbaaGreatTt9
import Derived.Laws.EntriesVeiled
set_option maxRecDepth 100000
set_option maxHeartbeats 4000000
namespace Go.Proofs.YtfjpemdejoejbaaGreat
open Go.RowKit
def fnV (n:Nat):Value :=
 match n with
 | 0=>.nilFunc
 | 1=>.func (.func 124) #[] #[]
 | 2=>.func (.func 126) #[] #[]
 | 3=>.func (.func 128) #[] #[]
 | 4=>.func (.func 156) #[] #[]
 | 5=>.func (.func 154) #[] #[]
 | 6=>.func (.func 155) #[] #[]
 | _=>.func (.func 134) #[] #[]
def Qob (x:Part):List Value:=[.string x.word,fnV x.nm,.int .i64 x.kids,.int .i64 x.least,.int .i64 x.most,.bool x.series,.bool x.commas]
theorem Qb1 (s:ByteArray) (w:World):Calls Tryz.prog 122 #[.string s] w fun e w'=>e = .returned (.agg #[.string s,.nilFunc,.int .i64 0,.int .i64 0,.int .i64 0,.bool false,.bool false])∧Below w.heap.size w w':=by
 go_enter Tryz.func122,Tryz.ntmps122
 go_wp2
 exact bodyPost_ret (v:=.agg #[.string s,.nilFunc,.int .i64 0,.int .i64 0,.int .i64 0,.bool false,.bool false]) (by simp [results,Tryz.results122,go_sem]) rfl ⟨rfl,(xC _ _).alloc (xA _) _⟩
theorem Qb2 (f:FuncId) (w:World):Calls Tryz.prog 123 #[.func (.func f) #[] #[]] w fun e w'=>e = .returned (.agg #[.string ⟨#[]⟩,.func (.func f) #[] #[],.int .i64 0,.int .i64 0,.int .i64 0,.bool false,.bool false])∧Below w.heap.size w w':=by
 go_enter Tryz.func123,Tryz.ntmps123
 go_wp2
 exact bodyPost_ret (v:=.agg #[.string ⟨#[]⟩,.func (.func f) #[] #[],.int .i64 0,.int .i64 0,.int .i64 0,.bool false,.bool false]) (by simp [results,Tryz.results123,go_sem]) rfl ⟨rfl,(xC _ _).alloc (xA _) _⟩
theorem Qcp (s:Int) (w:World):Calls Tryz.prog 127 #[.int .i64 s] w fun e w'=>e = .returned (.agg #[.string ⟨#[]⟩,.nilFunc,.int .i64 s,.int .i64 0,.int .i64 1,.bool false,.bool false])∧Below w.heap.size w w':=by
 go_enter Tryz.func127,Tryz.ntmps127
 go_wp2
 exact bodyPost_ret (v:=.agg #[.string ⟨#[]⟩,.nilFunc,.int .i64 s,.int .i64 0,.int .i64 1,.bool false,.bool false]) (by simp [results,Tryz.results127,go_sem]) rfl ⟨rfl,(xC _ _).alloc (xA _) _⟩
theorem Qb3 (s least most:Int) (w:World):Calls Tryz.prog 125 #[.int .i64 s,.int .i64 least,.int .i64 most] w fun e w'=>e = .returned (.agg #[.string ⟨#[]⟩,.nilFunc,.int .i64 s,.int .i64 least,.int .i64 most,.bool true,.bool (s != 1)])∧Below w.heap.size w w':=by
 go_enter Tryz.func125,Tryz.ntmps125
 go_wp2
 exact bodyPost_ret (v:=.agg #[.string ⟨#[]⟩,.nilFunc,.int .i64 s,.int .i64 least,.int .i64 most,.bool true,.bool (s != 1)]) (by simp [results,Tryz.results125,go_sem]) rfl ⟨rfl,(xC _ _).alloc (xA _) _⟩
def Parts (B:Nat) (w:World) (A:Option Addr) (l:List Part):Prop :=
 l≠[]→∃ b cs,A=some ⟨b,0,none⟩∧B≤b∧w.heap[b]? = some (.cells cs 132 (0,0))∧cs.toList=l.flatMap Qob
theorem Parts.nil (B:Nat) (w:World):Parts B w none []:=fun h=>absurd rfl h
theorem Parts.lit (w:World) (l:List Part) (cs:Array Value) (h:cs.toList=l.flatMap Qob) {B:Nat} (hB:B≤w.heap.size):Parts B (w.alloc (.cells cs 132)) (some ⟨w.heap.size,0,none⟩) l :=
 fun _=>⟨w.heap.size,cs,rfl,hB,xH w _,h⟩
def Qa8 (k:Int) (w:World) (e:Ending) (w':World):Prop :=
 ∃ A c,e = .returned (.slice A (Qae k).length c)∧Parts w.heap.size w' A (Qae k)∧Below w.heap.size w w'
theorem Zb4 (w:World):Calls Tryz.prog 83 #[.int .i64 1] w (Qa8 1 w):=by
 go_enter Tryz.func83,Tryz.ntmps83
 have HB:=hQ (xC w.heap.size w)
 go_wp2_with (first
  | (go_at_call 122;refine (Qb1 _ _).mono ?_;rintro e w' ⟨rfl,hb⟩;replace HB:=hQ (HB.out.trans (hb.mono HB.out.size));clear hb)
  | (go_at_call 123;refine (Qb2 _ _).mono ?_;rintro e w' ⟨rfl,hb⟩;replace HB:=hQ (HB.out.trans (hb.mono HB.out.size));clear hb)
  | (go_at_call 127;refine (Qcp _ _).mono ?_;rintro e w' ⟨rfl,hb⟩;replace HB:=hQ (HB.out.trans (hb.mono HB.out.size));clear hb)
  | (go_at_call 125;refine (Qb3 _ _ _ _).mono ?_;rintro e w' ⟨rfl,hb⟩;replace HB:=hQ (HB.out.trans (hb.mono HB.out.size));clear hb))
 go_ret
 exact ⟨some ⟨_,0,none⟩,4,rfl,Parts.lit _ _ _ rfl HB.out.size,HB.out.alloc HB.out.size _⟩
theorem Zb5 (w:World):Calls Tryz.prog 83 #[.int .i64 2] w (Qa8 2 w):=by
 go_enter Tryz.func83,Tryz.ntmps83
 have HB:=hQ (xC w.heap.size w)
 go_wp2_with (first
  | (go_at_call 122;refine (Qb1 _ _).mono ?_;rintro e w' ⟨rfl,hb⟩;replace HB:=hQ (HB.out.trans (hb.mono HB.out.size));clear hb)
  | (go_at_call 123;refine (Qb2 _ _).mono ?_;rintro e w' ⟨rfl,hb⟩;replace HB:=hQ (HB.out.trans (hb.mono HB.out.size));clear hb)
  | (go_at_call 127;refine (Qcp _ _).mono ?_;rintro e w' ⟨rfl,hb⟩;replace HB:=hQ (HB.out.trans (hb.mono HB.out.size));clear hb)
  | (go_at_call 125;refine (Qb3 _ _ _ _).mono ?_;rintro e w' ⟨rfl,hb⟩;replace HB:=hQ (HB.out.trans (hb.mono HB.out.size));clear hb))
 go_ret
 exact ⟨some ⟨_,0,none⟩,9,rfl,Parts.lit _ _ _ rfl HB.out.size,HB.out.alloc HB.out.size _⟩
theorem Zb6 (w:World):Calls Tryz.prog 83 #[.int .i64 3] w (Qa8 3 w):=by
 go_enter Tryz.func83,Tryz.ntmps83
 have HB:=hQ (xC w.heap.size w)
 go_wp2_with (first
  | (go_at_call 122;refine (Qb1 _ _).mono ?_;rintro e w' ⟨rfl,hb⟩;replace HB:=hQ (HB.out.trans (hb.mono HB.out.size));clear hb)
  | (go_at_call 123;refine (Qb2 _ _).mono ?_;rintro e w' ⟨rfl,hb⟩;replace HB:=hQ (HB.out.trans (hb.mono HB.out.size));clear hb)
  | (go_at_call 127;refine (Qcp _ _).mono ?_;rintro e w' ⟨rfl,hb⟩;replace HB:=hQ (HB.out.trans (hb.mono HB.out.size));clear hb)
  | (go_at_call 125;refine (Qb3 _ _ _ _).mono ?_;rintro e w' ⟨rfl,hb⟩;replace HB:=hQ (HB.out.trans (hb.mono HB.out.size));clear hb))
 go_ret
 exact ⟨some ⟨_,0,none⟩,4,rfl,Parts.lit _ _ _ rfl HB.out.size,HB.out.alloc HB.out.size _⟩
theorem Zb7 (w:World):Calls Tryz.prog 83 #[.int .i64 4] w (Qa8 4 w):=by
 go_enter Tryz.func83,Tryz.ntmps83
 have HB:=hQ (xC w.heap.size w)
 go_wp2_with (first
  | (go_at_call 122;refine (Qb1 _ _).mono ?_;rintro e w' ⟨rfl,hb⟩;replace HB:=hQ (HB.out.trans (hb.mono HB.out.size));clear hb)
  | (go_at_call 123;refine (Qb2 _ _).mono ?_;rintro e w' ⟨rfl,hb⟩;replace HB:=hQ (HB.out.trans (hb.mono HB.out.size));clear hb)
  | (go_at_call 127;refine (Qcp _ _).mono ?_;rintro e w' ⟨rfl,hb⟩;replace HB:=hQ (HB.out.trans (hb.mono HB.out.size));clear hb)
  | (go_at_call 125;refine (Qb3 _ _ _ _).mono ?_;rintro e w' ⟨rfl,hb⟩;replace HB:=hQ (HB.out.trans (hb.mono HB.out.size));clear hb))
 go_ret
 exact ⟨some ⟨_,0,none⟩,3,rfl,Parts.lit _ _ _ rfl HB.out.size,HB.out.alloc HB.out.size _⟩
theorem Zb8 (w:World):Calls Tryz.prog 83 #[.int .i64 5] w (Qa8 5 w):=by
 go_enter Tryz.func83,Tryz.ntmps83
 have HB:=hQ (xC w.heap.size w)
 go_wp2_with (first
  | (go_at_call 122;refine (Qb1 _ _).mono ?_;rintro e w' ⟨rfl,hb⟩;replace HB:=hQ (HB.out.trans (hb.mono HB.out.size));clear hb)
  | (go_at_call 123;refine (Qb2 _ _).mono ?_;rintro e w' ⟨rfl,hb⟩;replace HB:=hQ (HB.out.trans (hb.mono HB.out.size));clear hb)
  | (go_at_call 127;refine (Qcp _ _).mono ?_;rintro e w' ⟨rfl,hb⟩;replace HB:=hQ (HB.out.trans (hb.mono HB.out.size));clear hb)
  | (go_at_call 125;refine (Qb3 _ _ _ _).mono ?_;rintro e w' ⟨rfl,hb⟩;replace HB:=hQ (HB.out.trans (hb.mono HB.out.size));clear hb))
 go_ret
 exact ⟨some ⟨_,0,none⟩,1,rfl,Parts.lit _ _ _ rfl HB.out.size,HB.out.alloc HB.out.size _⟩
theorem Zb9 (w:World):Calls Tryz.prog 83 #[.int .i64 6] w (Qa8 6 w):=by
 go_enter Tryz.func83,Tryz.ntmps83
 have HB:=hQ (xC w.heap.size w)
 go_wp2_with (first
  | (go_at_call 122;refine (Qb1 _ _).mono ?_;rintro e w' ⟨rfl,hb⟩;replace HB:=hQ (HB.out.trans (hb.mono HB.out.size));clear hb)
  | (go_at_call 123;refine (Qb2 _ _).mono ?_;rintro e w' ⟨rfl,hb⟩;replace HB:=hQ (HB.out.trans (hb.mono HB.out.size));clear hb)
  | (go_at_call 127;refine (Qcp _ _).mono ?_;rintro e w' ⟨rfl,hb⟩;replace HB:=hQ (HB.out.trans (hb.mono HB.out.size));clear hb)
  | (go_at_call 125;refine (Qb3 _ _ _ _).mono ?_;rintro e w' ⟨rfl,hb⟩;replace HB:=hQ (HB.out.trans (hb.mono HB.out.size));clear hb))
 go_ret
 exact ⟨some ⟨_,0,none⟩,1,rfl,Parts.lit _ _ _ rfl HB.out.size,HB.out.alloc HB.out.size _⟩
theorem Zca (w:World):Calls Tryz.prog 83 #[.int .i64 7] w (Qa8 7 w):=by
 go_enter Tryz.func83,Tryz.ntmps83
 have HB:=hQ (xC w.heap.size w)
 go_wp2_with (first
  | (go_at_call 122;refine (Qb1 _ _).mono ?_;rintro e w' ⟨rfl,hb⟩;replace HB:=hQ (HB.out.trans (hb.mono HB.out.size));clear hb)
  | (go_at_call 123;refine (Qb2 _ _).mono ?_;rintro e w' ⟨rfl,hb⟩;replace HB:=hQ (HB.out.trans (hb.mono HB.out.size));clear hb)
  | (go_at_call 127;refine (Qcp _ _).mono ?_;rintro e w' ⟨rfl,hb⟩;replace HB:=hQ (HB.out.trans (hb.mono HB.out.size));clear hb)
  | (go_at_call 125;refine (Qb3 _ _ _ _).mono ?_;rintro e w' ⟨rfl,hb⟩;replace HB:=hQ (HB.out.trans (hb.mono HB.out.size));clear hb))
 go_ret
 exact ⟨some ⟨_,0,none⟩,1,rfl,Parts.lit _ _ _ rfl HB.out.size,HB.out.alloc HB.out.size _⟩
theorem Zcb (w:World):Calls Tryz.prog 83 #[.int .i64 8] w (Qa8 8 w):=by
 go_enter Tryz.func83,Tryz.ntmps83
 have HB:=hQ (xC w.heap.size w)
 go_wp2_with (first
  | (go_at_call 122;refine (Qb1 _ _).mono ?_;rintro e w' ⟨rfl,hb⟩;replace HB:=hQ (HB.out.trans (hb.mono HB.out.size));clear hb)
  | (go_at_call 123;refine (Qb2 _ _).mono ?_;rintro e w' ⟨rfl,hb⟩;replace HB:=hQ (HB.out.trans (hb.mono HB.out.size));clear hb)
  | (go_at_call 127;refine (Qcp _ _).mono ?_;rintro e w' ⟨rfl,hb⟩;replace HB:=hQ (HB.out.trans (hb.mono HB.out.size));clear hb)
  | (go_at_call 125;refine (Qb3 _ _ _ _).mono ?_;rintro e w' ⟨rfl,hb⟩;replace HB:=hQ (HB.out.trans (hb.mono HB.out.size));clear hb))
 go_ret
 exact ⟨some ⟨_,0,none⟩,3,rfl,Parts.lit _ _ _ rfl HB.out.size,HB.out.alloc HB.out.size _⟩
theorem Zcc (w:World):Calls Tryz.prog 83 #[.int .i64 9] w (Qa8 9 w):=by
 go_enter Tryz.func83,Tryz.ntmps83
 have HB:=hQ (xC w.heap.size w)
 go_wp2_with (first
  | (go_at_call 122;refine (Qb1 _ _).mono ?_;rintro e w' ⟨rfl,hb⟩;replace HB:=hQ (HB.out.trans (hb.mono HB.out.size));clear hb)
  | (go_at_call 123;refine (Qb2 _ _).mono ?_;rintro e w' ⟨rfl,hb⟩;replace HB:=hQ (HB.out.trans (hb.mono HB.out.size));clear hb)
  | (go_at_call 127;refine (Qcp _ _).mono ?_;rintro e w' ⟨rfl,hb⟩;replace HB:=hQ (HB.out.trans (hb.mono HB.out.size));clear hb)
  | (go_at_call 125;refine (Qb3 _ _ _ _).mono ?_;rintro e w' ⟨rfl,hb⟩;replace HB:=hQ (HB.out.trans (hb.mono HB.out.size));clear hb))
 go_ret
 exact ⟨some ⟨_,0,none⟩,1,rfl,Parts.lit _ _ _ rfl HB.out.size,HB.out.alloc HB.out.size _⟩
theorem Qvb (w:World):Calls Tryz.prog 129 #[.int .i64 10] w (Qa8 10 w):=by
 go_enter Tryz.func129,Tryz.ntmps129
 have HB:=hQ (xC w.heap.size w)
 go_wp2_with (first
  | (go_at_call 122;refine (Qb1 _ _).mono ?_;rintro e w' ⟨rfl,hb⟩;replace HB:=hQ (HB.out.trans (hb.mono HB.out.size));clear hb)
  | (go_at_call 123;refine (Qb2 _ _).mono ?_;rintro e w' ⟨rfl,hb⟩;replace HB:=hQ (HB.out.trans (hb.mono HB.out.size));clear hb)
  | (go_at_call 127;refine (Qcp _ _).mono ?_;rintro e w' ⟨rfl,hb⟩;replace HB:=hQ (HB.out.trans (hb.mono HB.out.size));clear hb)
  | (go_at_call 125;refine (Qb3 _ _ _ _).mono ?_;rintro e w' ⟨rfl,hb⟩;replace HB:=hQ (HB.out.trans (hb.mono HB.out.size));clear hb))
 go_ret
 exact ⟨some ⟨_,0,none⟩,1,rfl,Parts.lit _ _ _ rfl HB.out.size,HB.out.alloc HB.out.size _⟩
theorem Qvc (w:World):Calls Tryz.prog 129 #[.int .i64 11] w (Qa8 11 w):=by
 go_enter Tryz.func129,Tryz.ntmps129
 have HB:=hQ (xC w.heap.size w)
 go_wp2_with (first
  | (go_at_call 122;refine (Qb1 _ _).mono ?_;rintro e w' ⟨rfl,hb⟩;replace HB:=hQ (HB.out.trans (hb.mono HB.out.size));clear hb)
  | (go_at_call 123;refine (Qb2 _ _).mono ?_;rintro e w' ⟨rfl,hb⟩;replace HB:=hQ (HB.out.trans (hb.mono HB.out.size));clear hb)
  | (go_at_call 127;refine (Qcp _ _).mono ?_;rintro e w' ⟨rfl,hb⟩;replace HB:=hQ (HB.out.trans (hb.mono HB.out.size));clear hb)
  | (go_at_call 125;refine (Qb3 _ _ _ _).mono ?_;rintro e w' ⟨rfl,hb⟩;replace HB:=hQ (HB.out.trans (hb.mono HB.out.size));clear hb))
 go_ret
 exact ⟨some ⟨_,0,none⟩,1,rfl,Parts.lit _ _ _ rfl HB.out.size,HB.out.alloc HB.out.size _⟩
theorem Qvd (w:World):Calls Tryz.prog 129 #[.int .i64 12] w (Qa8 12 w):=by
 go_enter Tryz.func129,Tryz.ntmps129
 have HB:=hQ (xC w.heap.size w)
 go_wp2_with (first
  | (go_at_call 122;refine (Qb1 _ _).mono ?_;rintro e w' ⟨rfl,hb⟩;replace HB:=hQ (HB.out.trans (hb.mono HB.out.size));clear hb)
  | (go_at_call 123;refine (Qb2 _ _).mono ?_;rintro e w' ⟨rfl,hb⟩;replace HB:=hQ (HB.out.trans (hb.mono HB.out.size));clear hb)
  | (go_at_call 127;refine (Qcp _ _).mono ?_;rintro e w' ⟨rfl,hb⟩;replace HB:=hQ (HB.out.trans (hb.mono HB.out.size));clear hb)
  | (go_at_call 125;refine (Qb3 _ _ _ _).mono ?_;rintro e w' ⟨rfl,hb⟩;replace HB:=hQ (HB.out.trans (hb.mono HB.out.size));clear hb))
 go_ret
 exact ⟨some ⟨_,0,none⟩,1,rfl,Parts.lit _ _ _ rfl HB.out.size,HB.out.alloc HB.out.size _⟩
theorem Qve (w:World):Calls Tryz.prog 129 #[.int .i64 13] w (Qa8 13 w):=by
 go_enter Tryz.func129,Tryz.ntmps129
 have HB:=hQ (xC w.heap.size w)
 go_wp2_with (first
  | (go_at_call 122;refine (Qb1 _ _).mono ?_;rintro e w' ⟨rfl,hb⟩;replace HB:=hQ (HB.out.trans (hb.mono HB.out.size));clear hb)
  | (go_at_call 123;refine (Qb2 _ _).mono ?_;rintro e w' ⟨rfl,hb⟩;replace HB:=hQ (HB.out.trans (hb.mono HB.out.size));clear hb)
  | (go_at_call 127;refine (Qcp _ _).mono ?_;rintro e w' ⟨rfl,hb⟩;replace HB:=hQ (HB.out.trans (hb.mono HB.out.size));clear hb)
  | (go_at_call 125;refine (Qb3 _ _ _ _).mono ?_;rintro e w' ⟨rfl,hb⟩;replace HB:=hQ (HB.out.trans (hb.mono HB.out.size));clear hb))
 go_ret
 exact ⟨some ⟨_,0,none⟩,1,rfl,Parts.lit _ _ _ rfl HB.out.size,HB.out.alloc HB.out.size _⟩
theorem Qvf (w:World):Calls Tryz.prog 129 #[.int .i64 14] w (Qa8 14 w):=by
 go_enter Tryz.func129,Tryz.ntmps129
 have HB:=hQ (xC w.heap.size w)
 go_wp2_with (first
  | (go_at_call 122;refine (Qb1 _ _).mono ?_;rintro e w' ⟨rfl,hb⟩;replace HB:=hQ (HB.out.trans (hb.mono HB.out.size));clear hb)
  | (go_at_call 123;refine (Qb2 _ _).mono ?_;rintro e w' ⟨rfl,hb⟩;replace HB:=hQ (HB.out.trans (hb.mono HB.out.size));clear hb)
  | (go_at_call 127;refine (Qcp _ _).mono ?_;rintro e w' ⟨rfl,hb⟩;replace HB:=hQ (HB.out.trans (hb.mono HB.out.size));clear hb)
  | (go_at_call 125;refine (Qb3 _ _ _ _).mono ?_;rintro e w' ⟨rfl,hb⟩;replace HB:=hQ (HB.out.trans (hb.mono HB.out.size));clear hb))
 go_ret
 exact ⟨some ⟨_,0,none⟩,1,rfl,Parts.lit _ _ _ rfl HB.out.size,HB.out.alloc HB.out.size _⟩
theorem Qvg (w:World):Calls Tryz.prog 129 #[.int .i64 15] w (Qa8 15 w):=by
 go_enter Tryz.func129,Tryz.ntmps129
 have HB:=hQ (xC w.heap.size w)
 go_wp2_with (first
  | (go_at_call 122;refine (Qb1 _ _).mono ?_;rintro e w' ⟨rfl,hb⟩;replace HB:=hQ (HB.out.trans (hb.mono HB.out.size));clear hb)
  | (go_at_call 123;refine (Qb2 _ _).mono ?_;rintro e w' ⟨rfl,hb⟩;replace HB:=hQ (HB.out.trans (hb.mono HB.out.size));clear hb)
  | (go_at_call 127;refine (Qcp _ _).mono ?_;rintro e w' ⟨rfl,hb⟩;replace HB:=hQ (HB.out.trans (hb.mono HB.out.size));clear hb)
  | (go_at_call 125;refine (Qb3 _ _ _ _).mono ?_;rintro e w' ⟨rfl,hb⟩;replace HB:=hQ (HB.out.trans (hb.mono HB.out.size));clear hb))
 go_ret
 exact ⟨some ⟨_,0,none⟩,1,rfl,Parts.lit _ _ _ rfl HB.out.size,HB.out.alloc HB.out.size _⟩
theorem Qvh (w:World):Calls Tryz.prog 129 #[.int .i64 16] w (Qa8 16 w):=by
 go_enter Tryz.func129,Tryz.ntmps129
 have HB:=hQ (xC w.heap.size w)
 go_wp2_with (first
  | (go_at_call 122;refine (Qb1 _ _).mono ?_;rintro e w' ⟨rfl,hb⟩;replace HB:=hQ (HB.out.trans (hb.mono HB.out.size));clear hb)
  | (go_at_call 123;refine (Qb2 _ _).mono ?_;rintro e w' ⟨rfl,hb⟩;replace HB:=hQ (HB.out.trans (hb.mono HB.out.size));clear hb)
  | (go_at_call 127;refine (Qcp _ _).mono ?_;rintro e w' ⟨rfl,hb⟩;replace HB:=hQ (HB.out.trans (hb.mono HB.out.size));clear hb)
  | (go_at_call 125;refine (Qb3 _ _ _ _).mono ?_;rintro e w' ⟨rfl,hb⟩;replace HB:=hQ (HB.out.trans (hb.mono HB.out.size));clear hb))
 go_ret
 exact ⟨some ⟨_,0,none⟩,4,rfl,Parts.lit _ _ _ rfl HB.out.size,HB.out.alloc HB.out.size _⟩
theorem Qvi (w:World):Calls Tryz.prog 129 #[.int .i64 17] w (Qa8 17 w):=by
 go_enter Tryz.func129,Tryz.ntmps129
 have HB:=hQ (xC w.heap.size w)
 go_wp2_with (first
  | (go_at_call 122;refine (Qb1 _ _).mono ?_;rintro e w' ⟨rfl,hb⟩;replace HB:=hQ (HB.out.trans (hb.mono HB.out.size));clear hb)
  | (go_at_call 123;refine (Qb2 _ _).mono ?_;rintro e w' ⟨rfl,hb⟩;replace HB:=hQ (HB.out.trans (hb.mono HB.out.size));clear hb)
  | (go_at_call 127;refine (Qcp _ _).mono ?_;rintro e w' ⟨rfl,hb⟩;replace HB:=hQ (HB.out.trans (hb.mono HB.out.size));clear hb)
  | (go_at_call 125;refine (Qb3 _ _ _ _).mono ?_;rintro e w' ⟨rfl,hb⟩;replace HB:=hQ (HB.out.trans (hb.mono HB.out.size));clear hb))
 go_ret
 exact ⟨some ⟨_,0,none⟩,1,rfl,Parts.lit _ _ _ rfl HB.out.size,HB.out.alloc HB.out.size _⟩
theorem Qvj (w:World):Calls Tryz.prog 129 #[.int .i64 18] w (Qa8 18 w):=by
 go_enter Tryz.func129,Tryz.ntmps129
 have HB:=hQ (xC w.heap.size w)
 go_wp2_with (first
  | (go_at_call 122;refine (Qb1 _ _).mono ?_;rintro e w' ⟨rfl,hb⟩;replace HB:=hQ (HB.out.trans (hb.mono HB.out.size));clear hb)
  | (go_at_call 123;refine (Qb2 _ _).mono ?_;rintro e w' ⟨rfl,hb⟩;replace HB:=hQ (HB.out.trans (hb.mono HB.out.size));clear hb)
  | (go_at_call 127;refine (Qcp _ _).mono ?_;rintro e w' ⟨rfl,hb⟩;replace HB:=hQ (HB.out.trans (hb.mono HB.out.size));clear hb)
  | (go_at_call 125;refine (Qb3 _ _ _ _).mono ?_;rintro e w' ⟨rfl,hb⟩;replace HB:=hQ (HB.out.trans (hb.mono HB.out.size));clear hb))
 go_ret
 exact ⟨some ⟨_,0,none⟩,3,rfl,Parts.lit _ _ _ rfl HB.out.size,HB.out.alloc HB.out.size _⟩
theorem Qvk (w:World):Calls Tryz.prog 129 #[.int .i64 19] w (Qa8 19 w):=by
 go_enter Tryz.func129,Tryz.ntmps129
 have HB:=hQ (xC w.heap.size w)
 go_wp2_with (first
  | (go_at_call 122;refine (Qb1 _ _).mono ?_;rintro e w' ⟨rfl,hb⟩;replace HB:=hQ (HB.out.trans (hb.mono HB.out.size));clear hb)
  | (go_at_call 123;refine (Qb2 _ _).mono ?_;rintro e w' ⟨rfl,hb⟩;replace HB:=hQ (HB.out.trans (hb.mono HB.out.size));clear hb)
  | (go_at_call 127;refine (Qcp _ _).mono ?_;rintro e w' ⟨rfl,hb⟩;replace HB:=hQ (HB.out.trans (hb.mono HB.out.size));clear hb)
  | (go_at_call 125;refine (Qb3 _ _ _ _).mono ?_;rintro e w' ⟨rfl,hb⟩;replace HB:=hQ (HB.out.trans (hb.mono HB.out.size));clear hb))
 go_ret
 exact ⟨some ⟨_,0,none⟩,6,rfl,Parts.lit _ _ _ rfl HB.out.size,HB.out.alloc HB.out.size _⟩
theorem Qvl (w:World):Calls Tryz.prog 129 #[.int .i64 20] w (Qa8 20 w):=by
 go_enter Tryz.func129,Tryz.ntmps129
 have HB:=hQ (xC w.heap.size w)
 go_wp2_with (first
  | (go_at_call 122;refine (Qb1 _ _).mono ?_;rintro e w' ⟨rfl,hb⟩;replace HB:=hQ (HB.out.trans (hb.mono HB.out.size));clear hb)
  | (go_at_call 123;refine (Qb2 _ _).mono ?_;rintro e w' ⟨rfl,hb⟩;replace HB:=hQ (HB.out.trans (hb.mono HB.out.size));clear hb)
  | (go_at_call 127;refine (Qcp _ _).mono ?_;rintro e w' ⟨rfl,hb⟩;replace HB:=hQ (HB.out.trans (hb.mono HB.out.size));clear hb)
  | (go_at_call 125;refine (Qb3 _ _ _ _).mono ?_;rintro e w' ⟨rfl,hb⟩;replace HB:=hQ (HB.out.trans (hb.mono HB.out.size));clear hb))
 go_ret
 exact ⟨some ⟨_,0,none⟩,6,rfl,Parts.lit _ _ _ rfl HB.out.size,HB.out.alloc HB.out.size _⟩
theorem Qvm (w:World):Calls Tryz.prog 129 #[.int .i64 21] w (Qa8 21 w):=by
 go_enter Tryz.func129,Tryz.ntmps129
 have HB:=hQ (xC w.heap.size w)
 go_wp2_with (first
  | (go_at_call 122;refine (Qb1 _ _).mono ?_;rintro e w' ⟨rfl,hb⟩;replace HB:=hQ (HB.out.trans (hb.mono HB.out.size));clear hb)
  | (go_at_call 123;refine (Qb2 _ _).mono ?_;rintro e w' ⟨rfl,hb⟩;replace HB:=hQ (HB.out.trans (hb.mono HB.out.size));clear hb)
  | (go_at_call 127;refine (Qcp _ _).mono ?_;rintro e w' ⟨rfl,hb⟩;replace HB:=hQ (HB.out.trans (hb.mono HB.out.size));clear hb)
  | (go_at_call 125;refine (Qb3 _ _ _ _).mono ?_;rintro e w' ⟨rfl,hb⟩;replace HB:=hQ (HB.out.trans (hb.mono HB.out.size));clear hb))
 go_ret
 exact ⟨some ⟨_,0,none⟩,3,rfl,Parts.lit _ _ _ rfl HB.out.size,HB.out.alloc HB.out.size _⟩
theorem Qvn (w:World):Calls Tryz.prog 129 #[.int .i64 22] w (Qa8 22 w):=by
 go_enter Tryz.func129,Tryz.ntmps129
 have HB:=hQ (xC w.heap.size w)
 go_wp2_with (first
  | (go_at_call 122;refine (Qb1 _ _).mono ?_;rintro e w' ⟨rfl,hb⟩;replace HB:=hQ (HB.out.trans (hb.mono HB.out.size));clear hb)
  | (go_at_call 123;refine (Qb2 _ _).mono ?_;rintro e w' ⟨rfl,hb⟩;replace HB:=hQ (HB.out.trans (hb.mono HB.out.size));clear hb)
  | (go_at_call 127;refine (Qcp _ _).mono ?_;rintro e w' ⟨rfl,hb⟩;replace HB:=hQ (HB.out.trans (hb.mono HB.out.size));clear hb)
  | (go_at_call 125;refine (Qb3 _ _ _ _).mono ?_;rintro e w' ⟨rfl,hb⟩;replace HB:=hQ (HB.out.trans (hb.mono HB.out.size));clear hb))
 go_ret
 exact ⟨some ⟨_,0,none⟩,3,rfl,Parts.lit _ _ _ rfl HB.out.size,HB.out.alloc HB.out.size _⟩
theorem Qer {k:Int} (h:k≤0∨23≤k):Qae k = []:=by
 unfold Qae;simp only [show k≠1 from by omega,show k≠2 from by omega,show k≠3 from by omega,show k≠4 from by omega,show k≠5 from by omega,show k≠6 from by omega,show k≠7 from by omega,show k≠8 from by omega,show k≠9 from by omega,show k≠10 from by omega,show k≠11 from by omega,show k≠12 from by omega,show k≠13 from by omega,show k≠14 from by omega,show k≠15 from by omega,show k≠16 from by omega,show k≠17 from by omega,show k≠18 from by omega,show k≠19 from by omega,show k≠20 from by omega,show k≠21 from by omega,show k≠22 from by omega,if_false]
theorem Qcm {a b:Int} (h:a≠b):(a==b)=false:=by simpa using h
theorem Qp9 (k:Int) (w:World) (h:k≤0∨23≤k):Calls Tryz.prog 129 #[.int .i64 k] w (Qa8 k w):=by
 have e10:=Qcm (show k≠10 from by omega);have e11:=Qcm (show k≠11 from by omega);have e12:=Qcm (show k≠12 from by omega);have e13:=Qcm (show k≠13 from by omega);have e14:=Qcm (show k≠14 from by omega);have e15:=Qcm (show k≠15 from by omega);have e16:=Qcm (show k≠16 from by omega);have e17:=Qcm (show k≠17 from by omega);have e18:=Qcm (show k≠18 from by omega);have e19:=Qcm (show k≠19 from by omega);have e20:=Qcm (show k≠20 from by omega);have e21:=Qcm (show k≠21 from by omega);have e22:=Qcm (show k≠22 from by omega);have HP:=hQ (Qer h);clear h
 go_enter Tryz.func129,Tryz.ntmps129
 go_wp2
 go_ret
 exact ⟨none,0,by rw [HP.out];rfl,by rw [HP.out];exact Parts.nil _ _,xC _ _⟩
theorem Qtc (k:Int) (w:World) (h:k≤0∨10≤k):Calls Tryz.prog 129 #[.int .i64 k] w (Qa8 k w):=by
 by_cases e10:k=10
 ·subst e10;exact Qvb w
 by_cases e11:k=11
 ·subst e11;exact Qvc w
 by_cases e12:k=12
 ·subst e12;exact Qvd w
 by_cases e13:k=13
 ·subst e13;exact Qve w
 by_cases e14:k=14
 ·subst e14;exact Qvf w
 by_cases e15:k=15
 ·subst e15;exact Qvg w
 by_cases e16:k=16
 ·subst e16;exact Qvh w
 by_cases e17:k=17
 ·subst e17;exact Qvi w
 by_cases e18:k=18
 ·subst e18;exact Qvj w
 by_cases e19:k=19
 ·subst e19;exact Qvk w
 by_cases e20:k=20
 ·subst e20;exact Qvl w
 by_cases e21:k=21
 ·subst e21;exact Qvm w
 by_cases e22:k=22
 ·subst e22;exact Qvn w
 exact Qp9 k w (by omega)
theorem Qvo (k:Int) (w:World) (h:k≤0∨10≤k):Calls Tryz.prog 83 #[.int .i64 k] w (Qa8 k w):=by
 have e1:=Qcm (show k≠1 from by omega);have e2:=Qcm (show k≠2 from by omega);have e3:=Qcm (show k≠3 from by omega);have e4:=Qcm (show k≠4 from by omega);have e5:=Qcm (show k≠5 from by omega);have e6:=Qcm (show k≠6 from by omega);have e7:=Qcm (show k≠7 from by omega);have e8:=Qcm (show k≠8 from by omega);have e9:=Qcm (show k≠9 from by omega);have HK:=hQ h;clear h
 go_enter Tryz.func83,Tryz.ntmps83
 go_wp2_with (go_at_call 129;refine (Qtc _ _ HK.out).mono ?_;rintro e w' ⟨A,c,rfl,hp,hb⟩)
 go_ret
 exact ⟨A,c,rfl,hp,hb⟩
theorem Qfh (k:Int) (w:World):Calls Tryz.prog 83 #[.int .i64 k] w (Qa8 k w):=by
 by_cases e1:k=1
 ·subst e1;exact Zb4 w
 by_cases e2:k=2
 ·subst e2;exact Zb5 w
 by_cases e3:k=3
 ·subst e3;exact Zb6 w
 by_cases e4:k=4
 ·subst e4;exact Zb7 w
 by_cases e5:k=5
 ·subst e5;exact Zb8 w
 by_cases e6:k=6
 ·subst e6;exact Zb9 w
 by_cases e7:k=7
 ·subst e7;exact Zca w
 by_cases e8:k=8
 ·subst e8;exact Zcb w
 by_cases e9:k=9
 ·subst e9;exact Zcc w
 exact Qvo k w (by omega)
end Go.Proofs.YtfjpemdejoejbaaGreat
