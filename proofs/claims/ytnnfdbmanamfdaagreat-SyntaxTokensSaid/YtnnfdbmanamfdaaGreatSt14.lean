/- Part 14: The contracts of tokens, free, count and Leads. -/
import Derived.Test.YtnnfdbmanamfdaaGreatSt1
import Derived.Test.YtnnfdbmanamfdaaGreatSt13
import Derived.Deep.LoopGhost
set_option maxRecDepth 100000
set_option maxHeartbeats 4000000
namespace Go.Proofs.YtnnfdbmanamfdaaGreat
open Go.RowKit
def Qb9:List Part → Nat
 | []=>0
 | x :: r=>(if x.kids = 0 then 1 else 0) + Qb9 r
theorem tokensP_le (l:List Part):Qb9 l ≤ l.length:=by
 induction l with
 | nil=>exact xA _
 | cons x r ih =>
  rw [Qb9,xD]
  split <;> omega
def Qd4:List Part → Int → Int → Int → Int × Int × Int
 | [],a,b,k=>(a,b,k)
 | x :: r,a,b,k=>if x.series then Qd4 r x.least 9223372036854775807 k else if x.kids ≠ 0 then Qd4 r a b (k - 1) else Qd4 r a b k
def Qb0 (l:List Part) (k:Int):Int × Bool :=
 if l = [] ∨ k < 0 then (0,false) else ((Qd4 l 0 0 k).2.2,decide ((Qd4 l 0 0 k).1 ≤ (Qd4 l 0 0 k).2.2) && decide ((Qd4 l 0 0 k).2.2 ≤ (Qd4 l 0 0 k).2.1))
def Qbz (x:Part) (n:Int):Int:=if x.series then n else if x.kids ≠ 0 then 1 else 0
def commasP:List Part → Int → Int
 | [],_=>0
 | x :: r,n=>(if x.commas && decide (1 < n) then n - 1 else 0) + commasP r n
def leadsP (kind kids:Int):Int :=
 if (Qb0 (Qae kind) kids).2 then (Qb9 (Qae kind):Int) + commasP (Qae kind) (Qb0 (Qae kind) kids).1 else -1
theorem Parts.at {B:Nat} {w:World} {A:Option Addr} {l:List Part} (h:Parts B w A l) (hne:0 < l.length):∃ pk cs,A = some ⟨pk,0,none⟩ ∧ B ≤ pk ∧ w.heap[pk]? = some (.cells cs 129 (0,0)) ∧ cs.toList = l.flatMap partL :=
 h (by intro e;rw [e] at hne;simp at hne)
theorem Parts.keep {B:Nat} {w w':World} {A:Option Addr} {l:List Part} (h:Parts B w A l) (hb:Below w.heap.size w w'):Parts B w' A l:=fun hne=>by
 obtain ⟨b,cs,hA,hB,hh,hc⟩:=h hne
 exact ⟨b,cs,hA,hB,(hb.block b (Qaa hh)).trans hh,hc⟩
theorem tokens_syn {B:Nat} (A:Option Addr) (c:Nat) (l:List Part) (w:World) (h:Parts B w A l) (hl:l.length ≤ 9):Calls Tryz.prog 101 #[.slice A l.length c] w fun e w'=>e = .returned (.int .i64 (Qb9 l)) ∧ Below w.heap.size w w':=by
 by_cases hne:l.length = 0
 ·have HL:=hQ (List.eq_nil_of_length_eq_zero hne)
  go_enter Tryz.func101,Tryz.ntmps101
  go_wp2
  go_loopg [3,8] 0 (fun _ u3 u8 wr=>u3 = .int .i64 0 ∧ u8 = .int .i64 0 ∧ wr = w)
  case atStart=>exact ⟨rfl,rfl,rfl⟩
  case round =>
   obtain ⟨rfl,rfl,rfl⟩:=hrel
   go_wp2
   go_ret
   exact ⟨by rw [HL.out];rfl,xC _ _⟩
 ·obtain ⟨pk,cs,rfl,_,hh,hc⟩:=h.at (by omega)
  have HH:=hQ hh
  have HC:=hQ hc
  have HL:=hQ hl
  clear h hh hc
  go_enter Tryz.func101,Tryz.ntmps101
  go_wp2
  go_loopg [3,8] l.length (fun g u3 u8 wr=>∃ j k:Nat,u3 = .int .i64 k ∧ u8 = .int .i64 j ∧ j + g = l.length ∧ k ≤ j ∧ Qb9 l = k + Qb9 (l.drop j) ∧ Below w.heap.size w wr)
  case atStart=>exact ⟨0,0,rfl,rfl,by omega,xA _,by simp,xC _ _⟩
  case round =>
   obtain ⟨j,k,rfl,rfl,hj,hkj,ht,hb⟩:=hrel
   have HJ:=hQ hj
   have HT:=hQ ht
   have HB:=hQ hb
   have HKJ:=hQ hkj
   clear hj ht hb hkj
   by_cases hlt:j < l.length
   ·obtain ⟨x,hx⟩:∃ x,l[j]? = some x:=⟨_,xF hlt⟩
    obtain ⟨p0,p1,p2,p3,p4,p5,p6⟩:=parts_at ((HB.out.block pk (Qaa HH.out)).trans HH.out) HC.out j x hx
    obtain ⟨hjl,hje⟩:=List.getElem?_eq_some_iff.1 hx
    have ht:=HT.out
    rw [List.drop_eq_getElem_cons hjl,hje,Qb9] at ht
    have hj0:(0:Int) ≤ (j:Int):=by omega
    have hj1:(j:Int) < (l.length:Int):=by omega
    have hj2:(j:Int) + 1 ≤ 10:=by omega
    have hk2:(k:Int) + 1 ≤ 10:=by have:=HKJ.out;omega
    have HLT:=hQ hlt
    clear hx hjl hje
    by_cases hk:x.kids = 0
    ·rw [if_pos hk] at ht
     have HT2:=hQ ht
     have hk':(x.kids == 0) = true:=by simp [hk]
     clear ht hk
     go_wp2
     go_roundg (gk - 1)
     case measure=>have:=HJ.out;have:=HLT.out;omega
     case rel=>exact ⟨j + 1,k + 1,by go_num,by go_num,by have:=HJ.out;have:=HLT.out;omega,by have:=HKJ.out;omega,by have:=HT2.out;omega,HB.out.alloc HB.out.size _⟩
    ·rw [if_neg hk] at ht
     have HT2:=hQ ht
     have hk':(x.kids == 0) = false:=by simpa using hk
     clear ht hk
     go_wp2
     go_roundg (gk - 1)
     case measure=>have:=HJ.out;have:=HLT.out;omega
     case rel=>exact ⟨j + 1,k,rfl,by go_num,by have:=HJ.out;have:=HLT.out;omega,by have:=HKJ.out;omega,by have:=HT2.out;omega,HB.out.alloc HB.out.size _⟩
   ·have HR:=hQ (show Qb9 l = k from by have:=HT.out;rw [List.drop_eq_nil_of_le (by omega),Qb9] at this;omega)
    go_wp2
    go_ret
    exact ⟨by rw [HR.out];rfl,HB.out⟩
theorem count_syn (x:Part) (n:Int) (w:World):Calls Tryz.prog 108 #[.agg #[.string x.word,fnV x.nm,.int .i64 x.kids,.int .i64 x.least,.int .i64 x.most,.bool x.series,.bool x.commas],.int .i64 n] w fun e w'=>e = .returned (.int .i64 (Qbz x n)) ∧ Below w.heap.size w w':=by
 obtain ⟨wd,nm,kd,lst,mst,se,co⟩:=x
 cases se
 ·cases hk:(kd != 0)
  ·have HR:=hQ (show Qbz ⟨wd,nm,kd,lst,mst,false,co⟩ n = 0 from by unfold Qbz;simp at hk;simp [hk])
   go_enter Tryz.func108,Tryz.ntmps108
   go_wp2
   go_ret
   exact ⟨by rw [HR.out];rfl,(xC _ _).alloc (xA _) _⟩
  ·have HR:=hQ (show Qbz ⟨wd,nm,kd,lst,mst,false,co⟩ n = 1 from by unfold Qbz;simp at hk;simp [hk])
   go_enter Tryz.func108,Tryz.ntmps108
   go_wp2
   go_ret
   exact ⟨by rw [HR.out];rfl,(xC _ _).alloc (xA _) _⟩
 ·go_enter Tryz.func108,Tryz.ntmps108
  go_wp2
  go_ret
  exact ⟨rfl,(xC _ _).alloc (xA _) _⟩
theorem free_none (A:Option Addr) (c:Nat) (l:List Part) (k:Int) (w:World) (h:l = [] ∨ k < 0):Calls Tryz.prog 100 #[.slice A l.length c,.int .i64 k] w fun e w'=>e = .returned (.tuple #[.int .i64 (Qb0 l k).1,.bool (Qb0 l k).2]) ∧ Below w.heap.size w w':=by
 have HR:=hQ (show Qb0 l k = (0,false) from by unfold Qb0;rw [if_pos h])
 by_cases hne:l.length = 0
 ·have hz:((l.length:Int) == 0) = true:=by simp [hne]
  clear h hne
  go_enter Tryz.func100,Tryz.ntmps100
  go_wp2
  refine bodyPost_ret (v:=.tuple #[.int .i64 0,.bool false]) (by simp [results,Tryz.results100,go_sem]) rfl ?_
  exact ⟨by rw [HR.out],xC _ _⟩
 ·have hz:((l.length:Int) == 0) = false:=Qcf (by omega)
  have hk:k < 0:=h.elim (fun e=>by rw [e] at hne;simp at hne) id
  clear h hne
  go_enter Tryz.func100,Tryz.ntmps100
  go_wp2
  refine bodyPost_ret (v:=.tuple #[.int .i64 0,.bool false]) (by simp [results,Tryz.results100,go_sem]) rfl ?_
  exact ⟨by rw [HR.out],xC _ _⟩
theorem free_some {B:Nat} (A:Option Addr) (c:Nat) (l:List Part) (k0:Int) (w:World) (hp:Parts B w A l) (hl:l.length ≤ 9) (hne:l ≠ []) (hk0:0 ≤ k0) (hk1:k0 ≤ 140737488355328):Calls Tryz.prog 100 #[.slice A l.length c,.int .i64 k0] w fun e w'=>e = .returned (.tuple #[.int .i64 (Qb0 l k0).1,.bool (Qb0 l k0).2]) ∧ Below w.heap.size w w':=by
 have HR:=hQ (show Qb0 l k0 = ((Qd4 l 0 0 k0).2.2,decide ((Qd4 l 0 0 k0).1 ≤ (Qd4 l 0 0 k0).2.2) && decide ((Qd4 l 0 0 k0).2.2 ≤ (Qd4 l 0 0 k0).2.1)) from by unfold Qb0;rw [if_neg (by intro e;rcases e with e | e;exact hne e;omega)])
 have hpos:0 < l.length:=by cases l with
  | nil=>exact absurd rfl hne
  | cons a r=>simp
 obtain ⟨pk,cs,rfl,_,hh,hc⟩:=hp.at hpos
 have HH:=hQ hh
 have HC:=hQ hc
 have hz:((l.length:Int) == 0) = false:=Qcf (by omega)
 have hkn:decide (k0 < 0) = false:=decide_eq_false (by omega)
 have HK0:=hQ hk0
 have HK1:=hQ hk1
 have HL:=hQ hl
 clear hp hh hc hne hpos
 go_enter Tryz.func100,Tryz.ntmps100
 go_wp2
 go_loopg [1,6,7,19] l.length (fun g u1 u6 u7 u19 wr=>∃ (j:Nat) (k a b:Int),u1 = .int .i64 k ∧ u6 = .int .i64 a ∧ u7 = .int .i64 b ∧ u19 = .int .i64 j ∧ j + g = l.length ∧ k0 - j ≤ k ∧ k ≤ k0 ∧ Qd4 l 0 0 k0 = Qd4 (l.drop j) a b k ∧ Below w.heap.size w wr)
 case atStart=>exact ⟨0,k0,0,0,rfl,rfl,rfl,rfl,by omega,by omega,by omega,rfl,xC _ _⟩
 case round =>
  obtain ⟨j,k,a,b,rfl,rfl,rfl,rfl,hj,hka,hkb,hf,hb⟩:=hrel
  have HJ:=hQ hj
  have HF:=hQ hf
  have HB:=hQ hb
  have HKA:=hQ hka
  have HKB:=hQ hkb
  clear hj hf hb
  by_cases hlt:j < l.length
  ·obtain ⟨x,hx⟩:∃ x,l[j]? = some x:=⟨_,xF hlt⟩
   obtain ⟨p0,p1,p2,p3,p4,p5,p6⟩:=parts_at ((HB.out.block pk (Qaa HH.out)).trans HH.out) HC.out j x hx
   obtain ⟨hjl,hje⟩:=List.getElem?_eq_some_iff.1 hx
   have hf:=HF.out
   rw [List.drop_eq_getElem_cons hjl,hje,Qd4] at hf
   have hj0:(0:Int) ≤ (j:Int):=by omega
   have hj1:(j:Int) < (l.length:Int):=by omega
   have hj2:(j:Int) + 1 ≤ 10:=by omega
   have hk2:(-10:Int) ≤ k:=by omega
   have hk3:k ≤ 140737488355328:=by omega
   have HLT:=hQ hlt
   clear hx hjl hje hka hkb
   cases hse:x.series
   ·rw [if_neg (by rw [hse];decide)] at hf
    rw [hse] at p5
    clear hse
    by_cases hk:x.kids = 0
    ·rw [if_neg (by omega)] at hf
     have HF2:=hQ hf
     have hk':(x.kids != 0) = false:=by simp [hk]
     clear hf hk
     go_wp2
     go_roundg (gk - 1)
     case measure=>have:=HJ.out;have:=HLT.out;omega
     case rel=>exact ⟨j + 1,k,a,b,rfl,rfl,rfl,by go_num,by have:=HJ.out;have:=HLT.out;omega,by have:=HKA.out;omega,HKB.out,HF2.out,HB.out.alloc HB.out.size _⟩
    ·rw [if_pos hk] at hf
     have HF2:=hQ hf
     have hk':(x.kids != 0) = true:=by simpa using hk
     clear hf hk
     go_wp2
     go_roundg (gk - 1)
     case measure=>have:=HJ.out;have:=HLT.out;omega
     case rel=>exact ⟨j + 1,k - 1,a,b,by go_num,rfl,rfl,by go_num,by have:=HJ.out;have:=HLT.out;omega,by have:=HKA.out;omega,by have:=HKB.out;omega,HF2.out,HB.out.alloc HB.out.size _⟩
   ·rw [if_pos hse] at hf
    rw [hse] at p5
    have HF2:=hQ hf
    clear hf hse
    go_wp2
    go_roundg (gk - 1)
    case measure=>have:=HJ.out;have:=HLT.out;omega
    case rel=>exact ⟨j + 1,k,x.least,9223372036854775807,rfl,rfl,rfl,by go_num,by have:=HJ.out;have:=HLT.out;omega,by have:=HKA.out;omega,HKB.out,HF2.out,HB.out.alloc HB.out.size _⟩
  ·have HF2:=hQ (show Qd4 l 0 0 k0 = (a,b,k) from by have:=HF.out;rwa [List.drop_eq_nil_of_le (by omega),Qd4] at this)
   have HR2:=hQ (show Qb0 l k0 = (k,decide (a ≤ k) && decide (k ≤ b)) from by rw [HR.out,HF2.out])
   clear hka hkb
   cases hak:decide (a ≤ k)
   all_goals
    go_wp2
    refine bodyPost_ret (v:=.tuple #[.int .i64 k,.bool (decide (a ≤ k) && decide (k ≤ b))]) (by simp [results,Tryz.results100,go_sem, *]) rfl ?_
    exact ⟨by rw [HR2.out],HB.out⟩
theorem free_syn {B:Nat} (A:Option Addr) (c:Nat) (l:List Part) (k:Int) (w:World) (hp:Parts B w A l) (hl:l.length ≤ 9) (hk1:k ≤ 140737488355328):Calls Tryz.prog 100 #[.slice A l.length c,.int .i64 k] w fun e w'=>e = .returned (.tuple #[.int .i64 (Qb0 l k).1,.bool (Qb0 l k).2]) ∧ Below w.heap.size w w':=by
 by_cases h:l = [] ∨ k < 0
 ·exact free_none A c l k w h
 ·exact free_some A c l k w hp hl (fun e=>h (.inl e)) (by omega) hk1
theorem freeL_le (l:List Part):∀ a b k,(Qd4 l a b k).2.2 ≤ k:=by
 induction l with
 | nil=>intro a b k;exact Int.le_refl _
 | cons x r ih =>
  intro a b k
  unfold Qd4
  split
  ·exact ih _ _ _
  ·split
   ·have:=ih a b (k - 1)
    omega
   ·exact ih _ _ _
theorem freeP_le (l:List Part) (k:Int) (h:(Qb0 l k).2 = true):(Qb0 l k).1 ≤ k ∧ 0 ≤ k ∧ l ≠ []:=by
 unfold Qb0 at h ⊢
 by_cases hc:l = [] ∨ k < 0
 ·rw [if_pos hc] at h
  cases h
 ·rw [if_neg hc]
  exact ⟨freeL_le l 0 0 k,by omega,fun e=>hc (.inl e)⟩
theorem leads_syn (kind kids:Int) (w:World) (hk:kids ≤ 140737488355328):Calls Tryz.prog 69 #[.int .i64 kind,.int .i64 kids] w fun e w'=>e = .returned (.int .i64 (leadsP kind kids)) ∧ Below w.heap.size w w':=by
 have HPL:=hQ (partsP_len kind)
 have HK:=hQ hk
 cases hf:(Qb0 (Qae kind) kids).2
 ·have HR:=hQ (show leadsP kind kids = -1 from by unfold leadsP;rw [if_neg (by rw [hf];decide)])
  clear hk
  go_enter Tryz.func69,Tryz.ntmps69
  go_wp2_with fail
  go_at_call 99
  refine (Qf3 kind _).mono ?_
  rintro e w1 ⟨A,c,rfl,hp,hb⟩
  have HP:=hQ hp
  have HB:=hQ hb
  clear hp hb
  go_wp2_with fail
  go_at_call 100
  refine (free_syn A c _ kids _ HP.out HPL.out HK.out).mono ?_
  rintro e w2 ⟨rfl,hb2⟩
  have HB2:=hQ (HB.out.trans (hb2.mono HB.out.size))
  clear hb2
  go_wp2
  go_ret
  exact ⟨by rw [HR.out];rfl,HB2.out⟩
 ·have HR:=hQ (show leadsP kind kids = (Qb9 (Qae kind):Int) + commasP (Qae kind) (Qb0 (Qae kind) kids).1 from by unfold leadsP;rw [if_pos hf])
  obtain ⟨hn1,hn2,hn3⟩:=freeP_le _ _ hf
  have HNE:=hQ hn3
  generalize hn:(Qb0 (Qae kind) kids).1 = n at hn1 HR
  have HN:=hQ hn
  have hn4:n ≤ 140737488355328:=by omega
  have HN4:=hQ hn4
  clear hk hn hn1 hn2 hn3 hn4
  go_enter Tryz.func69,Tryz.ntmps69
  go_wp2_with fail
  go_at_call 99
  refine (Qf3 kind _).mono ?_
  rintro e w1 ⟨A,c,rfl,hp,hb⟩
  obtain ⟨pk,cs,rfl,hpk,hh,hc⟩:=hp HNE.out
  have HP:=hQ hp
  have HB:=hQ hb
  have HH:=hQ hh
  have HC:=hQ hc
  clear hp hb hpk hh hc
  go_wp2_with fail
  go_at_call 100
  refine (free_syn _ c _ kids _ HP.out HPL.out HK.out).mono ?_
  rw [HN.out]
  rintro e w2 ⟨rfl,hb2⟩
  have HB2:=hQ hb2
  clear hb2
  go_wp2_with fail
  go_at_call 101
  refine (tokens_syn _ c _ _ (HP.out.keep HB2.out) HPL.out).mono ?_
  rintro e w3 ⟨rfl,hb3⟩
  have HB3:=hQ ((HB.out.trans (HB2.out.mono HB.out.size)).trans (hb3.mono (Nat.le_trans HB.out.size HB2.out.size)))
  have HH3:=hQ ((hb3.block pk (Qaa ((HB2.out.block pk (Qaa HH.out)).trans HH.out))).trans ((HB2.out.block pk (Qaa HH.out)).trans HH.out))
  clear hb3
  go_wp2_with fail
  go_loopg [8,25] (Qae kind).length (fun g u8 u25 wr=>∃ (j:Nat) (m:Int),u8 = .int .i64 m ∧ u25 = .int .i64 j ∧ j + g = (Qae kind).length ∧ 0 ≤ m ∧ m ≤ 9 + j * 140737488355328 ∧ (Qb9 (Qae kind):Int) + commasP (Qae kind) n = m + commasP ((Qae kind).drop j) n ∧ Below w3.heap.size w3 wr)
  case atStart=>exact ⟨0,Qb9 (Qae kind),rfl,rfl,by omega,by omega,by have:=tokensP_le (Qae kind);have:=HPL.out;omega,rfl,xC _ _⟩
  case round =>
   obtain ⟨j,m,rfl,rfl,hj,hm0,hm1,hm,hb⟩:=hrel
   have HJ:=hQ hj
   have HM:=hQ hm
   have HM0:=hQ hm0
   have HM1:=hQ hm1
   have HBR:=hQ hb
   clear hj hm hb
   by_cases hlt:j < (Qae kind).length
   ·obtain ⟨x,hx⟩:∃ x,(Qae kind)[j]? = some x:=⟨_,xF hlt⟩
    obtain ⟨p0,p1,p2,p3,p4,p5,p6⟩:=parts_at ((HBR.out.block pk (Qaa HH3.out)).trans HH3.out) HC.out j x hx
    obtain ⟨hjl,hje⟩:=List.getElem?_eq_some_iff.1 hx
    have hc:=HM.out
    rw [List.drop_eq_getElem_cons hjl,hje,commasP] at hc
    have hj0:(0:Int) ≤ (j:Int):=by omega
    have hj1:(j:Int) < ((Qae kind).length:Int):=by omega
    have hj2:(j:Int) + 1 ≤ 10:=by have:=HPL.out;omega
    have hm2:m ≤ 1407374883553290:=by have:=HPL.out;omega
    have hn2:n ≤ 140737488355328:=HN4.out
    have HLT:=hQ hlt
    clear hx hjl hje hm1
    cases hco:x.commas
    ·rw [hco] at p6
     rw [hco] at hc
     have HC2:=hQ (show (Qb9 (Qae kind):Int) + commasP (Qae kind) n = m + commasP ((Qae kind).drop (j + 1)) n from by rw [hc];simp)
     clear hc hco
     go_wp2
     go_roundg (gk - 1)
     case measure=>have:=HJ.out;have:=HLT.out;omega
     case rel=>exact ⟨j + 1,m,rfl,by go_num,by have:=HJ.out;have:=HLT.out;omega,HM0.out,by have:=HM1.out;omega,HC2.out,HBR.out.alloc HBR.out.size _⟩
    ·rw [hco] at p6
     rw [hco] at hc
     clear hco
     by_cases hn:1 < n
     ·have HC2:=hQ (show (Qb9 (Qae kind):Int) + commasP (Qae kind) n = m + (n - 1) + commasP ((Qae kind).drop (j + 1)) n from by rw [hc];simp [hn];omega)
      clear hc
      go_wp2
      go_roundg (gk - 1)
      case measure=>have:=HJ.out;have:=HLT.out;omega
      case rel=>exact ⟨j + 1,m + (n - 1),by go_num,by go_num,by have:=HJ.out;have:=HLT.out;omega,by have:=HM0.out;omega,by have:=HM1.out;omega,HC2.out,HBR.out.alloc HBR.out.size _⟩
     ·have HC2:=hQ (show (Qb9 (Qae kind):Int) + commasP (Qae kind) n = m + commasP ((Qae kind).drop (j + 1)) n from by rw [hc];simp [hn])
      clear hc
      go_wp2
      go_roundg (gk - 1)
      case measure=>have:=HJ.out;have:=HLT.out;omega
      case rel=>exact ⟨j + 1,m,rfl,by go_num,by have:=HJ.out;have:=HLT.out;omega,HM0.out,by have:=HM1.out;omega,HC2.out,HBR.out.alloc HBR.out.size _⟩
   ·have HE:=hQ (show leadsP kind kids = m from by rw [HR.out,HM.out,List.drop_eq_nil_of_le (by omega),commasP];omega)
    clear hm1 hm0
    go_wp2
    go_ret
    exact ⟨by rw [HE.out];rfl,HB3.out.trans (HBR.out.mono HB3.out.size)⟩
end Go.Proofs.YtnnfdbmanamfdaaGreat
