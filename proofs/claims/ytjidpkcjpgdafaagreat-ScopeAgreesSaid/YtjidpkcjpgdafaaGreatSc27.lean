/- Part 27: The contract of the reference's next: the token that begins at a place. -/
import Derived.Test.YtjidpkcjpgdafaaGreatSc1
import Derived.Test.YtjidpkcjpgdafaaGreatSc26
set_option maxRecDepth 100000
set_option maxHeartbeats 4000000
namespace Go.Proofs.YtjidpkcjpgdafaaGreat
open Go.RowKit
def Qgh (t:Tk) (a:Nat) (w:World) (e:Ending) (w':World):Prop :=
 e = .returned (.agg #[.int .i64 (iLen t),.int .i64 t.kind,.int .i64 t.e,.int .i64 (iAt t a)]) ∧ Below w.heap.size w w'
section
variable {s:ByteArray} {a:Nat}
theorem tok_bad (h0:a < s.size) (ha:Qap s[a].toNat = false):Qbe (suf s a) = ⟨0,0,1⟩:=by
 unfold Qbe
 rw [Qb1 s a h0,if_pos ha]
theorem tok_word (h0:a < s.size) (ha:Qap s[a].toNat = true) (hl:Qau s[a].toNat = true):Qbe (suf s a) = Qdv (suf s a):=by
 unfold Qbe
 rw [Qb1 s a h0,if_neg (by simp [ha]),if_pos hl]
theorem tok_num (h0:a < s.size) (ha:Qap s[a].toNat = true) (hl:Qau s[a].toNat = false) (hd:Qby s[a].toNat = true):Qbe (suf s a) = numT (suf s a):=by
 unfold Qbe
 rw [Qb1 s a h0,if_neg (by simp [ha]),if_neg (by simp [hl]),if_pos hd]
theorem tok_quot (h0:a < s.size) (h34:s[a].toNat = 34):Qbe (suf s a) = Qcv 1 (suf s (a + 1)):=by
 have ha:Qap (34:Nat) = true:=by decide
 have hl:Qau (34:Nat) = false:=by decide
 have hd:Qby (34:Nat) = false:=by decide
 unfold Qbe
 rw [Qb1 s a h0,h34,if_neg (by rw [ha];decide),if_neg (by rw [hl];decide),if_neg (by rw [hd];decide),if_pos rfl,Qex]
theorem tok_sign (h0:a < s.size) (ha:Qap s[a].toNat = true) (hl:Qau s[a].toNat = false) (hd:Qby s[a].toNat = false) (h34:s[a].toNat ≠ 34):Qbe (suf s a) = Qd3 (suf s a):=by
 unfold Qbe
 rw [Qb1 s a h0,if_neg (by simp [ha]),if_neg (by simp [hl]),if_neg (by simp [hd]),if_neg h34]
end
theorem digit_letter {c:Int} (h:Qby c = true):Qau c = false:=by
 unfold Qby at h
 unfold Qau Qbx lowerB
 simp at h ⊢
 omega
theorem letter_split {c:Int} (h:Qau c = false):Qbx c = false ∧ lowerB c = false:=by
 unfold Qau at h
 simpa using h
theorem printed_not {c:Nat} (hp:Qfw c = false) (ha:Qap c = true):c = 92 ∨ c = 9 ∨ c = 10 ∨ c = 13:=by
 rw [allowed_printed,hp] at ha
 unfold Qd0 at ha
 unfold Qfw at hp
 simp at ha hp
 omega
theorem printed_yes {c:Nat} (hp:Qfw c = true) (h92:c ≠ 92):¬ (c = 92 ∨ c = 9 ∨ c = 10 ∨ c = 13):=by
 unfold Qfw at hp
 simp at hp
 omega
theorem item_block {w w1:World} {t:TypeId} (hb:Below (w.heap.size + 1) (w.alloc (.cells #[.int .i64 0,.int .i64 0,.int .i64 0,.int .i64 0] t)) w1) :
  w1.cell? ⟨w.heap.size,0,none⟩ = some (.int .i64 0) ∧ w1.cell? ⟨w.heap.size,1,none⟩ = some (.int .i64 0) ∧ w1.cell? ⟨w.heap.size,2,none⟩ = some (.int .i64 0) ∧ w1.cell? ⟨w.heap.size,3,none⟩ = some (.int .i64 0) ∧
  w1.frozen? ⟨w.heap.size,0,none⟩ = false ∧ w1.frozen? ⟨w.heap.size,1,none⟩ = false ∧ w1.frozen? ⟨w.heap.size,2,none⟩ = false ∧ w1.frozen? ⟨w.heap.size,3,none⟩ = false ∧ w.heap.size < w1.heap.size ∧ Below w.heap.size w w1:=by
 have hlt:w.heap.size < w1.heap.size:=by have:=hb.size;simp at this;omega
 refine ⟨(hb.cell (p:=⟨w.heap.size,0,none⟩) (by simp)).trans (by simp),(hb.cell (p:=⟨w.heap.size,1,none⟩) (by simp)).trans (by simp),(hb.cell (p:=⟨w.heap.size,2,none⟩) (by simp)).trans (by simp),(hb.cell (p:=⟨w.heap.size,3,none⟩) (by simp)).trans (by simp),(hb.frozen (p:=⟨w.heap.size,0,none⟩) (by simp)).trans (by simp),(hb.frozen (p:=⟨w.heap.size,1,none⟩) (by simp)).trans (by simp),(hb.frozen (p:=⟨w.heap.size,2,none⟩) (by simp)).trans (by simp),(hb.frozen (p:=⟨w.heap.size,3,none⟩) (by simp)).trans (by simp),hlt,?_⟩
 exact ((xC _ w).alloc (xA _) _).trans (hb.mono (by omega))
theorem next_bad (s:ByteArray) (a:Nat) (w:World) (h0:a < s.size) (_hs:s.size < maxLen) (ha:Qap s[a].toNat = false) :
  Calls Tryz.prog 236 #[.string s,.int .i64 a] w (Qgh (Qbe (suf s a)) a w):=by
 have HT:=hQ (Nat.le_of_lt _hs)
 go_enter Tryz.func236,Tryz.ntmps236
 go_wp2_with (first | (go_at_call 246;refine (Qa4 _ _).mono ?_;rintro e w' ⟨rfl,rfl⟩) | (go_at_call 247;refine (Qbg _ _).mono ?_;rintro e w' ⟨rfl,rfl⟩) | (go_at_call 248;refine (Qb2 _ _).mono ?_;rintro e w' ⟨rfl,rfl⟩) | (go_at_call 249;refine (Qba _ _).mono ?_;rintro e w' ⟨rfl,rfl⟩) | (go_at_call 250;refine (Qax _ _).mono ?_;rintro e w' ⟨rfl,rfl⟩) | (go_at_call 252;refine (rsign_any _ _ _ h0 HT.out).mono ?_;rintro e w' ⟨rfl,rfl⟩))
 exact bodyPost_ret (v:=.agg #[.int .i64 0,.int .i64 0,.int .i64 1,.int .i64 a]) (by simp [results,Tryz.results236,go_sem]) rfl ⟨Qeh 0 0 (tok_bad h0 ha) rfl (by omega),(xC _ _).alloc (xA _) _⟩
theorem next_sign (s:ByteArray) (a:Nat) (w:World) (h0:a < s.size) (hs:s.size < maxLen) (ha:Qap s[a].toNat = true) (hl:Qau s[a].toNat = false) (hd:Qby s[a].toNat = false) (h34:s[a].toNat ≠ 34) :
  Calls Tryz.prog 236 #[.string s,.int .i64 a] w (Qgh (Qbe (suf s a)) a w):=by
 have HT:=hQ (Nat.le_of_lt hs)
 have HK:=hQ (tok_sign h0 ha hl hd h34)
 have g34:((s[a].toNat:Int) == 34) = false:=Qdl h34
 obtain ⟨hu,hlo⟩:=letter_split hl
 clear h34 hs
 by_cases hz:Qbn (suf s a) = 0
 ·have HZ:=hQ (show Qd3 (suf s a) = ⟨0,0,2⟩ from by unfold Qd3;rw [if_pos hz])
  go_enter Tryz.func236,Tryz.ntmps236
  go_wp2_with (first | (go_at_call 246;refine (Qa4 _ _).mono ?_;rintro e w' ⟨rfl,rfl⟩) | (go_at_call 247;refine (Qbg _ _).mono ?_;rintro e w' ⟨rfl,rfl⟩) | (go_at_call 248;refine (Qb2 _ _).mono ?_;rintro e w' ⟨rfl,rfl⟩) | (go_at_call 249;refine (Qba _ _).mono ?_;rintro e w' ⟨rfl,rfl⟩) | (go_at_call 250;refine (Qax _ _).mono ?_;rintro e w' ⟨rfl,rfl⟩) | (go_at_call 252;refine (rsign_any _ _ _ h0 HT.out).mono ?_;rintro e w' ⟨rfl,rfl⟩))
  exact bodyPost_ret (v:=.agg #[.int .i64 0,.int .i64 0,.int .i64 2,.int .i64 a]) (by simp [results,Tryz.results236,go_sem]) rfl ⟨Qeh 0 1 (HK.out.trans HZ.out) rfl (by omega),(xC _ _).alloc (xA _) _⟩
 ·have HZ:=hQ (show Qd3 (suf s a) = ⟨8,Qbn (suf s a),0⟩ from by unfold Qd3;rw [if_neg hz])
  have hz':¬ ((Qbn (suf s a):Nat):Int) = 0:=by omega
  clear hz
  go_enter Tryz.func236,Tryz.ntmps236
  go_wp2_with (first | (go_at_call 246;refine (Qa4 _ _).mono ?_;rintro e w' ⟨rfl,rfl⟩) | (go_at_call 247;refine (Qbg _ _).mono ?_;rintro e w' ⟨rfl,rfl⟩) | (go_at_call 248;refine (Qb2 _ _).mono ?_;rintro e w' ⟨rfl,rfl⟩) | (go_at_call 249;refine (Qba _ _).mono ?_;rintro e w' ⟨rfl,rfl⟩) | (go_at_call 250;refine (Qax _ _).mono ?_;rintro e w' ⟨rfl,rfl⟩) | (go_at_call 252;refine (rsign_any _ _ _ h0 HT.out).mono ?_;rintro e w' ⟨rfl,rfl⟩))
  exact bodyPost_ret (v:=.agg #[.int .i64 (Qbn (suf s a):Nat),.int .i64 8,.int .i64 0,.int .i64 0]) (by simp [results,Tryz.results236,go_sem]) rfl ⟨Qel 8 _ (HK.out.trans HZ.out) rfl rfl,(xC _ _).alloc (xA _) _⟩
theorem next_word (s:ByteArray) (a:Nat) (w:World) (h0:a < s.size) (hs:s.size < maxLen) (ha:Qap s[a].toNat = true) (hl:Qau s[a].toNat = true) (hd:Qby s[a].toNat = false)
  (hw:∀ w:World,Calls Tryz.prog 251 #[.string s,.int .i64 a] w (Qdj s a w)) :
  Calls Tryz.prog 236 #[.string s,.int .i64 a] w (Qgh (Qbe (suf s a)) a w):=by
 have HT:=hQ (Nat.le_of_lt hs)
 have HK:=hQ (tok_word h0 ha hl)
 have HW:=hQ hw
 have g34:((s[a].toNat:Int) == 34) = false:=Qdl (m:=34) (fun h=>by rw [h] at hl;exact absurd hl (by decide))
 have HU:=hQ (show Qau s[a].toNat = (Qbx s[a].toNat || lowerB s[a].toNat) from rfl)
 cases hu:Qbx s[a].toNat
 ·cases hlo:lowerB s[a].toNat
  ·exact absurd hl (by rw [HU.out,hu,hlo];decide)
  ·clear hs hw hl
   go_enter Tryz.func236,Tryz.ntmps236
   go_wp2_with (first | (go_at_call 246;refine (Qa4 _ _).mono ?_;rintro e w' ⟨rfl,rfl⟩) | (go_at_call 247;refine (Qbg _ _).mono ?_;rintro e w' ⟨rfl,rfl⟩) | (go_at_call 248;refine (Qb2 _ _).mono ?_;rintro e w' ⟨rfl,rfl⟩) | (go_at_call 249;refine (Qba _ _).mono ?_;rintro e w' ⟨rfl,rfl⟩) | (go_at_call 250;refine (Qax _ _).mono ?_;rintro e w' ⟨rfl,rfl⟩) | (go_at_call 252;refine (rsign_any _ _ _ h0 HT.out).mono ?_;rintro e w' ⟨rfl,rfl⟩) | (go_at_call 251;refine (HW.out _).mono ?_;rintro e w1 ⟨rfl,hb1⟩;have HI:=hQ (item_block (t:=253) (by simpa using hb1));clear hb1;obtain ⟨c0,c1,c2,c3,f0,f1,f2,f3,hz,HB⟩:=HI.out;clear HI;have HB:=hQ HB))
   exact bodyPost_ret (v:=.agg #[.int .i64 (iLen (Qdv (suf s a))),.int .i64 (Qdv (suf s a)).kind,.int .i64 (Qdv (suf s a)).e,.int .i64 (iAt (Qdv (suf s a)) a)]) (by simp [results,Tryz.results236,go_sem,c0,c1,c2,c3]) rfl ⟨ret_item (by rw [HK.out]) (by rw [HK.out]) (by rw [HK.out]) (by rw [HK.out]),(((HB.out.setCell (by simp) _).setCell (by simp) _).setCell (by simp) _).setCell (by simp) _⟩
 ·cases hlo:lowerB s[a].toNat
  all_goals
   clear hs hw hl
   go_enter Tryz.func236,Tryz.ntmps236
   go_wp2_with (first | (go_at_call 246;refine (Qa4 _ _).mono ?_;rintro e w' ⟨rfl,rfl⟩) | (go_at_call 247;refine (Qbg _ _).mono ?_;rintro e w' ⟨rfl,rfl⟩) | (go_at_call 248;refine (Qb2 _ _).mono ?_;rintro e w' ⟨rfl,rfl⟩) | (go_at_call 249;refine (Qba _ _).mono ?_;rintro e w' ⟨rfl,rfl⟩) | (go_at_call 250;refine (Qax _ _).mono ?_;rintro e w' ⟨rfl,rfl⟩) | (go_at_call 252;refine (rsign_any _ _ _ h0 HT.out).mono ?_;rintro e w' ⟨rfl,rfl⟩) | (go_at_call 251;refine (HW.out _).mono ?_;rintro e w1 ⟨rfl,hb1⟩;have HI:=hQ (item_block (t:=253) (by simpa using hb1));clear hb1;obtain ⟨c0,c1,c2,c3,f0,f1,f2,f3,hz,HB⟩:=HI.out;clear HI;have HB:=hQ HB))
   exact bodyPost_ret (v:=.agg #[.int .i64 (iLen (Qdv (suf s a))),.int .i64 (Qdv (suf s a)).kind,.int .i64 (Qdv (suf s a)).e,.int .i64 (iAt (Qdv (suf s a)) a)]) (by simp [results,Tryz.results236,go_sem,c0,c1,c2,c3]) rfl ⟨ret_item (by rw [HK.out]) (by rw [HK.out]) (by rw [HK.out]) (by rw [HK.out]),(((HB.out.setCell (by simp) _).setCell (by simp) _).setCell (by simp) _).setCell (by simp) _⟩
theorem next_quot (s:ByteArray) (a:Nat) (w:World) (h0:a < s.size) (hs:s.size < maxLen) (h34:s[a].toNat = 34) :
  Calls Tryz.prog 236 #[.string s,.int .i64 a] w (Qgh (Qbe (suf s a)) a w):=by
 have HK:=hQ (tok_quot h0 h34)
 have g34:((s[a].toNat:Int) == 34) = true:=Qcx h34
 have ha:Qap s[a].toNat = true:=by rw [h34];decide
 have hst:=hQ (QuotAt.start s a h0)
 clear h34
 unfold maxLen at hs
 go_enter Tryz.func236,Tryz.ntmps236
 go_wp2_with (first | (go_at_call 246;refine (Qa4 _ _).mono ?_;rintro e w' ⟨rfl,rfl⟩) | (go_at_call 247;refine (Qbg _ _).mono ?_;rintro e w' ⟨rfl,rfl⟩) | (go_at_call 248;refine (Qb2 _ _).mono ?_;rintro e w' ⟨rfl,rfl⟩) | (go_at_call 249;refine (Qba _ _).mono ?_;rintro e w' ⟨rfl,rfl⟩) | (go_at_call 250;refine (Qax _ _).mono ?_;rintro e w' ⟨rfl,rfl⟩))
 go_loop [6] (fun x=>∃ (k:Nat),a + 1 ≤ k ∧ k ≤ s.size ∧ x = .int .i64 k ∧ QuotAt s a k) (fun x=>s.size - (intOf x).toNat)
 case atStart=>exact ⟨a + 1,xA _,h0,by go_num,hst.out⟩
 case round =>
  obtain ⟨k,h1,hk,rfl,hrel⟩:=hrel
  have HR:=hQ hrel
  clear hrel hst
  by_cases hlt:k < s.size
  ·by_cases h34:s[k].toNat = 34
   ·have g34':((s[k].toNat:Int) == 34) = true:=Qcx h34
    have H34:=hQ h34
    clear h34
    go_wp2
    exact bodyPost_ret (v:=.agg #[.int .i64 ((k:Int) + 1 - (a:Int)),.int .i64 6,.int .i64 0,.int .i64 0]) (by simp [results,Tryz.results236,go_sem]) rfl ⟨Qel 6 (k - a + 1) (HK.out.trans (HR.out.close hlt H34.out)) (by omega) rfl,(xC _ _).alloc (xA _) _⟩
   ·have g34':((s[k].toNat:Int) == 34) = false:=Qdl h34
    have H34:=hQ h34
    clear h34
    cases hal:Qap s[k].toNat
    ·have HS:=hQ (show ¬ (s[k].toNat = 92 ∨ s[k].toNat = 9 ∨ s[k].toNat = 10 ∨ s[k].toNat = 13) from fun h=>by rcases h with h | h | h | h <;> (rw [h] at hal;exact absurd hal (by decide)))
     go_wp2_with (first | (go_at_call 246;refine (Qa4 _ _).mono ?_;rintro e w' ⟨rfl,rfl⟩) | (go_at_call 247;refine (Qbg _ _).mono ?_;rintro e w' ⟨rfl,rfl⟩) | (go_at_call 248;refine (Qb2 _ _).mono ?_;rintro e w' ⟨rfl,rfl⟩) | (go_at_call 249;refine (Qba _ _).mono ?_;rintro e w' ⟨rfl,rfl⟩) | (go_at_call 250;refine (Qax _ _).mono ?_;rintro e w' ⟨rfl,rfl⟩))
     exact bodyPost_ret (v:=.agg #[.int .i64 0,.int .i64 0,.int .i64 1,.int .i64 k]) (by simp [results,Tryz.results236,go_sem]) rfl ⟨Qeh (k - a) 0 (HK.out.trans (HR.out.bad hlt H34.out HS.out hal)) rfl (by omega),(xC _ _).alloc (xA _) _⟩
    ·cases hp:Qfw s[k].toNat
     ·have HS:=hQ (printed_not hp hal)
      go_wp2_with (first | (go_at_call 246;refine (Qa4 _ _).mono ?_;rintro e w' ⟨rfl,rfl⟩) | (go_at_call 247;refine (Qbg _ _).mono ?_;rintro e w' ⟨rfl,rfl⟩) | (go_at_call 248;refine (Qb2 _ _).mono ?_;rintro e w' ⟨rfl,rfl⟩) | (go_at_call 249;refine (Qba _ _).mono ?_;rintro e w' ⟨rfl,rfl⟩) | (go_at_call 250;refine (Qax _ _).mono ?_;rintro e w' ⟨rfl,rfl⟩))
      exact bodyPost_ret (v:=.agg #[.int .i64 0,.int .i64 0,.int .i64 2,.int .i64 a]) (by simp [results,Tryz.results236,go_sem]) rfl ⟨Qeh 0 1 (HK.out.trans (HR.out.stop hlt H34.out HS.out)) rfl (by omega),(xC _ _).alloc (xA _) _⟩
     ·by_cases h92:s[k].toNat = 92
      ·have g92:((s[k].toNat:Int) == 92) = true:=Qcx h92
       have HS:=hQ (show s[k].toNat = 92 ∨ s[k].toNat = 9 ∨ s[k].toNat = 10 ∨ s[k].toNat = 13 from .inl h92)
       clear h92
       go_wp2_with (first | (go_at_call 246;refine (Qa4 _ _).mono ?_;rintro e w' ⟨rfl,rfl⟩) | (go_at_call 247;refine (Qbg _ _).mono ?_;rintro e w' ⟨rfl,rfl⟩) | (go_at_call 248;refine (Qb2 _ _).mono ?_;rintro e w' ⟨rfl,rfl⟩) | (go_at_call 249;refine (Qba _ _).mono ?_;rintro e w' ⟨rfl,rfl⟩) | (go_at_call 250;refine (Qax _ _).mono ?_;rintro e w' ⟨rfl,rfl⟩))
       exact bodyPost_ret (v:=.agg #[.int .i64 0,.int .i64 0,.int .i64 2,.int .i64 a]) (by simp [results,Tryz.results236,go_sem]) rfl ⟨Qeh 0 1 (HK.out.trans (HR.out.stop hlt H34.out HS.out)) rfl (by omega),(xC _ _).alloc (xA _) _⟩
      ·have g92:((s[k].toNat:Int) == 92) = false:=Qdl h92
       have HS:=hQ (printed_yes hp h92)
       clear h92
       go_wp2_with (first | (go_at_call 246;refine (Qa4 _ _).mono ?_;rintro e w' ⟨rfl,rfl⟩) | (go_at_call 247;refine (Qbg _ _).mono ?_;rintro e w' ⟨rfl,rfl⟩) | (go_at_call 248;refine (Qb2 _ _).mono ?_;rintro e w' ⟨rfl,rfl⟩) | (go_at_call 249;refine (Qba _ _).mono ?_;rintro e w' ⟨rfl,rfl⟩) | (go_at_call 250;refine (Qax _ _).mono ?_;rintro e w' ⟨rfl,rfl⟩))
       go_round
       case rel=>exact ⟨k + 1,by omega,by omega,by go_num,HR.out.next hlt H34.out HS.out hal⟩
       case measure=>simp [intOf];omega
  ·go_wp2
   exact bodyPost_ret (v:=.agg #[.int .i64 0,.int .i64 0,.int .i64 2,.int .i64 a]) (by simp [results,Tryz.results236,go_sem]) rfl ⟨Qeh 0 1 (HK.out.trans (HR.out.done hlt)) rfl (by omega),(xC _ _).alloc (xA _) _⟩
theorem num_zero {s:ByteArray} {a k:Nat} (h0:a < s.size) (hn:Qdk (suf s a) + a = k) (h1:a + 1 < k) (h48:s[a].toNat = 48):numT (suf s a) = ⟨0,0,2⟩:=by
 unfold numT
 rw [Qb1 s a h0,if_pos ⟨by omega,h48⟩]
theorem num_long {s:ByteArray} {a k:Nat} (h0:a < s.size) (hn:Qdk (suf s a) + a = k) (h1:¬ (a + 1 < k ∧ s[a].toNat = 48)) (h15:a + 15 < k):numT (suf s a) = ⟨0,0,3⟩:=by
 unfold numT
 rw [Qb1 s a h0,if_neg (by omega),if_pos (by omega)]
theorem num_ok {s:ByteArray} {a k:Nat} (h0:a < s.size) (hn:Qdk (suf s a) + a = k) (h1:¬ (a + 1 < k ∧ s[a].toNat = 48)) (h15:¬ a + 15 < k):numT (suf s a) = ⟨5,k - a,0⟩:=by
 unfold numT
 rw [Qb1 s a h0,if_neg (by omega),if_neg (by omega),show Qdk (suf s a) = k - a from by omega]
theorem next_num (s:ByteArray) (a:Nat) (w:World) (h0:a < s.size) (hs:s.size < maxLen) (ha:Qap s[a].toNat = true) (hl:Qau s[a].toNat = false) (hd:Qby s[a].toNat = true) :
  Calls Tryz.prog 236 #[.string s,.int .i64 a] w (Qgh (Qbe (suf s a)) a w):=by
 have HK:=hQ (tok_num h0 ha hl hd)
 have g34:((s[a].toNat:Int) == 34) = false:=Qdl (m:=34) (fun h=>by rw [h] at hd;exact absurd hd (by decide))
 have hst:=hQ (RunAt.start Qby s a (Nat.le_of_lt h0))
 clear hl
 unfold maxLen at hs
 go_enter Tryz.func236,Tryz.ntmps236
 go_wp2_with (first | (go_at_call 246;refine (Qa4 _ _).mono ?_;rintro e w' ⟨rfl,rfl⟩) | (go_at_call 247;refine (Qbg _ _).mono ?_;rintro e w' ⟨rfl,rfl⟩) | (go_at_call 248;refine (Qb2 _ _).mono ?_;rintro e w' ⟨rfl,rfl⟩) | (go_at_call 249;refine (Qba _ _).mono ?_;rintro e w' ⟨rfl,rfl⟩) | (go_at_call 250;refine (Qax _ _).mono ?_;rintro e w' ⟨rfl,rfl⟩))
 go_loop [7] (fun x=>∃ (k:Nat),a ≤ k ∧ k ≤ s.size ∧ x = .int .i64 k ∧ RunAt Qby s a k) (fun x=>s.size - (intOf x).toNat)
 case atStart=>exact ⟨a,xA _,Nat.le_of_lt h0,rfl,hst.out⟩
 case round =>
  obtain ⟨k,hak,hk,rfl,hrel⟩:=hrel
  have HR:=hQ hrel
  clear hrel hst
  by_cases hgo:∃ h:k < s.size,Qby s[k].toNat = true
  ·obtain ⟨hlt,hd'⟩:=hgo
   go_wp2_with (first | (go_at_call 246;refine (Qa4 _ _).mono ?_;rintro e w' ⟨rfl,rfl⟩) | (go_at_call 247;refine (Qbg _ _).mono ?_;rintro e w' ⟨rfl,rfl⟩) | (go_at_call 248;refine (Qb2 _ _).mono ?_;rintro e w' ⟨rfl,rfl⟩) | (go_at_call 249;refine (Qba _ _).mono ?_;rintro e w' ⟨rfl,rfl⟩) | (go_at_call 250;refine (Qax _ _).mono ?_;rintro e w' ⟨rfl,rfl⟩))
   go_round
   case rel=>exact ⟨k + 1,by omega,by omega,by go_num,HR.out.next hlt hd'⟩
   case measure=>simp [intOf];omega
  ·have HN:Hid (Qdk (suf s a) + a = k):=by
    unfold Qdk
    by_cases hlt:k < s.size
    ·exact hQ (HR.out.stop hlt (by simpa using fun h=>hgo ⟨hlt,h⟩))
    ·exact hQ (HR.out.done hlt)
   by_cases h1:a + 1 < k
   ·have hgt:1 < (k:Int) - (a:Int):=by omega
    by_cases h48:s[a].toNat = 48
    ·have h48':((s[a].toNat:Int) == 48) = true:=Qcx h48
     have HX:=hQ (HK.out.trans (num_zero h0 HN.out h1 h48))
     clear h48
     by_cases hlt:k < s.size
     all_goals
      first | (have hd':Qby s[k].toNat = false:=by simpa using fun h=>hgo ⟨hlt,h⟩) | skip
      clear hgo
      go_wp2_with (first | (go_at_call 246;refine (Qa4 _ _).mono ?_;rintro e w' ⟨rfl,rfl⟩) | (go_at_call 247;refine (Qbg _ _).mono ?_;rintro e w' ⟨rfl,rfl⟩) | (go_at_call 248;refine (Qb2 _ _).mono ?_;rintro e w' ⟨rfl,rfl⟩) | (go_at_call 249;refine (Qba _ _).mono ?_;rintro e w' ⟨rfl,rfl⟩) | (go_at_call 250;refine (Qax _ _).mono ?_;rintro e w' ⟨rfl,rfl⟩))
      exact bodyPost_ret (v:=.agg #[.int .i64 0,.int .i64 0,.int .i64 2,.int .i64 a]) (by simp [results,Tryz.results236,go_sem]) rfl ⟨Qeh 0 1 HX.out rfl (by omega),(xC _ _).alloc (xA _) _⟩
    ·have h48':((s[a].toNat:Int) == 48) = false:=Qdl h48
     by_cases h15:a + 15 < k
     ·have hgt15:15 < (k:Int) - (a:Int):=by omega
      have HX:=hQ (HK.out.trans (num_long h0 HN.out (fun h=>h48 h.2) h15))
      clear h48
      by_cases hlt:k < s.size
      all_goals
       first | (have hd':Qby s[k].toNat = false:=by simpa using fun h=>hgo ⟨hlt,h⟩) | skip
       clear hgo
       go_wp2_with (first | (go_at_call 246;refine (Qa4 _ _).mono ?_;rintro e w' ⟨rfl,rfl⟩) | (go_at_call 247;refine (Qbg _ _).mono ?_;rintro e w' ⟨rfl,rfl⟩) | (go_at_call 248;refine (Qb2 _ _).mono ?_;rintro e w' ⟨rfl,rfl⟩) | (go_at_call 249;refine (Qba _ _).mono ?_;rintro e w' ⟨rfl,rfl⟩) | (go_at_call 250;refine (Qax _ _).mono ?_;rintro e w' ⟨rfl,rfl⟩))
       exact bodyPost_ret (v:=.agg #[.int .i64 0,.int .i64 0,.int .i64 3,.int .i64 a]) (by simp [results,Tryz.results236,go_sem]) rfl ⟨Qeh 0 2 HX.out rfl (by omega),(xC _ _).alloc (xA _) _⟩
     ·have hgt15:¬ 15 < (k:Int) - (a:Int):=by omega
      have HX:=hQ (HK.out.trans (num_ok h0 HN.out (fun h=>h48 h.2) h15))
      clear h48
      by_cases hlt:k < s.size
      all_goals
       first | (have hd':Qby s[k].toNat = false:=by simpa using fun h=>hgo ⟨hlt,h⟩) | skip
       clear hgo
       go_wp2_with (first | (go_at_call 246;refine (Qa4 _ _).mono ?_;rintro e w' ⟨rfl,rfl⟩) | (go_at_call 247;refine (Qbg _ _).mono ?_;rintro e w' ⟨rfl,rfl⟩) | (go_at_call 248;refine (Qb2 _ _).mono ?_;rintro e w' ⟨rfl,rfl⟩) | (go_at_call 249;refine (Qba _ _).mono ?_;rintro e w' ⟨rfl,rfl⟩) | (go_at_call 250;refine (Qax _ _).mono ?_;rintro e w' ⟨rfl,rfl⟩))
       exact bodyPost_ret (v:=.agg #[.int .i64 ((k:Int) - (a:Int)),.int .i64 5,.int .i64 0,.int .i64 0]) (by simp [results,Tryz.results236,go_sem]) rfl ⟨Qel 5 (k - a) HX.out (by omega) rfl,(xC _ _).alloc (xA _) _⟩
   ·have hgt:¬ 1 < (k:Int) - (a:Int):=by omega
    have hgt15:¬ 15 < (k:Int) - (a:Int):=by omega
    have HX:=hQ (HK.out.trans (num_ok h0 HN.out (fun h=>h1 h.1) (by omega)))
    by_cases hlt:k < s.size
    all_goals
     first | (have hd':Qby s[k].toNat = false:=by simpa using fun h=>hgo ⟨hlt,h⟩) | skip
     clear hgo
     go_wp2_with (first | (go_at_call 246;refine (Qa4 _ _).mono ?_;rintro e w' ⟨rfl,rfl⟩) | (go_at_call 247;refine (Qbg _ _).mono ?_;rintro e w' ⟨rfl,rfl⟩) | (go_at_call 248;refine (Qb2 _ _).mono ?_;rintro e w' ⟨rfl,rfl⟩) | (go_at_call 249;refine (Qba _ _).mono ?_;rintro e w' ⟨rfl,rfl⟩) | (go_at_call 250;refine (Qax _ _).mono ?_;rintro e w' ⟨rfl,rfl⟩))
     exact bodyPost_ret (v:=.agg #[.int .i64 ((k:Int) - (a:Int)),.int .i64 5,.int .i64 0,.int .i64 0]) (by simp [results,Tryz.results236,go_sem]) rfl ⟨Qel 5 (k - a) HX.out (by omega) rfl,(xC _ _).alloc (xA _) _⟩
theorem next_any (s:ByteArray) (a:Nat) (w:World) (h0:a < s.size) (hs:s.size < maxLen)
  (hw:Qau s[a].toNat = true → ∀ w:World,Calls Tryz.prog 251 #[.string s,.int .i64 a] w (Qdj s a w)) :
  Calls Tryz.prog 236 #[.string s,.int .i64 a] w (Qgh (Qbe (suf s a)) a w):=by
 cases ha:Qap s[a].toNat
 ·exact next_bad s a w h0 hs ha
 ·cases hl:Qau s[a].toNat
  ·cases hd:Qby s[a].toNat
   ·by_cases h34:s[a].toNat = 34
    ·exact next_quot s a w h0 hs h34
    ·exact next_sign s a w h0 hs ha hl hd h34
   ·exact next_num s a w h0 hs ha hl hd
  ·cases hd:Qby s[a].toNat
   ·exact next_word s a w h0 hs ha hl hd (hw hl)
   ·rw [digit_letter hd] at hl
    cases hl
end Go.Proofs.YtjidpkcjpgdafaaGreat
