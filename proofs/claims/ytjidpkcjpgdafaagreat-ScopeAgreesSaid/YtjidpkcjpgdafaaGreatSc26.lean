/- Part 26: The contracts of the reference's sign and words. The contract of the reference's words: the word or qualified word that begins at a place. The contract of the reference's words, all cases. -/
import Derived.Test.YtjidpkcjpgdafaaGreatSc1
import Derived.Test.YtjidpkcjpgdafaaGreatSc4
set_option maxRecDepth 100000
set_option maxHeartbeats 4000000
namespace Go.Proofs.YtjidpkcjpgdafaaGreat
open Go.RowKit
section
variable {s:ByteArray} {a:Nat}
theorem sl_two (h0:a < s.size) (h:s[a].toNat = 61) (h1:a + 1 < s.size) (h2:s[a + 1].toNat = 61):Qbn (suf s a) = 2:=by
 unfold Qbn
 rw [Qb1 s a h0,if_pos h,at_suf s a 1 h1,if_pos h2]
theorem sl_eq (h0:a < s.size) (h:s[a].toNat = 61) (h1:∀ h:a + 1 < s.size,s[a + 1].toNat ≠ 61):Qbn (suf s a) = 1:=by
 unfold Qbn
 rw [Qb1 s a h0,if_pos h]
 by_cases h2:a + 1 < s.size
 ·rw [at_suf s a 1 h2,if_neg (h1 h2)]
 ·unfold at'
  rw [List.getD_eq_getElem?_getD,List.getElem?_eq_none (by rw [Qbs];omega)]
  decide
theorem sl_one (h0:a < s.size) (h:s[a].toNat ≠ 61) (h1:Qes s[a].toNat = true):Qbn (suf s a) = 1:=by
 unfold Qbn
 rw [Qb1 s a h0,if_neg h,if_pos h1]
theorem sl_none (h0:a < s.size) (h:s[a].toNat ≠ 61) (h1:Qes s[a].toNat = false):Qbn (suf s a) = 0:=by
 unfold Qbn
 rw [Qb1 s a h0,if_neg h,if_neg (by simp [h1])]
end
theorem rsign_any (s:ByteArray) (a:Nat) (w:World) (h0:a < s.size) (hs:s.size ≤ maxLen) :
  Calls Tryz.prog 252 #[.string s,.int .i64 a] w fun e w'=>e = .returned (.int .i64 (Qbn (suf s a))) ∧ w = w':=by
 unfold maxLen at hs
 by_cases h61:s[a].toNat = 61
 ·have g61:((s[a].toNat:Int) == 61) = true:=Qcx h61
  have H61:=hQ h61
  clear h61
  by_cases h1:a + 1 < s.size
  ·by_cases h2:s[a + 1].toNat = 61
   ·have g2:((s[a + 1].toNat:Int) == 61) = true:=Qcx h2
    have H2:=hQ h2
    clear h2
    go_enter Tryz.func252,Tryz.ntmps252
    go_wp2
    go_ret
    exact ⟨Qb0 (by rw [sl_two h0 H61.out h1 H2.out];rfl),rfl⟩
   ·have g2:((s[a + 1].toNat:Int) == 61) = false:=Qdl h2
    have H2:=hQ h2
    clear h2
    go_enter Tryz.func252,Tryz.ntmps252
    go_wp2
    go_ret
    exact ⟨Qb0 (by rw [sl_eq h0 H61.out (fun _=>H2.out)];rfl),rfl⟩
  ·go_enter Tryz.func252,Tryz.ntmps252
   go_wp2
   go_ret
   exact ⟨Qb0 (by rw [sl_eq h0 H61.out (fun h=>absurd h h1)];rfl),rfl⟩
 ·have g61:((s[a].toNat:Int) == 61) = false:=Qdl h61
  have H61:=hQ h61
  clear h61
  cases ho:Qes s[a].toNat
  ·have H1:=hQ ho
   simp only [Qes,Bool.or_eq_false_iff,and_assoc] at ho
   obtain ⟨a1,a2,a3,a4,a5,a6,a7,a8,a9,a10,a11⟩:=ho
   go_enter Tryz.func252,Tryz.ntmps252
   go_wp2
   go_ret
   exact ⟨Qb0 (by rw [sl_none h0 H61.out H1.out];rfl),rfl⟩
  ·have H1:=hQ ho
   clear ho
   go_enter Tryz.func252,Tryz.ntmps252
   go_wp2
   all_goals
    first
     | (go_ret;exact ⟨Qb0 (by rw [sl_one h0 H61.out H1.out];rfl),rfl⟩)
     | (exfalso;have:=H1.out;simp_all [Qes])
def iLen (t:Tk):Int:=if t.e = 0 then t.n else 0
def iAt (t:Tk) (a:Nat):Int:=if t.e = 0 then 0 else a + t.n
theorem ret_item {t:Tk} {a:Nat} {x y z u:Int} (hx:x = iLen t) (hy:y = t.kind) (hz:z = t.e) (hu:u = iAt t a) :
  Ending.returned (.agg #[.int .i64 x,.int .i64 y,.int .i64 z,.int .i64 u]) = .returned (.agg #[.int .i64 (iLen t),.int .i64 t.kind,.int .i64 t.e,.int .i64 (iAt t a)]):=by rw [hx,hy,hz,hu]
theorem Qel {t:Tk} {a:Nat} {x y:Int} (k n:Nat) (h:t = ⟨k,n,0⟩) (hx:x = n) (hy:y = k) :
  Ending.returned (.agg #[.int .i64 x,.int .i64 y,.int .i64 0,.int .i64 0]) = .returned (.agg #[.int .i64 (iLen t),.int .i64 t.kind,.int .i64 t.e,.int .i64 (iAt t a)]):=by
 subst h hx hy
 rfl
theorem Qeh {t:Tk} {a:Nat} {z u:Int} (n e:Nat) (h:t = ⟨0,n,e + 1⟩) (hz:z = (e + 1:Nat)) (hu:u = a + n) :
  Ending.returned (.agg #[.int .i64 0,.int .i64 0,.int .i64 z,.int .i64 u]) = .returned (.agg #[.int .i64 (iLen t),.int .i64 t.kind,.int .i64 t.e,.int .i64 (iAt t a)]):=by
 subst h hz hu
 rfl
theorem Qb6 (s:ByteArray) (a b:Nat) (w:World) :
  Calls Tryz.prog 255 #[.string (s.extract a b)] w fun e w'=>e = .returned (.bool (Qaq ((suf s a).take (b - a)))) ∧ w = w':=by
 rw [← Qd1]
 exact rreserved_any _ w
theorem Qdu (s:ByteArray) (a:Nat) (w:World) (h0:a < s.size) (hl:Qau s[a].toNat = true) (hs:s.size ≤ maxLen) :
  Calls Tryz.prog 254 #[.string s,.int .i64 a] w fun e w'=>e = .returned (.int .i64 (Qac (suf s a))) ∧ w = w':=by
 rw [← wordN_yes h0 hl]
 exact rword_any s a w (by omega) hs
theorem rword_no (s:ByteArray) (a n:Nat) (w:World) (hb:a + n + 1 < s.size) (hl:Qau s[a + n + 1].toNat = false) (hs:s.size ≤ maxLen) :
  Calls Tryz.prog 254 #[.string s,.int .i64 ((a:Int) + (n:Int) + 1)] w fun e w'=>e = .returned (.int .i64 0) ∧ w = w':=by
 have h:=rword_any s (a + n + 1) w (by omega) hs
 rw [wordN_no hb hl] at h
 rwa [show ((a + n + 1:Nat):Int) = (a:Int) + (n:Int) + 1 from by omega] at h
theorem rword_yes (s:ByteArray) (a n:Nat) (w:World) (hb:a + n + 1 < s.size) (hl:Qau s[a + n + 1].toNat = true) (hs:s.size ≤ maxLen) :
  Calls Tryz.prog 254 #[.string s,.int .i64 ((a:Int) + (n:Int) + 1)] w fun e w'=>e = .returned (.int .i64 (Qac (suf s (a + n + 1)))) ∧ w = w':=by
 have h:=rword_any s (a + n + 1) w (by omega) hs
 rw [wordN_yes hb hl] at h
 rwa [show ((a + n + 1:Nat):Int) = (a:Int) + (n:Int) + 1 from by omega] at h
theorem letter_word {c:Int} (h:Qau c = true):wordB c = true:=by unfold wordB;rw [h];rfl
theorem Qff {s:ByteArray} {a:Nat} (h:a < s.size) (hl:Qau s[a].toNat = true):0 < Qac (suf s a):=by
 unfold Qac
 rw [Qcz s a h]
 simp [Qd2,letter_word hl]
theorem part_zero (s:ByteArray) (a m:Nat) (h:0 < (s.extract a (a + m)).size):(s.extract a (a + m))[0].toNat = at' (suf s a) 0:=by
 have hm:0 < m:=by rw [ByteArray.size_extract] at h;omega
 rw [← Qef _ 0 h,Qd1]
 unfold at'
 rw [List.getD_eq_getElem?_getD,List.getD_eq_getElem?_getD,List.getElem?_take,if_pos (by omega)]
section
variable (s:ByteArray) (a n:Nat)
theorem at_two:at' (suf s a) (n + 1) = at' (suf s (a + n + 1)) 0:=by
 rw [at_drop s a,at_drop s (a + n + 1)]
 rfl
theorem q_long (h:24 < n ∨ 24 < Qac (suf s (a + n + 1))):Qc2 (suf s a) n = ⟨0,0,3⟩:=by
 unfold Qc2
 rw [Qex,← Nat.add_assoc,if_pos h]
theorem q_res (h:¬ (24 < n ∨ 24 < Qac (suf s (a + n + 1)))) (hr:Qaq ((suf s (a + n + 1)).take (Qac (suf s (a + n + 1)))) = true):Qc2 (suf s a) n = ⟨0,0,2⟩:=by
 unfold Qc2
 rw [Qex,← Nat.add_assoc,if_neg h,if_pos hr]
theorem q_up (h:¬ (24 < n ∨ 24 < Qac (suf s (a + n + 1)))) (hr:Qaq ((suf s (a + n + 1)).take (Qac (suf s (a + n + 1)))) = false) (hu:Qbx (at' (suf s (a + n + 1)) 0) = true) :
  Qc2 (suf s a) n = ⟨4,n + 1 + Qac (suf s (a + n + 1)),0⟩:=by
 unfold Qc2
 rw [Qex,← Nat.add_assoc,if_neg h,if_neg (by simp [hr]),if_pos (by rw [at_two];exact hu)]
theorem q_low (h:¬ (24 < n ∨ 24 < Qac (suf s (a + n + 1)))) (hr:Qaq ((suf s (a + n + 1)).take (Qac (suf s (a + n + 1)))) = false) (hu:Qbx (at' (suf s (a + n + 1)) 0) = false) :
  Qc2 (suf s a) n = ⟨3,n + 1 + Qac (suf s (a + n + 1)),0⟩:=by
 unfold Qc2
 rw [Qex,← Nat.add_assoc,if_neg h,if_neg (by simp [hr]),if_neg (by rw [at_two];simp [hu])]
end
def Qdj (s:ByteArray) (a:Nat) (w:World) (e:Ending) (w':World):Prop :=
 e = .returned (.agg #[.int .i64 (iLen (Qdv (suf s a))),.int .i64 (Qdv (suf s a)).kind,.int .i64 (Qdv (suf s a)).e,.int .i64 (iAt (Qdv (suf s a)) a)]) ∧ Below w.heap.size w w'
theorem Qem (s:ByteArray) (a:Nat) (h0:a < s.size):Qdb (suf s a) = (Qbx s[a].toNat && !Qaq ((suf s a).take (Qac (suf s a))) && decide (a + Qac (suf s a) + 1 < s.size) && at' (suf s a) (Qac (suf s a)) == 46 && Qau (at' (suf s a) (Qac (suf s a) + 1))):=by
 unfold Qdb
 rw [Qb1 s a h0,Qbs]
 congr 3
 exact decide_eq_decide.2 (by omega)
theorem words_low (s:ByteArray) (a:Nat) (w:World) (h0:a < s.size) (hl:Qau s[a].toNat = true) (hs:s.size < maxLen) (hu:Qbx s[a].toNat = false) :
  Calls Tryz.prog 251 #[.string s,.int .i64 a] w (Qdj s a w):=by
 have HS:=hQ (Nat.le_of_lt hs)
 have hm:=Qb3 s a
 have HL:=hQ hl
 have H0:=hQ (Qb1 s a h0)
 have HD:=hQ (Qem s a h0)
 clear hl
 unfold maxLen at hs
 cases hr:Qaq ((suf s a).take (Qac (suf s a)))
 all_goals
  have HP:=hQ (Qc4 (show Qdb (suf s a) = false from by rw [HD.out,hu];rfl))
  by_cases h24:24 < Qac (suf s a)
  all_goals
   go_enter Tryz.func251,Tryz.ntmps251
   go_wp2_with (first | (go_at_call 254;((with_reducible refine (Qdu _ _ _ h0 HL.out HS.out).mono ?_);rintro e w' ⟨rfl,rfl⟩)) | (go_at_call 255;refine (Qb6 _ _ _ _).mono ?_;rintro e w' ⟨rfl,rfl⟩) | (go_at_call 250;refine (Qax _ _).mono ?_;rintro e w' ⟨rfl,rfl⟩))
   first
    | exact bodyPost_ret (v:=.agg #[.int .i64 0,.int .i64 0,.int .i64 3,.int .i64 a]) (by simp [results,Tryz.results251,go_sem]) rfl ⟨Qeh 0 2 (HP.out.trans (Qdt h24)) rfl (by omega),(xC _ _).alloc (xA _) _⟩
    | exact bodyPost_ret (v:=.agg #[.int .i64 (Qac (suf s a):Nat),.int .i64 7,.int .i64 0,.int .i64 0]) (by simp [results,Tryz.results251,go_sem]) rfl ⟨Qel 7 _ (HP.out.trans (Qei h24 hr)) rfl rfl,(xC _ _).alloc (xA _) _⟩
    | exact bodyPost_ret (v:=.agg #[.int .i64 (Qac (suf s a):Nat),.int .i64 2,.int .i64 0,.int .i64 0]) (by simp [results,Tryz.results251,go_sem]) rfl ⟨Qel 2 _ (HP.out.trans (Qfh h24 hr (by rw [H0.out];exact hu))) rfl rfl,(xC _ _).alloc (xA _) _⟩
    | exact bodyPost_ret (v:=.agg #[.int .i64 (Qac (suf s a):Nat),.int .i64 1,.int .i64 0,.int .i64 0]) (by simp [results,Tryz.results251,go_sem]) rfl ⟨Qel 1 _ (HP.out.trans (Qej h24 hr (by rw [H0.out];exact hu))) rfl rfl,(xC _ _).alloc (xA _) _⟩
theorem words_res (s:ByteArray) (a:Nat) (w:World) (h0:a < s.size) (hl:Qau s[a].toNat = true) (hs:s.size < maxLen) (hu:Qbx s[a].toNat = true) (hr:Qaq ((suf s a).take (Qac (suf s a))) = true) :
  Calls Tryz.prog 251 #[.string s,.int .i64 a] w (Qdj s a w):=by
 have HS:=hQ (Nat.le_of_lt hs)
 have hm:=Qb3 s a
 have HL:=hQ hl
 have H0:=hQ (Qb1 s a h0)
 have HD:=hQ (Qem s a h0)
 clear hl
 unfold maxLen at hs
 have HP:=hQ (Qc4 (show Qdb (suf s a) = false from by rw [HD.out,hr];simp))
 by_cases h24:24 < Qac (suf s a)
 all_goals
  go_enter Tryz.func251,Tryz.ntmps251
  go_wp2_with (first | (go_at_call 254;((with_reducible refine (Qdu _ _ _ h0 HL.out HS.out).mono ?_);rintro e w' ⟨rfl,rfl⟩)) | (go_at_call 255;refine (Qb6 _ _ _ _).mono ?_;rintro e w' ⟨rfl,rfl⟩) | (go_at_call 250;refine (Qax _ _).mono ?_;rintro e w' ⟨rfl,rfl⟩))
  first
   | exact bodyPost_ret (v:=.agg #[.int .i64 0,.int .i64 0,.int .i64 3,.int .i64 a]) (by simp [results,Tryz.results251,go_sem]) rfl ⟨Qeh 0 2 (HP.out.trans (Qdt h24)) rfl (by omega),(xC _ _).alloc (xA _) _⟩
   | exact bodyPost_ret (v:=.agg #[.int .i64 (Qac (suf s a):Nat),.int .i64 7,.int .i64 0,.int .i64 0]) (by simp [results,Tryz.results251,go_sem]) rfl ⟨Qel 7 _ (HP.out.trans (Qei h24 hr)) rfl rfl,(xC _ _).alloc (xA _) _⟩
   | exact bodyPost_ret (v:=.agg #[.int .i64 (Qac (suf s a):Nat),.int .i64 2,.int .i64 0,.int .i64 0]) (by simp [results,Tryz.results251,go_sem]) rfl ⟨Qel 2 _ (HP.out.trans (Qfh h24 hr (by rw [H0.out];exact hu))) rfl rfl,(xC _ _).alloc (xA _) _⟩
   | exact bodyPost_ret (v:=.agg #[.int .i64 (Qac (suf s a):Nat),.int .i64 1,.int .i64 0,.int .i64 0]) (by simp [results,Tryz.results251,go_sem]) rfl ⟨Qel 1 _ (HP.out.trans (Qej h24 hr (by rw [H0.out];exact hu))) rfl rfl,(xC _ _).alloc (xA _) _⟩
theorem words_short (s:ByteArray) (a:Nat) (w:World) (h0:a < s.size) (hl:Qau s[a].toNat = true) (hs:s.size < maxLen) (hu:Qbx s[a].toNat = true) (hr:Qaq ((suf s a).take (Qac (suf s a))) = false) (hn:¬ a + Qac (suf s a) + 1 < s.size) :
  Calls Tryz.prog 251 #[.string s,.int .i64 a] w (Qdj s a w):=by
 have HS:=hQ (Nat.le_of_lt hs)
 have hm:=Qb3 s a
 have HL:=hQ hl
 have H0:=hQ (Qb1 s a h0)
 have HD:=hQ (Qem s a h0)
 clear hl
 unfold maxLen at hs
 have hn':¬ (a:Int) + (Qac (suf s a):Nat) + 1 < (s.size:Int):=by omega
 have HP:=hQ (Qc4 (show Qdb (suf s a) = false from by rw [HD.out,decide_eq_false hn];simp))
 by_cases h24:24 < Qac (suf s a)
 all_goals
  go_enter Tryz.func251,Tryz.ntmps251
  go_wp2_with (first | (go_at_call 254;((with_reducible refine (Qdu _ _ _ h0 HL.out HS.out).mono ?_);rintro e w' ⟨rfl,rfl⟩)) | (go_at_call 255;refine (Qb6 _ _ _ _).mono ?_;rintro e w' ⟨rfl,rfl⟩) | (go_at_call 250;refine (Qax _ _).mono ?_;rintro e w' ⟨rfl,rfl⟩))
  first
   | exact bodyPost_ret (v:=.agg #[.int .i64 0,.int .i64 0,.int .i64 3,.int .i64 a]) (by simp [results,Tryz.results251,go_sem]) rfl ⟨Qeh 0 2 (HP.out.trans (Qdt h24)) rfl (by omega),(xC _ _).alloc (xA _) _⟩
   | exact bodyPost_ret (v:=.agg #[.int .i64 (Qac (suf s a):Nat),.int .i64 7,.int .i64 0,.int .i64 0]) (by simp [results,Tryz.results251,go_sem]) rfl ⟨Qel 7 _ (HP.out.trans (Qei h24 hr)) rfl rfl,(xC _ _).alloc (xA _) _⟩
   | exact bodyPost_ret (v:=.agg #[.int .i64 (Qac (suf s a):Nat),.int .i64 2,.int .i64 0,.int .i64 0]) (by simp [results,Tryz.results251,go_sem]) rfl ⟨Qel 2 _ (HP.out.trans (Qfh h24 hr (by rw [H0.out];exact hu))) rfl rfl,(xC _ _).alloc (xA _) _⟩
   | exact bodyPost_ret (v:=.agg #[.int .i64 (Qac (suf s a):Nat),.int .i64 1,.int .i64 0,.int .i64 0]) (by simp [results,Tryz.results251,go_sem]) rfl ⟨Qel 1 _ (HP.out.trans (Qej h24 hr (by rw [H0.out];exact hu))) rfl rfl,(xC _ _).alloc (xA _) _⟩
theorem words_other (s:ByteArray) (a:Nat) (w:World) (h0:a < s.size) (hl:Qau s[a].toNat = true) (hs:s.size < maxLen) (hu:Qbx s[a].toNat = true) (hr:Qaq ((suf s a).take (Qac (suf s a))) = false) (hn:a + Qac (suf s a) + 1 < s.size) (h46:s[a + Qac (suf s a)].toNat ≠ 46) :
  Calls Tryz.prog 251 #[.string s,.int .i64 a] w (Qdj s a w):=by
 have HS:=hQ (Nat.le_of_lt hs)
 have hm:=Qb3 s a
 have HL:=hQ hl
 have H0:=hQ (Qb1 s a h0)
 have HD:=hQ (Qem s a h0)
 clear hl
 unfold maxLen at hs
 have hn':(a:Int) + (Qac (suf s a):Nat) + 1 < (s.size:Int):=by omega
 have g46:((s[a + Qac (suf s a)].toNat:Int) == 46) = false:=Qdl h46
 have H46:=hQ h46
 clear h46
 have HP:=hQ (Qc4 (show Qdb (suf s a) = false from by rw [HD.out,at_suf s a (Qac (suf s a)) (by omega),beq_eq_false_iff_ne.2 H46.out];simp))
 by_cases h24:24 < Qac (suf s a)
 all_goals
  go_enter Tryz.func251,Tryz.ntmps251
  go_wp2_with (first | (go_at_call 254;((with_reducible refine (Qdu _ _ _ h0 HL.out HS.out).mono ?_);rintro e w' ⟨rfl,rfl⟩)) | (go_at_call 255;refine (Qb6 _ _ _ _).mono ?_;rintro e w' ⟨rfl,rfl⟩) | (go_at_call 250;refine (Qax _ _).mono ?_;rintro e w' ⟨rfl,rfl⟩))
  first
   | exact bodyPost_ret (v:=.agg #[.int .i64 0,.int .i64 0,.int .i64 3,.int .i64 a]) (by simp [results,Tryz.results251,go_sem]) rfl ⟨Qeh 0 2 (HP.out.trans (Qdt h24)) rfl (by omega),(xC _ _).alloc (xA _) _⟩
   | exact bodyPost_ret (v:=.agg #[.int .i64 (Qac (suf s a):Nat),.int .i64 7,.int .i64 0,.int .i64 0]) (by simp [results,Tryz.results251,go_sem]) rfl ⟨Qel 7 _ (HP.out.trans (Qei h24 hr)) rfl rfl,(xC _ _).alloc (xA _) _⟩
   | exact bodyPost_ret (v:=.agg #[.int .i64 (Qac (suf s a):Nat),.int .i64 2,.int .i64 0,.int .i64 0]) (by simp [results,Tryz.results251,go_sem]) rfl ⟨Qel 2 _ (HP.out.trans (Qfh h24 hr (by rw [H0.out];exact hu))) rfl rfl,(xC _ _).alloc (xA _) _⟩
   | exact bodyPost_ret (v:=.agg #[.int .i64 (Qac (suf s a):Nat),.int .i64 1,.int .i64 0,.int .i64 0]) (by simp [results,Tryz.results251,go_sem]) rfl ⟨Qel 1 _ (HP.out.trans (Qej h24 hr (by rw [H0.out];exact hu))) rfl rfl,(xC _ _).alloc (xA _) _⟩
theorem words_dot (s:ByteArray) (a:Nat) (w:World) (h0:a < s.size) (hl:Qau s[a].toNat = true) (hs:s.size < maxLen) (hu:Qbx s[a].toNat = true) (hr:Qaq ((suf s a).take (Qac (suf s a))) = false) (hn:a + Qac (suf s a) + 1 < s.size) (h46:s[a + Qac (suf s a)].toNat = 46) (hz:Qau s[a + Qac (suf s a) + 1].toNat = false) :
  Calls Tryz.prog 251 #[.string s,.int .i64 a] w (Qdj s a w):=by
 have HS:=hQ (Nat.le_of_lt hs)
 have hm:=Qb3 s a
 have HL:=hQ hl
 have H0:=hQ (Qb1 s a h0)
 have HD:=hQ (Qem s a h0)
 clear hl
 unfold maxLen at hs
 have hn':(a:Int) + (Qac (suf s a):Nat) + 1 < (s.size:Int):=by omega
 have g46:((s[a + Qac (suf s a)].toNat:Int) == 46) = true:=Qcx h46
 have HZ:=hQ hz
 clear h46 hz
 have HP:=hQ (Qc4 (show Qdb (suf s a) = false from by rw [HD.out,at_two,Qb1 s (a + Qac (suf s a) + 1) hn,HZ.out];simp))
 by_cases h24:24 < Qac (suf s a)
 all_goals
  go_enter Tryz.func251,Tryz.ntmps251
  go_wp2_with (first | (go_at_call 254;((with_reducible refine (Qdu _ _ _ h0 HL.out HS.out).mono ?_);rintro e w' ⟨rfl,rfl⟩)) | (go_at_call 255;refine (Qb6 _ _ _ _).mono ?_;rintro e w' ⟨rfl,rfl⟩) | (go_at_call 250;refine (Qax _ _).mono ?_;rintro e w' ⟨rfl,rfl⟩) | (go_at_call 254;((with_reducible refine (rword_no _ _ _ _ hn HZ.out HS.out).mono ?_);rintro e w' ⟨rfl,rfl⟩)))
  first
   | exact bodyPost_ret (v:=.agg #[.int .i64 0,.int .i64 0,.int .i64 3,.int .i64 a]) (by simp [results,Tryz.results251,go_sem]) rfl ⟨Qeh 0 2 (HP.out.trans (Qdt h24)) rfl (by omega),(xC _ _).alloc (xA _) _⟩
   | exact bodyPost_ret (v:=.agg #[.int .i64 (Qac (suf s a):Nat),.int .i64 7,.int .i64 0,.int .i64 0]) (by simp [results,Tryz.results251,go_sem]) rfl ⟨Qel 7 _ (HP.out.trans (Qei h24 hr)) rfl rfl,(xC _ _).alloc (xA _) _⟩
   | exact bodyPost_ret (v:=.agg #[.int .i64 (Qac (suf s a):Nat),.int .i64 2,.int .i64 0,.int .i64 0]) (by simp [results,Tryz.results251,go_sem]) rfl ⟨Qel 2 _ (HP.out.trans (Qfh h24 hr (by rw [H0.out];exact hu))) rfl rfl,(xC _ _).alloc (xA _) _⟩
   | exact bodyPost_ret (v:=.agg #[.int .i64 (Qac (suf s a):Nat),.int .i64 1,.int .i64 0,.int .i64 0]) (by simp [results,Tryz.results251,go_sem]) rfl ⟨Qel 1 _ (HP.out.trans (Qej h24 hr (by rw [H0.out];exact hu))) rfl rfl,(xC _ _).alloc (xA _) _⟩
section
variable (s:ByteArray) (a n:Nat)
theorem Qe4 (b m:Nat) (h:b < s.size) (hm:0 < m):0 < (s.extract b (b + m)).size:=by
 rw [ByteArray.size_extract]
 omega
theorem q_up2 (h:¬ (24 < n ∨ 24 < Qac (suf s (a + n + 1)))) (hr:Qaq ((suf s (a + n + 1)).take (Qac (suf s (a + n + 1)))) = false) (hn:a + n + 1 < s.size) (hp:0 < Qac (suf s (a + n + 1)))
  (hu:Qbx ((s.extract (a + n + 1) (a + n + 1 + Qac (suf s (a + n + 1))))[0]'(Qe4 s _ _ hn hp)).toNat = true):Qc2 (suf s a) n = ⟨4,n + 1 + Qac (suf s (a + n + 1)),0⟩ :=
 q_up s a n h hr (by rwa [part_zero _ _ _ (Qe4 s _ _ hn hp)] at hu)
theorem q_low2 (h:¬ (24 < n ∨ 24 < Qac (suf s (a + n + 1)))) (hr:Qaq ((suf s (a + n + 1)).take (Qac (suf s (a + n + 1)))) = false) (hn:a + n + 1 < s.size) (hp:0 < Qac (suf s (a + n + 1)))
  (hu:Qbx ((s.extract (a + n + 1) (a + n + 1 + Qac (suf s (a + n + 1))))[0]'(Qe4 s _ _ hn hp)).toNat = false):Qc2 (suf s a) n = ⟨3,n + 1 + Qac (suf s (a + n + 1)),0⟩ :=
 q_low s a n h hr (by rwa [part_zero _ _ _ (Qe4 s _ _ hn hp)] at hu)
end
theorem words_q1 (s:ByteArray) (a:Nat) (w:World) (h0:a < s.size) (hl:Qau s[a].toNat = true) (hs:s.size < maxLen) (hu:Qbx s[a].toNat = true) (hr:Qaq ((suf s a).take (Qac (suf s a))) = false) (hn:a + Qac (suf s a) + 1 < s.size) (h46:s[a + Qac (suf s a)].toNat = 46) (hz:Qau s[a + Qac (suf s a) + 1].toNat = true) (h24:24 < Qac (suf s a)) :
  Calls Tryz.prog 251 #[.string s,.int .i64 a] w (Qdj s a w):=by
 have HS:=hQ (Nat.le_of_lt hs)
 have hm:=Qb3 s a
 have HL:=hQ hl
 have H0:=hQ (Qb1 s a h0)
 have HD:=hQ (Qem s a h0)
 clear hl
 unfold maxLen at hs
 have hn':(a:Int) + (Qac (suf s a):Nat) + 1 < (s.size:Int):=by omega
 have g46:((s[a + Qac (suf s a)].toNat:Int) == 46) = true:=Qcx h46
 have hp:=Qff hn hz
 have hm2:=Qb3 s (a + Qac (suf s a) + 1)
 have HZ:=hQ hz
 have HT:=hQ (show Qdv (suf s a) = Qc2 (suf s a) (Qac (suf s a)) from by
  unfold Qdv
  rw [if_pos (by rw [HD.out,hu,hr,at_suf s a _ (by omega),h46,at_two,Qb1 s (a + Qac (suf s a) + 1) hn,hz];simpa using hn)])
 clear h46 hz
 have HQ:=hQ (HT.out.trans (q_long s a _ (.inl h24)))
 go_enter Tryz.func251,Tryz.ntmps251
 go_wp2_with (first | (go_at_call 254;((with_reducible refine (Qdu _ _ _ h0 HL.out HS.out).mono ?_);rintro e w' ⟨rfl,rfl⟩)) | (go_at_call 255;refine (Qb6 _ _ _ _).mono ?_;rintro e w' ⟨rfl,rfl⟩) | (go_at_call 250;refine (Qax _ _).mono ?_;rintro e w' ⟨rfl,rfl⟩) | (go_at_call 254;((with_reducible refine (rword_yes _ _ _ _ hn HZ.out HS.out).mono ?_);rintro e w' ⟨rfl,rfl⟩)))
 all_goals
  exact bodyPost_ret (v:=.agg #[.int .i64 0,.int .i64 0,.int .i64 3,.int .i64 a]) (by simp [results,Tryz.results251,go_sem]) rfl ⟨Qeh 0 2 HQ.out rfl (by omega),(xC _ _).alloc (xA _) _⟩
theorem words_q2 (s:ByteArray) (a:Nat) (w:World) (h0:a < s.size) (hl:Qau s[a].toNat = true) (hs:s.size < maxLen) (hu:Qbx s[a].toNat = true) (hr:Qaq ((suf s a).take (Qac (suf s a))) = false) (hn:a + Qac (suf s a) + 1 < s.size) (h46:s[a + Qac (suf s a)].toNat = 46) (hz:Qau s[a + Qac (suf s a) + 1].toNat = true) (h24:24 < Qac (suf s (a + Qac (suf s a) + 1))) :
  Calls Tryz.prog 251 #[.string s,.int .i64 a] w (Qdj s a w):=by
 have HS:=hQ (Nat.le_of_lt hs)
 have hm:=Qb3 s a
 have HL:=hQ hl
 have H0:=hQ (Qb1 s a h0)
 have HD:=hQ (Qem s a h0)
 clear hl
 unfold maxLen at hs
 have hn':(a:Int) + (Qac (suf s a):Nat) + 1 < (s.size:Int):=by omega
 have g46:((s[a + Qac (suf s a)].toNat:Int) == 46) = true:=Qcx h46
 have hp:=Qff hn hz
 have hm2:=Qb3 s (a + Qac (suf s a) + 1)
 have HZ:=hQ hz
 have HT:=hQ (show Qdv (suf s a) = Qc2 (suf s a) (Qac (suf s a)) from by
  unfold Qdv
  rw [if_pos (by rw [HD.out,hu,hr,at_suf s a _ (by omega),h46,at_two,Qb1 s (a + Qac (suf s a) + 1) hn,hz];simpa using hn)])
 clear h46 hz
 have HQ:=hQ (HT.out.trans (q_long s a _ (.inr h24)))
 go_enter Tryz.func251,Tryz.ntmps251
 go_wp2_with (first | (go_at_call 254;((with_reducible refine (Qdu _ _ _ h0 HL.out HS.out).mono ?_);rintro e w' ⟨rfl,rfl⟩)) | (go_at_call 255;refine (Qb6 _ _ _ _).mono ?_;rintro e w' ⟨rfl,rfl⟩) | (go_at_call 250;refine (Qax _ _).mono ?_;rintro e w' ⟨rfl,rfl⟩) | (go_at_call 254;((with_reducible refine (rword_yes _ _ _ _ hn HZ.out HS.out).mono ?_);rintro e w' ⟨rfl,rfl⟩)))
 all_goals
  exact bodyPost_ret (v:=.agg #[.int .i64 0,.int .i64 0,.int .i64 3,.int .i64 a]) (by simp [results,Tryz.results251,go_sem]) rfl ⟨Qeh 0 2 HQ.out rfl (by omega),(xC _ _).alloc (xA _) _⟩
theorem words_q3 (s:ByteArray) (a:Nat) (w:World) (h0:a < s.size) (hl:Qau s[a].toNat = true) (hs:s.size < maxLen) (hu:Qbx s[a].toNat = true) (hr:Qaq ((suf s a).take (Qac (suf s a))) = false) (hn:a + Qac (suf s a) + 1 < s.size) (h46:s[a + Qac (suf s a)].toNat = 46) (hz:Qau s[a + Qac (suf s a) + 1].toNat = true) (h24:¬ (24 < Qac (suf s a) ∨ 24 < Qac (suf s (a + Qac (suf s a) + 1)))) (hr2:Qaq ((suf s (a + Qac (suf s a) + 1)).take (Qac (suf s (a + Qac (suf s a) + 1)))) = true) :
  Calls Tryz.prog 251 #[.string s,.int .i64 a] w (Qdj s a w):=by
 have HS:=hQ (Nat.le_of_lt hs)
 have hm:=Qb3 s a
 have HL:=hQ hl
 have H0:=hQ (Qb1 s a h0)
 have HD:=hQ (Qem s a h0)
 clear hl
 unfold maxLen at hs
 have hn':(a:Int) + (Qac (suf s a):Nat) + 1 < (s.size:Int):=by omega
 have g46:((s[a + Qac (suf s a)].toNat:Int) == 46) = true:=Qcx h46
 have hp:=Qff hn hz
 have hm2:=Qb3 s (a + Qac (suf s a) + 1)
 have HZ:=hQ hz
 have HT:=hQ (show Qdv (suf s a) = Qc2 (suf s a) (Qac (suf s a)) from by
  unfold Qdv
  rw [if_pos (by rw [HD.out,hu,hr,at_suf s a _ (by omega),h46,at_two,Qb1 s (a + Qac (suf s a) + 1) hn,hz];simpa using hn)])
 clear h46 hz
 have h24a:Qac (suf s a) ≤ 24:=by omega
 have h24b:Qac (suf s (a + Qac (suf s a) + 1)) ≤ 24:=by omega
 have H24:=hQ h24
 clear h24
 have HQ:=hQ (HT.out.trans (q_res s a _ H24.out hr2))
 go_enter Tryz.func251,Tryz.ntmps251
 go_wp2_with (first | (go_at_call 254;((with_reducible refine (Qdu _ _ _ h0 HL.out HS.out).mono ?_);rintro e w' ⟨rfl,rfl⟩)) | (go_at_call 255;refine (Qb6 _ _ _ _).mono ?_;rintro e w' ⟨rfl,rfl⟩) | (go_at_call 250;refine (Qax _ _).mono ?_;rintro e w' ⟨rfl,rfl⟩) | (go_at_call 254;((with_reducible refine (rword_yes _ _ _ _ hn HZ.out HS.out).mono ?_);rintro e w' ⟨rfl,rfl⟩)))
 all_goals
  exact bodyPost_ret (v:=.agg #[.int .i64 0,.int .i64 0,.int .i64 2,.int .i64 a]) (by simp [results,Tryz.results251,go_sem]) rfl ⟨Qeh 0 1 HQ.out rfl (by omega),(xC _ _).alloc (xA _) _⟩
theorem words_q4 (s:ByteArray) (a:Nat) (w:World) (h0:a < s.size) (hl:Qau s[a].toNat = true) (hs:s.size < maxLen) (hu:Qbx s[a].toNat = true) (hr:Qaq ((suf s a).take (Qac (suf s a))) = false) (hn:a + Qac (suf s a) + 1 < s.size) (h46:s[a + Qac (suf s a)].toNat = 46) (hz:Qau s[a + Qac (suf s a) + 1].toNat = true) (h24:¬ (24 < Qac (suf s a) ∨ 24 < Qac (suf s (a + Qac (suf s a) + 1)))) (hr2:Qaq ((suf s (a + Qac (suf s a) + 1)).take (Qac (suf s (a + Qac (suf s a) + 1)))) = false) (hp0:0 < Qac (suf s (a + Qac (suf s a) + 1))) (hup:Qbx ((s.extract (a + Qac (suf s a) + 1) (a + Qac (suf s a) + 1 + Qac (suf s (a + Qac (suf s a) + 1))))[0]'(Qe4 s _ _ hn hp0)).toNat = true) :
  Calls Tryz.prog 251 #[.string s,.int .i64 a] w (Qdj s a w):=by
 have HS:=hQ (Nat.le_of_lt hs)
 have hm:=Qb3 s a
 have HL:=hQ hl
 have H0:=hQ (Qb1 s a h0)
 have HD:=hQ (Qem s a h0)
 clear hl
 unfold maxLen at hs
 have hn':(a:Int) + (Qac (suf s a):Nat) + 1 < (s.size:Int):=by omega
 have g46:((s[a + Qac (suf s a)].toNat:Int) == 46) = true:=Qcx h46
 have hp:=Qff hn hz
 have hm2:=Qb3 s (a + Qac (suf s a) + 1)
 have HZ:=hQ hz
 have HT:=hQ (show Qdv (suf s a) = Qc2 (suf s a) (Qac (suf s a)) from by
  unfold Qdv
  rw [if_pos (by rw [HD.out,hu,hr,at_suf s a _ (by omega),h46,at_two,Qb1 s (a + Qac (suf s a) + 1) hn,hz];simpa using hn)])
 clear h46 hz
 have h24a:Qac (suf s a) ≤ 24:=by omega
 have h24b:Qac (suf s (a + Qac (suf s a) + 1)) ≤ 24:=by omega
 have H24:=hQ h24
 clear h24
 go_enter Tryz.func251,Tryz.ntmps251
 go_wp2_with (first | (go_at_call 254;((with_reducible refine (Qdu _ _ _ h0 HL.out HS.out).mono ?_);rintro e w' ⟨rfl,rfl⟩)) | (go_at_call 255;refine (Qb6 _ _ _ _).mono ?_;rintro e w' ⟨rfl,rfl⟩) | (go_at_call 250;refine (Qax _ _).mono ?_;rintro e w' ⟨rfl,rfl⟩) | (go_at_call 254;((with_reducible refine (rword_yes _ _ _ _ hn HZ.out HS.out).mono ?_);rintro e w' ⟨rfl,rfl⟩)))
 all_goals
  exact bodyPost_ret (v:=.agg #[.int .i64 (((Qac (suf s a):Nat):Int) + 1 + (Qac (suf s (a + Qac (suf s a) + 1)):Nat)),.int .i64 4,.int .i64 0,.int .i64 0]) (by simp [results,Tryz.results251,go_sem]) rfl ⟨Qel 4 _ (HT.out.trans (q_up2 s a _ H24.out hr2 hn hp hup)) (by omega) rfl,(xC _ _).alloc (xA _) _⟩
theorem words_q5 (s:ByteArray) (a:Nat) (w:World) (h0:a < s.size) (hl:Qau s[a].toNat = true) (hs:s.size < maxLen) (hu:Qbx s[a].toNat = true) (hr:Qaq ((suf s a).take (Qac (suf s a))) = false) (hn:a + Qac (suf s a) + 1 < s.size) (h46:s[a + Qac (suf s a)].toNat = 46) (hz:Qau s[a + Qac (suf s a) + 1].toNat = true) (h24:¬ (24 < Qac (suf s a) ∨ 24 < Qac (suf s (a + Qac (suf s a) + 1)))) (hr2:Qaq ((suf s (a + Qac (suf s a) + 1)).take (Qac (suf s (a + Qac (suf s a) + 1)))) = false) (hp0:0 < Qac (suf s (a + Qac (suf s a) + 1))) (hup:Qbx ((s.extract (a + Qac (suf s a) + 1) (a + Qac (suf s a) + 1 + Qac (suf s (a + Qac (suf s a) + 1))))[0]'(Qe4 s _ _ hn hp0)).toNat = false) :
  Calls Tryz.prog 251 #[.string s,.int .i64 a] w (Qdj s a w):=by
 have HS:=hQ (Nat.le_of_lt hs)
 have hm:=Qb3 s a
 have HL:=hQ hl
 have H0:=hQ (Qb1 s a h0)
 have HD:=hQ (Qem s a h0)
 clear hl
 unfold maxLen at hs
 have hn':(a:Int) + (Qac (suf s a):Nat) + 1 < (s.size:Int):=by omega
 have g46:((s[a + Qac (suf s a)].toNat:Int) == 46) = true:=Qcx h46
 have hp:=Qff hn hz
 have hm2:=Qb3 s (a + Qac (suf s a) + 1)
 have HZ:=hQ hz
 have HT:=hQ (show Qdv (suf s a) = Qc2 (suf s a) (Qac (suf s a)) from by
  unfold Qdv
  rw [if_pos (by rw [HD.out,hu,hr,at_suf s a _ (by omega),h46,at_two,Qb1 s (a + Qac (suf s a) + 1) hn,hz];simpa using hn)])
 clear h46 hz
 have h24a:Qac (suf s a) ≤ 24:=by omega
 have h24b:Qac (suf s (a + Qac (suf s a) + 1)) ≤ 24:=by omega
 have H24:=hQ h24
 clear h24
 go_enter Tryz.func251,Tryz.ntmps251
 go_wp2_with (first | (go_at_call 254;((with_reducible refine (Qdu _ _ _ h0 HL.out HS.out).mono ?_);rintro e w' ⟨rfl,rfl⟩)) | (go_at_call 255;refine (Qb6 _ _ _ _).mono ?_;rintro e w' ⟨rfl,rfl⟩) | (go_at_call 250;refine (Qax _ _).mono ?_;rintro e w' ⟨rfl,rfl⟩) | (go_at_call 254;((with_reducible refine (rword_yes _ _ _ _ hn HZ.out HS.out).mono ?_);rintro e w' ⟨rfl,rfl⟩)))
 all_goals
  exact bodyPost_ret (v:=.agg #[.int .i64 (((Qac (suf s a):Nat):Int) + 1 + (Qac (suf s (a + Qac (suf s a) + 1)):Nat)),.int .i64 3,.int .i64 0,.int .i64 0]) (by simp [results,Tryz.results251,go_sem]) rfl ⟨Qel 3 _ (HT.out.trans (q_low2 s a _ H24.out hr2 hn hp hup)) (by omega) rfl,(xC _ _).alloc (xA _) _⟩
theorem hsec (s:ByteArray) (b m:Nat) (hn:b < s.size) (hp0:0 < m):Qbx ((s.extract b (b + m))[0]'(Qe4 s b m hn hp0)).toNat = true ∨ Qbx ((s.extract b (b + m))[0]'(Qe4 s b m hn hp0)).toNat = false:=by
 cases Qbx ((s.extract b (b + m))[0]'(Qe4 s b m hn hp0)).toNat
 ·exact .inr rfl
 ·exact .inl rfl
theorem words_any (s:ByteArray) (a:Nat) (w:World) (h0:a < s.size) (hl:Qau s[a].toNat = true) (hs:s.size < maxLen) :
  Calls Tryz.prog 251 #[.string s,.int .i64 a] w (Qdj s a w):=by
 cases hu:Qbx s[a].toNat
 ·exact words_low s a w h0 hl hs hu
 ·cases hr:Qaq ((suf s a).take (Qac (suf s a)))
  ·by_cases hn:a + Qac (suf s a) + 1 < s.size
   ·by_cases h46:s[a + Qac (suf s a)].toNat = 46
    ·cases hz:Qau s[a + Qac (suf s a) + 1].toNat
     ·exact words_dot s a w h0 hl hs hu hr hn h46 hz
     ·by_cases h1:24 < Qac (suf s a)
      ·exact words_q1 s a w h0 hl hs hu hr hn h46 hz h1
      ·by_cases h2:24 < Qac (suf s (a + Qac (suf s a) + 1))
       ·exact words_q2 s a w h0 hl hs hu hr hn h46 hz h2
       ·have hp0:0 < Qac (suf s (a + Qac (suf s a) + 1)):=Qff hn hz
        have h24:¬ (24 < Qac (suf s a) ∨ 24 < Qac (suf s (a + Qac (suf s a) + 1))):=by omega
        cases hr2:Qaq ((suf s (a + Qac (suf s a) + 1)).take (Qac (suf s (a + Qac (suf s a) + 1))))
        ·rcases hsec s (a + Qac (suf s a) + 1) _ hn hp0 with hup | hup
         ·exact words_q4 s a w h0 hl hs hu hr hn h46 hz h24 hr2 hp0 hup
         ·exact words_q5 s a w h0 hl hs hu hr hn h46 hz h24 hr2 hp0 hup
        ·exact words_q3 s a w h0 hl hs hu hr hn h46 hz h24 hr2
    ·exact words_other s a w h0 hl hs hu hr hn h46
   ·exact words_short s a w h0 hl hs hu hr hn
  ·exact words_res s a w h0 hl hs hu hr
end Go.Proofs.YtjidpkcjpgdafaaGreat
