/- Part 19: The contract of the reference's Fuses: it answers as lex.Fuses does. Tokens that are joined are scanned as they were, if texts are tokens, leads are trivia, the tail is trivia at the end, and no two tokens without a lead between them fuse. -/
import Derived.Test.YtnnfdbmanamfdaaGreatSt4
import Derived.Test.YtnnfdbmanamfdaaGreatSt18
import Derived.Test.YtnnfdbmanamfdaaGreatSt1
set_option maxRecDepth 100000
set_option maxHeartbeats 4000000
namespace Go.Proofs.YtnnfdbmanamfdaaGreat
open Go.RowKit
theorem same_two {k0 k1:Int} {l0 x0 l1 x1 a b:ByteArray} (h:sameB [⟨k0,l0,x0⟩,⟨k1,l1,x1⟩] (twoToks a b) = true):bl l0 = [] ∧ bl x0 = bl a ∧ bl l1 = [] ∧ bl x1 = bl b:=by
 simp only [twoToks,sameB,tokEq,Bool.and_eq_true,beq_iff_eq,Bool.and_true] at h
 obtain ⟨⟨⟨_,h1⟩,h2⟩,⟨_,h3⟩,h4⟩:=h
 simp only [← Qdx] at h1 h2 h3 h4
 exact ⟨h1,h2,h3,h4⟩
theorem fuses_open {a b:ByteArray} (h1:Qam (suf a 0) ≠ 0) (h2:Qam (suf b 0) ≠ 0):Qfs a b = !sameB (Qbd (a ++ b)).toks (twoToks a b):=by
 unfold Qfs
 simp [h1,h2]
section
variable {a b:ByteArray} (h1:Qam (suf a 0) ≠ 0) (h2:Qam (suf b 0) ≠ 0)
include h1 h2
theorem fuses_err (he:(Qbd (a ++ b)).e ≠ 0):Qfs a b = true:=by
 rw [fuses_open h1 h2,((scanR_good (a ++ b)).2 he).1]
 rfl
theorem fuses_len (hl:(Qbd (a ++ b)).toks.length ≠ 2):Qfs a b = true:=by
 rw [fuses_open h1 h2,sameB_length (by simpa [twoToks] using hl)]
 rfl
variable {k0 k1:Int} {l0 x0 l1 x1:ByteArray} (ht:(Qbd (a ++ b)).toks = [⟨k0,l0,x0⟩,⟨k1,l1,x1⟩])
include ht
theorem fuses_not (h:¬ (bl l0 = [] ∧ bl x0 = bl a ∧ bl l1 = [] ∧ bl x1 = bl b)):Qfs a b = true:=by
 rw [fuses_open h1 h2,ht]
 cases hs:sameB [⟨k0,l0,x0⟩,⟨k1,l1,x1⟩] (twoToks a b)
 ·rfl
 ·exact absurd (same_two hs) h
theorem fuses_tail (he:(Qbd (a ++ b)).e = 0) (h:bl (Qbd (a ++ b)).tail ≠ []):Qfs a b = true:=by
 refine fuses_not h1 h2 ht (fun ⟨g1,g2,g3,g4⟩=>h ?_)
 have hj:=((scanR_good (a ++ b)).1 he).2.1
 rw [ht] at hj
 unfold joinL at hj
 rw [List.flatMap_cons,List.flatMap_cons,List.flatMap_nil] at hj
 simp only [g1,g2,g3,g4,Qgu,List.nil_append,List.append_nil] at hj
 exact List.append_cancel_left (by rw [hj,List.append_nil]:(bl a ++ bl b) ++ bl (Qbd (a ++ b)).tail = (bl a ++ bl b) ++ [])
theorem fuses_yes (he:(Qbd (a ++ b)).e = 0) (h:bl l0 = [] ∧ bl x0 = bl a ∧ bl l1 = [] ∧ bl x1 = bl b):Qfs a b = false:=by
 have hg:=((scanR_good (a ++ b)).1 he).1
 rw [ht] at hg
 have q0:=(hg ⟨k0,l0,x0⟩ (by simp)).1
 have q1:=(hg ⟨k1,l1,x1⟩ (by simp)).1
 obtain ⟨g1,g2,g3,g4⟩:=h
 simp only [g2,g4] at q0 q1
 have e0:bl ByteArray.empty = []:=rfl
 rw [fuses_open h1 h2,ht]
 simp only [twoToks,sameB,tokEq,← Qdx,Bool.and_true]
 change (!((k0 == (Qam (bl a):Int) && bl l0 == bl ByteArray.empty && bl x0 == bl a) && (k1 == (Qam (bl b):Int) && bl l1 == bl ByteArray.empty && bl x1 == bl b))) = false
 rw [g1,g2,g3,g4,e0,q0,q1]
 simp
end
theorem nil_yes {x:ByteArray} (h:bl x = []):x.toList.isEmpty = true:=by rw [← Qdx];unfold bl at h;rw [h];rfl
theorem nil_no {x:ByteArray} (h:bl x ≠ []):x.toList.isEmpty = false:=by rw [← Qdx];unfold bl at h;simpa using h
theorem eq_yes {x y:ByteArray} (h:bl x = bl y):(x.toList == y.toList) = true:=by rw [← Qdx,← Qdx];unfold bl at h;simpa using h
theorem eq_no {x y:ByteArray} (h:bl x ≠ bl y):(x.toList == y.toList) = false:=by rw [← Qdx,← Qdx];unfold bl at h;simpa using h
theorem scan_two (s:ByteArray) (w:World) (hs:s.size ≤ maxLen) {k0 k1:Int} {l0 x0 l1 x1:ByteArray} (ht:(Qbd s).toks = [⟨k0,l0,x0⟩,⟨k1,l1,x1⟩]) :
  Calls Tryz.prog 170 #[.string s] w fun e w'=>∃ g c,e = .returned (.tuple #[.slice (some ⟨g,0,none⟩) 2 c,.string (Qbd s).tail,.int .i64 (Qbd s).place,.int .i64 (Qbd s).e]) ∧ Below w.heap.size w w' ∧
   w'.cell? ⟨g,0,none⟩ = some (.int .i64 k0) ∧ w'.cell? ⟨g,1,none⟩ = some (.string l0) ∧ w'.cell? ⟨g,2,none⟩ = some (.string x0) ∧ w'.cell? ⟨g,3,none⟩ = some (.int .i64 k1) ∧ w'.cell? ⟨g,4,none⟩ = some (.string l1) ∧ w'.cell? ⟨g,5,none⟩ = some (.string x1):=by
 refine (rScan_any s w hs).mono fun e w' h=>?_
 obtain ⟨v,he,ho,hb⟩:=h
 rw [ht] at ho
 obtain ⟨g,c,hv,_,_⟩:=World.ownsRow.form ho (by simp)
 subst hv
 have hc:=World.ownsRow.cells (g:=g) ho rfl
 exact ⟨g,c,he,hb,hc 0 _ rfl,hc 1 _ rfl,hc 2 _ rfl,hc 3 _ rfl,hc 4 _ rfl,hc 5 _ rfl⟩
theorem rfuses_any (a b:ByteArray) (w:World) (hs:a.size + b.size < maxLen) :
  Calls Tryz.prog 135 #[.string a,.string b] w fun e w'=>e = .returned (.bool (Qfs a b)) ∧ Below w.heap.size w w':=by
 have HA:=hQ (show a.size < maxLen from by omega)
 have HB:=hQ (show b.size < maxLen from by omega)
 have HS:=hQ (show (a ++ b).size ≤ maxLen from by rw [ByteArray.size_append];omega)
 unfold maxLen at hs
 by_cases h1:Qam (suf a 0) = 0
 ·have h1':(((Qam (suf a 0):Nat):Int) == 0) = true:=by simp [h1]
  have HF:=hQ (show Qfs a b = false from by unfold Qfs;simp [h1])
  clear h1
  go_enter Tryz.func135,Tryz.ntmps135
  go_wp2_with (go_at_call 159;((with_reducible refine (Qaz a _ HA.out).mono ?_);rintro e w1 ⟨rfl,hb1⟩;have W1:=hQ hb1;clear hb1))
  go_ret
  exact ⟨Qah HF.out.symm,W1.out⟩
 ·by_cases h2:Qam (suf b 0) = 0
  ·have h1':(((Qam (suf a 0):Nat):Int) == 0) = false:=by simp;omega
   have h2':(((Qam (suf b 0):Nat):Int) == 0) = true:=by simp [h2]
   have HF:=hQ (show Qfs a b = false from by unfold Qfs;simp [h2])
   clear h1 h2
   go_enter Tryz.func135,Tryz.ntmps135
   go_wp2_with (first | (go_at_call 159;((with_reducible refine (Qaz a _ HA.out).mono ?_);rintro e w1 ⟨rfl,hb1⟩;have W1:=hQ hb1;clear hb1)) | (go_at_call 159;((with_reducible refine (Qaz b _ HB.out).mono ?_);rintro e w2 ⟨rfl,hb2⟩;have W2:=hQ hb2;clear hb2)))
   go_ret
   exact ⟨Qah HF.out.symm,W1.out.trans (W2.out.mono W1.out.size)⟩
  ·have h1':(((Qam (suf a 0):Nat):Int) == 0) = false:=by simp;omega
   have h2':(((Qam (suf b 0):Nat):Int) == 0) = false:=by simp;omega
   have H1:=hQ h1
   have H2:=hQ h2
   clear h1 h2
   by_cases he:(Qbd (a ++ b)).e = 0
   ·have HE:=hQ he
    have he':((((Qbd (a ++ b)).e:Nat):Int) != 0) = false:=by simp [he]
    clear he
    by_cases hl:(Qbd (a ++ b)).toks.length = 2
    ·obtain ⟨⟨k0,l0,x0⟩,⟨k1,l1,x1⟩,ht⟩:∃ t u,(Qbd (a ++ b)).toks = [t,u]:=by
      match h:(Qbd (a ++ b)).toks,hl with
      | [t,u],_=>exact ⟨t,u,rfl⟩
     have HT:=hQ ht
     clear hl ht
     by_cases ht0:bl (Qbd (a ++ b)).tail = []
     ·have gt:=nil_yes ht0
      by_cases hx0:bl x0 = bl a
      ·have gx0:=eq_yes hx0
       by_cases hl0:bl l0 = []
       ·have gl0:=nil_yes hl0
        by_cases hx1:bl x1 = bl b
        ·have gx1:=eq_yes hx1
         by_cases hl1:bl l1 = []
         ·have gl1:=nil_yes hl1
          have HF:=hQ (fuses_yes H1.out H2.out HT.out HE.out ⟨hl0,hx0,hl1,hx1⟩)
          go_enter Tryz.func135,Tryz.ntmps135
          go_wp2_with (first | (go_at_call 159;((with_reducible refine (Qaz a _ HA.out).mono ?_);rintro e w1 ⟨rfl,hb1⟩;have W1:=hQ hb1;clear hb1)) | (go_at_call 159;((with_reducible refine (Qaz b _ HB.out).mono ?_);rintro e w2 ⟨rfl,hb2⟩;have W2:=hQ hb2;clear hb2)) | (go_at_call 170;refine (scan_two (a ++ b) _ HS.out HT.out).mono ?_;rintro e w3 ⟨g,c,rfl,hb3,c0,c1,c2,c3,c4,c5⟩;have W3:=hQ hb3;clear hb3))
          go_ret
          exact ⟨Qah HF.out.symm,(W1.out.trans (W2.out.mono W1.out.size)).trans (W3.out.mono (Nat.le_trans W1.out.size W2.out.size))⟩
         ·have gl1:=nil_no hl1
          have HF:=hQ (fuses_not H1.out H2.out HT.out (fun h=>hl1 h.2.2.1))
          go_enter Tryz.func135,Tryz.ntmps135
          go_wp2_with (first | (go_at_call 159;((with_reducible refine (Qaz a _ HA.out).mono ?_);rintro e w1 ⟨rfl,hb1⟩;have W1:=hQ hb1;clear hb1)) | (go_at_call 159;((with_reducible refine (Qaz b _ HB.out).mono ?_);rintro e w2 ⟨rfl,hb2⟩;have W2:=hQ hb2;clear hb2)) | (go_at_call 170;refine (scan_two (a ++ b) _ HS.out HT.out).mono ?_;rintro e w3 ⟨g,c,rfl,hb3,c0,c1,c2,c3,c4,c5⟩;have W3:=hQ hb3;clear hb3))
          go_ret
          exact ⟨Qah HF.out.symm,(W1.out.trans (W2.out.mono W1.out.size)).trans (W3.out.mono (Nat.le_trans W1.out.size W2.out.size))⟩
        ·have gx1:=eq_no hx1
         have HF:=hQ (fuses_not H1.out H2.out HT.out (fun h=>hx1 h.2.2.2))
         go_enter Tryz.func135,Tryz.ntmps135
         go_wp2_with (first | (go_at_call 159;((with_reducible refine (Qaz a _ HA.out).mono ?_);rintro e w1 ⟨rfl,hb1⟩;have W1:=hQ hb1;clear hb1)) | (go_at_call 159;((with_reducible refine (Qaz b _ HB.out).mono ?_);rintro e w2 ⟨rfl,hb2⟩;have W2:=hQ hb2;clear hb2)) | (go_at_call 170;refine (scan_two (a ++ b) _ HS.out HT.out).mono ?_;rintro e w3 ⟨g,c,rfl,hb3,c0,c1,c2,c3,c4,c5⟩;have W3:=hQ hb3;clear hb3))
         go_ret
         exact ⟨Qah HF.out.symm,(W1.out.trans (W2.out.mono W1.out.size)).trans (W3.out.mono (Nat.le_trans W1.out.size W2.out.size))⟩
       ·have gl0:=nil_no hl0
        have HF:=hQ (fuses_not H1.out H2.out HT.out (fun h=>hl0 h.1))
        go_enter Tryz.func135,Tryz.ntmps135
        go_wp2_with (first | (go_at_call 159;((with_reducible refine (Qaz a _ HA.out).mono ?_);rintro e w1 ⟨rfl,hb1⟩;have W1:=hQ hb1;clear hb1)) | (go_at_call 159;((with_reducible refine (Qaz b _ HB.out).mono ?_);rintro e w2 ⟨rfl,hb2⟩;have W2:=hQ hb2;clear hb2)) | (go_at_call 170;refine (scan_two (a ++ b) _ HS.out HT.out).mono ?_;rintro e w3 ⟨g,c,rfl,hb3,c0,c1,c2,c3,c4,c5⟩;have W3:=hQ hb3;clear hb3))
        go_ret
        exact ⟨Qah HF.out.symm,(W1.out.trans (W2.out.mono W1.out.size)).trans (W3.out.mono (Nat.le_trans W1.out.size W2.out.size))⟩
      ·have gx0:=eq_no hx0
       have HF:=hQ (fuses_not H1.out H2.out HT.out (fun h=>hx0 h.2.1))
       go_enter Tryz.func135,Tryz.ntmps135
       go_wp2_with (first | (go_at_call 159;((with_reducible refine (Qaz a _ HA.out).mono ?_);rintro e w1 ⟨rfl,hb1⟩;have W1:=hQ hb1;clear hb1)) | (go_at_call 159;((with_reducible refine (Qaz b _ HB.out).mono ?_);rintro e w2 ⟨rfl,hb2⟩;have W2:=hQ hb2;clear hb2)) | (go_at_call 170;refine (scan_two (a ++ b) _ HS.out HT.out).mono ?_;rintro e w3 ⟨g,c,rfl,hb3,c0,c1,c2,c3,c4,c5⟩;have W3:=hQ hb3;clear hb3))
       go_ret
       exact ⟨Qah HF.out.symm,(W1.out.trans (W2.out.mono W1.out.size)).trans (W3.out.mono (Nat.le_trans W1.out.size W2.out.size))⟩
     ·have gt:=nil_no ht0
      have HF:=hQ (fuses_tail H1.out H2.out HT.out HE.out ht0)
      go_enter Tryz.func135,Tryz.ntmps135
      go_wp2_with (first | (go_at_call 159;((with_reducible refine (Qaz a _ HA.out).mono ?_);rintro e w1 ⟨rfl,hb1⟩;have W1:=hQ hb1;clear hb1)) | (go_at_call 159;((with_reducible refine (Qaz b _ HB.out).mono ?_);rintro e w2 ⟨rfl,hb2⟩;have W2:=hQ hb2;clear hb2)) | (go_at_call 170;refine (scan_two (a ++ b) _ HS.out HT.out).mono ?_;rintro e w3 ⟨g,c,rfl,hb3,c0,c1,c2,c3,c4,c5⟩;have W3:=hQ hb3;clear hb3))
      go_ret
      exact ⟨Qah HF.out.symm,(W1.out.trans (W2.out.mono W1.out.size)).trans (W3.out.mono (Nat.le_trans W1.out.size W2.out.size))⟩
    ·have hl':((((Qbd (a ++ b)).toks.length:Nat):Int) != 2) = true:=by simp;omega
     have HF:=hQ (fuses_len H1.out H2.out hl)
     clear hl
     go_enter Tryz.func135,Tryz.ntmps135
     go_wp2_with (first | (go_at_call 159;((with_reducible refine (Qaz a _ HA.out).mono ?_);rintro e w1 ⟨rfl,hb1⟩;have W1:=hQ hb1;clear hb1)) | (go_at_call 159;((with_reducible refine (Qaz b _ HB.out).mono ?_);rintro e w2 ⟨rfl,hb2⟩;have W2:=hQ hb2;clear hb2)) | (go_at_call 170;refine (rScan_any (a ++ b) _ HS.out).mono ?_;rintro e w3 ⟨v,rfl,ho,hb3⟩;obtain ⟨A,c,rfl⟩:=Qgz ho;have HO:=hQ ho;have W3:=hQ hb3;clear ho hb3))
     go_ret
     exact ⟨Qah HF.out.symm,(W1.out.trans (W2.out.mono W1.out.size)).trans (W3.out.mono (Nat.le_trans W1.out.size W2.out.size))⟩
   ·have he':((((Qbd (a ++ b)).e:Nat):Int) != 0) = true:=by simp;omega
    have HF:=hQ (fuses_err H1.out H2.out he)
    clear he
    go_enter Tryz.func135,Tryz.ntmps135
    go_wp2_with (first | (go_at_call 159;((with_reducible refine (Qaz a _ HA.out).mono ?_);rintro e w1 ⟨rfl,hb1⟩;have W1:=hQ hb1;clear hb1)) | (go_at_call 159;((with_reducible refine (Qaz b _ HB.out).mono ?_);rintro e w2 ⟨rfl,hb2⟩;have W2:=hQ hb2;clear hb2)) | (go_at_call 170;refine (rScan_any (a ++ b) _ HS.out).mono ?_;rintro e w3 ⟨v,rfl,ho,hb3⟩;obtain ⟨A,c,rfl⟩:=Qgz ho;have HO:=hQ ho;have W3:=hQ hb3;clear ho hb3))
    go_ret
    exact ⟨Qah HF.out.symm,(W1.out.trans (W2.out.mono W1.out.size)).trans (W3.out.mono (Nat.le_trans W1.out.size W2.out.size))⟩
theorem skipL_app (l:List UInt8):∀ o r,(Qce o l).1 = l.length → Qce o (l ++ r) = (l.length + (Qce (Qce o l).2 r).1,(Qce (Qce o l).2 r).2):=by
 induction l with
 | nil=>intro o r _;simp [Qce]
 | cons c l ih =>
  intro o r h
  rw [List.cons_append]
  by_cases ha:Qaq c.toNat = true
  ·cases o
   ·by_cases hc:c.toNat = 35
    ·have e:∀ x,Qce false (c :: x) = ((Qce true x).1 + 1,(Qce true x).2):=fun x=>by rw [Qce,if_pos ha,if_neg (by decide),if_pos hc]
     rw [e] at h ⊢
     rw [e,ih true r (by simpa using h)]
     simp only [xD,Prod.mk.injEq,and_true]
     omega
    ·by_cases hw:Qd8 c.toNat = true
     ·have e:∀ x,Qce false (c :: x) = ((Qce false x).1 + 1,(Qce false x).2):=fun x=>by rw [Qce,if_pos ha,if_neg (by decide),if_neg hc,if_pos hw]
      rw [e] at h ⊢
      rw [e,ih false r (by simpa using h)]
      simp only [xD,Prod.mk.injEq,and_true]
      omega
     ·have e:∀ x,Qce false (c :: x) = (0,false):=fun x=>by rw [Qce,if_pos ha,if_neg (by decide),if_neg hc,if_neg hw]
      rw [e] at h
      simp at h
   ·have e:∀ x,Qce true (c :: x) = ((Qce (c.toNat != 10) x).1 + 1,(Qce (c.toNat != 10) x).2):=fun x=>by rw [Qce,if_pos ha,if_pos rfl]
    rw [e] at h ⊢
    rw [e,ih _ r (by simpa using h)]
    simp only [xD,Prod.mk.injEq,and_true]
    omega
  ·have e:∀ x,Qce o (c :: x) = (0,o):=fun x=>by rw [Qce,if_neg ha]
   rw [e] at h
   simp at h
theorem trivia_all {s:ByteArray} {b:Bool} (h:Qfp s b = true):(Qce false (bl s)).1 = (bl s).length ∧ (b = false → (Qce false (bl s)).2 = false):=by
 unfold Qfp at h
 simp only [Bool.and_eq_true,beq_iff_eq,Bool.or_eq_true,Bool.not_eq_true'] at h
 obtain ⟨h1,h2⟩:=h
 have e:Qak s 0 = 0 + (Qce false (bl s)).1:=rfl
 refine ⟨by rw [Qfi];omega,fun hb=>?_⟩
 rcases h2 with h2 | h2
 ·rw [hb] at h2
  cases h2
 ·exact h2
theorem trivia_head {s:ByteArray} {b:Bool} {d:UInt8} {r:List UInt8} (h:Qfp s b = true) (hs:bl s = d :: r):Qd8 d.toNat = true ∨ d.toNat = 35:=by
 have h1:=(trivia_all h).1
 rw [hs] at h1
 by_cases hw:Qd8 d.toNat = true
 ·exact .inl hw
 ·by_cases hc:d.toNat = 35
  ·exact .inr hc
  ·exfalso
   simp only [Qce,hc,hw,if_false,Bool.false_eq_true] at h1
   split at h1 <;> simp at h1
theorem class_parts {l:List UInt8} (h:Qam l ≠ 0):(Qbb l).e = 0 ∧ (Qbb l).n = l.length ∧ (Qbb l).kind = Qam l:=by
 unfold Qam at h ⊢
 split at h
 ·exact absurd rfl h
 ·rename_i h1
  split at h
  ·exact absurd rfl h
  ·rename_i h2
   rw [if_neg h1,if_neg h2]
   exact ⟨by omega,by omega,rfl⟩
theorem token_head {l:List UInt8} (h:Qam l ≠ 0):∃ d r,l = d :: r ∧ d.toNat ≠ 46 ∧ Qd8 d.toNat = false ∧ d.toNat ≠ 35 ∧ Qaq d.toNat = true:=by
 obtain ⟨he,hn,_⟩:=class_parts h
 cases l with
 | nil=>exact absurd rfl h
 | cons d r =>
  have h0:at' (d :: r) 0 = d.toNat:=rfl
  refine ⟨d,r,rfl,fun h46=>?_,?_,fun h35=>?_,?_⟩
  ·rw [tok_none (l:=d :: r) (by rw [h0,h46];decide) (by rw [h0,h46];decide) (by rw [h0,h46];decide) (by rw [h0,h46];decide) (by rw [h0,h46];decide) (by rw [h0,h46];decide)] at he
   cases he
  ·cases hw:Qd8 d.toNat
   ·rfl
   ·rw [tok_white (l:=d :: r) (by rw [h0];exact hw)] at he
    cases he
  ·rw [tok_hash (l:=d :: r) (by rw [h0];exact h35)] at he
   cases he
  ·cases ha:Qaq d.toNat
   ·unfold Qbb at he
    rw [h0,if_pos ha] at he
    cases he
   ·rfl
theorem scanF_acc (s:ByteArray):∀ f k acc,(scanF s f k acc).toks = [] ∨ ∃ more,(scanF s f k acc).toks = acc ++ more:=by
 intro f
 induction f with
 | zero=>intro k acc;exact .inl rfl
 | succ f ih =>
  intro k acc
  unfold scanF
  split
  ·exact .inr ⟨[],by simp⟩
  ·split
   ·rcases ih _ (acc ++ [_]) with h | ⟨m,h⟩
    ·exact .inl h
    ·exact .inr ⟨_ :: m,by rw [h,List.append_assoc];rfl⟩
   ·exact .inl rfl
theorem first_token {s:ByteArray} {k0:Int} {l0 x0:ByteArray} {more:List Tok} (h:(Qbd s).toks = ⟨k0,l0,x0⟩ :: more) (hl:bl l0 = []):(Qbb (bl s)).e = 0 ∧ (Qbb (bl s)).n = (bl x0).length:=by
 unfold Qbd at h
 split at h
 ·cases h
 ·unfold scanG at h
  rw [scanF] at h
  by_cases h1:Qak s 0 = s.size
  ·rw [if_pos h1] at h
   cases h
  ·rw [if_neg h1] at h
   have hle:=Qf0 s 0 (Nat.zero_le _)
   by_cases h2:(Qbb (suf s (Qak s 0))).e = 0
   ·rw [if_pos h2] at h
    rcases scanF_acc s s.size _ ([] ++ [_]) with h3 | ⟨m,h3⟩
    ·rw [h3] at h
     cases h
    ·rw [h3] at h
     rw [List.nil_append,List.singleton_append] at h
     injection h with h4 _
     injection h4 with h5 h6 h7
     have hs0:Qak s 0 = 0:=by
      have:=congrArg ByteArray.size h6
      rw [ByteArray.size_extract,Nat.min_eq_left hle,← Qfi l0,hl] at this
      simpa using this
     rw [hs0] at h2 h7
     have h8:=tok_len h2
     rw [Qbt] at h8
     refine ⟨h2,?_⟩
     have:=congrArg ByteArray.size h7
     rw [ByteArray.size_extract,← Qfi x0] at this
     show (Qbb (suf s 0)).n = _
     omega
   ·rw [if_neg h2] at h
    cases h
theorem unfuse {x y:ByteArray} {d:UInt8} {r:List UInt8} (h1:Qam (bl x) ≠ 0) (h2:Qam (bl y) ≠ 0) (hf:Qfs x y = false) (hy:bl y = d :: r):goes (bl x) d = false:=by
 have hs:sameB (Qbd (x ++ y)).toks (twoToks x y) = true:=by
  have:=fuses_open (a:=x) (b:=y) h1 h2
  rw [hf] at this
  simpa using this.symm
 have hlen:(Qbd (x ++ y)).toks.length = 2:=by
  by_cases h:(Qbd (x ++ y)).toks.length = 2
  ·exact h
  ·rw [sameB_length (by simpa [twoToks] using h)] at hs
   cases hs
 match ht:(Qbd (x ++ y)).toks,hlen with
 | [⟨k0,l0,x0⟩,⟨k1,l1,x1⟩],_ =>
  rw [ht] at hs
  obtain ⟨g1,g2,_,_⟩:=same_two hs
  obtain ⟨e1,e2⟩:=first_token ht g1
  rw [Qgu,hy,g2] at e2
  rw [Qgu,hy] at e1
  obtain ⟨c1,c2,_⟩:=class_parts h1
  cases hg:goes (bl x) d
  ·rfl
  ·exact absurd e2 (tok_goes c1 c2 hg r e1)
theorem sep_goes {a:List UInt8} {d:UInt8} (h:Qd8 d.toNat = true ∨ d.toNat = 35):goes a d = false ∧ d.toNat ≠ 46:=by
 have hv:d.toNat = 9 ∨ d.toNat = 10 ∨ d.toNat = 13 ∨ d.toNat = 32 ∨ d.toNat = 35:=by
  rcases h with h | h
  ·unfold Qd8 at h
   simp at h
   omega
  ·omega
 constructor
 ·unfold goes
  rcases hv with e | e | e | e | e <;> rw [e] <;> simp [Qgr,Qat,Qbl,lowerB,Qby]
 ·omega
def NoFuse:List Tok → Prop
 | []=>True
 | t :: r=>(∀ u r',r = u :: r' → bl u.lead = [] → Qfs t.text u.text = false) ∧ NoFuse r
theorem good_class {t:Tok} (h:GoodTok t):Qam (bl t.text) ≠ 0:=by
 obtain ⟨h1,h2,_⟩:=h
 intro h3
 rw [h3] at h1
 exact h2 h1.symm
theorem tok_follow {t:Tok} {rest:List Tok} {tail:ByteArray} (ht:GoodTok t) (hr:∀ u ∈ rest,GoodTok u) (hn:NoFuse (t :: rest)) (htl:Qfp tail true = true) :
  Qbb (bl t.text ++ joinL rest (bl tail)) = Qbb (bl t.text):=by
 have hc:=good_class ht
 obtain ⟨he,hlen,_⟩:=class_parts hc
 have sep:∀ d r,(Qd8 d.toNat = true ∨ d.toNat = 35) → Qbb (bl t.text ++ d :: r) = Qbb (bl t.text):=fun d r h=>by
  obtain ⟨g1,g2⟩:=sep_goes (a:=bl t.text) h
  exact tok_stop he hlen g1 g2 r
 cases rest with
 | nil =>
  have e:joinL [] (bl tail) = bl tail:=rfl
  rw [e]
  match hb:bl tail with
  | []=>rw [List.append_nil]
  | d :: r=>exact sep d r (trivia_head htl hb)
 | cons u r' =>
  have hu:=hr u (by simp)
  have e:joinL (u :: r') (bl tail) = bl u.lead ++ (bl u.text ++ joinL r' (bl tail)):=by unfold joinL;rw [List.flatMap_cons];simp
  rw [e]
  match hb:bl u.lead with
  | [] =>
   obtain ⟨d,r,hd,h46,_⟩:=token_head (good_class hu)
   rw [hd]
   exact tok_stop he hlen (unfuse hc (good_class hu) (hn.1 u r' rfl hb) hd) h46 _
  | d :: r=>exact sep d _ (trivia_head hu.2.2 hb)
theorem again_at (s tail:ByteArray) (htl:Qfp tail true = true):∀ (ts:List Tok) f k acc,suf s k = joinL ts (bl tail) → k ≤ s.size → s.size < f + k → (∀ u ∈ ts,GoodTok u) → NoFuse ts → scanF s f k acc = ⟨acc ++ ts,tail,0,0⟩:=by
 intro ts
 induction ts with
 | nil =>
  intro f k acc hs hk hf _ _
  obtain ⟨f,rfl⟩:∃ g,f = g + 1:=⟨f - 1,by omega⟩
  have e:suf s k = bl tail:=hs
  have hst:Qak s k = s.size:=by
   have h1:=(trivia_all htl).1
   have h2:=Qbt s k
   rw [e] at h2
   have:Qak s k = k + (Qce false (suf s k)).1:=rfl
   rw [this,e,h1]
   omega
  rw [scanF,if_pos hst,List.append_nil]
  congr 1
  exact bl_inj (by rw [← e];exact Qgt s k)
 | cons t rest ih =>
  intro f k acc hs hk hf hg hn
  obtain ⟨f,rfl⟩:∃ g,f = g + 1:=⟨f - 1,by omega⟩
  have ht:=hg t (by simp)
  obtain ⟨c1,c2,c3⟩:=class_parts (good_class ht)
  obtain ⟨d,r,hd,_,hw,h35,_⟩:=token_head (good_class ht)
  obtain ⟨t1,t2⟩:=trivia_all ht.2.2
  have e:suf s k = bl t.lead ++ (bl t.text ++ joinL rest (bl tail)):=by rw [hs];unfold joinL;rw [List.flatMap_cons];simp
  have hskip:Qce false (suf s k) = ((bl t.lead).length,false):=by
   rw [e,skipL_app _ _ _ t1,t2 rfl,hd,List.cons_append]
   simp [Qce,hw,h35]
  have hst:Qak s k = k + (bl t.lead).length:=by
   have:Qak s k = k + (Qce false (suf s k)).1:=rfl
   rw [this,hskip]
  have hlen:=congrArg List.length e
  rw [Qbt,xB,xB] at hlen
  have hpos:=(tok_len c1).1
  have hsuf:suf s (Qak s k) = bl t.text ++ joinL rest (bl tail):=by
   rw [hst,← Qes,e,List.drop_left]
  have htok:Qbb (suf s (Qak s k)) = Qbb (bl t.text):=by
   rw [hsuf]
   exact tok_follow ht (fun u hu=>hg u (by simp [hu])) hn htl
  rw [scanF,if_neg (by omega),if_pos (by rw [htok];exact c1),htok,c2,c3]
  have hx:(⟨(Qam (bl t.text):Nat),s.extract k (Qak s k),s.extract (Qak s k) (Qak s k + (bl t.text).length)⟩:Tok) = t:=by
   obtain ⟨kind,lead,text⟩:=t
   congr 1
   ·exact ht.1
   ·refine bl_inj ?_
    show suf (s.extract _ _) 0 = _
    rw [Qd9,hst,e,show k + (bl lead).length - k = (bl lead).length from by omega,List.take_left]
   ·refine bl_inj ?_
    show suf (s.extract _ _) 0 = _
    rw [Qd9,hsuf,show ∀ a b:Nat,a + b - a = b from fun a b=>by omega,List.take_left]
  rw [hx,ih f _ _ ?_ (by omega) (by omega) (fun u hu=>hg u (by simp [hu])) hn.2,List.append_assoc]
  ·rfl
  ·rw [← Qes,hsuf,List.drop_left]
theorem again {s tail:ByteArray} {ts:List Tok} (hs:bl s = joinL ts (bl tail)) (hsz:s.size ≤ 4096) (hg:∀ u ∈ ts,GoodTok u) (hn:NoFuse ts) (htl:Qfp tail true = true):Qbd s = ⟨ts,tail,0,0⟩:=by
 unfold Qbd scanG
 rw [if_neg (by omega),again_at s tail htl ts (s.size + 1) 0 [] hs (Nat.zero_le _) (by omega) hg hn,List.nil_append]
end Go.Proofs.YtnnfdbmanamfdaaGreat
