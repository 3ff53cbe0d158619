/- Part 38: Plain: the targets of a program, its modules' in turn; those of one definition. Plain: the classes of words with a dot and without; what kind of node a use and a definition of its name are. -/
import Derived.Test.YtclkilljmdkfaaaTy1
import Derived.Test.YtclkilljmdkfaaaTy37
import Derived.Test.YtclkilljmdkfaaaTy17
set_option maxRecDepth 100000
set_option maxHeartbeats 4000000
namespace Go.Proofs.Ytclkilljmdkfaaa
open Go.RowKit
def Qfl (ps:List Tr):List Tr → Nat → List Tgm
 | [],_=>[]
 | t :: r,i=>tgtM ps i t [] ++ Qfl ps r (i + 1)
theorem tgtPs_snoc (ps:List Tr) (t:Tr):(l:List Tr) → (i:Nat) → Qfl ps (l ++ [t]) i = Qfl ps l i ++ tgtM ps (i + l.length) t []
 | [],i=>by simp [Qfl]
 | a :: r,i=>by
  have h:=tgtPs_snoc ps t r (i + 1)
  rw [List.cons_append,Qfl,h,Qfl,List.append_assoc,show i + 1 + r.length = i + (a :: r).length from by simp;omega]
theorem tgtPs_step {ps l:List Tr} {k:Nat} {t:Tr} (h:l[k]? = some t):Qfl ps (l.take (k + 1)) 0 = Qfl ps (l.take k) 0 ++ tgtM ps k t []:=by
 have hk:k < l.length:=(List.getElem?_eq_some_iff.1 h).1
 rw [List.take_add_one,h,Option.toList_some,tgtPs_snoc,List.length_take,Nat.min_eq_left (Nat.le_of_lt hk),Nat.zero_add]
theorem tgtM_len (ps:List Tr) (m:Nat) (t:Tr) (p:List Int):(tgtM ps m t p).length ≤ Qao t:=by unfold tgtM;rw [List.length_map];exact tgtT_len ps m t p
theorem tgtPs_len (ps:List Tr):(l:List Tr) → (i:Nat) → (Qfl ps l i).length ≤ Qah l
 | [],_=>by rw [Qfl,Qah];simp
 | t :: r,i=>by
  rw [Qfl,xB,Qah]
  have h1:=tgtM_len ps i t []
  have h2:=tgtPs_len ps r (i + 1)
  omega
def tgtsG (ps:List Tr):List Tgm:=if Qbv ps = true then Qfl ps ps 0 else []
theorem tgtsG_len (ps:List Tr):(tgtsG ps).length ≤ Qah ps:=by
 unfold tgtsG
 split
 ·exact tgtPs_len ps ps 0
 ·simp
theorem lnk_quot:(i:Nat) → (l:List UInt8) → (Qbn i l).kind = 6 ∨ (Qbn i l).kind = 0
 | _,[]=>.inr rfl
 | i,c :: r=>by
  rw [Qbn]
  split
  ·exact .inl rfl
  ·split
   ·exact .inr rfl
   ·split
    ·exact lnk_quot (i + 1) r
    ·exact .inr rfl
theorem class_word {l:List UInt8} (h1:1 ≤ Qaj l) (h4:Qaj l ≤ 4):(Qe6 l).kind = Qaj l ∧ (Qe6 l).n = l.length:=by
 by_cases h0:l = []
 ·unfold Qaj at h1
  rw [if_pos h0] at h1
  omega
 ·by_cases hb:(Qb3 l).e ≠ 0 ∨ (Qb3 l).n ≠ l.length
  ·unfold Qaj at h1
   rw [if_neg h0,if_pos hb] at h1
   omega
  ·have hk:Qaj l = (Qb3 l).kind:=by unfold Qaj;rw [if_neg h0,if_neg hb]
   have hn:(Qb3 l).n = l.length:=by omega
   rw [hk] at h1 h4 ⊢
   have hw:Qb3 l = Qe6 l:=by
    unfold Qb3 at h1 h4 ⊢
    by_cases a1:Qar (at' l 0) = false
    ·rw [if_pos a1] at h1
     exact absurd h1 (by decide)
    ·rw [if_neg a1] at h1 h4 ⊢
     by_cases a2:Qb5 (at' l 0) = true
     ·rw [if_pos a2]
     ·exfalso
      rw [if_neg a2] at h1 h4
      by_cases a3:Qcb (at' l 0) = true
      ·rw [if_pos a3] at h1 h4
       unfold numT at h1 h4
       split at h1
       ·exact absurd h1 (by decide)
       ·rename_i b1
        rw [if_neg b1] at h4
        split at h1
        ·exact absurd h1 (by decide)
        ·rename_i b2
         rw [if_neg b2] at h4
         exact absurd h4 (by show ¬ 5 ≤ 4;decide)
      ·rw [if_neg a3] at h1 h4
       by_cases a4:at' l 0 = 34
       ·rw [if_pos a4] at h1 h4
        have:=lnk_quot 1 (l.drop 1)
        omega
       ·rw [if_neg a4] at h1 h4
        unfold Qc4 at h1 h4
        split at h1
        ·exact absurd h1 (by decide)
        ·rename_i b1
         rw [if_neg b1] at h4
         exact absurd h4 (by show ¬ 8 ≤ 4;decide)
   rw [← hw]
   exact ⟨rfl,hn⟩
theorem byte_46 {c:UInt8} (h:c.toNat = 46):c = 46:=UInt8.toNat_inj.1 h
theorem word_46 {c:UInt8} (h:wordB c.toNat = true):c ≠ 46:=fun e=>by
 subst e
 exact absurd h (by decide)
theorem dot_run:(l:List UInt8) → at' l (Qad l) = 46 → dotG l = Qad l
 | [],h=>by exact absurd h (by decide)
 | c :: r,h=>by
  unfold Qad Qcc at h ⊢
  by_cases hw:wordB c.toNat = true
  ·rw [if_pos hw] at h ⊢
   rw [dotG,if_neg (word_46 hw),dot_run r h]
   rfl
  ·rw [if_neg hw] at h ⊢
   rw [dotG,if_pos (byte_46 (show c.toNat = 46 from h))]
theorem dot_word:(l:List UInt8) → Qad l = l.length → dotG l = l.length
 | [],_=>rfl
 | c :: r,h=>by
  unfold Qad Qcc at h
  by_cases hw:wordB c.toNat = true
  ·rw [if_pos hw] at h
   rw [dotG,if_neg (word_46 hw),dot_word r (by unfold Qad;simpa using h),xD]
  ·rw [if_neg hw] at h
   simp at h
theorem class_dot {l:List UInt8} (h1:1 ≤ Qaj l) (h4:Qaj l ≤ 4) (hd:dotG l < l.length):(Qaj l = 4 ∧ Qcz (at' l (dotG l + 1)) = true) ∨ (Qaj l = 3 ∧ Qcz (at' l (dotG l + 1)) = false):=by
 obtain ⟨hk,hn⟩:=class_word h1 h4
 rw [← hk] at h1 h4 ⊢
 unfold Qe6 at h1 h4 hn ⊢
 by_cases a1:Qce l = true
 ·rw [if_pos a1] at h1 h4 hn ⊢
  have hg:dotG l = Qad l:=dot_run l (by unfold Qce at a1;simp at a1;exact a1.1.2)
  rw [hg]
  unfold Qc3 at h1 h4 hn ⊢
  split at h1
  ·exact absurd h1 (by decide)
  ·rename_i b1
   rw [if_neg b1]
   split at h1
   ·exact absurd h1 (by decide)
   ·rename_i b2
    rw [if_neg b2]
    by_cases b3:Qcz (at' l (Qad l + 1)) = true
    ·rw [if_pos b3]
     exact .inl ⟨rfl,b3⟩
    ·rw [if_neg b3]
     exact .inr ⟨rfl,by simpa using b3⟩
 ·exfalso
  rw [if_neg a1] at h1 h4 hn
  unfold Qb2 at h1 h4 hn
  split at h1
  ·exact absurd h1 (by decide)
  ·rename_i b1
   rw [if_neg b1] at hn
   have hw:Qad l = l.length:=by
    split at hn
    ·exact hn
    ·split at hn
     ·exact hn
     ·exact hn
   rw [dot_word l hw] at hd
   omega
theorem class_first {l:List UInt8} (h:Qaj l = 1 ∨ Qaj l = 2):Qcz (at' l 0) = decide (Qaj l = 2):=by
 obtain ⟨hk,_⟩:=class_word (l:=l) (by omega) (by omega)
 rw [← hk] at h ⊢
 unfold Qe6 at h ⊢
 by_cases a1:Qce l = true
 ·exfalso
  rw [if_pos a1] at h
  unfold Qc3 at h
  split at h
  ·exact absurd h (by decide)
  ·split at h
   ·exact absurd h (by decide)
   ·split at h
    ·exact absurd h (by show ¬ (4 = 1 ∨ 4 = 2);decide)
    ·exact absurd h (by show ¬ (3 = 1 ∨ 3 = 2);decide)
 ·rw [if_neg a1] at h ⊢
  unfold Qb2 at h ⊢
  split at h
  ·exact absurd h (by decide)
  ·rename_i b1
   rw [if_neg b1]
   split at h
   ·exact absurd h (by show ¬ (7 = 1 ∨ 7 = 2);decide)
   ·rename_i b2
    rw [if_neg b2]
    by_cases b3:Qcz (at' l 0) = true
    ·rw [if_pos b3,b3]
     rfl
    ·rw [if_neg b3,show Qcz (at' l 0) = false from by simpa using b3]
     rfl
theorem name_call {x:ByteArray} (h:Qa6 (Qae 16) x = true):Qaj (bl x) = 1 ∨ Qaj (bl x) = 3:=by
 have e:Qa6 (Qae 16) x = Qbw 4 (Qaj (bl x)) x:=rfl
 rw [e] at h
 have e2:Qbw 4 (Qaj (bl x)) x = ((Qaj (bl x):Int) == 1 || (Qaj (bl x):Int) == 3):=rfl
 rw [e2] at h
 simp at h
 omega
theorem name_named {x:ByteArray} (h:Qa6 (Qae 9) x = true):Qaj (bl x) = 2 ∨ Qaj (bl x) = 4:=by
 have e:Qa6 (Qae 9) x = Qbw 3 (Qaj (bl x)) x:=rfl
 rw [e] at h
 have e2:Qbw 3 (Qaj (bl x)) x = ((Qaj (bl x):Int) == 2 || (Qaj (bl x):Int) == 4):=rfl
 rw [e2] at h
 simp at h
 omega
theorem name_func {x:ByteArray} (h:Qa6 (Qae 2) x = true):Qaj (bl x) = 1:=by
 have e:Qa6 (Qae 2) x = Qbw 2 (Qaj (bl x)) x:=rfl
 rw [e] at h
 have e2:Qbw 2 (Qaj (bl x)) x = ((Qaj (bl x):Int) == 1):=rfl
 rw [e2] at h
 simp at h
 omega
theorem name_alias {x:ByteArray} (h:Qa6 (Qae 3) x = true):Qaj (bl x) = 2:=by
 have e:Qa6 (Qae 3) x = Qbw 1 (Qaj (bl x)) x:=rfl
 rw [e] at h
 have e2:Qbw 1 (Qaj (bl x)) x = ((Qaj (bl x):Int) == 2):=rfl
 rw [e2] at h
 simp at h
 omega
theorem lnk_at_drop (l:List UInt8) (a:Nat):at' (l.drop a) 0 = at' l a:=by
 unfold at'
 rw [List.getD_eq_getElem?_getD,List.getD_eq_getElem?_getD,List.getElem?_drop,Nat.add_zero]
theorem bl_name (s:ByteArray) (a:Nat):bl (s.extract a s.size) = (bl s).drop a:=by
 unfold bl
 rw [Qeq,Qe5,Nat.zero_add]
end Go.Proofs.Ytclkilljmdkfaaa
