/- Part 24 -/
import Derived.Test.YtfjpemdejoejbaaGreatSg4
set_option maxRecDepth 100000
set_option maxHeartbeats 4000000
namespace Go.Proofs.YtfjpemdejoejbaaGreat
open Go.RowKit
section
variable {s:ByteArray} {a:Nat}
theorem Zh4 (h0:a<s.size) (h:s[a].toNat=61) (h1:a+1<s.size) (h2:s[a+1].toNat=61):Qbq (suf s a)=2:=by
 unfold Qbq;rw [Qb6 s a h0,xO h,Qi9 s a 1 h1,xO h2]
theorem Zh5 (h0:a<s.size) (h:s[a].toNat=61) (h1:∀ h:a+1<s.size,s[a+1].toNat≠61):Qbq (suf s a)=1:=by
 unfold Qbq;rw [Qb6 s a h0,xO h]
 by_cases h2:a+1<s.size
 ·rw [Qi9 s a 1 h2,xN (h1 h2)]
 ·unfold at';rw [List.getD_eq_getElem?_getD,List.getElem?_eq_none (by rw [Qbw];omega)]
  decide
theorem Zh6 (h0:a<s.size) (h:s[a].toNat≠61) (h1:Qe2 s[a].toNat=true):Qbq (suf s a)=1:=by
 unfold Qbq;rw [Qb6 s a h0,xN h,xO h1]
theorem Zgi (h0:a<s.size) (h:s[a].toNat≠61) (h1:Qe2 s[a].toNat=false):Qbq (suf s a)=0:=by
 unfold Qbq;rw [Qb6 s a h0,xN h,xN (by simp [h1])]
end
theorem Qik (s:ByteArray) (a:Nat) (w:World) (h0:a<s.size) (hs:s.size≤maxLen) :
  Calls Tryz.prog 166 #[.string s,.int .i64 a] w fun e w'=>e = .returned (.int .i64 (Qbq (suf s a)))∧w=w':=by
 unfold maxLen at hs
 by_cases h61:s[a].toNat=61
 ·have g61:((s[a].toNat:Int)==61)=true:=Qc6 h61;have H61:=hQ h61;clear h61
  by_cases h1:a+1<s.size
  ·by_cases h2:s[a+1].toNat=61
   ·have g2:((s[a+1].toNat:Int)==61)=true:=Qc6 h2;have H2:=hQ h2;clear h2
    go_enter Tryz.func166,Tryz.ntmps166
    go_wp2
    go_ret
    exact ⟨Qb5 (by rw [Zh4 h0 H61.out h1 H2.out];rfl),rfl⟩
   ·have g2:((s[a+1].toNat:Int)==61)=false:=Qdt h2;have H2:=hQ h2;clear h2
    go_enter Tryz.func166,Tryz.ntmps166
    go_wp2
    go_ret
    exact ⟨Qb5 (by rw [Zh5 h0 H61.out (fun _=>H2.out)];rfl),rfl⟩
  ·go_enter Tryz.func166,Tryz.ntmps166
   go_wp2
   go_ret
   exact ⟨Qb5 (by rw [Zh5 h0 H61.out (fun h=>absurd h h1)];rfl),rfl⟩
 ·have g61:((s[a].toNat:Int)==61)=false:=Qdt h61;have H61:=hQ h61;clear h61
  cases ho:Qe2 s[a].toNat
  ·have H1:=hQ ho;simp only [Qe2,Bool.or_eq_false_iff,and_assoc] at ho;obtain ⟨a1,a2,a3,a4,a5,a6,a7,a8,a9,a10,a11⟩:=ho
   go_enter Tryz.func166,Tryz.ntmps166
   go_wp2
   go_ret
   exact ⟨Qb5 (by rw [Zgi h0 H61.out H1.out];rfl),rfl⟩
  ·have H1:=hQ ho;clear ho
   go_enter Tryz.func166,Tryz.ntmps166
   go_wp2
   all_goals
    first
     | (go_ret;exact ⟨Qb5 (by rw [Zh6 h0 H61.out H1.out];rfl),rfl⟩)
     | (exfalso;have:=H1.out;simp_all [Qe2])
def Qxy (t:Tk):Int:=if t.e=0 then t.n else 0
def iAt (t:Tk) (a:Nat):Int:=if t.e=0 then 0 else a+t.n
theorem Quk {t:Tk} {a:Nat} {x y z u:Int} (hx:x=Qxy t) (hy:y=t.kind) (hz:z=t.e) (hu:u=iAt t a) :
  Ending.returned (.agg #[.int .i64 x,.int .i64 y,.int .i64 z,.int .i64 u]) = .returned (.agg #[.int .i64 (Qxy t),.int .i64 t.kind,.int .i64 t.e,.int .i64 (iAt t a)]):=by rw [hx,hy,hz,hu]
theorem Qew {t:Tk} {a:Nat} {x y:Int} (k n:Nat) (h:t=⟨k,n,0⟩) (hx:x=n) (hy:y=k) :
  Ending.returned (.agg #[.int .i64 x,.int .i64 y,.int .i64 0,.int .i64 0]) = .returned (.agg #[.int .i64 (Qxy t),.int .i64 t.kind,.int .i64 t.e,.int .i64 (iAt t a)]):=by
 subst h hx hy;rfl
theorem Qeq {t:Tk} {a:Nat} {z u:Int} (n e:Nat) (h:t=⟨0,n,e+1⟩) (hz:z=(e+1:Nat)) (hu:u=a+n) :
  Ending.returned (.agg #[.int .i64 0,.int .i64 0,.int .i64 z,.int .i64 u]) = .returned (.agg #[.int .i64 (Qxy t),.int .i64 t.kind,.int .i64 t.e,.int .i64 (iAt t a)]):=by
 subst h hz hu;rfl
theorem Qcc (s:ByteArray) (a b:Nat) (w:World) :
  Calls Tryz.prog 173 #[.string (s.extract a b)] w fun e w'=>e = .returned (.bool (Qar ((suf s a).take (b-a))))∧w=w':=by
 rw [←Qea];exact Qo0 _ w
theorem Qd1 (s:ByteArray) (a:Nat) (w:World) (h0:a<s.size) (hl:Qav s[a].toNat=true) (hs:s.size≤maxLen) :
  Calls Tryz.prog 172 #[.string s,.int .i64 a] w fun e w'=>e = .returned (.int .i64 (Qac (suf s a)))∧w=w':=by
 rw [←Qj1 h0 hl];exact Qmc s a w (by omega) hs
theorem Zde (s:ByteArray) (a n:Nat) (w:World) (hb:a+n+1<s.size) (hl:Qav s[a+n+1].toNat=false) (hs:s.size≤maxLen) :
  Calls Tryz.prog 172 #[.string s,.int .i64 ((a:Int)+(n:Int)+1)] w fun e w'=>e = .returned (.int .i64 0)∧w=w':=by
 have h:=Qmc s (a+n+1) w (by omega) hs;rw [Qt2 hb hl] at h
 rwa [show ((a+n+1:Nat):Int)=(a:Int)+(n:Int)+1 from by omega] at h
theorem Qil (s:ByteArray) (a n:Nat) (w:World) (hb:a+n+1<s.size) (hl:Qav s[a+n+1].toNat=true) (hs:s.size≤maxLen) :
  Calls Tryz.prog 172 #[.string s,.int .i64 ((a:Int)+(n:Int)+1)] w fun e w'=>e = .returned (.int .i64 (Qac (suf s (a+n+1))))∧w=w':=by
 have h:=Qmc s (a+n+1) w (by omega) hs;rw [Qj1 hb hl] at h
 rwa [show ((a+n+1:Nat):Int)=(a:Int)+(n:Int)+1 from by omega] at h
theorem Qsz {c:Int} (h:Qav c=true):Qh9 c=true:=by unfold Qh9;rw [h];rfl
theorem Qfp {s:ByteArray} {a:Nat} (h:a<s.size) (hl:Qav s[a].toNat=true):0<Qac (suf s a):=by
 unfold Qac;rw [Qc8 s a h];simp [Qeb,Qsz hl]
theorem Qqt (s:ByteArray) (a m:Nat) (h:0<(s.extract a (a+m)).size):(s.extract a (a+m))[0].toNat=at' (suf s a) 0:=by
 have hm:0<m:=by rw [ByteArray.size_extract] at h;omega
 rw [←Qeo _ 0 h,Qea];unfold at';rw [List.getD_eq_getElem?_getD,List.getD_eq_getElem?_getD,List.getElem?_take,xO (by omega)]
section
variable (s:ByteArray) (a n:Nat)
theorem Qlg:at' (suf s a) (n+1)=at' (suf s (a+n+1)) 0:=by
 rw [Qr4 s a,Qr4 s (a+n+1)];rfl
theorem Ze5 (h:24<n∨24<Qac (suf s (a+n+1))):Qdd (suf s a) n=⟨0,0,3⟩:=by
 unfold Qdd;rw [Qe7,←Nat.add_assoc,xO h]
theorem q_res (h:¬ (24<n∨24<Qac (suf s (a+n+1)))) (hr:Qar ((suf s (a+n+1)).take (Qac (suf s (a+n+1))))=true):Qdd (suf s a) n=⟨0,0,2⟩:=by
 unfold Qdd;rw [Qe7,←Nat.add_assoc,xN h,xO hr]
theorem q_up (h:¬ (24<n∨24<Qac (suf s (a+n+1)))) (hr:Qar ((suf s (a+n+1)).take (Qac (suf s (a+n+1))))=false) (hu:Qb1 (at' (suf s (a+n+1)) 0)=true) :
  Qdd (suf s a) n=⟨4,n+1+Qac (suf s (a+n+1)),0⟩:=by
 unfold Qdd;rw [Qe7,←Nat.add_assoc,xN h,xN (by simp [hr]),xO (by rw [Qlg];exact hu)]
theorem q_low (h:¬ (24<n∨24<Qac (suf s (a+n+1)))) (hr:Qar ((suf s (a+n+1)).take (Qac (suf s (a+n+1))))=false) (hu:Qb1 (at' (suf s (a+n+1)) 0)=false) :
  Qdd (suf s a) n=⟨3,n+1+Qac (suf s (a+n+1)),0⟩:=by
 unfold Qdd;rw [Qe7,←Nat.add_assoc,xN h,xN (by simp [hr]),xN (by rw [Qlg];simp [hu])]
end
def Qdr (s:ByteArray) (a:Nat) (w:World) (e:Ending) (w':World):Prop :=
 e = .returned (.agg #[.int .i64 (Qxy (Qd2 (suf s a))),.int .i64 (Qd2 (suf s a)).kind,.int .i64 (Qd2 (suf s a)).e,.int .i64 (iAt (Qd2 (suf s a)) a)])∧Below w.heap.size w w'
theorem Qex (s:ByteArray) (a:Nat) (h0:a<s.size):Qdk (suf s a)=(Qb1 s[a].toNat && !Qar ((suf s a).take (Qac (suf s a))) && decide (a+Qac (suf s a)+1<s.size) && at' (suf s a) (Qac (suf s a))==46 && Qav (at' (suf s a) (Qac (suf s a)+1))):=by
 unfold Qdk;rw [Qb6 s a h0,Qbw]
 congr 3
 exact decide_eq_decide.2 (by omega)
theorem Qzr (s:ByteArray) (a:Nat) (w:World) (h0:a<s.size) (hl:Qav s[a].toNat=true) (hs:s.size<maxLen) (hu:Qb1 s[a].toNat=false) :
  Calls Tryz.prog 165 #[.string s,.int .i64 a] w (Qdr s a w):=by
 have HS:=hQ (Nat.le_of_lt hs);have hm:=Qb8 s a;have HL:=hQ hl;have H0:=hQ (Qb6 s a h0);have HD:=hQ (Qex s a h0);clear hl;unfold maxLen at hs;cases hr:Qar ((suf s a).take (Qac (suf s a)))
 all_goals
  have HP:=hQ (Qdf (show Qdk (suf s a)=false from by rw [HD.out,hu];rfl))
  by_cases h24:24<Qac (suf s a)
  all_goals
   go_enter Tryz.func165,Tryz.ntmps165
   go_wp2_with (first | (go_at_call 172;((with_reducible refine (Qd1 _ _ _ h0 HL.out HS.out).mono ?_);rintro e w' ⟨rfl,rfl⟩)) | (go_at_call 173;refine (Qcc _ _ _ _).mono ?_;rintro e w' ⟨rfl,rfl⟩) | (go_at_call 164;refine (Qax _ _).mono ?_;rintro e w' ⟨rfl,rfl⟩))
   first
    | exact bodyPost_ret (v:=.agg #[.int .i64 0,.int .i64 0,.int .i64 3,.int .i64 a]) (by simp [results,Tryz.results165,go_sem]) rfl ⟨Qeq 0 2 (HP.out.trans (Qdz h24)) rfl (by omega),(xC _ _).alloc (xA _) _⟩
    | exact bodyPost_ret (v:=.agg #[.int .i64 (Qac (suf s a):Nat),.int .i64 7,.int .i64 0,.int .i64 0]) (by simp [results,Tryz.results165,go_sem]) rfl ⟨Qew 7 _ (HP.out.trans (Qer h24 hr)) rfl rfl,(xC _ _).alloc (xA _) _⟩
    | exact bodyPost_ret (v:=.agg #[.int .i64 (Qac (suf s a):Nat),.int .i64 2,.int .i64 0,.int .i64 0]) (by simp [results,Tryz.results165,go_sem]) rfl ⟨Qew 2 _ (HP.out.trans (Qft h24 hr (by rw [H0.out];exact hu))) rfl rfl,(xC _ _).alloc (xA _) _⟩
    | exact bodyPost_ret (v:=.agg #[.int .i64 (Qac (suf s a):Nat),.int .i64 1,.int .i64 0,.int .i64 0]) (by simp [results,Tryz.results165,go_sem]) rfl ⟨Qew 1 _ (HP.out.trans (Qes h24 hr (by rw [H0.out];exact hu))) rfl rfl,(xC _ _).alloc (xA _) _⟩
theorem Qzs (s:ByteArray) (a:Nat) (w:World) (h0:a<s.size) (hl:Qav s[a].toNat=true) (hs:s.size<maxLen) (hu:Qb1 s[a].toNat=true) (hr:Qar ((suf s a).take (Qac (suf s a)))=true) :
  Calls Tryz.prog 165 #[.string s,.int .i64 a] w (Qdr s a w):=by
 have HS:=hQ (Nat.le_of_lt hs);have hm:=Qb8 s a;have HL:=hQ hl;have H0:=hQ (Qb6 s a h0);have HD:=hQ (Qex s a h0);clear hl;unfold maxLen at hs;have HP:=hQ (Qdf (show Qdk (suf s a)=false from by rw [HD.out,hr];simp))
 by_cases h24:24<Qac (suf s a)
 all_goals
  go_enter Tryz.func165,Tryz.ntmps165
  go_wp2_with (first | (go_at_call 172;((with_reducible refine (Qd1 _ _ _ h0 HL.out HS.out).mono ?_);rintro e w' ⟨rfl,rfl⟩)) | (go_at_call 173;refine (Qcc _ _ _ _).mono ?_;rintro e w' ⟨rfl,rfl⟩) | (go_at_call 164;refine (Qax _ _).mono ?_;rintro e w' ⟨rfl,rfl⟩))
  first
   | exact bodyPost_ret (v:=.agg #[.int .i64 0,.int .i64 0,.int .i64 3,.int .i64 a]) (by simp [results,Tryz.results165,go_sem]) rfl ⟨Qeq 0 2 (HP.out.trans (Qdz h24)) rfl (by omega),(xC _ _).alloc (xA _) _⟩
   | exact bodyPost_ret (v:=.agg #[.int .i64 (Qac (suf s a):Nat),.int .i64 7,.int .i64 0,.int .i64 0]) (by simp [results,Tryz.results165,go_sem]) rfl ⟨Qew 7 _ (HP.out.trans (Qer h24 hr)) rfl rfl,(xC _ _).alloc (xA _) _⟩
   | exact bodyPost_ret (v:=.agg #[.int .i64 (Qac (suf s a):Nat),.int .i64 2,.int .i64 0,.int .i64 0]) (by simp [results,Tryz.results165,go_sem]) rfl ⟨Qew 2 _ (HP.out.trans (Qft h24 hr (by rw [H0.out];exact hu))) rfl rfl,(xC _ _).alloc (xA _) _⟩
   | exact bodyPost_ret (v:=.agg #[.int .i64 (Qac (suf s a):Nat),.int .i64 1,.int .i64 0,.int .i64 0]) (by simp [results,Tryz.results165,go_sem]) rfl ⟨Qew 1 _ (HP.out.trans (Qes h24 hr (by rw [H0.out];exact hu))) rfl rfl,(xC _ _).alloc (xA _) _⟩
theorem Qs0 (s:ByteArray) (a:Nat) (w:World) (h0:a<s.size) (hl:Qav s[a].toNat=true) (hs:s.size<maxLen) (hu:Qb1 s[a].toNat=true) (hr:Qar ((suf s a).take (Qac (suf s a)))=false) (hn:¬ a+Qac (suf s a)+1<s.size) :
  Calls Tryz.prog 165 #[.string s,.int .i64 a] w (Qdr s a w):=by
 have HS:=hQ (Nat.le_of_lt hs);have hm:=Qb8 s a;have HL:=hQ hl;have H0:=hQ (Qb6 s a h0);have HD:=hQ (Qex s a h0);clear hl;unfold maxLen at hs;have hn':¬ (a:Int)+(Qac (suf s a):Nat)+1<(s.size:Int):=by omega
 have HP:=hQ (Qdf (show Qdk (suf s a)=false from by rw [HD.out,xR hn];simp))
 by_cases h24:24<Qac (suf s a)
 all_goals
  go_enter Tryz.func165,Tryz.ntmps165
  go_wp2_with (first | (go_at_call 172;((with_reducible refine (Qd1 _ _ _ h0 HL.out HS.out).mono ?_);rintro e w' ⟨rfl,rfl⟩)) | (go_at_call 173;refine (Qcc _ _ _ _).mono ?_;rintro e w' ⟨rfl,rfl⟩) | (go_at_call 164;refine (Qax _ _).mono ?_;rintro e w' ⟨rfl,rfl⟩))
  first
   | exact bodyPost_ret (v:=.agg #[.int .i64 0,.int .i64 0,.int .i64 3,.int .i64 a]) (by simp [results,Tryz.results165,go_sem]) rfl ⟨Qeq 0 2 (HP.out.trans (Qdz h24)) rfl (by omega),(xC _ _).alloc (xA _) _⟩
   | exact bodyPost_ret (v:=.agg #[.int .i64 (Qac (suf s a):Nat),.int .i64 7,.int .i64 0,.int .i64 0]) (by simp [results,Tryz.results165,go_sem]) rfl ⟨Qew 7 _ (HP.out.trans (Qer h24 hr)) rfl rfl,(xC _ _).alloc (xA _) _⟩
   | exact bodyPost_ret (v:=.agg #[.int .i64 (Qac (suf s a):Nat),.int .i64 2,.int .i64 0,.int .i64 0]) (by simp [results,Tryz.results165,go_sem]) rfl ⟨Qew 2 _ (HP.out.trans (Qft h24 hr (by rw [H0.out];exact hu))) rfl rfl,(xC _ _).alloc (xA _) _⟩
   | exact bodyPost_ret (v:=.agg #[.int .i64 (Qac (suf s a):Nat),.int .i64 1,.int .i64 0,.int .i64 0]) (by simp [results,Tryz.results165,go_sem]) rfl ⟨Qew 1 _ (HP.out.trans (Qes h24 hr (by rw [H0.out];exact hu))) rfl rfl,(xC _ _).alloc (xA _) _⟩
theorem Qs1 (s:ByteArray) (a:Nat) (w:World) (h0:a<s.size) (hl:Qav s[a].toNat=true) (hs:s.size<maxLen) (hu:Qb1 s[a].toNat=true) (hr:Qar ((suf s a).take (Qac (suf s a)))=false) (hn:a+Qac (suf s a)+1<s.size) (h46:s[a+Qac (suf s a)].toNat≠46) :
  Calls Tryz.prog 165 #[.string s,.int .i64 a] w (Qdr s a w):=by
 have HS:=hQ (Nat.le_of_lt hs);have hm:=Qb8 s a;have HL:=hQ hl;have H0:=hQ (Qb6 s a h0);have HD:=hQ (Qex s a h0);clear hl;unfold maxLen at hs;have hn':(a:Int)+(Qac (suf s a):Nat)+1<(s.size:Int):=by omega
 have g46:((s[a+Qac (suf s a)].toNat:Int)==46)=false:=Qdt h46;have H46:=hQ h46;clear h46;have HP:=hQ (Qdf (show Qdk (suf s a)=false from by rw [HD.out,Qi9 s a (Qac (suf s a)) (by omega),beq_eq_false_iff_ne.2 H46.out];simp))
 by_cases h24:24<Qac (suf s a)
 all_goals
  go_enter Tryz.func165,Tryz.ntmps165
  go_wp2_with (first | (go_at_call 172;((with_reducible refine (Qd1 _ _ _ h0 HL.out HS.out).mono ?_);rintro e w' ⟨rfl,rfl⟩)) | (go_at_call 173;refine (Qcc _ _ _ _).mono ?_;rintro e w' ⟨rfl,rfl⟩) | (go_at_call 164;refine (Qax _ _).mono ?_;rintro e w' ⟨rfl,rfl⟩))
  first
   | exact bodyPost_ret (v:=.agg #[.int .i64 0,.int .i64 0,.int .i64 3,.int .i64 a]) (by simp [results,Tryz.results165,go_sem]) rfl ⟨Qeq 0 2 (HP.out.trans (Qdz h24)) rfl (by omega),(xC _ _).alloc (xA _) _⟩
   | exact bodyPost_ret (v:=.agg #[.int .i64 (Qac (suf s a):Nat),.int .i64 7,.int .i64 0,.int .i64 0]) (by simp [results,Tryz.results165,go_sem]) rfl ⟨Qew 7 _ (HP.out.trans (Qer h24 hr)) rfl rfl,(xC _ _).alloc (xA _) _⟩
   | exact bodyPost_ret (v:=.agg #[.int .i64 (Qac (suf s a):Nat),.int .i64 2,.int .i64 0,.int .i64 0]) (by simp [results,Tryz.results165,go_sem]) rfl ⟨Qew 2 _ (HP.out.trans (Qft h24 hr (by rw [H0.out];exact hu))) rfl rfl,(xC _ _).alloc (xA _) _⟩
   | exact bodyPost_ret (v:=.agg #[.int .i64 (Qac (suf s a):Nat),.int .i64 1,.int .i64 0,.int .i64 0]) (by simp [results,Tryz.results165,go_sem]) rfl ⟨Qew 1 _ (HP.out.trans (Qes h24 hr (by rw [H0.out];exact hu))) rfl rfl,(xC _ _).alloc (xA _) _⟩
theorem Qzt (s:ByteArray) (a:Nat) (w:World) (h0:a<s.size) (hl:Qav s[a].toNat=true) (hs:s.size<maxLen) (hu:Qb1 s[a].toNat=true) (hr:Qar ((suf s a).take (Qac (suf s a)))=false) (hn:a+Qac (suf s a)+1<s.size) (h46:s[a+Qac (suf s a)].toNat=46) (hz:Qav s[a+Qac (suf s a)+1].toNat=false) :
  Calls Tryz.prog 165 #[.string s,.int .i64 a] w (Qdr s a w):=by
 have HS:=hQ (Nat.le_of_lt hs);have hm:=Qb8 s a;have HL:=hQ hl;have H0:=hQ (Qb6 s a h0);have HD:=hQ (Qex s a h0);clear hl;unfold maxLen at hs;have hn':(a:Int)+(Qac (suf s a):Nat)+1<(s.size:Int):=by omega
 have g46:((s[a+Qac (suf s a)].toNat:Int)==46)=true:=Qc6 h46;have HZ:=hQ hz;clear h46 hz;have HP:=hQ (Qdf (show Qdk (suf s a)=false from by rw [HD.out,Qlg,Qb6 s (a+Qac (suf s a)+1) hn,HZ.out];simp))
 by_cases h24:24<Qac (suf s a)
 all_goals
  go_enter Tryz.func165,Tryz.ntmps165
  go_wp2_with (first | (go_at_call 172;((with_reducible refine (Qd1 _ _ _ h0 HL.out HS.out).mono ?_);rintro e w' ⟨rfl,rfl⟩)) | (go_at_call 173;refine (Qcc _ _ _ _).mono ?_;rintro e w' ⟨rfl,rfl⟩) | (go_at_call 164;refine (Qax _ _).mono ?_;rintro e w' ⟨rfl,rfl⟩) | (go_at_call 172;((with_reducible refine (Zde _ _ _ _ hn HZ.out HS.out).mono ?_);rintro e w' ⟨rfl,rfl⟩)))
  first
   | exact bodyPost_ret (v:=.agg #[.int .i64 0,.int .i64 0,.int .i64 3,.int .i64 a]) (by simp [results,Tryz.results165,go_sem]) rfl ⟨Qeq 0 2 (HP.out.trans (Qdz h24)) rfl (by omega),(xC _ _).alloc (xA _) _⟩
   | exact bodyPost_ret (v:=.agg #[.int .i64 (Qac (suf s a):Nat),.int .i64 7,.int .i64 0,.int .i64 0]) (by simp [results,Tryz.results165,go_sem]) rfl ⟨Qew 7 _ (HP.out.trans (Qer h24 hr)) rfl rfl,(xC _ _).alloc (xA _) _⟩
   | exact bodyPost_ret (v:=.agg #[.int .i64 (Qac (suf s a):Nat),.int .i64 2,.int .i64 0,.int .i64 0]) (by simp [results,Tryz.results165,go_sem]) rfl ⟨Qew 2 _ (HP.out.trans (Qft h24 hr (by rw [H0.out];exact hu))) rfl rfl,(xC _ _).alloc (xA _) _⟩
   | exact bodyPost_ret (v:=.agg #[.int .i64 (Qac (suf s a):Nat),.int .i64 1,.int .i64 0,.int .i64 0]) (by simp [results,Tryz.results165,go_sem]) rfl ⟨Qew 1 _ (HP.out.trans (Qes h24 hr (by rw [H0.out];exact hu))) rfl rfl,(xC _ _).alloc (xA _) _⟩
section
variable (s:ByteArray) (a n:Nat)
theorem Qfd (b m:Nat) (h:b<s.size) (hm:0<m):0<(s.extract b (b+m)).size:=by
 rw [ByteArray.size_extract];omega
theorem q_up2 (h:¬ (24<n∨24<Qac (suf s (a+n+1)))) (hr:Qar ((suf s (a+n+1)).take (Qac (suf s (a+n+1))))=false) (hn:a+n+1<s.size) (hp:0<Qac (suf s (a+n+1)))
  (hu:Qb1 ((s.extract (a+n+1) (a+n+1+Qac (suf s (a+n+1))))[0]'(Qfd s _ _ hn hp)).toNat=true):Qdd (suf s a) n=⟨4,n+1+Qac (suf s (a+n+1)),0⟩ :=
 q_up s a n h hr (by rwa [Qqt _ _ _ (Qfd s _ _ hn hp)] at hu)
theorem Zh7 (h:¬ (24<n∨24<Qac (suf s (a+n+1)))) (hr:Qar ((suf s (a+n+1)).take (Qac (suf s (a+n+1))))=false) (hn:a+n+1<s.size) (hp:0<Qac (suf s (a+n+1)))
  (hu:Qb1 ((s.extract (a+n+1) (a+n+1+Qac (suf s (a+n+1))))[0]'(Qfd s _ _ hn hp)).toNat=false):Qdd (suf s a) n=⟨3,n+1+Qac (suf s (a+n+1)),0⟩ :=
 q_low s a n h hr (by rwa [Qqt _ _ _ (Qfd s _ _ hn hp)] at hu)
end
theorem Zdn (s:ByteArray) (a:Nat) (w:World) (h0:a<s.size) (hl:Qav s[a].toNat=true) (hs:s.size<maxLen) (hu:Qb1 s[a].toNat=true) (hr:Qar ((suf s a).take (Qac (suf s a)))=false) (hn:a+Qac (suf s a)+1<s.size) (h46:s[a+Qac (suf s a)].toNat=46) (hz:Qav s[a+Qac (suf s a)+1].toNat=true) (h24:24<Qac (suf s a)) :
  Calls Tryz.prog 165 #[.string s,.int .i64 a] w (Qdr s a w):=by
 have HS:=hQ (Nat.le_of_lt hs);have hm:=Qb8 s a;have HL:=hQ hl;have H0:=hQ (Qb6 s a h0);have HD:=hQ (Qex s a h0);clear hl;unfold maxLen at hs;have hn':(a:Int)+(Qac (suf s a):Nat)+1<(s.size:Int):=by omega
 have g46:((s[a+Qac (suf s a)].toNat:Int)==46)=true:=Qc6 h46;have hp:=Qfp hn hz;have hm2:=Qb8 s (a+Qac (suf s a)+1);have HZ:=hQ hz
 have HT:=hQ (show Qd2 (suf s a)=Qdd (suf s a) (Qac (suf s a)) from by
  unfold Qd2;rw [xO (by rw [HD.out,hu,hr,Qi9 s a _ (by omega),h46,Qlg,Qb6 s (a+Qac (suf s a)+1) hn,hz];simpa using hn)])
 clear h46 hz;have HQ:=hQ (HT.out.trans (Ze5 s a _ (.inl h24)))
 go_enter Tryz.func165,Tryz.ntmps165
 go_wp2_with (first | (go_at_call 172;((with_reducible refine (Qd1 _ _ _ h0 HL.out HS.out).mono ?_);rintro e w' ⟨rfl,rfl⟩)) | (go_at_call 173;refine (Qcc _ _ _ _).mono ?_;rintro e w' ⟨rfl,rfl⟩) | (go_at_call 164;refine (Qax _ _).mono ?_;rintro e w' ⟨rfl,rfl⟩) | (go_at_call 172;((with_reducible refine (Qil _ _ _ _ hn HZ.out HS.out).mono ?_);rintro e w' ⟨rfl,rfl⟩)))
 all_goals
  exact bodyPost_ret (v:=.agg #[.int .i64 0,.int .i64 0,.int .i64 3,.int .i64 a]) (by simp [results,Tryz.results165,go_sem]) rfl ⟨Qeq 0 2 HQ.out rfl (by omega),(xC _ _).alloc (xA _) _⟩
theorem Zdo (s:ByteArray) (a:Nat) (w:World) (h0:a<s.size) (hl:Qav s[a].toNat=true) (hs:s.size<maxLen) (hu:Qb1 s[a].toNat=true) (hr:Qar ((suf s a).take (Qac (suf s a)))=false) (hn:a+Qac (suf s a)+1<s.size) (h46:s[a+Qac (suf s a)].toNat=46) (hz:Qav s[a+Qac (suf s a)+1].toNat=true) (h24:24<Qac (suf s (a+Qac (suf s a)+1))) :
  Calls Tryz.prog 165 #[.string s,.int .i64 a] w (Qdr s a w):=by
 have HS:=hQ (Nat.le_of_lt hs);have hm:=Qb8 s a;have HL:=hQ hl;have H0:=hQ (Qb6 s a h0);have HD:=hQ (Qex s a h0);clear hl;unfold maxLen at hs;have hn':(a:Int)+(Qac (suf s a):Nat)+1<(s.size:Int):=by omega
 have g46:((s[a+Qac (suf s a)].toNat:Int)==46)=true:=Qc6 h46;have hp:=Qfp hn hz;have hm2:=Qb8 s (a+Qac (suf s a)+1);have HZ:=hQ hz
 have HT:=hQ (show Qd2 (suf s a)=Qdd (suf s a) (Qac (suf s a)) from by
  unfold Qd2;rw [xO (by rw [HD.out,hu,hr,Qi9 s a _ (by omega),h46,Qlg,Qb6 s (a+Qac (suf s a)+1) hn,hz];simpa using hn)])
 clear h46 hz;have HQ:=hQ (HT.out.trans (Ze5 s a _ (.inr h24)))
 go_enter Tryz.func165,Tryz.ntmps165
 go_wp2_with (first | (go_at_call 172;((with_reducible refine (Qd1 _ _ _ h0 HL.out HS.out).mono ?_);rintro e w' ⟨rfl,rfl⟩)) | (go_at_call 173;refine (Qcc _ _ _ _).mono ?_;rintro e w' ⟨rfl,rfl⟩) | (go_at_call 164;refine (Qax _ _).mono ?_;rintro e w' ⟨rfl,rfl⟩) | (go_at_call 172;((with_reducible refine (Qil _ _ _ _ hn HZ.out HS.out).mono ?_);rintro e w' ⟨rfl,rfl⟩)))
 all_goals
  exact bodyPost_ret (v:=.agg #[.int .i64 0,.int .i64 0,.int .i64 3,.int .i64 a]) (by simp [results,Tryz.results165,go_sem]) rfl ⟨Qeq 0 2 HQ.out rfl (by omega),(xC _ _).alloc (xA _) _⟩
theorem Zdp (s:ByteArray) (a:Nat) (w:World) (h0:a<s.size) (hl:Qav s[a].toNat=true) (hs:s.size<maxLen) (hu:Qb1 s[a].toNat=true) (hr:Qar ((suf s a).take (Qac (suf s a)))=false) (hn:a+Qac (suf s a)+1<s.size) (h46:s[a+Qac (suf s a)].toNat=46) (hz:Qav s[a+Qac (suf s a)+1].toNat=true) (h24:¬ (24<Qac (suf s a)∨24<Qac (suf s (a+Qac (suf s a)+1)))) (hr2:Qar ((suf s (a+Qac (suf s a)+1)).take (Qac (suf s (a+Qac (suf s a)+1))))=true) :
  Calls Tryz.prog 165 #[.string s,.int .i64 a] w (Qdr s a w):=by
 have HS:=hQ (Nat.le_of_lt hs);have hm:=Qb8 s a;have HL:=hQ hl;have H0:=hQ (Qb6 s a h0);have HD:=hQ (Qex s a h0);clear hl;unfold maxLen at hs;have hn':(a:Int)+(Qac (suf s a):Nat)+1<(s.size:Int):=by omega
 have g46:((s[a+Qac (suf s a)].toNat:Int)==46)=true:=Qc6 h46;have hp:=Qfp hn hz;have hm2:=Qb8 s (a+Qac (suf s a)+1);have HZ:=hQ hz
 have HT:=hQ (show Qd2 (suf s a)=Qdd (suf s a) (Qac (suf s a)) from by
  unfold Qd2;rw [xO (by rw [HD.out,hu,hr,Qi9 s a _ (by omega),h46,Qlg,Qb6 s (a+Qac (suf s a)+1) hn,hz];simpa using hn)])
 clear h46 hz;have h24a:Qac (suf s a)≤24:=by omega
 have h24b:Qac (suf s (a+Qac (suf s a)+1))≤24:=by omega
 have H24:=hQ h24;clear h24;have HQ:=hQ (HT.out.trans (q_res s a _ H24.out hr2))
 go_enter Tryz.func165,Tryz.ntmps165
 go_wp2_with (first | (go_at_call 172;((with_reducible refine (Qd1 _ _ _ h0 HL.out HS.out).mono ?_);rintro e w' ⟨rfl,rfl⟩)) | (go_at_call 173;refine (Qcc _ _ _ _).mono ?_;rintro e w' ⟨rfl,rfl⟩) | (go_at_call 164;refine (Qax _ _).mono ?_;rintro e w' ⟨rfl,rfl⟩) | (go_at_call 172;((with_reducible refine (Qil _ _ _ _ hn HZ.out HS.out).mono ?_);rintro e w' ⟨rfl,rfl⟩)))
 all_goals
  exact bodyPost_ret (v:=.agg #[.int .i64 0,.int .i64 0,.int .i64 2,.int .i64 a]) (by simp [results,Tryz.results165,go_sem]) rfl ⟨Qeq 0 1 HQ.out rfl (by omega),(xC _ _).alloc (xA _) _⟩
theorem Zdq (s:ByteArray) (a:Nat) (w:World) (h0:a<s.size) (hl:Qav s[a].toNat=true) (hs:s.size<maxLen) (hu:Qb1 s[a].toNat=true) (hr:Qar ((suf s a).take (Qac (suf s a)))=false) (hn:a+Qac (suf s a)+1<s.size) (h46:s[a+Qac (suf s a)].toNat=46) (hz:Qav s[a+Qac (suf s a)+1].toNat=true) (h24:¬ (24<Qac (suf s a)∨24<Qac (suf s (a+Qac (suf s a)+1)))) (hr2:Qar ((suf s (a+Qac (suf s a)+1)).take (Qac (suf s (a+Qac (suf s a)+1))))=false) (hp0:0<Qac (suf s (a+Qac (suf s a)+1))) (hup:Qb1 ((s.extract (a+Qac (suf s a)+1) (a+Qac (suf s a)+1+Qac (suf s (a+Qac (suf s a)+1))))[0]'(Qfd s _ _ hn hp0)).toNat=true) :
  Calls Tryz.prog 165 #[.string s,.int .i64 a] w (Qdr s a w):=by
 have HS:=hQ (Nat.le_of_lt hs);have hm:=Qb8 s a;have HL:=hQ hl;have H0:=hQ (Qb6 s a h0);have HD:=hQ (Qex s a h0);clear hl;unfold maxLen at hs;have hn':(a:Int)+(Qac (suf s a):Nat)+1<(s.size:Int):=by omega
 have g46:((s[a+Qac (suf s a)].toNat:Int)==46)=true:=Qc6 h46;have hp:=Qfp hn hz;have hm2:=Qb8 s (a+Qac (suf s a)+1);have HZ:=hQ hz
 have HT:=hQ (show Qd2 (suf s a)=Qdd (suf s a) (Qac (suf s a)) from by
  unfold Qd2;rw [xO (by rw [HD.out,hu,hr,Qi9 s a _ (by omega),h46,Qlg,Qb6 s (a+Qac (suf s a)+1) hn,hz];simpa using hn)])
 clear h46 hz;have h24a:Qac (suf s a)≤24:=by omega
 have h24b:Qac (suf s (a+Qac (suf s a)+1))≤24:=by omega
 have H24:=hQ h24;clear h24
 go_enter Tryz.func165,Tryz.ntmps165
 go_wp2_with (first | (go_at_call 172;((with_reducible refine (Qd1 _ _ _ h0 HL.out HS.out).mono ?_);rintro e w' ⟨rfl,rfl⟩)) | (go_at_call 173;refine (Qcc _ _ _ _).mono ?_;rintro e w' ⟨rfl,rfl⟩) | (go_at_call 164;refine (Qax _ _).mono ?_;rintro e w' ⟨rfl,rfl⟩) | (go_at_call 172;((with_reducible refine (Qil _ _ _ _ hn HZ.out HS.out).mono ?_);rintro e w' ⟨rfl,rfl⟩)))
 all_goals
  exact bodyPost_ret (v:=.agg #[.int .i64 (((Qac (suf s a):Nat):Int)+1+(Qac (suf s (a+Qac (suf s a)+1)):Nat)),.int .i64 4,.int .i64 0,.int .i64 0]) (by simp [results,Tryz.results165,go_sem]) rfl ⟨Qew 4 _ (HT.out.trans (q_up2 s a _ H24.out hr2 hn hp hup)) (by omega) rfl,(xC _ _).alloc (xA _) _⟩
theorem Zdr (s:ByteArray) (a:Nat) (w:World) (h0:a<s.size) (hl:Qav s[a].toNat=true) (hs:s.size<maxLen) (hu:Qb1 s[a].toNat=true) (hr:Qar ((suf s a).take (Qac (suf s a)))=false) (hn:a+Qac (suf s a)+1<s.size) (h46:s[a+Qac (suf s a)].toNat=46) (hz:Qav s[a+Qac (suf s a)+1].toNat=true) (h24:¬ (24<Qac (suf s a)∨24<Qac (suf s (a+Qac (suf s a)+1)))) (hr2:Qar ((suf s (a+Qac (suf s a)+1)).take (Qac (suf s (a+Qac (suf s a)+1))))=false) (hp0:0<Qac (suf s (a+Qac (suf s a)+1))) (hup:Qb1 ((s.extract (a+Qac (suf s a)+1) (a+Qac (suf s a)+1+Qac (suf s (a+Qac (suf s a)+1))))[0]'(Qfd s _ _ hn hp0)).toNat=false) :
  Calls Tryz.prog 165 #[.string s,.int .i64 a] w (Qdr s a w):=by
 have HS:=hQ (Nat.le_of_lt hs);have hm:=Qb8 s a;have HL:=hQ hl;have H0:=hQ (Qb6 s a h0);have HD:=hQ (Qex s a h0);clear hl;unfold maxLen at hs;have hn':(a:Int)+(Qac (suf s a):Nat)+1<(s.size:Int):=by omega
 have g46:((s[a+Qac (suf s a)].toNat:Int)==46)=true:=Qc6 h46;have hp:=Qfp hn hz;have hm2:=Qb8 s (a+Qac (suf s a)+1);have HZ:=hQ hz
 have HT:=hQ (show Qd2 (suf s a)=Qdd (suf s a) (Qac (suf s a)) from by
  unfold Qd2;rw [xO (by rw [HD.out,hu,hr,Qi9 s a _ (by omega),h46,Qlg,Qb6 s (a+Qac (suf s a)+1) hn,hz];simpa using hn)])
 clear h46 hz;have h24a:Qac (suf s a)≤24:=by omega
 have h24b:Qac (suf s (a+Qac (suf s a)+1))≤24:=by omega
 have H24:=hQ h24;clear h24
 go_enter Tryz.func165,Tryz.ntmps165
 go_wp2_with (first | (go_at_call 172;((with_reducible refine (Qd1 _ _ _ h0 HL.out HS.out).mono ?_);rintro e w' ⟨rfl,rfl⟩)) | (go_at_call 173;refine (Qcc _ _ _ _).mono ?_;rintro e w' ⟨rfl,rfl⟩) | (go_at_call 164;refine (Qax _ _).mono ?_;rintro e w' ⟨rfl,rfl⟩) | (go_at_call 172;((with_reducible refine (Qil _ _ _ _ hn HZ.out HS.out).mono ?_);rintro e w' ⟨rfl,rfl⟩)))
 all_goals
  exact bodyPost_ret (v:=.agg #[.int .i64 (((Qac (suf s a):Nat):Int)+1+(Qac (suf s (a+Qac (suf s a)+1)):Nat)),.int .i64 3,.int .i64 0,.int .i64 0]) (by simp [results,Tryz.results165,go_sem]) rfl ⟨Qew 3 _ (HT.out.trans (Zh7 s a _ H24.out hr2 hn hp hup)) (by omega) rfl,(xC _ _).alloc (xA _) _⟩
theorem hsec (s:ByteArray) (b m:Nat) (hn:b<s.size) (hp0:0<m):Qb1 ((s.extract b (b+m))[0]'(Qfd s b m hn hp0)).toNat=true∨Qb1 ((s.extract b (b+m))[0]'(Qfd s b m hn hp0)).toNat=false:=by
 cases Qb1 ((s.extract b (b+m))[0]'(Qfd s b m hn hp0)).toNat
 ·exact .inr rfl
 ·exact .inl rfl
theorem Qzx (s:ByteArray) (a:Nat) (w:World) (h0:a<s.size) (hl:Qav s[a].toNat=true) (hs:s.size<maxLen) :
  Calls Tryz.prog 165 #[.string s,.int .i64 a] w (Qdr s a w):=by
 cases hu:Qb1 s[a].toNat
 ·exact Qzr s a w h0 hl hs hu
 ·cases hr:Qar ((suf s a).take (Qac (suf s a)))
  ·by_cases hn:a+Qac (suf s a)+1<s.size
   ·by_cases h46:s[a+Qac (suf s a)].toNat=46
    ·cases hz:Qav s[a+Qac (suf s a)+1].toNat
     ·exact Qzt s a w h0 hl hs hu hr hn h46 hz
     ·by_cases h1:24<Qac (suf s a)
      ·exact Zdn s a w h0 hl hs hu hr hn h46 hz h1
      ·by_cases h2:24<Qac (suf s (a+Qac (suf s a)+1))
       ·exact Zdo s a w h0 hl hs hu hr hn h46 hz h2
       ·have hp0:0<Qac (suf s (a+Qac (suf s a)+1)):=Qfp hn hz;have h24:¬ (24<Qac (suf s a)∨24<Qac (suf s (a+Qac (suf s a)+1))):=by omega
        cases hr2:Qar ((suf s (a+Qac (suf s a)+1)).take (Qac (suf s (a+Qac (suf s a)+1))))
        ·rcases hsec s (a+Qac (suf s a)+1) _ hn hp0 with hup | hup
         ·exact Zdq s a w h0 hl hs hu hr hn h46 hz h24 hr2 hp0 hup
         ·exact Zdr s a w h0 hl hs hu hr hn h46 hz h24 hr2 hp0 hup
        ·exact Zdp s a w h0 hl hs hu hr hn h46 hz h24 hr2
    ·exact Qs1 s a w h0 hl hs hu hr hn h46
   ·exact Qs0 s a w h0 hl hs hu hr hn
  ·exact Qzs s a w h0 hl hs hu hr
end Go.Proofs.YtfjpemdejoejbaaGreat
