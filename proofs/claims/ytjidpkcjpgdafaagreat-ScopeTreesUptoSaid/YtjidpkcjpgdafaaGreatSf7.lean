/- Part 7 -/
import Derived.Test.YtjidpkcjpgdafaaGreatSf5
set_option maxRecDepth 100000
set_option maxHeartbeats 4000000
namespace Go.Proofs.YtjidpkcjpgdafaaGreat
open Go.RowKit
section
variable {s:ByteArray} {a:Nat}
theorem Qzw (h0:a<s.size) (h:s[a].toNat=61) (h1:a+1<s.size) (h2:s[a+1].toNat=61):Qa2 (suf s a)=2:=by
 unfold Qa2
 rw [Qbf s a h0,xO h,Qg8 s a 1 h1,xO h2]
theorem Qzx (h0:a<s.size) (h:s[a].toNat=61) (h1:∀ h:a+1<s.size,s[a+1].toNat≠61):Qa2 (suf s a)=1:=by
 unfold Qa2
 rw [Qbf s a h0,xO h]
 by_cases h2:a+1<s.size
 ·rw [Qg8 s a 1 h2,xN (h1 h2)]
 ·unfold at'
  rw [List.getD_eq_getElem?_getD,List.getElem?_eq_none (by rw [Qbm];omega)]
  decide
theorem Qzy (h0:a<s.size) (h:s[a].toNat≠61) (h1:Qdv s[a].toNat=true):Qa2 (suf s a)=1:=by
 unfold Qa2
 rw [Qbf s a h0,xN h,xO h1]
theorem Qyq (h0:a<s.size) (h:s[a].toNat≠61) (h1:Qdv s[a].toNat=false):Qa2 (suf s a)=0:=by
 unfold Qa2
 rw [Qbf s a h0,xN h,xN (by simp [h1])]
end
theorem Qgt (s:ByteArray) (a:Nat) (w:World) (h0:a<s.size) (hs:s.size≤maxLen) :
  Calls Tryz.prog 252 #[.string s,.int .i64 a] w fun e w'=>e = .returned (.int .i64 (Qa2 (suf s a)))∧w=w':=by
 unfold maxLen at hs
 by_cases h61:s[a].toNat=61
 ·have g61:((s[a].toNat:Int)==61)=true:=Qb8 h61
  have H61:=hQ h61
  clear h61
  by_cases h1:a+1<s.size
  ·by_cases h2:s[a+1].toNat=61
   ·have g2:((s[a+1].toNat:Int)==61)=true:=Qb8 h2
    have H2:=hQ h2
    clear h2
    go_enter Tryz.func252,Tryz.ntmps252
    go_wp2
    go_ret
    exact ⟨Qbi (by rw [Qzw h0 H61.out h1 H2.out];rfl),rfl⟩
   ·have g2:((s[a+1].toNat:Int)==61)=false:=Qcp h2
    have H2:=hQ h2
    clear h2
    go_enter Tryz.func252,Tryz.ntmps252
    go_wp2
    go_ret
    exact ⟨Qbi (by rw [Qzx h0 H61.out (fun _=>H2.out)];rfl),rfl⟩
  ·go_enter Tryz.func252,Tryz.ntmps252
   go_wp2
   go_ret
   exact ⟨Qbi (by rw [Qzx h0 H61.out (fun h=>absurd h h1)];rfl),rfl⟩
 ·have g61:((s[a].toNat:Int)==61)=false:=Qcp h61
  have H61:=hQ h61
  clear h61
  cases ho:Qdv s[a].toNat
  ·have H1:=hQ ho
   simp only [Qdv,Bool.or_eq_false_iff,and_assoc] at ho
   obtain ⟨a1,a2,a3,a4,a5,a6,a7,a8,a9,a10,a11⟩:=ho
   go_enter Tryz.func252,Tryz.ntmps252
   go_wp2
   go_ret
   exact ⟨Qbi (by rw [Qyq h0 H61.out H1.out];rfl),rfl⟩
  ·have H1:=hQ ho
   clear ho
   go_enter Tryz.func252,Tryz.ntmps252
   go_wp2
   all_goals
    first
     | (go_ret;exact ⟨Qbi (by rw [Qzy h0 H61.out H1.out];rfl),rfl⟩)
     | (exfalso;have:=H1.out;simp_all [Qdv])
def Qvh (t:Tk):Int:=if t.e=0 then t.n else 0
def iAt (t:Tk) (a:Nat):Int:=if t.e=0 then 0 else a+t.n
theorem Qqo {t:Tk} {a:Nat} {x y z u:Int} (hx:x=Qvh t) (hy:y=t.kind) (hz:z=t.e) (hu:u=iAt t a) :
  Ending.returned (.agg #[.int .i64 x,.int .i64 y,.int .i64 z,.int .i64 u]) = .returned (.agg #[.int .i64 (Qvh t),.int .i64 t.kind,.int .i64 t.e,.int .i64 (iAt t a)]):=by rw [hx,hy,hz,hu]
theorem Qdq {t:Tk} {a:Nat} {x y:Int} (k n:Nat) (h:t=⟨k,n,0⟩) (hx:x=n) (hy:y=k) :
  Ending.returned (.agg #[.int .i64 x,.int .i64 y,.int .i64 0,.int .i64 0]) = .returned (.agg #[.int .i64 (Qvh t),.int .i64 t.kind,.int .i64 t.e,.int .i64 (iAt t a)]):=by
 subst h hx hy
 rfl
theorem Qdl {t:Tk} {a:Nat} {z u:Int} (n e:Nat) (h:t=⟨0,n,e+1⟩) (hz:z=(e+1:Nat)) (hu:u=a+n) :
  Ending.returned (.agg #[.int .i64 0,.int .i64 0,.int .i64 z,.int .i64 u]) = .returned (.agg #[.int .i64 (Qvh t),.int .i64 t.kind,.int .i64 t.e,.int .i64 (iAt t a)]):=by
 subst h hz hu
 rfl
theorem Qbk (s:ByteArray) (a b:Nat) (w:World) :
  Calls Tryz.prog 255 #[.string (s.extract a b)] w fun e w'=>e = .returned (.bool (Qah ((suf s a).take (b-a))))∧w=w':=by
 rw [←Qc3]
 exact Qmc _ w
theorem Qcw (s:ByteArray) (a:Nat) (w:World) (h0:a<s.size) (hl:Qai s[a].toNat=true) (hs:s.size≤maxLen) :
  Calls Tryz.prog 254 #[.string s,.int .i64 a] w fun e w'=>e = .returned (.int .i64 (Qac (suf s a)))∧w=w':=by
 rw [←Qhx h0 hl]
 exact Qj7 s a w (by omega) hs
theorem Qwe (s:ByteArray) (a n:Nat) (w:World) (hb:a+n+1<s.size) (hl:Qai s[a+n+1].toNat=false) (hs:s.size≤maxLen) :
  Calls Tryz.prog 254 #[.string s,.int .i64 ((a:Int)+(n:Int)+1)] w fun e w'=>e = .returned (.int .i64 0)∧w=w':=by
 have h:=Qj7 s (a+n+1) w (by omega) hs
 rw [Qp4 hb hl] at h
 rwa [show ((a+n+1:Nat):Int)=(a:Int)+(n:Int)+1 from by omega] at h
theorem Qgu (s:ByteArray) (a n:Nat) (w:World) (hb:a+n+1<s.size) (hl:Qai s[a+n+1].toNat=true) (hs:s.size≤maxLen) :
  Calls Tryz.prog 254 #[.string s,.int .i64 ((a:Int)+(n:Int)+1)] w fun e w'=>e = .returned (.int .i64 (Qac (suf s (a+n+1))))∧w=w':=by
 have h:=Qj7 s (a+n+1) w (by omega) hs
 rw [Qhx hb hl] at h
 rwa [show ((a+n+1:Nat):Int)=(a:Int)+(n:Int)+1 from by omega] at h
theorem Qph {c:Int} (h:Qai c=true):Qgf c=true:=by unfold Qgf;rw [h];rfl
theorem Qei {s:ByteArray} {a:Nat} (h:a<s.size) (hl:Qai s[a].toNat=true):0<Qac (suf s a):=by
 unfold Qac
 rw [Qds s a h]
 simp [Qc4,Qph hl]
theorem Qnv (s:ByteArray) (a m:Nat) (h:0<(s.extract a (a+m)).size):(s.extract a (a+m))[0].toNat=at' (suf s a) 0:=by
 have hm:0<m:=by rw [ByteArray.size_extract] at h;omega
 rw [←Qdj _ 0 h,Qc3]
 unfold at'
 rw [List.getD_eq_getElem?_getD,List.getD_eq_getElem?_getD,List.getElem?_take,xO (by omega)]
section
variable (s:ByteArray) (a n:Nat)
theorem Qje:at' (suf s a) (n+1)=at' (suf s (a+n+1)) 0:=by
 rw [Qol s a,Qol s (a+n+1)]
 rfl
theorem Qxl (h:24<n∨24<Qac (suf s (a+n+1))):Qcd (suf s a) n=⟨0,0,3⟩:=by
 unfold Qcd
 rw [Qd4,←Nat.add_assoc,xO h]
theorem q_res (h:¬ (24<n∨24<Qac (suf s (a+n+1)))) (hr:Qah ((suf s (a+n+1)).take (Qac (suf s (a+n+1))))=true):Qcd (suf s a) n=⟨0,0,2⟩:=by
 unfold Qcd
 rw [Qd4,←Nat.add_assoc,xN h,xO hr]
theorem q_up (h:¬ (24<n∨24<Qac (suf s (a+n+1)))) (hr:Qah ((suf s (a+n+1)).take (Qac (suf s (a+n+1))))=false) (hu:Qbc (at' (suf s (a+n+1)) 0)=true) :
  Qcd (suf s a) n=⟨4,n+1+Qac (suf s (a+n+1)),0⟩:=by
 unfold Qcd
 rw [Qd4,←Nat.add_assoc,xN h,xN (by simp [hr]),xO (by rw [Qje];exact hu)]
theorem q_low (h:¬ (24<n∨24<Qac (suf s (a+n+1)))) (hr:Qah ((suf s (a+n+1)).take (Qac (suf s (a+n+1))))=false) (hu:Qbc (at' (suf s (a+n+1)) 0)=false) :
  Qcd (suf s a) n=⟨3,n+1+Qac (suf s (a+n+1)),0⟩:=by
 unfold Qcd
 rw [Qd4,←Nat.add_assoc,xN h,xN (by simp [hr]),xN (by rw [Qje];simp [hu])]
end
def Qcm (s:ByteArray) (a:Nat) (w:World) (e:Ending) (w':World):Prop :=
 e = .returned (.agg #[.int .i64 (Qvh (Qcx (suf s a))),.int .i64 (Qcx (suf s a)).kind,.int .i64 (Qcx (suf s a)).e,.int .i64 (iAt (Qcx (suf s a)) a)])∧Below w.heap.size w w'
theorem Qdr (s:ByteArray) (a:Nat) (h0:a<s.size):Qci (suf s a)=(Qbc s[a].toNat && !Qah ((suf s a).take (Qac (suf s a))) && decide (a+Qac (suf s a)+1<s.size) && at' (suf s a) (Qac (suf s a))==46 && Qai (at' (suf s a) (Qac (suf s a)+1))):=by
 unfold Qci
 rw [Qbf s a h0,Qbm]
 congr 3
 exact decide_eq_decide.2 (by omega)
theorem Quc (s:ByteArray) (a:Nat) (w:World) (h0:a<s.size) (hl:Qai s[a].toNat=true) (hs:s.size<maxLen) (hu:Qbc s[a].toNat=false) :
  Calls Tryz.prog 251 #[.string s,.int .i64 a] w (Qcm s a w):=by
 have HS:=hQ (Nat.le_of_lt hs)
 have hm:=Qbh s a
 have HL:=hQ hl
 have H0:=hQ (Qbf s a h0)
 have HD:=hQ (Qdr s a h0)
 clear hl
 unfold maxLen at hs
 cases hr:Qah ((suf s a).take (Qac (suf s a)))
 all_goals
  have HP:=hQ (Qcf (show Qci (suf s a)=false from by rw [HD.out,hu];rfl))
  by_cases h24:24<Qac (suf s a)
  all_goals
   go_enter Tryz.func251,Tryz.ntmps251
   go_wp2_with (first | (go_at_call 254;((with_reducible refine (Qcw _ _ _ h0 HL.out HS.out).mono ?_);rintro e w' ⟨rfl,rfl⟩)) | (go_at_call 255;refine (Qbk _ _ _ _).mono ?_;rintro e w' ⟨rfl,rfl⟩) | (go_at_call 250;refine (Qaj _ _).mono ?_;rintro e w' ⟨rfl,rfl⟩))
   first
    | exact bodyPost_ret (v:=.agg #[.int .i64 0,.int .i64 0,.int .i64 3,.int .i64 a]) (by simp [results,Tryz.results251,go_sem]) rfl ⟨Qdl 0 2 (HP.out.trans (Qcv h24)) rfl (by omega),(xC _ _).alloc (xA _) _⟩
    | exact bodyPost_ret (v:=.agg #[.int .i64 (Qac (suf s a):Nat),.int .i64 7,.int .i64 0,.int .i64 0]) (by simp [results,Tryz.results251,go_sem]) rfl ⟨Qdq 7 _ (HP.out.trans (Qdm h24 hr)) rfl rfl,(xC _ _).alloc (xA _) _⟩
    | exact bodyPost_ret (v:=.agg #[.int .i64 (Qac (suf s a):Nat),.int .i64 2,.int .i64 0,.int .i64 0]) (by simp [results,Tryz.results251,go_sem]) rfl ⟨Qdq 2 _ (HP.out.trans (Qek h24 hr (by rw [H0.out];exact hu))) rfl rfl,(xC _ _).alloc (xA _) _⟩
    | exact bodyPost_ret (v:=.agg #[.int .i64 (Qac (suf s a):Nat),.int .i64 1,.int .i64 0,.int .i64 0]) (by simp [results,Tryz.results251,go_sem]) rfl ⟨Qdq 1 _ (HP.out.trans (Qdn h24 hr (by rw [H0.out];exact hu))) rfl rfl,(xC _ _).alloc (xA _) _⟩
theorem Qud (s:ByteArray) (a:Nat) (w:World) (h0:a<s.size) (hl:Qai s[a].toNat=true) (hs:s.size<maxLen) (hu:Qbc s[a].toNat=true) (hr:Qah ((suf s a).take (Qac (suf s a)))=true) :
  Calls Tryz.prog 251 #[.string s,.int .i64 a] w (Qcm s a w):=by
 have HS:=hQ (Nat.le_of_lt hs)
 have hm:=Qbh s a
 have HL:=hQ hl
 have H0:=hQ (Qbf s a h0)
 have HD:=hQ (Qdr s a h0)
 clear hl
 unfold maxLen at hs
 have HP:=hQ (Qcf (show Qci (suf s a)=false from by rw [HD.out,hr];simp))
 by_cases h24:24<Qac (suf s a)
 all_goals
  go_enter Tryz.func251,Tryz.ntmps251
  go_wp2_with (first | (go_at_call 254;((with_reducible refine (Qcw _ _ _ h0 HL.out HS.out).mono ?_);rintro e w' ⟨rfl,rfl⟩)) | (go_at_call 255;refine (Qbk _ _ _ _).mono ?_;rintro e w' ⟨rfl,rfl⟩) | (go_at_call 250;refine (Qaj _ _).mono ?_;rintro e w' ⟨rfl,rfl⟩))
  first
   | exact bodyPost_ret (v:=.agg #[.int .i64 0,.int .i64 0,.int .i64 3,.int .i64 a]) (by simp [results,Tryz.results251,go_sem]) rfl ⟨Qdl 0 2 (HP.out.trans (Qcv h24)) rfl (by omega),(xC _ _).alloc (xA _) _⟩
   | exact bodyPost_ret (v:=.agg #[.int .i64 (Qac (suf s a):Nat),.int .i64 7,.int .i64 0,.int .i64 0]) (by simp [results,Tryz.results251,go_sem]) rfl ⟨Qdq 7 _ (HP.out.trans (Qdm h24 hr)) rfl rfl,(xC _ _).alloc (xA _) _⟩
   | exact bodyPost_ret (v:=.agg #[.int .i64 (Qac (suf s a):Nat),.int .i64 2,.int .i64 0,.int .i64 0]) (by simp [results,Tryz.results251,go_sem]) rfl ⟨Qdq 2 _ (HP.out.trans (Qek h24 hr (by rw [H0.out];exact hu))) rfl rfl,(xC _ _).alloc (xA _) _⟩
   | exact bodyPost_ret (v:=.agg #[.int .i64 (Qac (suf s a):Nat),.int .i64 1,.int .i64 0,.int .i64 0]) (by simp [results,Tryz.results251,go_sem]) rfl ⟨Qdq 1 _ (HP.out.trans (Qdn h24 hr (by rw [H0.out];exact hu))) rfl rfl,(xC _ _).alloc (xA _) _⟩
theorem Qpi (s:ByteArray) (a:Nat) (w:World) (h0:a<s.size) (hl:Qai s[a].toNat=true) (hs:s.size<maxLen) (hu:Qbc s[a].toNat=true) (hr:Qah ((suf s a).take (Qac (suf s a)))=false) (hn:¬ a+Qac (suf s a)+1<s.size) :
  Calls Tryz.prog 251 #[.string s,.int .i64 a] w (Qcm s a w):=by
 have HS:=hQ (Nat.le_of_lt hs)
 have hm:=Qbh s a
 have HL:=hQ hl
 have H0:=hQ (Qbf s a h0)
 have HD:=hQ (Qdr s a h0)
 clear hl
 unfold maxLen at hs
 have hn':¬ (a:Int)+(Qac (suf s a):Nat)+1<(s.size:Int):=by omega
 have HP:=hQ (Qcf (show Qci (suf s a)=false from by rw [HD.out,xR hn];simp))
 by_cases h24:24<Qac (suf s a)
 all_goals
  go_enter Tryz.func251,Tryz.ntmps251
  go_wp2_with (first | (go_at_call 254;((with_reducible refine (Qcw _ _ _ h0 HL.out HS.out).mono ?_);rintro e w' ⟨rfl,rfl⟩)) | (go_at_call 255;refine (Qbk _ _ _ _).mono ?_;rintro e w' ⟨rfl,rfl⟩) | (go_at_call 250;refine (Qaj _ _).mono ?_;rintro e w' ⟨rfl,rfl⟩))
  first
   | exact bodyPost_ret (v:=.agg #[.int .i64 0,.int .i64 0,.int .i64 3,.int .i64 a]) (by simp [results,Tryz.results251,go_sem]) rfl ⟨Qdl 0 2 (HP.out.trans (Qcv h24)) rfl (by omega),(xC _ _).alloc (xA _) _⟩
   | exact bodyPost_ret (v:=.agg #[.int .i64 (Qac (suf s a):Nat),.int .i64 7,.int .i64 0,.int .i64 0]) (by simp [results,Tryz.results251,go_sem]) rfl ⟨Qdq 7 _ (HP.out.trans (Qdm h24 hr)) rfl rfl,(xC _ _).alloc (xA _) _⟩
   | exact bodyPost_ret (v:=.agg #[.int .i64 (Qac (suf s a):Nat),.int .i64 2,.int .i64 0,.int .i64 0]) (by simp [results,Tryz.results251,go_sem]) rfl ⟨Qdq 2 _ (HP.out.trans (Qek h24 hr (by rw [H0.out];exact hu))) rfl rfl,(xC _ _).alloc (xA _) _⟩
   | exact bodyPost_ret (v:=.agg #[.int .i64 (Qac (suf s a):Nat),.int .i64 1,.int .i64 0,.int .i64 0]) (by simp [results,Tryz.results251,go_sem]) rfl ⟨Qdq 1 _ (HP.out.trans (Qdn h24 hr (by rw [H0.out];exact hu))) rfl rfl,(xC _ _).alloc (xA _) _⟩
theorem Qpj (s:ByteArray) (a:Nat) (w:World) (h0:a<s.size) (hl:Qai s[a].toNat=true) (hs:s.size<maxLen) (hu:Qbc s[a].toNat=true) (hr:Qah ((suf s a).take (Qac (suf s a)))=false) (hn:a+Qac (suf s a)+1<s.size) (h46:s[a+Qac (suf s a)].toNat≠46) :
  Calls Tryz.prog 251 #[.string s,.int .i64 a] w (Qcm s a w):=by
 have HS:=hQ (Nat.le_of_lt hs)
 have hm:=Qbh s a
 have HL:=hQ hl
 have H0:=hQ (Qbf s a h0)
 have HD:=hQ (Qdr s a h0)
 clear hl
 unfold maxLen at hs
 have hn':(a:Int)+(Qac (suf s a):Nat)+1<(s.size:Int):=by omega
 have g46:((s[a+Qac (suf s a)].toNat:Int)==46)=false:=Qcp h46
 have H46:=hQ h46
 clear h46
 have HP:=hQ (Qcf (show Qci (suf s a)=false from by rw [HD.out,Qg8 s a (Qac (suf s a)) (by omega),beq_eq_false_iff_ne.2 H46.out];simp))
 by_cases h24:24<Qac (suf s a)
 all_goals
  go_enter Tryz.func251,Tryz.ntmps251
  go_wp2_with (first | (go_at_call 254;((with_reducible refine (Qcw _ _ _ h0 HL.out HS.out).mono ?_);rintro e w' ⟨rfl,rfl⟩)) | (go_at_call 255;refine (Qbk _ _ _ _).mono ?_;rintro e w' ⟨rfl,rfl⟩) | (go_at_call 250;refine (Qaj _ _).mono ?_;rintro e w' ⟨rfl,rfl⟩))
  first
   | exact bodyPost_ret (v:=.agg #[.int .i64 0,.int .i64 0,.int .i64 3,.int .i64 a]) (by simp [results,Tryz.results251,go_sem]) rfl ⟨Qdl 0 2 (HP.out.trans (Qcv h24)) rfl (by omega),(xC _ _).alloc (xA _) _⟩
   | exact bodyPost_ret (v:=.agg #[.int .i64 (Qac (suf s a):Nat),.int .i64 7,.int .i64 0,.int .i64 0]) (by simp [results,Tryz.results251,go_sem]) rfl ⟨Qdq 7 _ (HP.out.trans (Qdm h24 hr)) rfl rfl,(xC _ _).alloc (xA _) _⟩
   | exact bodyPost_ret (v:=.agg #[.int .i64 (Qac (suf s a):Nat),.int .i64 2,.int .i64 0,.int .i64 0]) (by simp [results,Tryz.results251,go_sem]) rfl ⟨Qdq 2 _ (HP.out.trans (Qek h24 hr (by rw [H0.out];exact hu))) rfl rfl,(xC _ _).alloc (xA _) _⟩
   | exact bodyPost_ret (v:=.agg #[.int .i64 (Qac (suf s a):Nat),.int .i64 1,.int .i64 0,.int .i64 0]) (by simp [results,Tryz.results251,go_sem]) rfl ⟨Qdq 1 _ (HP.out.trans (Qdn h24 hr (by rw [H0.out];exact hu))) rfl rfl,(xC _ _).alloc (xA _) _⟩
theorem Que (s:ByteArray) (a:Nat) (w:World) (h0:a<s.size) (hl:Qai s[a].toNat=true) (hs:s.size<maxLen) (hu:Qbc s[a].toNat=true) (hr:Qah ((suf s a).take (Qac (suf s a)))=false) (hn:a+Qac (suf s a)+1<s.size) (h46:s[a+Qac (suf s a)].toNat=46) (hz:Qai s[a+Qac (suf s a)+1].toNat=false) :
  Calls Tryz.prog 251 #[.string s,.int .i64 a] w (Qcm s a w):=by
 have HS:=hQ (Nat.le_of_lt hs)
 have hm:=Qbh s a
 have HL:=hQ hl
 have H0:=hQ (Qbf s a h0)
 have HD:=hQ (Qdr s a h0)
 clear hl
 unfold maxLen at hs
 have hn':(a:Int)+(Qac (suf s a):Nat)+1<(s.size:Int):=by omega
 have g46:((s[a+Qac (suf s a)].toNat:Int)==46)=true:=Qb8 h46
 have HZ:=hQ hz
 clear h46 hz
 have HP:=hQ (Qcf (show Qci (suf s a)=false from by rw [HD.out,Qje,Qbf s (a+Qac (suf s a)+1) hn,HZ.out];simp))
 by_cases h24:24<Qac (suf s a)
 all_goals
  go_enter Tryz.func251,Tryz.ntmps251
  go_wp2_with (first | (go_at_call 254;((with_reducible refine (Qcw _ _ _ h0 HL.out HS.out).mono ?_);rintro e w' ⟨rfl,rfl⟩)) | (go_at_call 255;refine (Qbk _ _ _ _).mono ?_;rintro e w' ⟨rfl,rfl⟩) | (go_at_call 250;refine (Qaj _ _).mono ?_;rintro e w' ⟨rfl,rfl⟩) | (go_at_call 254;((with_reducible refine (Qwe _ _ _ _ hn HZ.out HS.out).mono ?_);rintro e w' ⟨rfl,rfl⟩)))
  first
   | exact bodyPost_ret (v:=.agg #[.int .i64 0,.int .i64 0,.int .i64 3,.int .i64 a]) (by simp [results,Tryz.results251,go_sem]) rfl ⟨Qdl 0 2 (HP.out.trans (Qcv h24)) rfl (by omega),(xC _ _).alloc (xA _) _⟩
   | exact bodyPost_ret (v:=.agg #[.int .i64 (Qac (suf s a):Nat),.int .i64 7,.int .i64 0,.int .i64 0]) (by simp [results,Tryz.results251,go_sem]) rfl ⟨Qdq 7 _ (HP.out.trans (Qdm h24 hr)) rfl rfl,(xC _ _).alloc (xA _) _⟩
   | exact bodyPost_ret (v:=.agg #[.int .i64 (Qac (suf s a):Nat),.int .i64 2,.int .i64 0,.int .i64 0]) (by simp [results,Tryz.results251,go_sem]) rfl ⟨Qdq 2 _ (HP.out.trans (Qek h24 hr (by rw [H0.out];exact hu))) rfl rfl,(xC _ _).alloc (xA _) _⟩
   | exact bodyPost_ret (v:=.agg #[.int .i64 (Qac (suf s a):Nat),.int .i64 1,.int .i64 0,.int .i64 0]) (by simp [results,Tryz.results251,go_sem]) rfl ⟨Qdq 1 _ (HP.out.trans (Qdn h24 hr (by rw [H0.out];exact hu))) rfl rfl,(xC _ _).alloc (xA _) _⟩
end Go.Proofs.YtjidpkcjpgdafaaGreat
