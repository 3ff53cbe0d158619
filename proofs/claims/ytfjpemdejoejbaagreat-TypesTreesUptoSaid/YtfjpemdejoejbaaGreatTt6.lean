/- Part 6 -/
import Derived.Test.YtfjpemdejoejbaaGreatTt5
set_option maxRecDepth 100000
set_option maxHeartbeats 4000000
namespace Go.Proofs.YtfjpemdejoejbaaGreat
open Go.RowKit
section
variable {s:ByteArray} {a:Nat}
theorem Zel (h0:a<s.size) (h:s[a].toNat=61) (h1:a+1<s.size) (h2:s[a+1].toNat=61):Qbh (suf s a)=2:=by
 unfold Qbh;rw [Qbr s a h0,xO h,Qhq s a 1 h1,xO h2]
theorem Zem (h0:a<s.size) (h:s[a].toNat=61) (h1:∀ h:a+1<s.size,s[a+1].toNat≠61):Qbh (suf s a)=1:=by
 unfold Qbh;rw [Qbr s a h0,xO h]
 by_cases h2:a+1<s.size
 ·rw [Qhq s a 1 h2,xN (h1 h2)]
 ·unfold at';rw [List.getD_eq_getElem?_getD,List.getElem?_eq_none (by rw [Qb0];omega)]
  decide
theorem Zen (h0:a<s.size) (h:s[a].toNat≠61) (h1:Qd4 s[a].toNat=true):Qbh (suf s a)=1:=by
 unfold Qbh;rw [Qbr s a h0,xN h,xO h1]
theorem Zcy (h0:a<s.size) (h:s[a].toNat≠61) (h1:Qd4 s[a].toNat=false):Qbh (suf s a)=0:=by
 unfold Qbh;rw [Qbr s a h0,xN h,xN (by simp [h1])]
end
theorem Qg7 (s:ByteArray) (a:Nat) (w:World) (h0:a<s.size) (hs:s.size≤maxLen) :
  Calls Tryz.prog 166 #[.string s,.int .i64 a] w fun e w'=>e = .returned (.int .i64 (Qbh (suf s a)))∧w=w':=by
 unfold maxLen at hs
 by_cases h61:s[a].toNat=61
 ·have g61:((s[a].toNat:Int)==61)=true:=Qco h61;have H61:=hQ h61;clear h61
  by_cases h1:a+1<s.size
  ·by_cases h2:s[a+1].toNat=61
   ·have g2:((s[a+1].toNat:Int)==61)=true:=Qco h2;have H2:=hQ h2;clear h2
    go_enter Tryz.func166,Tryz.ntmps166
    go_wp2
    go_ret
    exact ⟨Qbx (by rw [Zel h0 H61.out h1 H2.out];rfl),rfl⟩
   ·have g2:((s[a+1].toNat:Int)==61)=false:=Qc3 h2;have H2:=hQ h2;clear h2
    go_enter Tryz.func166,Tryz.ntmps166
    go_wp2
    go_ret
    exact ⟨Qbx (by rw [Zem h0 H61.out (fun _=>H2.out)];rfl),rfl⟩
  ·go_enter Tryz.func166,Tryz.ntmps166
   go_wp2
   go_ret
   exact ⟨Qbx (by rw [Zem h0 H61.out (fun h=>absurd h h1)];rfl),rfl⟩
 ·have g61:((s[a].toNat:Int)==61)=false:=Qc3 h61;have H61:=hQ h61;clear h61
  cases ho:Qd4 s[a].toNat
  ·have H1:=hQ ho;simp only [Qd4,Bool.or_eq_false_iff,and_assoc] at ho;obtain ⟨a1,a2,a3,a4,a5,a6,a7,a8,a9,a10,a11⟩:=ho
   go_enter Tryz.func166,Tryz.ntmps166
   go_wp2
   go_ret
   exact ⟨Qbx (by rw [Zcy h0 H61.out H1.out];rfl),rfl⟩
  ·have H1:=hQ ho;clear ho
   go_enter Tryz.func166,Tryz.ntmps166
   go_wp2
   all_goals
    first
     | (go_ret;exact ⟨Qbx (by rw [Zen h0 H61.out H1.out];rfl),rfl⟩)
     | (exfalso;have:=H1.out;simp_all [Qd4])
def Qy5 (t:Tk):Int:=if t.e=0 then t.n else 0
def iAt (t:Tk) (a:Nat):Int:=if t.e=0 then 0 else a+t.n
theorem Qr9 {t:Tk} {a:Nat} {x y z u:Int} (hx:x=Qy5 t) (hy:y=t.kind) (hz:z=t.e) (hu:u=iAt t a) :
  Ending.returned (.agg #[.int .i64 x,.int .i64 y,.int .i64 z,.int .i64 u]) = .returned (.agg #[.int .i64 (Qy5 t),.int .i64 t.kind,.int .i64 t.e,.int .i64 (iAt t a)]):=by rw [hx,hy,hz,hu]
theorem Qdw {t:Tk} {a:Nat} {x y:Int} (k n:Nat) (h:t=⟨k,n,0⟩) (hx:x=n) (hy:y=k) :
  Ending.returned (.agg #[.int .i64 x,.int .i64 y,.int .i64 0,.int .i64 0]) = .returned (.agg #[.int .i64 (Qy5 t),.int .i64 t.kind,.int .i64 t.e,.int .i64 (iAt t a)]):=by
 subst h hx hy;rfl
theorem Qdr {t:Tk} {a:Nat} {z u:Int} (n e:Nat) (h:t=⟨0,n,e+1⟩) (hz:z=(e+1:Nat)) (hu:u=a+n) :
  Ending.returned (.agg #[.int .i64 0,.int .i64 0,.int .i64 z,.int .i64 u]) = .returned (.agg #[.int .i64 (Qy5 t),.int .i64 t.kind,.int .i64 t.e,.int .i64 (iAt t a)]):=by
 subst h hz hu;rfl
theorem Qbw (s:ByteArray) (a b:Nat) (w:World) :
  Calls Tryz.prog 173 #[.string (s.extract a b)] w fun e w'=>e = .returned (.bool (Qah ((suf s a).take (b-a))))∧w=w':=by
 rw [←Qdf];exact Qm5 _ w
theorem Qc8 (s:ByteArray) (a:Nat) (w:World) (h0:a<s.size) (hl:Qai s[a].toNat=true) (hs:s.size≤maxLen) :
  Calls Tryz.prog 172 #[.string s,.int .i64 a] w fun e w'=>e = .returned (.int .i64 (Qac (suf s a)))∧w=w':=by
 rw [←Qif h0 hl];exact Qkl s a w (by omega) hs
theorem Qzv (s:ByteArray) (a n:Nat) (w:World) (hb:a+n+1<s.size) (hl:Qai s[a+n+1].toNat=false) (hs:s.size≤maxLen) :
  Calls Tryz.prog 172 #[.string s,.int .i64 ((a:Int)+(n:Int)+1)] w fun e w'=>e = .returned (.int .i64 0)∧w=w':=by
 have h:=Qkl s (a+n+1) w (by omega) hs;rw [Qrt hb hl] at h
 rwa [show ((a+n+1:Nat):Int)=(a:Int)+(n:Int)+1 from by omega] at h
theorem Qg8 (s:ByteArray) (a n:Nat) (w:World) (hb:a+n+1<s.size) (hl:Qai s[a+n+1].toNat=true) (hs:s.size≤maxLen) :
  Calls Tryz.prog 172 #[.string s,.int .i64 ((a:Int)+(n:Int)+1)] w fun e w'=>e = .returned (.int .i64 (Qac (suf s (a+n+1))))∧w=w':=by
 have h:=Qkl s (a+n+1) w (by omega) hs;rw [Qif hb hl] at h
 rwa [show ((a+n+1:Nat):Int)=(a:Int)+(n:Int)+1 from by omega] at h
theorem Qqw {c:Int} (h:Qai c=true):Qf0 c=true:=by unfold Qf0;rw [h];rfl
theorem Qet {s:ByteArray} {a:Nat} (h:a<s.size) (hl:Qai s[a].toNat=true):0<Qac (suf s a):=by
 unfold Qac;rw [Qd0 s a h];simp [Qc5,Qqw hl]
theorem Qoy (s:ByteArray) (a m:Nat) (h:0<(s.extract a (a+m)).size):(s.extract a (a+m))[0].toNat=at' (suf s a) 0:=by
 have hm:0<m:=by rw [ByteArray.size_extract] at h;omega
 rw [←Qdq _ 0 h,Qdf];unfold at';rw [List.getD_eq_getElem?_getD,List.getD_eq_getElem?_getD,List.getElem?_take,xO (by omega)]
section
variable (s:ByteArray) (a n:Nat)
theorem Qjw:at' (suf s a) (n+1)=at' (suf s (a+n+1)) 0:=by
 rw [Qp7 s a,Qp7 s (a+n+1)];rfl
theorem Zbr (h:24<n∨24<Qac (suf s (a+n+1))):Qcn (suf s a) n=⟨0,0,3⟩:=by
 unfold Qcn;rw [Qd2,←Nat.add_assoc,xO h]
theorem q_res (h:¬ (24<n∨24<Qac (suf s (a+n+1)))) (hr:Qah ((suf s (a+n+1)).take (Qac (suf s (a+n+1))))=true):Qcn (suf s a) n=⟨0,0,2⟩:=by
 unfold Qcn;rw [Qd2,←Nat.add_assoc,xN h,xO hr]
theorem q_up (h:¬ (24<n∨24<Qac (suf s (a+n+1)))) (hr:Qah ((suf s (a+n+1)).take (Qac (suf s (a+n+1))))=false) (hu:Qbf (at' (suf s (a+n+1)) 0)=true) :
  Qcn (suf s a) n=⟨4,n+1+Qac (suf s (a+n+1)),0⟩:=by
 unfold Qcn;rw [Qd2,←Nat.add_assoc,xN h,xN (by simp [hr]),xO (by rw [Qjw];exact hu)]
theorem q_low (h:¬ (24<n∨24<Qac (suf s (a+n+1)))) (hr:Qah ((suf s (a+n+1)).take (Qac (suf s (a+n+1))))=false) (hu:Qbf (at' (suf s (a+n+1)) 0)=false) :
  Qcn (suf s a) n=⟨3,n+1+Qac (suf s (a+n+1)),0⟩:=by
 unfold Qcn;rw [Qd2,←Nat.add_assoc,xN h,xN (by simp [hr]),xN (by rw [Qjw];simp [hu])]
end
def Qcz (s:ByteArray) (a:Nat) (w:World) (e:Ending) (w':World):Prop :=
 e = .returned (.agg #[.int .i64 (Qy5 (Qcv (suf s a))),.int .i64 (Qcv (suf s a)).kind,.int .i64 (Qcv (suf s a)).e,.int .i64 (iAt (Qcv (suf s a)) a)])∧Below w.heap.size w w'
theorem Qdx (s:ByteArray) (a:Nat) (h0:a<s.size):Qcl (suf s a)=(Qbf s[a].toNat && !Qah ((suf s a).take (Qac (suf s a))) && decide (a+Qac (suf s a)+1<s.size) && at' (suf s a) (Qac (suf s a))==46 && Qai (at' (suf s a) (Qac (suf s a)+1))):=by
 unfold Qcl;rw [Qbr s a h0,Qb0]
 congr 3
 exact decide_eq_decide.2 (by omega)
theorem Qwg (s:ByteArray) (a:Nat) (w:World) (h0:a<s.size) (hl:Qai s[a].toNat=true) (hs:s.size<maxLen) (hu:Qbf s[a].toNat=false) :
  Calls Tryz.prog 165 #[.string s,.int .i64 a] w (Qcz s a w):=by
 have HS:=hQ (Nat.le_of_lt hs);have hm:=Qbu s a;have HL:=hQ hl;have H0:=hQ (Qbr s a h0);have HD:=hQ (Qdx s a h0);clear hl;unfold maxLen at hs;cases hr:Qah ((suf s a).take (Qac (suf s a)))
 all_goals
  have HP:=hQ (Qct (show Qcl (suf s a)=false from by rw [HD.out,hu];rfl))
  by_cases h24:24<Qac (suf s a)
  all_goals
   go_enter Tryz.func165,Tryz.ntmps165
   go_wp2_with (first | (go_at_call 172;((with_reducible refine (Qc8 _ _ _ h0 HL.out HS.out).mono ?_);rintro e w' ⟨rfl,rfl⟩)) | (go_at_call 173;refine (Qbw _ _ _ _).mono ?_;rintro e w' ⟨rfl,rfl⟩) | (go_at_call 164;refine (Qan _ _).mono ?_;rintro e w' ⟨rfl,rfl⟩))
   first
    | exact bodyPost_ret (v:=.agg #[.int .i64 0,.int .i64 0,.int .i64 3,.int .i64 a]) (by simp [results,Tryz.results165,go_sem]) rfl ⟨Qdr 0 2 (HP.out.trans (Qc7 h24)) rfl (by omega),(xC _ _).alloc (xA _) _⟩
    | exact bodyPost_ret (v:=.agg #[.int .i64 (Qac (suf s a):Nat),.int .i64 7,.int .i64 0,.int .i64 0]) (by simp [results,Tryz.results165,go_sem]) rfl ⟨Qdw 7 _ (HP.out.trans (Qdt h24 hr)) rfl rfl,(xC _ _).alloc (xA _) _⟩
    | exact bodyPost_ret (v:=.agg #[.int .i64 (Qac (suf s a):Nat),.int .i64 2,.int .i64 0,.int .i64 0]) (by simp [results,Tryz.results165,go_sem]) rfl ⟨Qdw 2 _ (HP.out.trans (Qex h24 hr (by rw [H0.out];exact hu))) rfl rfl,(xC _ _).alloc (xA _) _⟩
    | exact bodyPost_ret (v:=.agg #[.int .i64 (Qac (suf s a):Nat),.int .i64 1,.int .i64 0,.int .i64 0]) (by simp [results,Tryz.results165,go_sem]) rfl ⟨Qdw 1 _ (HP.out.trans (Qdu h24 hr (by rw [H0.out];exact hu))) rfl rfl,(xC _ _).alloc (xA _) _⟩
theorem Qwh (s:ByteArray) (a:Nat) (w:World) (h0:a<s.size) (hl:Qai s[a].toNat=true) (hs:s.size<maxLen) (hu:Qbf s[a].toNat=true) (hr:Qah ((suf s a).take (Qac (suf s a)))=true) :
  Calls Tryz.prog 165 #[.string s,.int .i64 a] w (Qcz s a w):=by
 have HS:=hQ (Nat.le_of_lt hs);have hm:=Qbu s a;have HL:=hQ hl;have H0:=hQ (Qbr s a h0);have HD:=hQ (Qdx s a h0);clear hl;unfold maxLen at hs;have HP:=hQ (Qct (show Qcl (suf s a)=false from by rw [HD.out,hr];simp))
 by_cases h24:24<Qac (suf s a)
 all_goals
  go_enter Tryz.func165,Tryz.ntmps165
  go_wp2_with (first | (go_at_call 172;((with_reducible refine (Qc8 _ _ _ h0 HL.out HS.out).mono ?_);rintro e w' ⟨rfl,rfl⟩)) | (go_at_call 173;refine (Qbw _ _ _ _).mono ?_;rintro e w' ⟨rfl,rfl⟩) | (go_at_call 164;refine (Qan _ _).mono ?_;rintro e w' ⟨rfl,rfl⟩))
  first
   | exact bodyPost_ret (v:=.agg #[.int .i64 0,.int .i64 0,.int .i64 3,.int .i64 a]) (by simp [results,Tryz.results165,go_sem]) rfl ⟨Qdr 0 2 (HP.out.trans (Qc7 h24)) rfl (by omega),(xC _ _).alloc (xA _) _⟩
   | exact bodyPost_ret (v:=.agg #[.int .i64 (Qac (suf s a):Nat),.int .i64 7,.int .i64 0,.int .i64 0]) (by simp [results,Tryz.results165,go_sem]) rfl ⟨Qdw 7 _ (HP.out.trans (Qdt h24 hr)) rfl rfl,(xC _ _).alloc (xA _) _⟩
   | exact bodyPost_ret (v:=.agg #[.int .i64 (Qac (suf s a):Nat),.int .i64 2,.int .i64 0,.int .i64 0]) (by simp [results,Tryz.results165,go_sem]) rfl ⟨Qdw 2 _ (HP.out.trans (Qex h24 hr (by rw [H0.out];exact hu))) rfl rfl,(xC _ _).alloc (xA _) _⟩
   | exact bodyPost_ret (v:=.agg #[.int .i64 (Qac (suf s a):Nat),.int .i64 1,.int .i64 0,.int .i64 0]) (by simp [results,Tryz.results165,go_sem]) rfl ⟨Qdw 1 _ (HP.out.trans (Qdu h24 hr (by rw [H0.out];exact hu))) rfl rfl,(xC _ _).alloc (xA _) _⟩
theorem Qqx (s:ByteArray) (a:Nat) (w:World) (h0:a<s.size) (hl:Qai s[a].toNat=true) (hs:s.size<maxLen) (hu:Qbf s[a].toNat=true) (hr:Qah ((suf s a).take (Qac (suf s a)))=false) (hn:¬ a+Qac (suf s a)+1<s.size) :
  Calls Tryz.prog 165 #[.string s,.int .i64 a] w (Qcz s a w):=by
 have HS:=hQ (Nat.le_of_lt hs);have hm:=Qbu s a;have HL:=hQ hl;have H0:=hQ (Qbr s a h0);have HD:=hQ (Qdx s a h0);clear hl;unfold maxLen at hs;have hn':¬ (a:Int)+(Qac (suf s a):Nat)+1<(s.size:Int):=by omega
 have HP:=hQ (Qct (show Qcl (suf s a)=false from by rw [HD.out,xR hn];simp))
 by_cases h24:24<Qac (suf s a)
 all_goals
  go_enter Tryz.func165,Tryz.ntmps165
  go_wp2_with (first | (go_at_call 172;((with_reducible refine (Qc8 _ _ _ h0 HL.out HS.out).mono ?_);rintro e w' ⟨rfl,rfl⟩)) | (go_at_call 173;refine (Qbw _ _ _ _).mono ?_;rintro e w' ⟨rfl,rfl⟩) | (go_at_call 164;refine (Qan _ _).mono ?_;rintro e w' ⟨rfl,rfl⟩))
  first
   | exact bodyPost_ret (v:=.agg #[.int .i64 0,.int .i64 0,.int .i64 3,.int .i64 a]) (by simp [results,Tryz.results165,go_sem]) rfl ⟨Qdr 0 2 (HP.out.trans (Qc7 h24)) rfl (by omega),(xC _ _).alloc (xA _) _⟩
   | exact bodyPost_ret (v:=.agg #[.int .i64 (Qac (suf s a):Nat),.int .i64 7,.int .i64 0,.int .i64 0]) (by simp [results,Tryz.results165,go_sem]) rfl ⟨Qdw 7 _ (HP.out.trans (Qdt h24 hr)) rfl rfl,(xC _ _).alloc (xA _) _⟩
   | exact bodyPost_ret (v:=.agg #[.int .i64 (Qac (suf s a):Nat),.int .i64 2,.int .i64 0,.int .i64 0]) (by simp [results,Tryz.results165,go_sem]) rfl ⟨Qdw 2 _ (HP.out.trans (Qex h24 hr (by rw [H0.out];exact hu))) rfl rfl,(xC _ _).alloc (xA _) _⟩
   | exact bodyPost_ret (v:=.agg #[.int .i64 (Qac (suf s a):Nat),.int .i64 1,.int .i64 0,.int .i64 0]) (by simp [results,Tryz.results165,go_sem]) rfl ⟨Qdw 1 _ (HP.out.trans (Qdu h24 hr (by rw [H0.out];exact hu))) rfl rfl,(xC _ _).alloc (xA _) _⟩
theorem Qqy (s:ByteArray) (a:Nat) (w:World) (h0:a<s.size) (hl:Qai s[a].toNat=true) (hs:s.size<maxLen) (hu:Qbf s[a].toNat=true) (hr:Qah ((suf s a).take (Qac (suf s a)))=false) (hn:a+Qac (suf s a)+1<s.size) (h46:s[a+Qac (suf s a)].toNat≠46) :
  Calls Tryz.prog 165 #[.string s,.int .i64 a] w (Qcz s a w):=by
 have HS:=hQ (Nat.le_of_lt hs);have hm:=Qbu s a;have HL:=hQ hl;have H0:=hQ (Qbr s a h0);have HD:=hQ (Qdx s a h0);clear hl;unfold maxLen at hs;have hn':(a:Int)+(Qac (suf s a):Nat)+1<(s.size:Int):=by omega
 have g46:((s[a+Qac (suf s a)].toNat:Int)==46)=false:=Qc3 h46;have H46:=hQ h46;clear h46;have HP:=hQ (Qct (show Qcl (suf s a)=false from by rw [HD.out,Qhq s a (Qac (suf s a)) (by omega),beq_eq_false_iff_ne.2 H46.out];simp))
 by_cases h24:24<Qac (suf s a)
 all_goals
  go_enter Tryz.func165,Tryz.ntmps165
  go_wp2_with (first | (go_at_call 172;((with_reducible refine (Qc8 _ _ _ h0 HL.out HS.out).mono ?_);rintro e w' ⟨rfl,rfl⟩)) | (go_at_call 173;refine (Qbw _ _ _ _).mono ?_;rintro e w' ⟨rfl,rfl⟩) | (go_at_call 164;refine (Qan _ _).mono ?_;rintro e w' ⟨rfl,rfl⟩))
  first
   | exact bodyPost_ret (v:=.agg #[.int .i64 0,.int .i64 0,.int .i64 3,.int .i64 a]) (by simp [results,Tryz.results165,go_sem]) rfl ⟨Qdr 0 2 (HP.out.trans (Qc7 h24)) rfl (by omega),(xC _ _).alloc (xA _) _⟩
   | exact bodyPost_ret (v:=.agg #[.int .i64 (Qac (suf s a):Nat),.int .i64 7,.int .i64 0,.int .i64 0]) (by simp [results,Tryz.results165,go_sem]) rfl ⟨Qdw 7 _ (HP.out.trans (Qdt h24 hr)) rfl rfl,(xC _ _).alloc (xA _) _⟩
   | exact bodyPost_ret (v:=.agg #[.int .i64 (Qac (suf s a):Nat),.int .i64 2,.int .i64 0,.int .i64 0]) (by simp [results,Tryz.results165,go_sem]) rfl ⟨Qdw 2 _ (HP.out.trans (Qex h24 hr (by rw [H0.out];exact hu))) rfl rfl,(xC _ _).alloc (xA _) _⟩
   | exact bodyPost_ret (v:=.agg #[.int .i64 (Qac (suf s a):Nat),.int .i64 1,.int .i64 0,.int .i64 0]) (by simp [results,Tryz.results165,go_sem]) rfl ⟨Qdw 1 _ (HP.out.trans (Qdu h24 hr (by rw [H0.out];exact hu))) rfl rfl,(xC _ _).alloc (xA _) _⟩
theorem Qwi (s:ByteArray) (a:Nat) (w:World) (h0:a<s.size) (hl:Qai s[a].toNat=true) (hs:s.size<maxLen) (hu:Qbf s[a].toNat=true) (hr:Qah ((suf s a).take (Qac (suf s a)))=false) (hn:a+Qac (suf s a)+1<s.size) (h46:s[a+Qac (suf s a)].toNat=46) (hz:Qai s[a+Qac (suf s a)+1].toNat=false) :
  Calls Tryz.prog 165 #[.string s,.int .i64 a] w (Qcz s a w):=by
 have HS:=hQ (Nat.le_of_lt hs);have hm:=Qbu s a;have HL:=hQ hl;have H0:=hQ (Qbr s a h0);have HD:=hQ (Qdx s a h0);clear hl;unfold maxLen at hs;have hn':(a:Int)+(Qac (suf s a):Nat)+1<(s.size:Int):=by omega
 have g46:((s[a+Qac (suf s a)].toNat:Int)==46)=true:=Qco h46;have HZ:=hQ hz;clear h46 hz;have HP:=hQ (Qct (show Qcl (suf s a)=false from by rw [HD.out,Qjw,Qbr s (a+Qac (suf s a)+1) hn,HZ.out];simp))
 by_cases h24:24<Qac (suf s a)
 all_goals
  go_enter Tryz.func165,Tryz.ntmps165
  go_wp2_with (first | (go_at_call 172;((with_reducible refine (Qc8 _ _ _ h0 HL.out HS.out).mono ?_);rintro e w' ⟨rfl,rfl⟩)) | (go_at_call 173;refine (Qbw _ _ _ _).mono ?_;rintro e w' ⟨rfl,rfl⟩) | (go_at_call 164;refine (Qan _ _).mono ?_;rintro e w' ⟨rfl,rfl⟩) | (go_at_call 172;((with_reducible refine (Qzv _ _ _ _ hn HZ.out HS.out).mono ?_);rintro e w' ⟨rfl,rfl⟩)))
  first
   | exact bodyPost_ret (v:=.agg #[.int .i64 0,.int .i64 0,.int .i64 3,.int .i64 a]) (by simp [results,Tryz.results165,go_sem]) rfl ⟨Qdr 0 2 (HP.out.trans (Qc7 h24)) rfl (by omega),(xC _ _).alloc (xA _) _⟩
   | exact bodyPost_ret (v:=.agg #[.int .i64 (Qac (suf s a):Nat),.int .i64 7,.int .i64 0,.int .i64 0]) (by simp [results,Tryz.results165,go_sem]) rfl ⟨Qdw 7 _ (HP.out.trans (Qdt h24 hr)) rfl rfl,(xC _ _).alloc (xA _) _⟩
   | exact bodyPost_ret (v:=.agg #[.int .i64 (Qac (suf s a):Nat),.int .i64 2,.int .i64 0,.int .i64 0]) (by simp [results,Tryz.results165,go_sem]) rfl ⟨Qdw 2 _ (HP.out.trans (Qex h24 hr (by rw [H0.out];exact hu))) rfl rfl,(xC _ _).alloc (xA _) _⟩
   | exact bodyPost_ret (v:=.agg #[.int .i64 (Qac (suf s a):Nat),.int .i64 1,.int .i64 0,.int .i64 0]) (by simp [results,Tryz.results165,go_sem]) rfl ⟨Qdw 1 _ (HP.out.trans (Qdu h24 hr (by rw [H0.out];exact hu))) rfl rfl,(xC _ _).alloc (xA _) _⟩
end Go.Proofs.YtfjpemdejoejbaaGreat
