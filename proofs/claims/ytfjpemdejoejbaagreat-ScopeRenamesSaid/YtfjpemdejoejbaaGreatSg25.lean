/- Part 25 -/
import Derived.Test.YtfjpemdejoejbaaGreatSg24
set_option maxRecDepth 100000
set_option maxHeartbeats 4000000
namespace Go.Proofs.YtfjpemdejoejbaaGreat
open Go.RowKit
def Qgx (t:Tk) (a:Nat) (w:World) (e:Ending) (w':World):Prop :=
 e = .returned (.agg #[.int .i64 (Qxy t),.int .i64 t.kind,.int .i64 t.e,.int .i64 (iAt t a)])∧Below w.heap.size w w'
section
variable {s:ByteArray} {a:Nat}
theorem Zgj (h0:a<s.size) (ha:Qap s[a].toNat=false):Qbg (suf s a)=⟨0,0,1⟩:=by
 unfold Qbg;rw [Qb6 s a h0,xO ha]
theorem Zdf (h0:a<s.size) (ha:Qap s[a].toNat=true) (hl:Qav s[a].toNat=true):Qbg (suf s a)=Qd2 (suf s a):=by
 unfold Qbg;rw [Qb6 s a h0,xN (by simp [ha]),xO hl]
theorem Zgk (h0:a<s.size) (ha:Qap s[a].toNat=true) (hl:Qav s[a].toNat=false) (hd:Qb2 s[a].toNat=true):Qbg (suf s a)=Qjg (suf s a):=by
 unfold Qbg;rw [Qb6 s a h0,xN (by simp [ha]),xN (by simp [hl]),xO hd]
theorem Zdg (h0:a<s.size) (h34:s[a].toNat=34):Qbg (suf s a)=Qc4 1 (suf s (a+1)):=by
 have ha:Qap (34:Nat)=true:=by decide
 have hl:Qav (34:Nat)=false:=by decide
 have hd:Qb2 (34:Nat)=false:=by decide
 unfold Qbg;rw [Qb6 s a h0,h34,xN (by rw [ha];decide),xN (by rw [hl];decide),xN (by rw [hd];decide),xO rfl,Qe7]
theorem Zdh (h0:a<s.size) (ha:Qap s[a].toNat=true) (hl:Qav s[a].toNat=false) (hd:Qb2 s[a].toNat=false) (h34:s[a].toNat≠34):Qbg (suf s a)=Qec (suf s a):=by
 unfold Qbg;rw [Qb6 s a h0,xN (by simp [ha]),xN (by simp [hl]),xN (by simp [hd]),xN h34]
end
theorem Qqu {c:Int} (h:Qb2 c=true):Qav c=false:=by
 unfold Qb2 at h;unfold Qav Qb1 Qh5;simp at h ⊢
 omega
theorem Qqv {c:Int} (h:Qav c=false):Qb1 c=false∧Qh5 c=false:=by
 unfold Qav at h
 simpa using h
theorem Qs2 {c:Nat} (hp:Qf7 c=false) (ha:Qap c=true):c=92∨c=9∨c=10∨c=13:=by
 rw [Qia,hp] at ha;unfold Qd9 at ha;unfold Qf7 at hp;simp at ha hp
 omega
theorem Qs3 {c:Nat} (hp:Qf7 c=true) (h92:c≠92):¬ (c=92∨c=9∨c=10∨c=13):=by
 unfold Qf7 at hp;simp at hp
 omega
theorem Qn6 {w w1:World} {t:TypeId} (hb:Below (w.heap.size+1) (w.alloc (.cells #[.int .i64 0,.int .i64 0,.int .i64 0,.int .i64 0] t)) w1) :
  w1.cell? ⟨w.heap.size,0,none⟩=some (.int .i64 0)∧w1.cell? ⟨w.heap.size,1,none⟩=some (.int .i64 0)∧w1.cell? ⟨w.heap.size,2,none⟩=some (.int .i64 0)∧w1.cell? ⟨w.heap.size,3,none⟩=some (.int .i64 0) ∧
  w1.frozen? ⟨w.heap.size,0,none⟩=false∧w1.frozen? ⟨w.heap.size,1,none⟩=false∧w1.frozen? ⟨w.heap.size,2,none⟩=false∧w1.frozen? ⟨w.heap.size,3,none⟩=false∧w.heap.size<w1.heap.size∧Below w.heap.size w w1:=by
 have hlt:w.heap.size<w1.heap.size:=by have:=hb.size;simp at this;omega
 refine ⟨(hb.cell (p:=⟨w.heap.size,0,none⟩) (by simp)).trans (by simp),(hb.cell (p:=⟨w.heap.size,1,none⟩) (by simp)).trans (by simp),(hb.cell (p:=⟨w.heap.size,2,none⟩) (by simp)).trans (by simp),(hb.cell (p:=⟨w.heap.size,3,none⟩) (by simp)).trans (by simp),(hb.frozen (p:=⟨w.heap.size,0,none⟩) (by simp)).trans (by simp),(hb.frozen (p:=⟨w.heap.size,1,none⟩) (by simp)).trans (by simp),(hb.frozen (p:=⟨w.heap.size,2,none⟩) (by simp)).trans (by simp),(hb.frozen (p:=⟨w.heap.size,3,none⟩) (by simp)).trans (by simp),hlt,?_⟩;exact ((xC _ w).alloc (xA _) _).trans (hb.mono (by omega))
theorem Zdi (s:ByteArray) (a:Nat) (w:World) (h0:a<s.size) (_hs:s.size<maxLen) (ha:Qap s[a].toNat=false) :
  Calls Tryz.prog 138 #[.string s,.int .i64 a] w (Qgx (Qbg (suf s a)) a w):=by
 have HT:=hQ (Nat.le_of_lt _hs)
 go_enter Tryz.func138,Tryz.ntmps138
 go_wp2_with (first | (go_at_call 160;refine (Qa5 _ _).mono ?_;rintro e w' ⟨rfl,rfl⟩) | (go_at_call 161;refine (Qbi _ _).mono ?_;rintro e w' ⟨rfl,rfl⟩) | (go_at_call 162;refine (Qb7 _ _).mono ?_;rintro e w' ⟨rfl,rfl⟩) | (go_at_call 163;refine (Qbc _ _).mono ?_;rintro e w' ⟨rfl,rfl⟩) | (go_at_call 164;refine (Qax _ _).mono ?_;rintro e w' ⟨rfl,rfl⟩) | (go_at_call 166;refine (Qik _ _ _ h0 HT.out).mono ?_;rintro e w' ⟨rfl,rfl⟩))
 exact bodyPost_ret (v:=.agg #[.int .i64 0,.int .i64 0,.int .i64 1,.int .i64 a]) (by simp [results,Tryz.results138,go_sem]) rfl ⟨Qeq 0 0 (Zgj h0 ha) rfl (by omega),(xC _ _).alloc (xA _) _⟩
theorem Qzu (s:ByteArray) (a:Nat) (w:World) (h0:a<s.size) (hs:s.size<maxLen) (ha:Qap s[a].toNat=true) (hl:Qav s[a].toNat=false) (hd:Qb2 s[a].toNat=false) (h34:s[a].toNat≠34) :
  Calls Tryz.prog 138 #[.string s,.int .i64 a] w (Qgx (Qbg (suf s a)) a w):=by
 have HT:=hQ (Nat.le_of_lt hs);have HK:=hQ (Zdh h0 ha hl hd h34);have g34:((s[a].toNat:Int)==34)=false:=Qdt h34;obtain ⟨hu,hlo⟩:=Qqv hl;clear h34 hs
 by_cases hz:Qbq (suf s a)=0
 ·have HZ:=hQ (show Qec (suf s a)=⟨0,0,2⟩ from by unfold Qec;rw [xO hz])
  go_enter Tryz.func138,Tryz.ntmps138
  go_wp2_with (first | (go_at_call 160;refine (Qa5 _ _).mono ?_;rintro e w' ⟨rfl,rfl⟩) | (go_at_call 161;refine (Qbi _ _).mono ?_;rintro e w' ⟨rfl,rfl⟩) | (go_at_call 162;refine (Qb7 _ _).mono ?_;rintro e w' ⟨rfl,rfl⟩) | (go_at_call 163;refine (Qbc _ _).mono ?_;rintro e w' ⟨rfl,rfl⟩) | (go_at_call 164;refine (Qax _ _).mono ?_;rintro e w' ⟨rfl,rfl⟩) | (go_at_call 166;refine (Qik _ _ _ h0 HT.out).mono ?_;rintro e w' ⟨rfl,rfl⟩))
  exact bodyPost_ret (v:=.agg #[.int .i64 0,.int .i64 0,.int .i64 2,.int .i64 a]) (by simp [results,Tryz.results138,go_sem]) rfl ⟨Qeq 0 1 (HK.out.trans HZ.out) rfl (by omega),(xC _ _).alloc (xA _) _⟩
 ·have HZ:=hQ (show Qec (suf s a)=⟨8,Qbq (suf s a),0⟩ from by unfold Qec;rw [xN hz]);have hz':¬ ((Qbq (suf s a):Nat):Int)=0:=by omega
  clear hz
  go_enter Tryz.func138,Tryz.ntmps138
  go_wp2_with (first | (go_at_call 160;refine (Qa5 _ _).mono ?_;rintro e w' ⟨rfl,rfl⟩) | (go_at_call 161;refine (Qbi _ _).mono ?_;rintro e w' ⟨rfl,rfl⟩) | (go_at_call 162;refine (Qb7 _ _).mono ?_;rintro e w' ⟨rfl,rfl⟩) | (go_at_call 163;refine (Qbc _ _).mono ?_;rintro e w' ⟨rfl,rfl⟩) | (go_at_call 164;refine (Qax _ _).mono ?_;rintro e w' ⟨rfl,rfl⟩) | (go_at_call 166;refine (Qik _ _ _ h0 HT.out).mono ?_;rintro e w' ⟨rfl,rfl⟩))
  exact bodyPost_ret (v:=.agg #[.int .i64 (Qbq (suf s a):Nat),.int .i64 8,.int .i64 0,.int .i64 0]) (by simp [results,Tryz.results138,go_sem]) rfl ⟨Qew 8 _ (HK.out.trans HZ.out) rfl rfl,(xC _ _).alloc (xA _) _⟩
theorem Qzv (s:ByteArray) (a:Nat) (w:World) (h0:a<s.size) (hs:s.size<maxLen) (ha:Qap s[a].toNat=true) (hl:Qav s[a].toNat=true) (hd:Qb2 s[a].toNat=false)
  (hw:∀ w:World,Calls Tryz.prog 165 #[.string s,.int .i64 a] w (Qdr s a w)) :
  Calls Tryz.prog 138 #[.string s,.int .i64 a] w (Qgx (Qbg (suf s a)) a w):=by
 have HT:=hQ (Nat.le_of_lt hs);have HK:=hQ (Zdf h0 ha hl);have HW:=hQ hw;have g34:((s[a].toNat:Int)==34)=false:=Qdt (m:=34) (fun h=>by rw [h] at hl;exact absurd hl (by decide));have HU:=hQ (show Qav s[a].toNat=(Qb1 s[a].toNat || Qh5 s[a].toNat) from rfl)
 cases hu:Qb1 s[a].toNat
 ·cases hlo:Qh5 s[a].toNat
  ·exact absurd hl (by rw [HU.out,hu,hlo];decide)
  ·clear hs hw hl
   go_enter Tryz.func138,Tryz.ntmps138
   go_wp2_with (first | (go_at_call 160;refine (Qa5 _ _).mono ?_;rintro e w' ⟨rfl,rfl⟩) | (go_at_call 161;refine (Qbi _ _).mono ?_;rintro e w' ⟨rfl,rfl⟩) | (go_at_call 162;refine (Qb7 _ _).mono ?_;rintro e w' ⟨rfl,rfl⟩) | (go_at_call 163;refine (Qbc _ _).mono ?_;rintro e w' ⟨rfl,rfl⟩) | (go_at_call 164;refine (Qax _ _).mono ?_;rintro e w' ⟨rfl,rfl⟩) | (go_at_call 166;refine (Qik _ _ _ h0 HT.out).mono ?_;rintro e w' ⟨rfl,rfl⟩) | (go_at_call 165;refine (HW.out _).mono ?_;rintro e w1 ⟨rfl,hb1⟩;have HI:=hQ (Qn6 (t:=168) (by simpa using hb1));clear hb1;obtain ⟨c0,c1,c2,c3,f0,f1,f2,f3,hz,HB⟩:=HI.out;clear HI;have HB:=hQ HB))
   exact bodyPost_ret (v:=.agg #[.int .i64 (Qxy (Qd2 (suf s a))),.int .i64 (Qd2 (suf s a)).kind,.int .i64 (Qd2 (suf s a)).e,.int .i64 (iAt (Qd2 (suf s a)) a)]) (by simp [results,Tryz.results138,go_sem,c0,c1,c2,c3]) rfl ⟨Quk (by rw [HK.out]) (by rw [HK.out]) (by rw [HK.out]) (by rw [HK.out]),(((HB.out.setCell (by simp) _).setCell (by simp) _).setCell (by simp) _).setCell (by simp) _⟩
 ·cases hlo:Qh5 s[a].toNat
  all_goals
   clear hs hw hl
   go_enter Tryz.func138,Tryz.ntmps138
   go_wp2_with (first | (go_at_call 160;refine (Qa5 _ _).mono ?_;rintro e w' ⟨rfl,rfl⟩) | (go_at_call 161;refine (Qbi _ _).mono ?_;rintro e w' ⟨rfl,rfl⟩) | (go_at_call 162;refine (Qb7 _ _).mono ?_;rintro e w' ⟨rfl,rfl⟩) | (go_at_call 163;refine (Qbc _ _).mono ?_;rintro e w' ⟨rfl,rfl⟩) | (go_at_call 164;refine (Qax _ _).mono ?_;rintro e w' ⟨rfl,rfl⟩) | (go_at_call 166;refine (Qik _ _ _ h0 HT.out).mono ?_;rintro e w' ⟨rfl,rfl⟩) | (go_at_call 165;refine (HW.out _).mono ?_;rintro e w1 ⟨rfl,hb1⟩;have HI:=hQ (Qn6 (t:=168) (by simpa using hb1));clear hb1;obtain ⟨c0,c1,c2,c3,f0,f1,f2,f3,hz,HB⟩:=HI.out;clear HI;have HB:=hQ HB))
   exact bodyPost_ret (v:=.agg #[.int .i64 (Qxy (Qd2 (suf s a))),.int .i64 (Qd2 (suf s a)).kind,.int .i64 (Qd2 (suf s a)).e,.int .i64 (iAt (Qd2 (suf s a)) a)]) (by simp [results,Tryz.results138,go_sem,c0,c1,c2,c3]) rfl ⟨Quk (by rw [HK.out]) (by rw [HK.out]) (by rw [HK.out]) (by rw [HK.out]),(((HB.out.setCell (by simp) _).setCell (by simp) _).setCell (by simp) _).setCell (by simp) _⟩
theorem Qzw (s:ByteArray) (a:Nat) (w:World) (h0:a<s.size) (hs:s.size<maxLen) (h34:s[a].toNat=34) :
  Calls Tryz.prog 138 #[.string s,.int .i64 a] w (Qgx (Qbg (suf s a)) a w):=by
 have HK:=hQ (Zdg h0 h34);have g34:((s[a].toNat:Int)==34)=true:=Qc6 h34;have ha:Qap s[a].toNat=true:=by rw [h34];decide
 have hst:=hQ (QuotAt.start s a h0);clear h34;unfold maxLen at hs
 go_enter Tryz.func138,Tryz.ntmps138
 go_wp2_with (first | (go_at_call 160;refine (Qa5 _ _).mono ?_;rintro e w' ⟨rfl,rfl⟩) | (go_at_call 161;refine (Qbi _ _).mono ?_;rintro e w' ⟨rfl,rfl⟩) | (go_at_call 162;refine (Qb7 _ _).mono ?_;rintro e w' ⟨rfl,rfl⟩) | (go_at_call 163;refine (Qbc _ _).mono ?_;rintro e w' ⟨rfl,rfl⟩) | (go_at_call 164;refine (Qax _ _).mono ?_;rintro e w' ⟨rfl,rfl⟩))
 go_loop [6] (fun x=>∃ (k:Nat),a+1≤k∧k≤s.size∧x = .int .i64 k∧QuotAt s a k) (fun x=>s.size-(intOf x).toNat)
 case atStart=>exact ⟨a+1,xA _,h0,by go_num,hst.out⟩
 case round =>
  obtain ⟨k,h1,hk,rfl,hrel⟩:=hrel;have HR:=hQ hrel;clear hrel hst
  by_cases hlt:k<s.size
  ·by_cases h34:s[k].toNat=34
   ·have g34':((s[k].toNat:Int)==34)=true:=Qc6 h34;have H34:=hQ h34;clear h34
    go_wp2
    exact bodyPost_ret (v:=.agg #[.int .i64 ((k:Int)+1-(a:Int)),.int .i64 6,.int .i64 0,.int .i64 0]) (by simp [results,Tryz.results138,go_sem]) rfl ⟨Qew 6 (k-a+1) (HK.out.trans (HR.out.close hlt H34.out)) (by omega) rfl,(xC _ _).alloc (xA _) _⟩
   ·have g34':((s[k].toNat:Int)==34)=false:=Qdt h34;have H34:=hQ h34;clear h34
    cases hal:Qap s[k].toNat
    ·have HS:=hQ (show ¬ (s[k].toNat=92∨s[k].toNat=9∨s[k].toNat=10∨s[k].toNat=13) from fun h=>by rcases h with h | h | h | h <;> (rw [h] at hal;exact absurd hal (by decide)));go_wp2_with (first | (go_at_call 160;refine (Qa5 _ _).mono ?_;rintro e w' ⟨rfl,rfl⟩) | (go_at_call 161;refine (Qbi _ _).mono ?_;rintro e w' ⟨rfl,rfl⟩) | (go_at_call 162;refine (Qb7 _ _).mono ?_;rintro e w' ⟨rfl,rfl⟩) | (go_at_call 163;refine (Qbc _ _).mono ?_;rintro e w' ⟨rfl,rfl⟩) | (go_at_call 164;refine (Qax _ _).mono ?_;rintro e w' ⟨rfl,rfl⟩))
     exact bodyPost_ret (v:=.agg #[.int .i64 0,.int .i64 0,.int .i64 1,.int .i64 k]) (by simp [results,Tryz.results138,go_sem]) rfl ⟨Qeq (k-a) 0 (HK.out.trans (HR.out.bad hlt H34.out HS.out hal)) rfl (by omega),(xC _ _).alloc (xA _) _⟩
    ·cases hp:Qf7 s[k].toNat
     ·have HS:=hQ (Qs2 hp hal);go_wp2_with (first | (go_at_call 160;refine (Qa5 _ _).mono ?_;rintro e w' ⟨rfl,rfl⟩) | (go_at_call 161;refine (Qbi _ _).mono ?_;rintro e w' ⟨rfl,rfl⟩) | (go_at_call 162;refine (Qb7 _ _).mono ?_;rintro e w' ⟨rfl,rfl⟩) | (go_at_call 163;refine (Qbc _ _).mono ?_;rintro e w' ⟨rfl,rfl⟩) | (go_at_call 164;refine (Qax _ _).mono ?_;rintro e w' ⟨rfl,rfl⟩))
      exact bodyPost_ret (v:=.agg #[.int .i64 0,.int .i64 0,.int .i64 2,.int .i64 a]) (by simp [results,Tryz.results138,go_sem]) rfl ⟨Qeq 0 1 (HK.out.trans (HR.out.stop hlt H34.out HS.out)) rfl (by omega),(xC _ _).alloc (xA _) _⟩
     ·by_cases h92:s[k].toNat=92
      ·have g92:((s[k].toNat:Int)==92)=true:=Qc6 h92;have HS:=hQ (show s[k].toNat=92∨s[k].toNat=9∨s[k].toNat=10∨s[k].toNat=13 from .inl h92);clear h92;go_wp2_with (first | (go_at_call 160;refine (Qa5 _ _).mono ?_;rintro e w' ⟨rfl,rfl⟩) | (go_at_call 161;refine (Qbi _ _).mono ?_;rintro e w' ⟨rfl,rfl⟩) | (go_at_call 162;refine (Qb7 _ _).mono ?_;rintro e w' ⟨rfl,rfl⟩) | (go_at_call 163;refine (Qbc _ _).mono ?_;rintro e w' ⟨rfl,rfl⟩) | (go_at_call 164;refine (Qax _ _).mono ?_;rintro e w' ⟨rfl,rfl⟩))
       exact bodyPost_ret (v:=.agg #[.int .i64 0,.int .i64 0,.int .i64 2,.int .i64 a]) (by simp [results,Tryz.results138,go_sem]) rfl ⟨Qeq 0 1 (HK.out.trans (HR.out.stop hlt H34.out HS.out)) rfl (by omega),(xC _ _).alloc (xA _) _⟩
      ·have g92:((s[k].toNat:Int)==92)=false:=Qdt h92;have HS:=hQ (Qs3 hp h92);clear h92;go_wp2_with (first | (go_at_call 160;refine (Qa5 _ _).mono ?_;rintro e w' ⟨rfl,rfl⟩) | (go_at_call 161;refine (Qbi _ _).mono ?_;rintro e w' ⟨rfl,rfl⟩) | (go_at_call 162;refine (Qb7 _ _).mono ?_;rintro e w' ⟨rfl,rfl⟩) | (go_at_call 163;refine (Qbc _ _).mono ?_;rintro e w' ⟨rfl,rfl⟩) | (go_at_call 164;refine (Qax _ _).mono ?_;rintro e w' ⟨rfl,rfl⟩))
       go_round
       case rel=>exact ⟨k+1,by omega,by omega,by go_num,HR.out.next hlt H34.out HS.out hal⟩
       case measure=>simp [intOf];omega
  ·go_wp2
   exact bodyPost_ret (v:=.agg #[.int .i64 0,.int .i64 0,.int .i64 2,.int .i64 a]) (by simp [results,Tryz.results138,go_sem]) rfl ⟨Qeq 0 1 (HK.out.trans (HR.out.done hlt)) rfl (by omega),(xC _ _).alloc (xA _) _⟩
theorem Zdj {s:ByteArray} {a k:Nat} (h0:a<s.size) (hn:Qds (suf s a)+a=k) (h1:a+1<k) (h48:s[a].toNat=48):Qjg (suf s a)=⟨0,0,2⟩:=by
 unfold Qjg;rw [Qb6 s a h0,xO ⟨by omega,h48⟩]
theorem Zdk {s:ByteArray} {a k:Nat} (h0:a<s.size) (hn:Qds (suf s a)+a=k) (h1:¬ (a+1<k∧s[a].toNat=48)) (h15:a+15<k):Qjg (suf s a)=⟨0,0,3⟩:=by
 unfold Qjg;rw [Qb6 s a h0,xN (by omega),xO (by omega)]
theorem Ze6 {s:ByteArray} {a k:Nat} (h0:a<s.size) (hn:Qds (suf s a)+a=k) (h1:¬ (a+1<k∧s[a].toNat=48)) (h15:¬ a+15<k):Qjg (suf s a)=⟨5,k-a,0⟩:=by
 unfold Qjg;rw [Qb6 s a h0,xN (by omega),xN (by omega),show Qds (suf s a)=k-a from by omega]
theorem Zdl (s:ByteArray) (a:Nat) (w:World) (h0:a<s.size) (hs:s.size<maxLen) (ha:Qap s[a].toNat=true) (hl:Qav s[a].toNat=false) (hd:Qb2 s[a].toNat=true) :
  Calls Tryz.prog 138 #[.string s,.int .i64 a] w (Qgx (Qbg (suf s a)) a w):=by
 have HK:=hQ (Zgk h0 ha hl hd);have g34:((s[a].toNat:Int)==34)=false:=Qdt (m:=34) (fun h=>by rw [h] at hd;exact absurd hd (by decide));have hst:=hQ (RunAt.start Qb2 s a (Nat.le_of_lt h0));clear hl;unfold maxLen at hs
 go_enter Tryz.func138,Tryz.ntmps138
 go_wp2_with (first | (go_at_call 160;refine (Qa5 _ _).mono ?_;rintro e w' ⟨rfl,rfl⟩) | (go_at_call 161;refine (Qbi _ _).mono ?_;rintro e w' ⟨rfl,rfl⟩) | (go_at_call 162;refine (Qb7 _ _).mono ?_;rintro e w' ⟨rfl,rfl⟩) | (go_at_call 163;refine (Qbc _ _).mono ?_;rintro e w' ⟨rfl,rfl⟩) | (go_at_call 164;refine (Qax _ _).mono ?_;rintro e w' ⟨rfl,rfl⟩))
 go_loop [7] (fun x=>∃ (k:Nat),a≤k∧k≤s.size∧x = .int .i64 k∧RunAt Qb2 s a k) (fun x=>s.size-(intOf x).toNat)
 case atStart=>exact ⟨a,xA _,Nat.le_of_lt h0,rfl,hst.out⟩
 case round =>
  obtain ⟨k,hak,hk,rfl,hrel⟩:=hrel;have HR:=hQ hrel;clear hrel hst
  by_cases hgo:∃ h:k<s.size,Qb2 s[k].toNat=true
  ·obtain ⟨hlt,hd'⟩:=hgo;go_wp2_with (first | (go_at_call 160;refine (Qa5 _ _).mono ?_;rintro e w' ⟨rfl,rfl⟩) | (go_at_call 161;refine (Qbi _ _).mono ?_;rintro e w' ⟨rfl,rfl⟩) | (go_at_call 162;refine (Qb7 _ _).mono ?_;rintro e w' ⟨rfl,rfl⟩) | (go_at_call 163;refine (Qbc _ _).mono ?_;rintro e w' ⟨rfl,rfl⟩) | (go_at_call 164;refine (Qax _ _).mono ?_;rintro e w' ⟨rfl,rfl⟩))
   go_round
   case rel=>exact ⟨k+1,by omega,by omega,by go_num,HR.out.next hlt hd'⟩
   case measure=>simp [intOf];omega
  ·have HN:Hid (Qds (suf s a)+a=k):=by
    unfold Qds
    by_cases hlt:k<s.size
    ·exact hQ (HR.out.stop hlt (by simpa using fun h=>hgo ⟨hlt,h⟩))
    ·exact hQ (HR.out.done hlt)
   by_cases h1:a+1<k
   ·have hgt:1<(k:Int)-(a:Int):=by omega
    by_cases h48:s[a].toNat=48
    ·have h48':((s[a].toNat:Int)==48)=true:=Qc6 h48;have HX:=hQ (HK.out.trans (Zdj h0 HN.out h1 h48));clear h48
     by_cases hlt:k<s.size
     all_goals
      first | (have hd':Qb2 s[k].toNat=false:=by simpa using fun h=>hgo ⟨hlt,h⟩) | skip
      clear hgo;go_wp2_with (first | (go_at_call 160;refine (Qa5 _ _).mono ?_;rintro e w' ⟨rfl,rfl⟩) | (go_at_call 161;refine (Qbi _ _).mono ?_;rintro e w' ⟨rfl,rfl⟩) | (go_at_call 162;refine (Qb7 _ _).mono ?_;rintro e w' ⟨rfl,rfl⟩) | (go_at_call 163;refine (Qbc _ _).mono ?_;rintro e w' ⟨rfl,rfl⟩) | (go_at_call 164;refine (Qax _ _).mono ?_;rintro e w' ⟨rfl,rfl⟩))
      exact bodyPost_ret (v:=.agg #[.int .i64 0,.int .i64 0,.int .i64 2,.int .i64 a]) (by simp [results,Tryz.results138,go_sem]) rfl ⟨Qeq 0 1 HX.out rfl (by omega),(xC _ _).alloc (xA _) _⟩
    ·have h48':((s[a].toNat:Int)==48)=false:=Qdt h48
     by_cases h15:a+15<k
     ·have hgt15:15<(k:Int)-(a:Int):=by omega
      have HX:=hQ (HK.out.trans (Zdk h0 HN.out (fun h=>h48 h.2) h15));clear h48
      by_cases hlt:k<s.size
      all_goals
       first | (have hd':Qb2 s[k].toNat=false:=by simpa using fun h=>hgo ⟨hlt,h⟩) | skip
       clear hgo;go_wp2_with (first | (go_at_call 160;refine (Qa5 _ _).mono ?_;rintro e w' ⟨rfl,rfl⟩) | (go_at_call 161;refine (Qbi _ _).mono ?_;rintro e w' ⟨rfl,rfl⟩) | (go_at_call 162;refine (Qb7 _ _).mono ?_;rintro e w' ⟨rfl,rfl⟩) | (go_at_call 163;refine (Qbc _ _).mono ?_;rintro e w' ⟨rfl,rfl⟩) | (go_at_call 164;refine (Qax _ _).mono ?_;rintro e w' ⟨rfl,rfl⟩))
       exact bodyPost_ret (v:=.agg #[.int .i64 0,.int .i64 0,.int .i64 3,.int .i64 a]) (by simp [results,Tryz.results138,go_sem]) rfl ⟨Qeq 0 2 HX.out rfl (by omega),(xC _ _).alloc (xA _) _⟩
     ·have hgt15:¬ 15<(k:Int)-(a:Int):=by omega
      have HX:=hQ (HK.out.trans (Ze6 h0 HN.out (fun h=>h48 h.2) h15));clear h48
      by_cases hlt:k<s.size
      all_goals
       first | (have hd':Qb2 s[k].toNat=false:=by simpa using fun h=>hgo ⟨hlt,h⟩) | skip
       clear hgo;go_wp2_with (first | (go_at_call 160;refine (Qa5 _ _).mono ?_;rintro e w' ⟨rfl,rfl⟩) | (go_at_call 161;refine (Qbi _ _).mono ?_;rintro e w' ⟨rfl,rfl⟩) | (go_at_call 162;refine (Qb7 _ _).mono ?_;rintro e w' ⟨rfl,rfl⟩) | (go_at_call 163;refine (Qbc _ _).mono ?_;rintro e w' ⟨rfl,rfl⟩) | (go_at_call 164;refine (Qax _ _).mono ?_;rintro e w' ⟨rfl,rfl⟩))
       exact bodyPost_ret (v:=.agg #[.int .i64 ((k:Int)-(a:Int)),.int .i64 5,.int .i64 0,.int .i64 0]) (by simp [results,Tryz.results138,go_sem]) rfl ⟨Qew 5 (k-a) HX.out (by omega) rfl,(xC _ _).alloc (xA _) _⟩
   ·have hgt:¬ 1<(k:Int)-(a:Int):=by omega
    have hgt15:¬ 15<(k:Int)-(a:Int):=by omega
    have HX:=hQ (HK.out.trans (Ze6 h0 HN.out (fun h=>h1 h.1) (by omega)))
    by_cases hlt:k<s.size
    all_goals
     first | (have hd':Qb2 s[k].toNat=false:=by simpa using fun h=>hgo ⟨hlt,h⟩) | skip
     clear hgo;go_wp2_with (first | (go_at_call 160;refine (Qa5 _ _).mono ?_;rintro e w' ⟨rfl,rfl⟩) | (go_at_call 161;refine (Qbi _ _).mono ?_;rintro e w' ⟨rfl,rfl⟩) | (go_at_call 162;refine (Qb7 _ _).mono ?_;rintro e w' ⟨rfl,rfl⟩) | (go_at_call 163;refine (Qbc _ _).mono ?_;rintro e w' ⟨rfl,rfl⟩) | (go_at_call 164;refine (Qax _ _).mono ?_;rintro e w' ⟨rfl,rfl⟩))
     exact bodyPost_ret (v:=.agg #[.int .i64 ((k:Int)-(a:Int)),.int .i64 5,.int .i64 0,.int .i64 0]) (by simp [results,Tryz.results138,go_sem]) rfl ⟨Qew 5 (k-a) HX.out (by omega) rfl,(xC _ _).alloc (xA _) _⟩
theorem Zdm (s:ByteArray) (a:Nat) (w:World) (h0:a<s.size) (hs:s.size<maxLen)
  (hw:Qav s[a].toNat=true→∀ w:World,Calls Tryz.prog 165 #[.string s,.int .i64 a] w (Qdr s a w)) :
  Calls Tryz.prog 138 #[.string s,.int .i64 a] w (Qgx (Qbg (suf s a)) a w):=by
 cases ha:Qap s[a].toNat
 ·exact Zdi s a w h0 hs ha
 ·cases hl:Qav s[a].toNat
  ·cases hd:Qb2 s[a].toNat
   ·by_cases h34:s[a].toNat=34
    ·exact Qzw s a w h0 hs h34
    ·exact Qzu s a w h0 hs ha hl hd h34
   ·exact Zdl s a w h0 hs ha hl hd
  ·cases hd:Qb2 s[a].toNat
   ·exact Qzv s a w h0 hs ha hl hd (hw hl)
   ·rw [Qqu hd] at hl;cases hl
end Go.Proofs.YtfjpemdejoejbaaGreat
