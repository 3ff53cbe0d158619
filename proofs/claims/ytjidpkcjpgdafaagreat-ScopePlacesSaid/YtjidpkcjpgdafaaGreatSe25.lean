/- Part 25 -/
import Derived.Test.YtjidpkcjpgdafaaGreatSe24
set_option maxRecDepth 100000
set_option maxHeartbeats 4000000
namespace Go.Proofs.YtjidpkcjpgdafaaGreat
open Go.RowKit
def Qg0 (t:Tk) (a:Nat) (w:World) (e:Ending) (w':World):Prop :=
 e = .returned (.agg #[.int .i64 (Qxc t),.int .i64 t.kind,.int .i64 t.e,.int .i64 (iAt t a)])∧Below w.heap.size w w'
section
variable {s:ByteArray} {a:Nat}
theorem Zfk (h0:a<s.size) (ha:Qaq s[a].toNat=false):Qbe (suf s a)=⟨0,0,1⟩:=by
 unfold Qbe;rw [Qb3 s a h0,xO ha]
theorem Zcn (h0:a<s.size) (ha:Qaq s[a].toNat=true) (hl:Qau s[a].toNat=true):Qbe (suf s a)=Qd1 (suf s a):=by
 unfold Qbe;rw [Qb3 s a h0,xN (by simp [ha]),xO hl]
theorem Zfl (h0:a<s.size) (ha:Qaq s[a].toNat=true) (hl:Qau s[a].toNat=false) (hd:Qb0 s[a].toNat=true):Qbe (suf s a)=Qi6 (suf s a):=by
 unfold Qbe;rw [Qb3 s a h0,xN (by simp [ha]),xN (by simp [hl]),xO hd]
theorem Zco (h0:a<s.size) (h34:s[a].toNat=34):Qbe (suf s a)=Qc1 1 (suf s (a+1)):=by
 have ha:Qaq (34:Nat)=true:=by decide
 have hl:Qau (34:Nat)=false:=by decide
 have hd:Qb0 (34:Nat)=false:=by decide
 unfold Qbe;rw [Qb3 s a h0,h34,xN (by rw [ha];decide),xN (by rw [hl];decide),xN (by rw [hd];decide),xO rfl,Qe5]
theorem Zcp (h0:a<s.size) (ha:Qaq s[a].toNat=true) (hl:Qau s[a].toNat=false) (hd:Qb0 s[a].toNat=false) (h34:s[a].toNat≠34):Qbe (suf s a)=Qd9 (suf s a):=by
 unfold Qbe;rw [Qb3 s a h0,xN (by simp [ha]),xN (by simp [hl]),xN (by simp [hd]),xN h34]
end
theorem Qqz {c:Int} (h:Qb0 c=true):Qau c=false:=by
 unfold Qb0 at h;unfold Qau Qbz Qh3;simp at h ⊢
 omega
theorem Qq0 {c:Int} (h:Qau c=false):Qbz c=false∧Qh3 c=false:=by
 unfold Qau at h
 simpa using h
theorem Qsv {c:Nat} (hp:Qf9 c=false) (ha:Qaq c=true):c=92∨c=9∨c=10∨c=13:=by
 rw [Qh5,hp] at ha;unfold Qd6 at ha;unfold Qf9 at hp;simp at ha hp
 omega
theorem Qsw {c:Nat} (hp:Qf9 c=true) (h92:c≠92):¬ (c=92∨c=9∨c=10∨c=13):=by
 unfold Qf9 at hp;simp at hp
 omega
theorem Qom {w w1:World} {t:TypeId} (hb:Below (w.heap.size+1) (w.alloc (.cells #[.int .i64 0,.int .i64 0,.int .i64 0,.int .i64 0] t)) w1) :
  w1.cell? ⟨w.heap.size,0,none⟩=some (.int .i64 0)∧w1.cell? ⟨w.heap.size,1,none⟩=some (.int .i64 0)∧w1.cell? ⟨w.heap.size,2,none⟩=some (.int .i64 0)∧w1.cell? ⟨w.heap.size,3,none⟩=some (.int .i64 0) ∧
  w1.frozen? ⟨w.heap.size,0,none⟩=false∧w1.frozen? ⟨w.heap.size,1,none⟩=false∧w1.frozen? ⟨w.heap.size,2,none⟩=false∧w1.frozen? ⟨w.heap.size,3,none⟩=false∧w.heap.size<w1.heap.size∧Below w.heap.size w w1:=by
 have hlt:w.heap.size<w1.heap.size:=by have:=hb.size;simp at this;omega
 refine ⟨(hb.cell (p:=⟨w.heap.size,0,none⟩) (by simp)).trans (by simp),(hb.cell (p:=⟨w.heap.size,1,none⟩) (by simp)).trans (by simp),(hb.cell (p:=⟨w.heap.size,2,none⟩) (by simp)).trans (by simp),(hb.cell (p:=⟨w.heap.size,3,none⟩) (by simp)).trans (by simp),(hb.frozen (p:=⟨w.heap.size,0,none⟩) (by simp)).trans (by simp),(hb.frozen (p:=⟨w.heap.size,1,none⟩) (by simp)).trans (by simp),(hb.frozen (p:=⟨w.heap.size,2,none⟩) (by simp)).trans (by simp),(hb.frozen (p:=⟨w.heap.size,3,none⟩) (by simp)).trans (by simp),hlt,?_⟩;exact ((xC _ w).alloc (xA _) _).trans (hb.mono (by omega))
theorem Zcq (s:ByteArray) (a:Nat) (w:World) (h0:a<s.size) (_hs:s.size<maxLen) (ha:Qaq s[a].toNat=false) :
  Calls Tryz.prog 236 #[.string s,.int .i64 a] w (Qg0 (Qbe (suf s a)) a w):=by
 have HT:=hQ (Nat.le_of_lt _hs)
 go_enter Tryz.func236,Tryz.ntmps236
 go_wp2_with (first | (go_at_call 246;refine (Qa4 _ _).mono ?_;rintro e w' ⟨rfl,rfl⟩) | (go_at_call 247;refine (Qbg _ _).mono ?_;rintro e w' ⟨rfl,rfl⟩) | (go_at_call 248;refine (Qb4 _ _).mono ?_;rintro e w' ⟨rfl,rfl⟩) | (go_at_call 249;refine (Qba _ _).mono ?_;rintro e w' ⟨rfl,rfl⟩) | (go_at_call 250;refine (Qax _ _).mono ?_;rintro e w' ⟨rfl,rfl⟩) | (go_at_call 252;refine (Qic _ _ _ h0 HT.out).mono ?_;rintro e w' ⟨rfl,rfl⟩))
 exact bodyPost_ret (v:=.agg #[.int .i64 0,.int .i64 0,.int .i64 1,.int .i64 a]) (by simp [results,Tryz.results236,go_sem]) rfl ⟨Qer 0 0 (Zfk h0 ha) rfl (by omega),(xC _ _).alloc (xA _) _⟩
theorem Qy7 (s:ByteArray) (a:Nat) (w:World) (h0:a<s.size) (hs:s.size<maxLen) (ha:Qaq s[a].toNat=true) (hl:Qau s[a].toNat=false) (hd:Qb0 s[a].toNat=false) (h34:s[a].toNat≠34) :
  Calls Tryz.prog 236 #[.string s,.int .i64 a] w (Qg0 (Qbe (suf s a)) a w):=by
 have HT:=hQ (Nat.le_of_lt hs);have HK:=hQ (Zcp h0 ha hl hd h34);have g34:((s[a].toNat:Int)==34)=false:=Qdq h34;obtain ⟨hu,hlo⟩:=Qq0 hl;clear h34 hs
 by_cases hz:Qbn (suf s a)=0
 ·have HZ:=hQ (show Qd9 (suf s a)=⟨0,0,2⟩ from by unfold Qd9;rw [xO hz])
  go_enter Tryz.func236,Tryz.ntmps236
  go_wp2_with (first | (go_at_call 246;refine (Qa4 _ _).mono ?_;rintro e w' ⟨rfl,rfl⟩) | (go_at_call 247;refine (Qbg _ _).mono ?_;rintro e w' ⟨rfl,rfl⟩) | (go_at_call 248;refine (Qb4 _ _).mono ?_;rintro e w' ⟨rfl,rfl⟩) | (go_at_call 249;refine (Qba _ _).mono ?_;rintro e w' ⟨rfl,rfl⟩) | (go_at_call 250;refine (Qax _ _).mono ?_;rintro e w' ⟨rfl,rfl⟩) | (go_at_call 252;refine (Qic _ _ _ h0 HT.out).mono ?_;rintro e w' ⟨rfl,rfl⟩))
  exact bodyPost_ret (v:=.agg #[.int .i64 0,.int .i64 0,.int .i64 2,.int .i64 a]) (by simp [results,Tryz.results236,go_sem]) rfl ⟨Qer 0 1 (HK.out.trans HZ.out) rfl (by omega),(xC _ _).alloc (xA _) _⟩
 ·have HZ:=hQ (show Qd9 (suf s a)=⟨8,Qbn (suf s a),0⟩ from by unfold Qd9;rw [xN hz]);have hz':¬ ((Qbn (suf s a):Nat):Int)=0:=by omega
  clear hz
  go_enter Tryz.func236,Tryz.ntmps236
  go_wp2_with (first | (go_at_call 246;refine (Qa4 _ _).mono ?_;rintro e w' ⟨rfl,rfl⟩) | (go_at_call 247;refine (Qbg _ _).mono ?_;rintro e w' ⟨rfl,rfl⟩) | (go_at_call 248;refine (Qb4 _ _).mono ?_;rintro e w' ⟨rfl,rfl⟩) | (go_at_call 249;refine (Qba _ _).mono ?_;rintro e w' ⟨rfl,rfl⟩) | (go_at_call 250;refine (Qax _ _).mono ?_;rintro e w' ⟨rfl,rfl⟩) | (go_at_call 252;refine (Qic _ _ _ h0 HT.out).mono ?_;rintro e w' ⟨rfl,rfl⟩))
  exact bodyPost_ret (v:=.agg #[.int .i64 (Qbn (suf s a):Nat),.int .i64 8,.int .i64 0,.int .i64 0]) (by simp [results,Tryz.results236,go_sem]) rfl ⟨Qev 8 _ (HK.out.trans HZ.out) rfl rfl,(xC _ _).alloc (xA _) _⟩
theorem Qy8 (s:ByteArray) (a:Nat) (w:World) (h0:a<s.size) (hs:s.size<maxLen) (ha:Qaq s[a].toNat=true) (hl:Qau s[a].toNat=true) (hd:Qb0 s[a].toNat=false)
  (hw:∀ w:World,Calls Tryz.prog 251 #[.string s,.int .i64 a] w (Qdo s a w)) :
  Calls Tryz.prog 236 #[.string s,.int .i64 a] w (Qg0 (Qbe (suf s a)) a w):=by
 have HT:=hQ (Nat.le_of_lt hs);have HK:=hQ (Zcn h0 ha hl);have HW:=hQ hw;have g34:((s[a].toNat:Int)==34)=false:=Qdq (m:=34) (fun h=>by rw [h] at hl;exact absurd hl (by decide));have HU:=hQ (show Qau s[a].toNat=(Qbz s[a].toNat || Qh3 s[a].toNat) from rfl)
 cases hu:Qbz s[a].toNat
 ·cases hlo:Qh3 s[a].toNat
  ·exact absurd hl (by rw [HU.out,hu,hlo];decide)
  ·clear hs hw hl
   go_enter Tryz.func236,Tryz.ntmps236
   go_wp2_with (first | (go_at_call 246;refine (Qa4 _ _).mono ?_;rintro e w' ⟨rfl,rfl⟩) | (go_at_call 247;refine (Qbg _ _).mono ?_;rintro e w' ⟨rfl,rfl⟩) | (go_at_call 248;refine (Qb4 _ _).mono ?_;rintro e w' ⟨rfl,rfl⟩) | (go_at_call 249;refine (Qba _ _).mono ?_;rintro e w' ⟨rfl,rfl⟩) | (go_at_call 250;refine (Qax _ _).mono ?_;rintro e w' ⟨rfl,rfl⟩) | (go_at_call 252;refine (Qic _ _ _ h0 HT.out).mono ?_;rintro e w' ⟨rfl,rfl⟩) | (go_at_call 251;refine (HW.out _).mono ?_;rintro e w1 ⟨rfl,hb1⟩;have HI:=hQ (Qom (t:=253) (by simpa using hb1));clear hb1;obtain ⟨c0,c1,c2,c3,f0,f1,f2,f3,hz,HB⟩:=HI.out;clear HI;have HB:=hQ HB))
   exact bodyPost_ret (v:=.agg #[.int .i64 (Qxc (Qd1 (suf s a))),.int .i64 (Qd1 (suf s a)).kind,.int .i64 (Qd1 (suf s a)).e,.int .i64 (iAt (Qd1 (suf s a)) a)]) (by simp [results,Tryz.results236,go_sem,c0,c1,c2,c3]) rfl ⟨Qt5 (by rw [HK.out]) (by rw [HK.out]) (by rw [HK.out]) (by rw [HK.out]),(((HB.out.setCell (by simp) _).setCell (by simp) _).setCell (by simp) _).setCell (by simp) _⟩
 ·cases hlo:Qh3 s[a].toNat
  all_goals
   clear hs hw hl
   go_enter Tryz.func236,Tryz.ntmps236
   go_wp2_with (first | (go_at_call 246;refine (Qa4 _ _).mono ?_;rintro e w' ⟨rfl,rfl⟩) | (go_at_call 247;refine (Qbg _ _).mono ?_;rintro e w' ⟨rfl,rfl⟩) | (go_at_call 248;refine (Qb4 _ _).mono ?_;rintro e w' ⟨rfl,rfl⟩) | (go_at_call 249;refine (Qba _ _).mono ?_;rintro e w' ⟨rfl,rfl⟩) | (go_at_call 250;refine (Qax _ _).mono ?_;rintro e w' ⟨rfl,rfl⟩) | (go_at_call 252;refine (Qic _ _ _ h0 HT.out).mono ?_;rintro e w' ⟨rfl,rfl⟩) | (go_at_call 251;refine (HW.out _).mono ?_;rintro e w1 ⟨rfl,hb1⟩;have HI:=hQ (Qom (t:=253) (by simpa using hb1));clear hb1;obtain ⟨c0,c1,c2,c3,f0,f1,f2,f3,hz,HB⟩:=HI.out;clear HI;have HB:=hQ HB))
   exact bodyPost_ret (v:=.agg #[.int .i64 (Qxc (Qd1 (suf s a))),.int .i64 (Qd1 (suf s a)).kind,.int .i64 (Qd1 (suf s a)).e,.int .i64 (iAt (Qd1 (suf s a)) a)]) (by simp [results,Tryz.results236,go_sem,c0,c1,c2,c3]) rfl ⟨Qt5 (by rw [HK.out]) (by rw [HK.out]) (by rw [HK.out]) (by rw [HK.out]),(((HB.out.setCell (by simp) _).setCell (by simp) _).setCell (by simp) _).setCell (by simp) _⟩
theorem Qy9 (s:ByteArray) (a:Nat) (w:World) (h0:a<s.size) (hs:s.size<maxLen) (h34:s[a].toNat=34) :
  Calls Tryz.prog 236 #[.string s,.int .i64 a] w (Qg0 (Qbe (suf s a)) a w):=by
 have HK:=hQ (Zco h0 h34);have g34:((s[a].toNat:Int)==34)=true:=Qc3 h34;have ha:Qaq s[a].toNat=true:=by rw [h34];decide
 have hst:=hQ (QuotAt.start s a h0);clear h34;unfold maxLen at hs
 go_enter Tryz.func236,Tryz.ntmps236
 go_wp2_with (first | (go_at_call 246;refine (Qa4 _ _).mono ?_;rintro e w' ⟨rfl,rfl⟩) | (go_at_call 247;refine (Qbg _ _).mono ?_;rintro e w' ⟨rfl,rfl⟩) | (go_at_call 248;refine (Qb4 _ _).mono ?_;rintro e w' ⟨rfl,rfl⟩) | (go_at_call 249;refine (Qba _ _).mono ?_;rintro e w' ⟨rfl,rfl⟩) | (go_at_call 250;refine (Qax _ _).mono ?_;rintro e w' ⟨rfl,rfl⟩))
 go_loop [6] (fun x=>∃ (k:Nat),a+1≤k∧k≤s.size∧x = .int .i64 k∧QuotAt s a k) (fun x=>s.size-(intOf x).toNat)
 case atStart=>exact ⟨a+1,xA _,h0,by go_num,hst.out⟩
 case round =>
  obtain ⟨k,h1,hk,rfl,hrel⟩:=hrel;have HR:=hQ hrel;clear hrel hst
  by_cases hlt:k<s.size
  ·by_cases h34:s[k].toNat=34
   ·have g34':((s[k].toNat:Int)==34)=true:=Qc3 h34;have H34:=hQ h34;clear h34
    go_wp2
    exact bodyPost_ret (v:=.agg #[.int .i64 ((k:Int)+1-(a:Int)),.int .i64 6,.int .i64 0,.int .i64 0]) (by simp [results,Tryz.results236,go_sem]) rfl ⟨Qev 6 (k-a+1) (HK.out.trans (HR.out.close hlt H34.out)) (by omega) rfl,(xC _ _).alloc (xA _) _⟩
   ·have g34':((s[k].toNat:Int)==34)=false:=Qdq h34;have H34:=hQ h34;clear h34
    cases hal:Qaq s[k].toNat
    ·have HS:=hQ (show ¬ (s[k].toNat=92∨s[k].toNat=9∨s[k].toNat=10∨s[k].toNat=13) from fun h=>by rcases h with h | h | h | h <;> (rw [h] at hal;exact absurd hal (by decide)));go_wp2_with (first | (go_at_call 246;refine (Qa4 _ _).mono ?_;rintro e w' ⟨rfl,rfl⟩) | (go_at_call 247;refine (Qbg _ _).mono ?_;rintro e w' ⟨rfl,rfl⟩) | (go_at_call 248;refine (Qb4 _ _).mono ?_;rintro e w' ⟨rfl,rfl⟩) | (go_at_call 249;refine (Qba _ _).mono ?_;rintro e w' ⟨rfl,rfl⟩) | (go_at_call 250;refine (Qax _ _).mono ?_;rintro e w' ⟨rfl,rfl⟩))
     exact bodyPost_ret (v:=.agg #[.int .i64 0,.int .i64 0,.int .i64 1,.int .i64 k]) (by simp [results,Tryz.results236,go_sem]) rfl ⟨Qer (k-a) 0 (HK.out.trans (HR.out.bad hlt H34.out HS.out hal)) rfl (by omega),(xC _ _).alloc (xA _) _⟩
    ·cases hp:Qf9 s[k].toNat
     ·have HS:=hQ (Qsv hp hal);go_wp2_with (first | (go_at_call 246;refine (Qa4 _ _).mono ?_;rintro e w' ⟨rfl,rfl⟩) | (go_at_call 247;refine (Qbg _ _).mono ?_;rintro e w' ⟨rfl,rfl⟩) | (go_at_call 248;refine (Qb4 _ _).mono ?_;rintro e w' ⟨rfl,rfl⟩) | (go_at_call 249;refine (Qba _ _).mono ?_;rintro e w' ⟨rfl,rfl⟩) | (go_at_call 250;refine (Qax _ _).mono ?_;rintro e w' ⟨rfl,rfl⟩))
      exact bodyPost_ret (v:=.agg #[.int .i64 0,.int .i64 0,.int .i64 2,.int .i64 a]) (by simp [results,Tryz.results236,go_sem]) rfl ⟨Qer 0 1 (HK.out.trans (HR.out.stop hlt H34.out HS.out)) rfl (by omega),(xC _ _).alloc (xA _) _⟩
     ·by_cases h92:s[k].toNat=92
      ·have g92:((s[k].toNat:Int)==92)=true:=Qc3 h92;have HS:=hQ (show s[k].toNat=92∨s[k].toNat=9∨s[k].toNat=10∨s[k].toNat=13 from .inl h92);clear h92;go_wp2_with (first | (go_at_call 246;refine (Qa4 _ _).mono ?_;rintro e w' ⟨rfl,rfl⟩) | (go_at_call 247;refine (Qbg _ _).mono ?_;rintro e w' ⟨rfl,rfl⟩) | (go_at_call 248;refine (Qb4 _ _).mono ?_;rintro e w' ⟨rfl,rfl⟩) | (go_at_call 249;refine (Qba _ _).mono ?_;rintro e w' ⟨rfl,rfl⟩) | (go_at_call 250;refine (Qax _ _).mono ?_;rintro e w' ⟨rfl,rfl⟩))
       exact bodyPost_ret (v:=.agg #[.int .i64 0,.int .i64 0,.int .i64 2,.int .i64 a]) (by simp [results,Tryz.results236,go_sem]) rfl ⟨Qer 0 1 (HK.out.trans (HR.out.stop hlt H34.out HS.out)) rfl (by omega),(xC _ _).alloc (xA _) _⟩
      ·have g92:((s[k].toNat:Int)==92)=false:=Qdq h92;have HS:=hQ (Qsw hp h92);clear h92;go_wp2_with (first | (go_at_call 246;refine (Qa4 _ _).mono ?_;rintro e w' ⟨rfl,rfl⟩) | (go_at_call 247;refine (Qbg _ _).mono ?_;rintro e w' ⟨rfl,rfl⟩) | (go_at_call 248;refine (Qb4 _ _).mono ?_;rintro e w' ⟨rfl,rfl⟩) | (go_at_call 249;refine (Qba _ _).mono ?_;rintro e w' ⟨rfl,rfl⟩) | (go_at_call 250;refine (Qax _ _).mono ?_;rintro e w' ⟨rfl,rfl⟩))
       go_round
       case rel=>exact ⟨k+1,by omega,by omega,by go_num,HR.out.next hlt H34.out HS.out hal⟩
       case measure=>simp [intOf];omega
  ·go_wp2
   exact bodyPost_ret (v:=.agg #[.int .i64 0,.int .i64 0,.int .i64 2,.int .i64 a]) (by simp [results,Tryz.results236,go_sem]) rfl ⟨Qer 0 1 (HK.out.trans (HR.out.done hlt)) rfl (by omega),(xC _ _).alloc (xA _) _⟩
theorem Zcr {s:ByteArray} {a k:Nat} (h0:a<s.size) (hn:Qdp (suf s a)+a=k) (h1:a+1<k) (h48:s[a].toNat=48):Qi6 (suf s a)=⟨0,0,2⟩:=by
 unfold Qi6;rw [Qb3 s a h0,xO ⟨by omega,h48⟩]
theorem Zcs {s:ByteArray} {a k:Nat} (h0:a<s.size) (hn:Qdp (suf s a)+a=k) (h1:¬ (a+1<k∧s[a].toNat=48)) (h15:a+15<k):Qi6 (suf s a)=⟨0,0,3⟩:=by
 unfold Qi6;rw [Qb3 s a h0,xN (by omega),xO (by omega)]
theorem Zd7 {s:ByteArray} {a k:Nat} (h0:a<s.size) (hn:Qdp (suf s a)+a=k) (h1:¬ (a+1<k∧s[a].toNat=48)) (h15:¬ a+15<k):Qi6 (suf s a)=⟨5,k-a,0⟩:=by
 unfold Qi6;rw [Qb3 s a h0,xN (by omega),xN (by omega),show Qdp (suf s a)=k-a from by omega]
theorem Zct (s:ByteArray) (a:Nat) (w:World) (h0:a<s.size) (hs:s.size<maxLen) (ha:Qaq s[a].toNat=true) (hl:Qau s[a].toNat=false) (hd:Qb0 s[a].toNat=true) :
  Calls Tryz.prog 236 #[.string s,.int .i64 a] w (Qg0 (Qbe (suf s a)) a w):=by
 have HK:=hQ (Zfl h0 ha hl hd);have g34:((s[a].toNat:Int)==34)=false:=Qdq (m:=34) (fun h=>by rw [h] at hd;exact absurd hd (by decide));have hst:=hQ (RunAt.start Qb0 s a (Nat.le_of_lt h0));clear hl;unfold maxLen at hs
 go_enter Tryz.func236,Tryz.ntmps236
 go_wp2_with (first | (go_at_call 246;refine (Qa4 _ _).mono ?_;rintro e w' ⟨rfl,rfl⟩) | (go_at_call 247;refine (Qbg _ _).mono ?_;rintro e w' ⟨rfl,rfl⟩) | (go_at_call 248;refine (Qb4 _ _).mono ?_;rintro e w' ⟨rfl,rfl⟩) | (go_at_call 249;refine (Qba _ _).mono ?_;rintro e w' ⟨rfl,rfl⟩) | (go_at_call 250;refine (Qax _ _).mono ?_;rintro e w' ⟨rfl,rfl⟩))
 go_loop [7] (fun x=>∃ (k:Nat),a≤k∧k≤s.size∧x = .int .i64 k∧RunAt Qb0 s a k) (fun x=>s.size-(intOf x).toNat)
 case atStart=>exact ⟨a,xA _,Nat.le_of_lt h0,rfl,hst.out⟩
 case round =>
  obtain ⟨k,hak,hk,rfl,hrel⟩:=hrel;have HR:=hQ hrel;clear hrel hst
  by_cases hgo:∃ h:k<s.size,Qb0 s[k].toNat=true
  ·obtain ⟨hlt,hd'⟩:=hgo;go_wp2_with (first | (go_at_call 246;refine (Qa4 _ _).mono ?_;rintro e w' ⟨rfl,rfl⟩) | (go_at_call 247;refine (Qbg _ _).mono ?_;rintro e w' ⟨rfl,rfl⟩) | (go_at_call 248;refine (Qb4 _ _).mono ?_;rintro e w' ⟨rfl,rfl⟩) | (go_at_call 249;refine (Qba _ _).mono ?_;rintro e w' ⟨rfl,rfl⟩) | (go_at_call 250;refine (Qax _ _).mono ?_;rintro e w' ⟨rfl,rfl⟩))
   go_round
   case rel=>exact ⟨k+1,by omega,by omega,by go_num,HR.out.next hlt hd'⟩
   case measure=>simp [intOf];omega
  ·have HN:Hid (Qdp (suf s a)+a=k):=by
    unfold Qdp
    by_cases hlt:k<s.size
    ·exact hQ (HR.out.stop hlt (by simpa using fun h=>hgo ⟨hlt,h⟩))
    ·exact hQ (HR.out.done hlt)
   by_cases h1:a+1<k
   ·have hgt:1<(k:Int)-(a:Int):=by omega
    by_cases h48:s[a].toNat=48
    ·have h48':((s[a].toNat:Int)==48)=true:=Qc3 h48;have HX:=hQ (HK.out.trans (Zcr h0 HN.out h1 h48));clear h48
     by_cases hlt:k<s.size
     all_goals
      first | (have hd':Qb0 s[k].toNat=false:=by simpa using fun h=>hgo ⟨hlt,h⟩) | skip
      clear hgo;go_wp2_with (first | (go_at_call 246;refine (Qa4 _ _).mono ?_;rintro e w' ⟨rfl,rfl⟩) | (go_at_call 247;refine (Qbg _ _).mono ?_;rintro e w' ⟨rfl,rfl⟩) | (go_at_call 248;refine (Qb4 _ _).mono ?_;rintro e w' ⟨rfl,rfl⟩) | (go_at_call 249;refine (Qba _ _).mono ?_;rintro e w' ⟨rfl,rfl⟩) | (go_at_call 250;refine (Qax _ _).mono ?_;rintro e w' ⟨rfl,rfl⟩))
      exact bodyPost_ret (v:=.agg #[.int .i64 0,.int .i64 0,.int .i64 2,.int .i64 a]) (by simp [results,Tryz.results236,go_sem]) rfl ⟨Qer 0 1 HX.out rfl (by omega),(xC _ _).alloc (xA _) _⟩
    ·have h48':((s[a].toNat:Int)==48)=false:=Qdq h48
     by_cases h15:a+15<k
     ·have hgt15:15<(k:Int)-(a:Int):=by omega
      have HX:=hQ (HK.out.trans (Zcs h0 HN.out (fun h=>h48 h.2) h15));clear h48
      by_cases hlt:k<s.size
      all_goals
       first | (have hd':Qb0 s[k].toNat=false:=by simpa using fun h=>hgo ⟨hlt,h⟩) | skip
       clear hgo;go_wp2_with (first | (go_at_call 246;refine (Qa4 _ _).mono ?_;rintro e w' ⟨rfl,rfl⟩) | (go_at_call 247;refine (Qbg _ _).mono ?_;rintro e w' ⟨rfl,rfl⟩) | (go_at_call 248;refine (Qb4 _ _).mono ?_;rintro e w' ⟨rfl,rfl⟩) | (go_at_call 249;refine (Qba _ _).mono ?_;rintro e w' ⟨rfl,rfl⟩) | (go_at_call 250;refine (Qax _ _).mono ?_;rintro e w' ⟨rfl,rfl⟩))
       exact bodyPost_ret (v:=.agg #[.int .i64 0,.int .i64 0,.int .i64 3,.int .i64 a]) (by simp [results,Tryz.results236,go_sem]) rfl ⟨Qer 0 2 HX.out rfl (by omega),(xC _ _).alloc (xA _) _⟩
     ·have hgt15:¬ 15<(k:Int)-(a:Int):=by omega
      have HX:=hQ (HK.out.trans (Zd7 h0 HN.out (fun h=>h48 h.2) h15));clear h48
      by_cases hlt:k<s.size
      all_goals
       first | (have hd':Qb0 s[k].toNat=false:=by simpa using fun h=>hgo ⟨hlt,h⟩) | skip
       clear hgo;go_wp2_with (first | (go_at_call 246;refine (Qa4 _ _).mono ?_;rintro e w' ⟨rfl,rfl⟩) | (go_at_call 247;refine (Qbg _ _).mono ?_;rintro e w' ⟨rfl,rfl⟩) | (go_at_call 248;refine (Qb4 _ _).mono ?_;rintro e w' ⟨rfl,rfl⟩) | (go_at_call 249;refine (Qba _ _).mono ?_;rintro e w' ⟨rfl,rfl⟩) | (go_at_call 250;refine (Qax _ _).mono ?_;rintro e w' ⟨rfl,rfl⟩))
       exact bodyPost_ret (v:=.agg #[.int .i64 ((k:Int)-(a:Int)),.int .i64 5,.int .i64 0,.int .i64 0]) (by simp [results,Tryz.results236,go_sem]) rfl ⟨Qev 5 (k-a) HX.out (by omega) rfl,(xC _ _).alloc (xA _) _⟩
   ·have hgt:¬ 1<(k:Int)-(a:Int):=by omega
    have hgt15:¬ 15<(k:Int)-(a:Int):=by omega
    have HX:=hQ (HK.out.trans (Zd7 h0 HN.out (fun h=>h1 h.1) (by omega)))
    by_cases hlt:k<s.size
    all_goals
     first | (have hd':Qb0 s[k].toNat=false:=by simpa using fun h=>hgo ⟨hlt,h⟩) | skip
     clear hgo;go_wp2_with (first | (go_at_call 246;refine (Qa4 _ _).mono ?_;rintro e w' ⟨rfl,rfl⟩) | (go_at_call 247;refine (Qbg _ _).mono ?_;rintro e w' ⟨rfl,rfl⟩) | (go_at_call 248;refine (Qb4 _ _).mono ?_;rintro e w' ⟨rfl,rfl⟩) | (go_at_call 249;refine (Qba _ _).mono ?_;rintro e w' ⟨rfl,rfl⟩) | (go_at_call 250;refine (Qax _ _).mono ?_;rintro e w' ⟨rfl,rfl⟩))
     exact bodyPost_ret (v:=.agg #[.int .i64 ((k:Int)-(a:Int)),.int .i64 5,.int .i64 0,.int .i64 0]) (by simp [results,Tryz.results236,go_sem]) rfl ⟨Qev 5 (k-a) HX.out (by omega) rfl,(xC _ _).alloc (xA _) _⟩
theorem Zcu (s:ByteArray) (a:Nat) (w:World) (h0:a<s.size) (hs:s.size<maxLen)
  (hw:Qau s[a].toNat=true→∀ w:World,Calls Tryz.prog 251 #[.string s,.int .i64 a] w (Qdo s a w)) :
  Calls Tryz.prog 236 #[.string s,.int .i64 a] w (Qg0 (Qbe (suf s a)) a w):=by
 cases ha:Qaq s[a].toNat
 ·exact Zcq s a w h0 hs ha
 ·cases hl:Qau s[a].toNat
  ·cases hd:Qb0 s[a].toNat
   ·by_cases h34:s[a].toNat=34
    ·exact Qy9 s a w h0 hs h34
    ·exact Qy7 s a w h0 hs ha hl hd h34
   ·exact Zct s a w h0 hs ha hl hd
  ·cases hd:Qb0 s[a].toNat
   ·exact Qy8 s a w h0 hs ha hl hd (hw hl)
   ·rw [Qqz hd] at hl;cases hl
end Go.Proofs.YtjidpkcjpgdafaaGreat
