/- Part 26 -/
import Derived.Test.YtjidpkcjpgdafaaGreatSd25
set_option maxRecDepth 100000
set_option maxHeartbeats 4000000
namespace Go.Proofs.YtjidpkcjpgdafaaGreat
open Go.RowKit
def Qgx (t:Tk) (a:Nat) (w:World) (e:Ending) (w':World):Prop :=
 e = .returned (.agg #[.int .i64 (Qw7 t),.int .i64 t.kind,.int .i64 t.e,.int .i64 (iAt t a)])∧Below w.heap.size w w'
section
variable {s:ByteArray} {a:Nat}
theorem Zfg (h0:a<s.size) (ha:Qaq s[a].toNat=false):Qbe (suf s a)=⟨0,0,1⟩:=by
 unfold Qbe
 rw [Qb2 s a h0,xO ha]
theorem Zcg (h0:a<s.size) (ha:Qaq s[a].toNat=true) (hl:Qau s[a].toNat=true):Qbe (suf s a)=Qd1 (suf s a):=by
 unfold Qbe
 rw [Qb2 s a h0,xN (by simp [ha]),xO hl]
theorem Zfh (h0:a<s.size) (ha:Qaq s[a].toNat=true) (hl:Qau s[a].toNat=false) (hd:Qbz s[a].toNat=true):Qbe (suf s a)=Qi6 (suf s a):=by
 unfold Qbe
 rw [Qb2 s a h0,xN (by simp [ha]),xN (by simp [hl]),xO hd]
theorem Zch (h0:a<s.size) (h34:s[a].toNat=34):Qbe (suf s a)=Qc0 1 (suf s (a+1)):=by
 have ha:Qaq (34:Nat)=true:=by decide
 have hl:Qau (34:Nat)=false:=by decide
 have hd:Qbz (34:Nat)=false:=by decide
 unfold Qbe
 rw [Qb2 s a h0,h34,xN (by rw [ha];decide),xN (by rw [hl];decide),xN (by rw [hd];decide),xO rfl,Qe3]
theorem Zci (h0:a<s.size) (ha:Qaq s[a].toNat=true) (hl:Qau s[a].toNat=false) (hd:Qbz s[a].toNat=false) (h34:s[a].toNat≠34):Qbe (suf s a)=Qd9 (suf s a):=by
 unfold Qbe
 rw [Qb2 s a h0,xN (by simp [ha]),xN (by simp [hl]),xN (by simp [hd]),xN h34]
end
theorem Qqo {c:Int} (h:Qbz c=true):Qau c=false:=by
 unfold Qbz at h
 unfold Qau Qby Qh1
 simp at h ⊢
 omega
theorem Qqp {c:Int} (h:Qau c=false):Qby c=false∧Qh1 c=false:=by
 unfold Qau at h
 simpa using h
theorem Qsm {c:Nat} (hp:Qf6 c=false) (ha:Qaq c=true):c=92∨c=9∨c=10∨c=13:=by
 rw [Qh5,hp] at ha
 unfold Qd6 at ha
 unfold Qf6 at hp
 simp at ha hp
 omega
theorem Qsn {c:Nat} (hp:Qf6 c=true) (h92:c≠92):¬ (c=92∨c=9∨c=10∨c=13):=by
 unfold Qf6 at hp
 simp at hp
 omega
theorem Qn8 {w w1:World} {t:TypeId} (hb:Below (w.heap.size+1) (w.alloc (.cells #[.int .i64 0,.int .i64 0,.int .i64 0,.int .i64 0] t)) w1) :
  w1.cell? ⟨w.heap.size,0,none⟩=some (.int .i64 0)∧w1.cell? ⟨w.heap.size,1,none⟩=some (.int .i64 0)∧w1.cell? ⟨w.heap.size,2,none⟩=some (.int .i64 0)∧w1.cell? ⟨w.heap.size,3,none⟩=some (.int .i64 0) ∧
  w1.frozen? ⟨w.heap.size,0,none⟩=false∧w1.frozen? ⟨w.heap.size,1,none⟩=false∧w1.frozen? ⟨w.heap.size,2,none⟩=false∧w1.frozen? ⟨w.heap.size,3,none⟩=false∧w.heap.size<w1.heap.size∧Below w.heap.size w w1:=by
 have hlt:w.heap.size<w1.heap.size:=by have:=hb.size;simp at this;omega
 refine ⟨(hb.cell (p:=⟨w.heap.size,0,none⟩) (by simp)).trans (by simp),(hb.cell (p:=⟨w.heap.size,1,none⟩) (by simp)).trans (by simp),(hb.cell (p:=⟨w.heap.size,2,none⟩) (by simp)).trans (by simp),(hb.cell (p:=⟨w.heap.size,3,none⟩) (by simp)).trans (by simp),(hb.frozen (p:=⟨w.heap.size,0,none⟩) (by simp)).trans (by simp),(hb.frozen (p:=⟨w.heap.size,1,none⟩) (by simp)).trans (by simp),(hb.frozen (p:=⟨w.heap.size,2,none⟩) (by simp)).trans (by simp),(hb.frozen (p:=⟨w.heap.size,3,none⟩) (by simp)).trans (by simp),hlt,?_⟩
 exact ((xC _ w).alloc (xA _) _).trans (hb.mono (by omega))
theorem Zcj (s:ByteArray) (a:Nat) (w:World) (h0:a<s.size) (_hs:s.size<maxLen) (ha:Qaq s[a].toNat=false) :
  Calls Tryz.prog 236 #[.string s,.int .i64 a] w (Qgx (Qbe (suf s a)) a w):=by
 have HT:=hQ (Nat.le_of_lt _hs)
 go_enter Tryz.func236,Tryz.ntmps236
 go_wp2_with (first | (go_at_call 246;refine (Qa4 _ _).mono ?_;rintro e w' ⟨rfl,rfl⟩) | (go_at_call 247;refine (Qbg _ _).mono ?_;rintro e w' ⟨rfl,rfl⟩) | (go_at_call 248;refine (Qb4 _ _).mono ?_;rintro e w' ⟨rfl,rfl⟩) | (go_at_call 249;refine (Qba _ _).mono ?_;rintro e w' ⟨rfl,rfl⟩) | (go_at_call 250;refine (Qax _ _).mono ?_;rintro e w' ⟨rfl,rfl⟩) | (go_at_call 252;refine (Qic _ _ _ h0 HT.out).mono ?_;rintro e w' ⟨rfl,rfl⟩))
 exact bodyPost_ret (v:=.agg #[.int .i64 0,.int .i64 0,.int .i64 1,.int .i64 a]) (by simp [results,Tryz.results236,go_sem]) rfl ⟨Qep 0 0 (Zfg h0 ha) rfl (by omega),(xC _ _).alloc (xA _) _⟩
theorem Qy2 (s:ByteArray) (a:Nat) (w:World) (h0:a<s.size) (hs:s.size<maxLen) (ha:Qaq s[a].toNat=true) (hl:Qau s[a].toNat=false) (hd:Qbz s[a].toNat=false) (h34:s[a].toNat≠34) :
  Calls Tryz.prog 236 #[.string s,.int .i64 a] w (Qgx (Qbe (suf s a)) a w):=by
 have HT:=hQ (Nat.le_of_lt hs)
 have HK:=hQ (Zci h0 ha hl hd h34)
 have g34:((s[a].toNat:Int)==34)=false:=Qds h34
 obtain ⟨hu,hlo⟩:=Qqp hl
 clear h34 hs
 by_cases hz:Qbo (suf s a)=0
 ·have HZ:=hQ (show Qd9 (suf s a)=⟨0,0,2⟩ from by unfold Qd9;rw [xO hz])
  go_enter Tryz.func236,Tryz.ntmps236
  go_wp2_with (first | (go_at_call 246;refine (Qa4 _ _).mono ?_;rintro e w' ⟨rfl,rfl⟩) | (go_at_call 247;refine (Qbg _ _).mono ?_;rintro e w' ⟨rfl,rfl⟩) | (go_at_call 248;refine (Qb4 _ _).mono ?_;rintro e w' ⟨rfl,rfl⟩) | (go_at_call 249;refine (Qba _ _).mono ?_;rintro e w' ⟨rfl,rfl⟩) | (go_at_call 250;refine (Qax _ _).mono ?_;rintro e w' ⟨rfl,rfl⟩) | (go_at_call 252;refine (Qic _ _ _ h0 HT.out).mono ?_;rintro e w' ⟨rfl,rfl⟩))
  exact bodyPost_ret (v:=.agg #[.int .i64 0,.int .i64 0,.int .i64 2,.int .i64 a]) (by simp [results,Tryz.results236,go_sem]) rfl ⟨Qep 0 1 (HK.out.trans HZ.out) rfl (by omega),(xC _ _).alloc (xA _) _⟩
 ·have HZ:=hQ (show Qd9 (suf s a)=⟨8,Qbo (suf s a),0⟩ from by unfold Qd9;rw [xN hz])
  have hz':¬ ((Qbo (suf s a):Nat):Int)=0:=by omega
  clear hz
  go_enter Tryz.func236,Tryz.ntmps236
  go_wp2_with (first | (go_at_call 246;refine (Qa4 _ _).mono ?_;rintro e w' ⟨rfl,rfl⟩) | (go_at_call 247;refine (Qbg _ _).mono ?_;rintro e w' ⟨rfl,rfl⟩) | (go_at_call 248;refine (Qb4 _ _).mono ?_;rintro e w' ⟨rfl,rfl⟩) | (go_at_call 249;refine (Qba _ _).mono ?_;rintro e w' ⟨rfl,rfl⟩) | (go_at_call 250;refine (Qax _ _).mono ?_;rintro e w' ⟨rfl,rfl⟩) | (go_at_call 252;refine (Qic _ _ _ h0 HT.out).mono ?_;rintro e w' ⟨rfl,rfl⟩))
  exact bodyPost_ret (v:=.agg #[.int .i64 (Qbo (suf s a):Nat),.int .i64 8,.int .i64 0,.int .i64 0]) (by simp [results,Tryz.results236,go_sem]) rfl ⟨Qet 8 _ (HK.out.trans HZ.out) rfl rfl,(xC _ _).alloc (xA _) _⟩
theorem Qy3 (s:ByteArray) (a:Nat) (w:World) (h0:a<s.size) (hs:s.size<maxLen) (ha:Qaq s[a].toNat=true) (hl:Qau s[a].toNat=true) (hd:Qbz s[a].toNat=false)
  (hw:∀ w:World,Calls Tryz.prog 251 #[.string s,.int .i64 a] w (Qdp s a w)) :
  Calls Tryz.prog 236 #[.string s,.int .i64 a] w (Qgx (Qbe (suf s a)) a w):=by
 have HT:=hQ (Nat.le_of_lt hs)
 have HK:=hQ (Zcg h0 ha hl)
 have HW:=hQ hw
 have g34:((s[a].toNat:Int)==34)=false:=Qds (m:=34) (fun h=>by rw [h] at hl;exact absurd hl (by decide))
 have HU:=hQ (show Qau s[a].toNat=(Qby s[a].toNat || Qh1 s[a].toNat) from rfl)
 cases hu:Qby s[a].toNat
 ·cases hlo:Qh1 s[a].toNat
  ·exact absurd hl (by rw [HU.out,hu,hlo];decide)
  ·clear hs hw hl
   go_enter Tryz.func236,Tryz.ntmps236
   go_wp2_with (first | (go_at_call 246;refine (Qa4 _ _).mono ?_;rintro e w' ⟨rfl,rfl⟩) | (go_at_call 247;refine (Qbg _ _).mono ?_;rintro e w' ⟨rfl,rfl⟩) | (go_at_call 248;refine (Qb4 _ _).mono ?_;rintro e w' ⟨rfl,rfl⟩) | (go_at_call 249;refine (Qba _ _).mono ?_;rintro e w' ⟨rfl,rfl⟩) | (go_at_call 250;refine (Qax _ _).mono ?_;rintro e w' ⟨rfl,rfl⟩) | (go_at_call 252;refine (Qic _ _ _ h0 HT.out).mono ?_;rintro e w' ⟨rfl,rfl⟩) | (go_at_call 251;refine (HW.out _).mono ?_;rintro e w1 ⟨rfl,hb1⟩;have HI:=hQ (Qn8 (t:=253) (by simpa using hb1));clear hb1;obtain ⟨c0,c1,c2,c3,f0,f1,f2,f3,hz,HB⟩:=HI.out;clear HI;have HB:=hQ HB))
   exact bodyPost_ret (v:=.agg #[.int .i64 (Qw7 (Qd1 (suf s a))),.int .i64 (Qd1 (suf s a)).kind,.int .i64 (Qd1 (suf s a)).e,.int .i64 (iAt (Qd1 (suf s a)) a)]) (by simp [results,Tryz.results236,go_sem,c0,c1,c2,c3]) rfl ⟨Qtw (by rw [HK.out]) (by rw [HK.out]) (by rw [HK.out]) (by rw [HK.out]),(((HB.out.setCell (by simp) _).setCell (by simp) _).setCell (by simp) _).setCell (by simp) _⟩
 ·cases hlo:Qh1 s[a].toNat
  all_goals
   clear hs hw hl
   go_enter Tryz.func236,Tryz.ntmps236
   go_wp2_with (first | (go_at_call 246;refine (Qa4 _ _).mono ?_;rintro e w' ⟨rfl,rfl⟩) | (go_at_call 247;refine (Qbg _ _).mono ?_;rintro e w' ⟨rfl,rfl⟩) | (go_at_call 248;refine (Qb4 _ _).mono ?_;rintro e w' ⟨rfl,rfl⟩) | (go_at_call 249;refine (Qba _ _).mono ?_;rintro e w' ⟨rfl,rfl⟩) | (go_at_call 250;refine (Qax _ _).mono ?_;rintro e w' ⟨rfl,rfl⟩) | (go_at_call 252;refine (Qic _ _ _ h0 HT.out).mono ?_;rintro e w' ⟨rfl,rfl⟩) | (go_at_call 251;refine (HW.out _).mono ?_;rintro e w1 ⟨rfl,hb1⟩;have HI:=hQ (Qn8 (t:=253) (by simpa using hb1));clear hb1;obtain ⟨c0,c1,c2,c3,f0,f1,f2,f3,hz,HB⟩:=HI.out;clear HI;have HB:=hQ HB))
   exact bodyPost_ret (v:=.agg #[.int .i64 (Qw7 (Qd1 (suf s a))),.int .i64 (Qd1 (suf s a)).kind,.int .i64 (Qd1 (suf s a)).e,.int .i64 (iAt (Qd1 (suf s a)) a)]) (by simp [results,Tryz.results236,go_sem,c0,c1,c2,c3]) rfl ⟨Qtw (by rw [HK.out]) (by rw [HK.out]) (by rw [HK.out]) (by rw [HK.out]),(((HB.out.setCell (by simp) _).setCell (by simp) _).setCell (by simp) _).setCell (by simp) _⟩
theorem Qy4 (s:ByteArray) (a:Nat) (w:World) (h0:a<s.size) (hs:s.size<maxLen) (h34:s[a].toNat=34) :
  Calls Tryz.prog 236 #[.string s,.int .i64 a] w (Qgx (Qbe (suf s a)) a w):=by
 have HK:=hQ (Zch h0 h34)
 have g34:((s[a].toNat:Int)==34)=true:=Qc2 h34
 have ha:Qaq s[a].toNat=true:=by rw [h34];decide
 have hst:=hQ (QuotAt.start s a h0)
 clear h34
 unfold maxLen at hs
 go_enter Tryz.func236,Tryz.ntmps236
 go_wp2_with (first | (go_at_call 246;refine (Qa4 _ _).mono ?_;rintro e w' ⟨rfl,rfl⟩) | (go_at_call 247;refine (Qbg _ _).mono ?_;rintro e w' ⟨rfl,rfl⟩) | (go_at_call 248;refine (Qb4 _ _).mono ?_;rintro e w' ⟨rfl,rfl⟩) | (go_at_call 249;refine (Qba _ _).mono ?_;rintro e w' ⟨rfl,rfl⟩) | (go_at_call 250;refine (Qax _ _).mono ?_;rintro e w' ⟨rfl,rfl⟩))
 go_loop [6] (fun x=>∃ (k:Nat),a+1≤k∧k≤s.size∧x = .int .i64 k∧QuotAt s a k) (fun x=>s.size-(intOf x).toNat)
 case atStart=>exact ⟨a+1,xA _,h0,by go_num,hst.out⟩
 case round =>
  obtain ⟨k,h1,hk,rfl,hrel⟩:=hrel
  have HR:=hQ hrel
  clear hrel hst
  by_cases hlt:k<s.size
  ·by_cases h34:s[k].toNat=34
   ·have g34':((s[k].toNat:Int)==34)=true:=Qc2 h34
    have H34:=hQ h34
    clear h34
    go_wp2
    exact bodyPost_ret (v:=.agg #[.int .i64 ((k:Int)+1-(a:Int)),.int .i64 6,.int .i64 0,.int .i64 0]) (by simp [results,Tryz.results236,go_sem]) rfl ⟨Qet 6 (k-a+1) (HK.out.trans (HR.out.close hlt H34.out)) (by omega) rfl,(xC _ _).alloc (xA _) _⟩
   ·have g34':((s[k].toNat:Int)==34)=false:=Qds h34
    have H34:=hQ h34
    clear h34
    cases hal:Qaq s[k].toNat
    ·have HS:=hQ (show ¬ (s[k].toNat=92∨s[k].toNat=9∨s[k].toNat=10∨s[k].toNat=13) from fun h=>by rcases h with h | h | h | h <;> (rw [h] at hal;exact absurd hal (by decide)))
     go_wp2_with (first | (go_at_call 246;refine (Qa4 _ _).mono ?_;rintro e w' ⟨rfl,rfl⟩) | (go_at_call 247;refine (Qbg _ _).mono ?_;rintro e w' ⟨rfl,rfl⟩) | (go_at_call 248;refine (Qb4 _ _).mono ?_;rintro e w' ⟨rfl,rfl⟩) | (go_at_call 249;refine (Qba _ _).mono ?_;rintro e w' ⟨rfl,rfl⟩) | (go_at_call 250;refine (Qax _ _).mono ?_;rintro e w' ⟨rfl,rfl⟩))
     exact bodyPost_ret (v:=.agg #[.int .i64 0,.int .i64 0,.int .i64 1,.int .i64 k]) (by simp [results,Tryz.results236,go_sem]) rfl ⟨Qep (k-a) 0 (HK.out.trans (HR.out.bad hlt H34.out HS.out hal)) rfl (by omega),(xC _ _).alloc (xA _) _⟩
    ·cases hp:Qf6 s[k].toNat
     ·have HS:=hQ (Qsm hp hal)
      go_wp2_with (first | (go_at_call 246;refine (Qa4 _ _).mono ?_;rintro e w' ⟨rfl,rfl⟩) | (go_at_call 247;refine (Qbg _ _).mono ?_;rintro e w' ⟨rfl,rfl⟩) | (go_at_call 248;refine (Qb4 _ _).mono ?_;rintro e w' ⟨rfl,rfl⟩) | (go_at_call 249;refine (Qba _ _).mono ?_;rintro e w' ⟨rfl,rfl⟩) | (go_at_call 250;refine (Qax _ _).mono ?_;rintro e w' ⟨rfl,rfl⟩))
      exact bodyPost_ret (v:=.agg #[.int .i64 0,.int .i64 0,.int .i64 2,.int .i64 a]) (by simp [results,Tryz.results236,go_sem]) rfl ⟨Qep 0 1 (HK.out.trans (HR.out.stop hlt H34.out HS.out)) rfl (by omega),(xC _ _).alloc (xA _) _⟩
     ·by_cases h92:s[k].toNat=92
      ·have g92:((s[k].toNat:Int)==92)=true:=Qc2 h92
       have HS:=hQ (show s[k].toNat=92∨s[k].toNat=9∨s[k].toNat=10∨s[k].toNat=13 from .inl h92)
       clear h92
       go_wp2_with (first | (go_at_call 246;refine (Qa4 _ _).mono ?_;rintro e w' ⟨rfl,rfl⟩) | (go_at_call 247;refine (Qbg _ _).mono ?_;rintro e w' ⟨rfl,rfl⟩) | (go_at_call 248;refine (Qb4 _ _).mono ?_;rintro e w' ⟨rfl,rfl⟩) | (go_at_call 249;refine (Qba _ _).mono ?_;rintro e w' ⟨rfl,rfl⟩) | (go_at_call 250;refine (Qax _ _).mono ?_;rintro e w' ⟨rfl,rfl⟩))
       exact bodyPost_ret (v:=.agg #[.int .i64 0,.int .i64 0,.int .i64 2,.int .i64 a]) (by simp [results,Tryz.results236,go_sem]) rfl ⟨Qep 0 1 (HK.out.trans (HR.out.stop hlt H34.out HS.out)) rfl (by omega),(xC _ _).alloc (xA _) _⟩
      ·have g92:((s[k].toNat:Int)==92)=false:=Qds h92
       have HS:=hQ (Qsn hp h92)
       clear h92
       go_wp2_with (first | (go_at_call 246;refine (Qa4 _ _).mono ?_;rintro e w' ⟨rfl,rfl⟩) | (go_at_call 247;refine (Qbg _ _).mono ?_;rintro e w' ⟨rfl,rfl⟩) | (go_at_call 248;refine (Qb4 _ _).mono ?_;rintro e w' ⟨rfl,rfl⟩) | (go_at_call 249;refine (Qba _ _).mono ?_;rintro e w' ⟨rfl,rfl⟩) | (go_at_call 250;refine (Qax _ _).mono ?_;rintro e w' ⟨rfl,rfl⟩))
       go_round
       case rel=>exact ⟨k+1,by omega,by omega,by go_num,HR.out.next hlt H34.out HS.out hal⟩
       case measure=>simp [intOf];omega
  ·go_wp2
   exact bodyPost_ret (v:=.agg #[.int .i64 0,.int .i64 0,.int .i64 2,.int .i64 a]) (by simp [results,Tryz.results236,go_sem]) rfl ⟨Qep 0 1 (HK.out.trans (HR.out.done hlt)) rfl (by omega),(xC _ _).alloc (xA _) _⟩
theorem Zck {s:ByteArray} {a k:Nat} (h0:a<s.size) (hn:Qdr (suf s a)+a=k) (h1:a+1<k) (h48:s[a].toNat=48):Qi6 (suf s a)=⟨0,0,2⟩:=by
 unfold Qi6
 rw [Qb2 s a h0,xO ⟨by omega,h48⟩]
theorem Zcl {s:ByteArray} {a k:Nat} (h0:a<s.size) (hn:Qdr (suf s a)+a=k) (h1:¬ (a+1<k∧s[a].toNat=48)) (h15:a+15<k):Qi6 (suf s a)=⟨0,0,3⟩:=by
 unfold Qi6
 rw [Qb2 s a h0,xN (by omega),xO (by omega)]
theorem Zd1 {s:ByteArray} {a k:Nat} (h0:a<s.size) (hn:Qdr (suf s a)+a=k) (h1:¬ (a+1<k∧s[a].toNat=48)) (h15:¬ a+15<k):Qi6 (suf s a)=⟨5,k-a,0⟩:=by
 unfold Qi6
 rw [Qb2 s a h0,xN (by omega),xN (by omega),show Qdr (suf s a)=k-a from by omega]
theorem Zcm (s:ByteArray) (a:Nat) (w:World) (h0:a<s.size) (hs:s.size<maxLen) (ha:Qaq s[a].toNat=true) (hl:Qau s[a].toNat=false) (hd:Qbz s[a].toNat=true) :
  Calls Tryz.prog 236 #[.string s,.int .i64 a] w (Qgx (Qbe (suf s a)) a w):=by
 have HK:=hQ (Zfh h0 ha hl hd)
 have g34:((s[a].toNat:Int)==34)=false:=Qds (m:=34) (fun h=>by rw [h] at hd;exact absurd hd (by decide))
 have hst:=hQ (RunAt.start Qbz s a (Nat.le_of_lt h0))
 clear hl
 unfold maxLen at hs
 go_enter Tryz.func236,Tryz.ntmps236
 go_wp2_with (first | (go_at_call 246;refine (Qa4 _ _).mono ?_;rintro e w' ⟨rfl,rfl⟩) | (go_at_call 247;refine (Qbg _ _).mono ?_;rintro e w' ⟨rfl,rfl⟩) | (go_at_call 248;refine (Qb4 _ _).mono ?_;rintro e w' ⟨rfl,rfl⟩) | (go_at_call 249;refine (Qba _ _).mono ?_;rintro e w' ⟨rfl,rfl⟩) | (go_at_call 250;refine (Qax _ _).mono ?_;rintro e w' ⟨rfl,rfl⟩))
 go_loop [7] (fun x=>∃ (k:Nat),a≤k∧k≤s.size∧x = .int .i64 k∧RunAt Qbz s a k) (fun x=>s.size-(intOf x).toNat)
 case atStart=>exact ⟨a,xA _,Nat.le_of_lt h0,rfl,hst.out⟩
 case round =>
  obtain ⟨k,hak,hk,rfl,hrel⟩:=hrel
  have HR:=hQ hrel
  clear hrel hst
  by_cases hgo:∃ h:k<s.size,Qbz s[k].toNat=true
  ·obtain ⟨hlt,hd'⟩:=hgo
   go_wp2_with (first | (go_at_call 246;refine (Qa4 _ _).mono ?_;rintro e w' ⟨rfl,rfl⟩) | (go_at_call 247;refine (Qbg _ _).mono ?_;rintro e w' ⟨rfl,rfl⟩) | (go_at_call 248;refine (Qb4 _ _).mono ?_;rintro e w' ⟨rfl,rfl⟩) | (go_at_call 249;refine (Qba _ _).mono ?_;rintro e w' ⟨rfl,rfl⟩) | (go_at_call 250;refine (Qax _ _).mono ?_;rintro e w' ⟨rfl,rfl⟩))
   go_round
   case rel=>exact ⟨k+1,by omega,by omega,by go_num,HR.out.next hlt hd'⟩
   case measure=>simp [intOf];omega
  ·have HN:Hid (Qdr (suf s a)+a=k):=by
    unfold Qdr
    by_cases hlt:k<s.size
    ·exact hQ (HR.out.stop hlt (by simpa using fun h=>hgo ⟨hlt,h⟩))
    ·exact hQ (HR.out.done hlt)
   by_cases h1:a+1<k
   ·have hgt:1<(k:Int)-(a:Int):=by omega
    by_cases h48:s[a].toNat=48
    ·have h48':((s[a].toNat:Int)==48)=true:=Qc2 h48
     have HX:=hQ (HK.out.trans (Zck h0 HN.out h1 h48))
     clear h48
     by_cases hlt:k<s.size
     all_goals
      first | (have hd':Qbz s[k].toNat=false:=by simpa using fun h=>hgo ⟨hlt,h⟩) | skip
      clear hgo
      go_wp2_with (first | (go_at_call 246;refine (Qa4 _ _).mono ?_;rintro e w' ⟨rfl,rfl⟩) | (go_at_call 247;refine (Qbg _ _).mono ?_;rintro e w' ⟨rfl,rfl⟩) | (go_at_call 248;refine (Qb4 _ _).mono ?_;rintro e w' ⟨rfl,rfl⟩) | (go_at_call 249;refine (Qba _ _).mono ?_;rintro e w' ⟨rfl,rfl⟩) | (go_at_call 250;refine (Qax _ _).mono ?_;rintro e w' ⟨rfl,rfl⟩))
      exact bodyPost_ret (v:=.agg #[.int .i64 0,.int .i64 0,.int .i64 2,.int .i64 a]) (by simp [results,Tryz.results236,go_sem]) rfl ⟨Qep 0 1 HX.out rfl (by omega),(xC _ _).alloc (xA _) _⟩
    ·have h48':((s[a].toNat:Int)==48)=false:=Qds h48
     by_cases h15:a+15<k
     ·have hgt15:15<(k:Int)-(a:Int):=by omega
      have HX:=hQ (HK.out.trans (Zcl h0 HN.out (fun h=>h48 h.2) h15))
      clear h48
      by_cases hlt:k<s.size
      all_goals
       first | (have hd':Qbz s[k].toNat=false:=by simpa using fun h=>hgo ⟨hlt,h⟩) | skip
       clear hgo
       go_wp2_with (first | (go_at_call 246;refine (Qa4 _ _).mono ?_;rintro e w' ⟨rfl,rfl⟩) | (go_at_call 247;refine (Qbg _ _).mono ?_;rintro e w' ⟨rfl,rfl⟩) | (go_at_call 248;refine (Qb4 _ _).mono ?_;rintro e w' ⟨rfl,rfl⟩) | (go_at_call 249;refine (Qba _ _).mono ?_;rintro e w' ⟨rfl,rfl⟩) | (go_at_call 250;refine (Qax _ _).mono ?_;rintro e w' ⟨rfl,rfl⟩))
       exact bodyPost_ret (v:=.agg #[.int .i64 0,.int .i64 0,.int .i64 3,.int .i64 a]) (by simp [results,Tryz.results236,go_sem]) rfl ⟨Qep 0 2 HX.out rfl (by omega),(xC _ _).alloc (xA _) _⟩
     ·have hgt15:¬ 15<(k:Int)-(a:Int):=by omega
      have HX:=hQ (HK.out.trans (Zd1 h0 HN.out (fun h=>h48 h.2) h15))
      clear h48
      by_cases hlt:k<s.size
      all_goals
       first | (have hd':Qbz s[k].toNat=false:=by simpa using fun h=>hgo ⟨hlt,h⟩) | skip
       clear hgo
       go_wp2_with (first | (go_at_call 246;refine (Qa4 _ _).mono ?_;rintro e w' ⟨rfl,rfl⟩) | (go_at_call 247;refine (Qbg _ _).mono ?_;rintro e w' ⟨rfl,rfl⟩) | (go_at_call 248;refine (Qb4 _ _).mono ?_;rintro e w' ⟨rfl,rfl⟩) | (go_at_call 249;refine (Qba _ _).mono ?_;rintro e w' ⟨rfl,rfl⟩) | (go_at_call 250;refine (Qax _ _).mono ?_;rintro e w' ⟨rfl,rfl⟩))
       exact bodyPost_ret (v:=.agg #[.int .i64 ((k:Int)-(a:Int)),.int .i64 5,.int .i64 0,.int .i64 0]) (by simp [results,Tryz.results236,go_sem]) rfl ⟨Qet 5 (k-a) HX.out (by omega) rfl,(xC _ _).alloc (xA _) _⟩
   ·have hgt:¬ 1<(k:Int)-(a:Int):=by omega
    have hgt15:¬ 15<(k:Int)-(a:Int):=by omega
    have HX:=hQ (HK.out.trans (Zd1 h0 HN.out (fun h=>h1 h.1) (by omega)))
    by_cases hlt:k<s.size
    all_goals
     first | (have hd':Qbz s[k].toNat=false:=by simpa using fun h=>hgo ⟨hlt,h⟩) | skip
     clear hgo
     go_wp2_with (first | (go_at_call 246;refine (Qa4 _ _).mono ?_;rintro e w' ⟨rfl,rfl⟩) | (go_at_call 247;refine (Qbg _ _).mono ?_;rintro e w' ⟨rfl,rfl⟩) | (go_at_call 248;refine (Qb4 _ _).mono ?_;rintro e w' ⟨rfl,rfl⟩) | (go_at_call 249;refine (Qba _ _).mono ?_;rintro e w' ⟨rfl,rfl⟩) | (go_at_call 250;refine (Qax _ _).mono ?_;rintro e w' ⟨rfl,rfl⟩))
     exact bodyPost_ret (v:=.agg #[.int .i64 ((k:Int)-(a:Int)),.int .i64 5,.int .i64 0,.int .i64 0]) (by simp [results,Tryz.results236,go_sem]) rfl ⟨Qet 5 (k-a) HX.out (by omega) rfl,(xC _ _).alloc (xA _) _⟩
theorem Zcn (s:ByteArray) (a:Nat) (w:World) (h0:a<s.size) (hs:s.size<maxLen)
  (hw:Qau s[a].toNat=true→∀ w:World,Calls Tryz.prog 251 #[.string s,.int .i64 a] w (Qdp s a w)) :
  Calls Tryz.prog 236 #[.string s,.int .i64 a] w (Qgx (Qbe (suf s a)) a w):=by
 cases ha:Qaq s[a].toNat
 ·exact Zcj s a w h0 hs ha
 ·cases hl:Qau s[a].toNat
  ·cases hd:Qbz s[a].toNat
   ·by_cases h34:s[a].toNat=34
    ·exact Qy4 s a w h0 hs h34
    ·exact Qy2 s a w h0 hs ha hl hd h34
   ·exact Zcm s a w h0 hs ha hl hd
  ·cases hd:Qbz s[a].toNat
   ·exact Qy3 s a w h0 hs ha hl hd (hw hl)
   ·rw [Qqo hd] at hl
    cases hl
end Go.Proofs.YtjidpkcjpgdafaaGreat
