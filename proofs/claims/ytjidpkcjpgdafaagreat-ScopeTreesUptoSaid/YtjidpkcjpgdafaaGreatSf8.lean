/- Part 8 -/
import Derived.Test.YtjidpkcjpgdafaaGreatSf7
set_option maxRecDepth 100000
set_option maxHeartbeats 4000000
namespace Go.Proofs.YtjidpkcjpgdafaaGreat
open Go.RowKit
def Qfc (t:Tk) (a:Nat) (w:World) (e:Ending) (w':World):Prop :=
 e = .returned (.agg #[.int .i64 (Qvh t),.int .i64 t.kind,.int .i64 t.e,.int .i64 (iAt t a)])∧Below w.heap.size w w'
section
variable {s:ByteArray} {a:Nat}
theorem Qyr (h0:a<s.size) (ha:Qal s[a].toNat=false):Qbu (suf s a)=⟨0,0,1⟩:=by
 unfold Qbu
 rw [Qbf s a h0,xO ha]
theorem Qwf (h0:a<s.size) (ha:Qal s[a].toNat=true) (hl:Qai s[a].toNat=true):Qbu (suf s a)=Qcx (suf s a):=by
 unfold Qbu
 rw [Qbf s a h0,xN (by simp [ha]),xO hl]
theorem Qys (h0:a<s.size) (ha:Qal s[a].toNat=true) (hl:Qai s[a].toNat=false) (hd:Qbd s[a].toNat=true):Qbu (suf s a)=Qhc (suf s a):=by
 unfold Qbu
 rw [Qbf s a h0,xN (by simp [ha]),xN (by simp [hl]),xO hd]
theorem Qwg (h0:a<s.size) (h34:s[a].toNat=34):Qbu (suf s a)=Qb5 1 (suf s (a+1)):=by
 have ha:Qal (34:Nat)=true:=by decide
 have hl:Qai (34:Nat)=false:=by decide
 have hd:Qbd (34:Nat)=false:=by decide
 unfold Qbu
 rw [Qbf s a h0,h34,xN (by rw [ha];decide),xN (by rw [hl];decide),xN (by rw [hd];decide),xO rfl,Qd4]
theorem Qwh (h0:a<s.size) (ha:Qal s[a].toNat=true) (hl:Qai s[a].toNat=false) (hd:Qbd s[a].toNat=false) (h34:s[a].toNat≠34):Qbu (suf s a)=Qc5 (suf s a):=by
 unfold Qbu
 rw [Qbf s a h0,xN (by simp [ha]),xN (by simp [hl]),xN (by simp [hd]),xN h34]
end
theorem Qnw {c:Int} (h:Qbd c=true):Qai c=false:=by
 unfold Qbd at h
 unfold Qai Qbc Qgc
 simp at h ⊢
 omega
theorem Qnx {c:Int} (h:Qai c=false):Qbc c=false∧Qgc c=false:=by
 unfold Qai at h
 simpa using h
theorem Qpk {c:Nat} (hp:Qet c=false) (ha:Qal c=true):c=92∨c=9∨c=10∨c=13:=by
 rw [Qgg,hp] at ha
 unfold Qea at ha
 unfold Qet at hp
 simp at ha hp
 omega
theorem Qpl {c:Nat} (hp:Qet c=true) (h92:c≠92):¬ (c=92∨c=9∨c=10∨c=13):=by
 unfold Qet at hp
 simp at hp
 omega
theorem Qlw {w w1:World} {t:TypeId} (hb:Below (w.heap.size+1) (w.alloc (.cells #[.int .i64 0,.int .i64 0,.int .i64 0,.int .i64 0] t)) w1) :
  w1.cell? ⟨w.heap.size,0,none⟩=some (.int .i64 0)∧w1.cell? ⟨w.heap.size,1,none⟩=some (.int .i64 0)∧w1.cell? ⟨w.heap.size,2,none⟩=some (.int .i64 0)∧w1.cell? ⟨w.heap.size,3,none⟩=some (.int .i64 0) ∧
  w1.frozen? ⟨w.heap.size,0,none⟩=false∧w1.frozen? ⟨w.heap.size,1,none⟩=false∧w1.frozen? ⟨w.heap.size,2,none⟩=false∧w1.frozen? ⟨w.heap.size,3,none⟩=false∧w.heap.size<w1.heap.size∧Below w.heap.size w w1:=by
 have hlt:w.heap.size<w1.heap.size:=by have:=hb.size;simp at this;omega
 refine ⟨(hb.cell (p:=⟨w.heap.size,0,none⟩) (by simp)).trans (by simp),(hb.cell (p:=⟨w.heap.size,1,none⟩) (by simp)).trans (by simp),(hb.cell (p:=⟨w.heap.size,2,none⟩) (by simp)).trans (by simp),(hb.cell (p:=⟨w.heap.size,3,none⟩) (by simp)).trans (by simp),(hb.frozen (p:=⟨w.heap.size,0,none⟩) (by simp)).trans (by simp),(hb.frozen (p:=⟨w.heap.size,1,none⟩) (by simp)).trans (by simp),(hb.frozen (p:=⟨w.heap.size,2,none⟩) (by simp)).trans (by simp),(hb.frozen (p:=⟨w.heap.size,3,none⟩) (by simp)).trans (by simp),hlt,?_⟩
 exact ((xC _ w).alloc (xA _) _).trans (hb.mono (by omega))
theorem Qwi (s:ByteArray) (a:Nat) (w:World) (h0:a<s.size) (_hs:s.size<maxLen) (ha:Qal s[a].toNat=false) :
  Calls Tryz.prog 236 #[.string s,.int .i64 a] w (Qfc (Qbu (suf s a)) a w):=by
 have HT:=hQ (Nat.le_of_lt _hs)
 go_enter Tryz.func236,Tryz.ntmps236
 go_wp2_with (first | (go_at_call 246;refine (Qaz _ _).mono ?_;rintro e w' ⟨rfl,rfl⟩) | (go_at_call 247;refine (Qav _ _).mono ?_;rintro e w' ⟨rfl,rfl⟩) | (go_at_call 248;refine (Qbg _ _).mono ?_;rintro e w' ⟨rfl,rfl⟩) | (go_at_call 249;refine (Qat _ _).mono ?_;rintro e w' ⟨rfl,rfl⟩) | (go_at_call 250;refine (Qaj _ _).mono ?_;rintro e w' ⟨rfl,rfl⟩) | (go_at_call 252;refine (Qgt _ _ _ h0 HT.out).mono ?_;rintro e w' ⟨rfl,rfl⟩))
 exact bodyPost_ret (v:=.agg #[.int .i64 0,.int .i64 0,.int .i64 1,.int .i64 a]) (by simp [results,Tryz.results236,go_sem]) rfl ⟨Qdl 0 0 (Qyr h0 ha) rfl (by omega),(xC _ _).alloc (xA _) _⟩
theorem Quf (s:ByteArray) (a:Nat) (w:World) (h0:a<s.size) (hs:s.size<maxLen) (ha:Qal s[a].toNat=true) (hl:Qai s[a].toNat=false) (hd:Qbd s[a].toNat=false) (h34:s[a].toNat≠34) :
  Calls Tryz.prog 236 #[.string s,.int .i64 a] w (Qfc (Qbu (suf s a)) a w):=by
 have HT:=hQ (Nat.le_of_lt hs)
 have HK:=hQ (Qwh h0 ha hl hd h34)
 have g34:((s[a].toNat:Int)==34)=false:=Qcp h34
 obtain ⟨hu,hlo⟩:=Qnx hl
 clear h34 hs
 by_cases hz:Qa2 (suf s a)=0
 ·have HZ:=hQ (show Qc5 (suf s a)=⟨0,0,2⟩ from by unfold Qc5;rw [xO hz])
  go_enter Tryz.func236,Tryz.ntmps236
  go_wp2_with (first | (go_at_call 246;refine (Qaz _ _).mono ?_;rintro e w' ⟨rfl,rfl⟩) | (go_at_call 247;refine (Qav _ _).mono ?_;rintro e w' ⟨rfl,rfl⟩) | (go_at_call 248;refine (Qbg _ _).mono ?_;rintro e w' ⟨rfl,rfl⟩) | (go_at_call 249;refine (Qat _ _).mono ?_;rintro e w' ⟨rfl,rfl⟩) | (go_at_call 250;refine (Qaj _ _).mono ?_;rintro e w' ⟨rfl,rfl⟩) | (go_at_call 252;refine (Qgt _ _ _ h0 HT.out).mono ?_;rintro e w' ⟨rfl,rfl⟩))
  exact bodyPost_ret (v:=.agg #[.int .i64 0,.int .i64 0,.int .i64 2,.int .i64 a]) (by simp [results,Tryz.results236,go_sem]) rfl ⟨Qdl 0 1 (HK.out.trans HZ.out) rfl (by omega),(xC _ _).alloc (xA _) _⟩
 ·have HZ:=hQ (show Qc5 (suf s a)=⟨8,Qa2 (suf s a),0⟩ from by unfold Qc5;rw [xN hz])
  have hz':¬ ((Qa2 (suf s a):Nat):Int)=0:=by omega
  clear hz
  go_enter Tryz.func236,Tryz.ntmps236
  go_wp2_with (first | (go_at_call 246;refine (Qaz _ _).mono ?_;rintro e w' ⟨rfl,rfl⟩) | (go_at_call 247;refine (Qav _ _).mono ?_;rintro e w' ⟨rfl,rfl⟩) | (go_at_call 248;refine (Qbg _ _).mono ?_;rintro e w' ⟨rfl,rfl⟩) | (go_at_call 249;refine (Qat _ _).mono ?_;rintro e w' ⟨rfl,rfl⟩) | (go_at_call 250;refine (Qaj _ _).mono ?_;rintro e w' ⟨rfl,rfl⟩) | (go_at_call 252;refine (Qgt _ _ _ h0 HT.out).mono ?_;rintro e w' ⟨rfl,rfl⟩))
  exact bodyPost_ret (v:=.agg #[.int .i64 (Qa2 (suf s a):Nat),.int .i64 8,.int .i64 0,.int .i64 0]) (by simp [results,Tryz.results236,go_sem]) rfl ⟨Qdq 8 _ (HK.out.trans HZ.out) rfl rfl,(xC _ _).alloc (xA _) _⟩
theorem Qug (s:ByteArray) (a:Nat) (w:World) (h0:a<s.size) (hs:s.size<maxLen) (ha:Qal s[a].toNat=true) (hl:Qai s[a].toNat=true) (hd:Qbd s[a].toNat=false)
  (hw:∀ w:World,Calls Tryz.prog 251 #[.string s,.int .i64 a] w (Qcm s a w)) :
  Calls Tryz.prog 236 #[.string s,.int .i64 a] w (Qfc (Qbu (suf s a)) a w):=by
 have HT:=hQ (Nat.le_of_lt hs)
 have HK:=hQ (Qwf h0 ha hl)
 have HW:=hQ hw
 have g34:((s[a].toNat:Int)==34)=false:=Qcp (m:=34) (fun h=>by rw [h] at hl;exact absurd hl (by decide))
 have HU:=hQ (show Qai s[a].toNat=(Qbc s[a].toNat || Qgc s[a].toNat) from rfl)
 cases hu:Qbc s[a].toNat
 ·cases hlo:Qgc s[a].toNat
  ·exact absurd hl (by rw [HU.out,hu,hlo];decide)
  ·clear hs hw hl
   go_enter Tryz.func236,Tryz.ntmps236
   go_wp2_with (first | (go_at_call 246;refine (Qaz _ _).mono ?_;rintro e w' ⟨rfl,rfl⟩) | (go_at_call 247;refine (Qav _ _).mono ?_;rintro e w' ⟨rfl,rfl⟩) | (go_at_call 248;refine (Qbg _ _).mono ?_;rintro e w' ⟨rfl,rfl⟩) | (go_at_call 249;refine (Qat _ _).mono ?_;rintro e w' ⟨rfl,rfl⟩) | (go_at_call 250;refine (Qaj _ _).mono ?_;rintro e w' ⟨rfl,rfl⟩) | (go_at_call 252;refine (Qgt _ _ _ h0 HT.out).mono ?_;rintro e w' ⟨rfl,rfl⟩) | (go_at_call 251;refine (HW.out _).mono ?_;rintro e w1 ⟨rfl,hb1⟩;have HI:=hQ (Qlw (t:=253) (by simpa using hb1));clear hb1;obtain ⟨c0,c1,c2,c3,f0,f1,f2,f3,hz,HB⟩:=HI.out;clear HI;have HB:=hQ HB))
   exact bodyPost_ret (v:=.agg #[.int .i64 (Qvh (Qcx (suf s a))),.int .i64 (Qcx (suf s a)).kind,.int .i64 (Qcx (suf s a)).e,.int .i64 (iAt (Qcx (suf s a)) a)]) (by simp [results,Tryz.results236,go_sem,c0,c1,c2,c3]) rfl ⟨Qqo (by rw [HK.out]) (by rw [HK.out]) (by rw [HK.out]) (by rw [HK.out]),(((HB.out.setCell (by simp) _).setCell (by simp) _).setCell (by simp) _).setCell (by simp) _⟩
 ·cases hlo:Qgc s[a].toNat
  all_goals
   clear hs hw hl
   go_enter Tryz.func236,Tryz.ntmps236
   go_wp2_with (first | (go_at_call 246;refine (Qaz _ _).mono ?_;rintro e w' ⟨rfl,rfl⟩) | (go_at_call 247;refine (Qav _ _).mono ?_;rintro e w' ⟨rfl,rfl⟩) | (go_at_call 248;refine (Qbg _ _).mono ?_;rintro e w' ⟨rfl,rfl⟩) | (go_at_call 249;refine (Qat _ _).mono ?_;rintro e w' ⟨rfl,rfl⟩) | (go_at_call 250;refine (Qaj _ _).mono ?_;rintro e w' ⟨rfl,rfl⟩) | (go_at_call 252;refine (Qgt _ _ _ h0 HT.out).mono ?_;rintro e w' ⟨rfl,rfl⟩) | (go_at_call 251;refine (HW.out _).mono ?_;rintro e w1 ⟨rfl,hb1⟩;have HI:=hQ (Qlw (t:=253) (by simpa using hb1));clear hb1;obtain ⟨c0,c1,c2,c3,f0,f1,f2,f3,hz,HB⟩:=HI.out;clear HI;have HB:=hQ HB))
   exact bodyPost_ret (v:=.agg #[.int .i64 (Qvh (Qcx (suf s a))),.int .i64 (Qcx (suf s a)).kind,.int .i64 (Qcx (suf s a)).e,.int .i64 (iAt (Qcx (suf s a)) a)]) (by simp [results,Tryz.results236,go_sem,c0,c1,c2,c3]) rfl ⟨Qqo (by rw [HK.out]) (by rw [HK.out]) (by rw [HK.out]) (by rw [HK.out]),(((HB.out.setCell (by simp) _).setCell (by simp) _).setCell (by simp) _).setCell (by simp) _⟩
theorem Quh (s:ByteArray) (a:Nat) (w:World) (h0:a<s.size) (hs:s.size<maxLen) (h34:s[a].toNat=34) :
  Calls Tryz.prog 236 #[.string s,.int .i64 a] w (Qfc (Qbu (suf s a)) a w):=by
 have HK:=hQ (Qwg h0 h34)
 have g34:((s[a].toNat:Int)==34)=true:=Qb8 h34
 have ha:Qal s[a].toNat=true:=by rw [h34];decide
 have hst:=hQ (QuotAt.start s a h0)
 clear h34
 unfold maxLen at hs
 go_enter Tryz.func236,Tryz.ntmps236
 go_wp2_with (first | (go_at_call 246;refine (Qaz _ _).mono ?_;rintro e w' ⟨rfl,rfl⟩) | (go_at_call 247;refine (Qav _ _).mono ?_;rintro e w' ⟨rfl,rfl⟩) | (go_at_call 248;refine (Qbg _ _).mono ?_;rintro e w' ⟨rfl,rfl⟩) | (go_at_call 249;refine (Qat _ _).mono ?_;rintro e w' ⟨rfl,rfl⟩) | (go_at_call 250;refine (Qaj _ _).mono ?_;rintro e w' ⟨rfl,rfl⟩))
 go_loop [6] (fun x=>∃ (k:Nat),a+1≤k∧k≤s.size∧x = .int .i64 k∧QuotAt s a k) (fun x=>s.size-(intOf x).toNat)
 case atStart=>exact ⟨a+1,xA _,h0,by go_num,hst.out⟩
 case round =>
  obtain ⟨k,h1,hk,rfl,hrel⟩:=hrel
  have HR:=hQ hrel
  clear hrel hst
  by_cases hlt:k<s.size
  ·by_cases h34:s[k].toNat=34
   ·have g34':((s[k].toNat:Int)==34)=true:=Qb8 h34
    have H34:=hQ h34
    clear h34
    go_wp2
    exact bodyPost_ret (v:=.agg #[.int .i64 ((k:Int)+1-(a:Int)),.int .i64 6,.int .i64 0,.int .i64 0]) (by simp [results,Tryz.results236,go_sem]) rfl ⟨Qdq 6 (k-a+1) (HK.out.trans (HR.out.close hlt H34.out)) (by omega) rfl,(xC _ _).alloc (xA _) _⟩
   ·have g34':((s[k].toNat:Int)==34)=false:=Qcp h34
    have H34:=hQ h34
    clear h34
    cases hal:Qal s[k].toNat
    ·have HS:=hQ (show ¬ (s[k].toNat=92∨s[k].toNat=9∨s[k].toNat=10∨s[k].toNat=13) from fun h=>by rcases h with h | h | h | h <;> (rw [h] at hal;exact absurd hal (by decide)))
     go_wp2_with (first | (go_at_call 246;refine (Qaz _ _).mono ?_;rintro e w' ⟨rfl,rfl⟩) | (go_at_call 247;refine (Qav _ _).mono ?_;rintro e w' ⟨rfl,rfl⟩) | (go_at_call 248;refine (Qbg _ _).mono ?_;rintro e w' ⟨rfl,rfl⟩) | (go_at_call 249;refine (Qat _ _).mono ?_;rintro e w' ⟨rfl,rfl⟩) | (go_at_call 250;refine (Qaj _ _).mono ?_;rintro e w' ⟨rfl,rfl⟩))
     exact bodyPost_ret (v:=.agg #[.int .i64 0,.int .i64 0,.int .i64 1,.int .i64 k]) (by simp [results,Tryz.results236,go_sem]) rfl ⟨Qdl (k-a) 0 (HK.out.trans (HR.out.bad hlt H34.out HS.out hal)) rfl (by omega),(xC _ _).alloc (xA _) _⟩
    ·cases hp:Qet s[k].toNat
     ·have HS:=hQ (Qpk hp hal)
      go_wp2_with (first | (go_at_call 246;refine (Qaz _ _).mono ?_;rintro e w' ⟨rfl,rfl⟩) | (go_at_call 247;refine (Qav _ _).mono ?_;rintro e w' ⟨rfl,rfl⟩) | (go_at_call 248;refine (Qbg _ _).mono ?_;rintro e w' ⟨rfl,rfl⟩) | (go_at_call 249;refine (Qat _ _).mono ?_;rintro e w' ⟨rfl,rfl⟩) | (go_at_call 250;refine (Qaj _ _).mono ?_;rintro e w' ⟨rfl,rfl⟩))
      exact bodyPost_ret (v:=.agg #[.int .i64 0,.int .i64 0,.int .i64 2,.int .i64 a]) (by simp [results,Tryz.results236,go_sem]) rfl ⟨Qdl 0 1 (HK.out.trans (HR.out.stop hlt H34.out HS.out)) rfl (by omega),(xC _ _).alloc (xA _) _⟩
     ·by_cases h92:s[k].toNat=92
      ·have g92:((s[k].toNat:Int)==92)=true:=Qb8 h92
       have HS:=hQ (show s[k].toNat=92∨s[k].toNat=9∨s[k].toNat=10∨s[k].toNat=13 from .inl h92)
       clear h92
       go_wp2_with (first | (go_at_call 246;refine (Qaz _ _).mono ?_;rintro e w' ⟨rfl,rfl⟩) | (go_at_call 247;refine (Qav _ _).mono ?_;rintro e w' ⟨rfl,rfl⟩) | (go_at_call 248;refine (Qbg _ _).mono ?_;rintro e w' ⟨rfl,rfl⟩) | (go_at_call 249;refine (Qat _ _).mono ?_;rintro e w' ⟨rfl,rfl⟩) | (go_at_call 250;refine (Qaj _ _).mono ?_;rintro e w' ⟨rfl,rfl⟩))
       exact bodyPost_ret (v:=.agg #[.int .i64 0,.int .i64 0,.int .i64 2,.int .i64 a]) (by simp [results,Tryz.results236,go_sem]) rfl ⟨Qdl 0 1 (HK.out.trans (HR.out.stop hlt H34.out HS.out)) rfl (by omega),(xC _ _).alloc (xA _) _⟩
      ·have g92:((s[k].toNat:Int)==92)=false:=Qcp h92
       have HS:=hQ (Qpl hp h92)
       clear h92
       go_wp2_with (first | (go_at_call 246;refine (Qaz _ _).mono ?_;rintro e w' ⟨rfl,rfl⟩) | (go_at_call 247;refine (Qav _ _).mono ?_;rintro e w' ⟨rfl,rfl⟩) | (go_at_call 248;refine (Qbg _ _).mono ?_;rintro e w' ⟨rfl,rfl⟩) | (go_at_call 249;refine (Qat _ _).mono ?_;rintro e w' ⟨rfl,rfl⟩) | (go_at_call 250;refine (Qaj _ _).mono ?_;rintro e w' ⟨rfl,rfl⟩))
       go_round
       case rel=>exact ⟨k+1,by omega,by omega,by go_num,HR.out.next hlt H34.out HS.out hal⟩
       case measure=>simp [intOf];omega
  ·go_wp2
   exact bodyPost_ret (v:=.agg #[.int .i64 0,.int .i64 0,.int .i64 2,.int .i64 a]) (by simp [results,Tryz.results236,go_sem]) rfl ⟨Qdl 0 1 (HK.out.trans (HR.out.done hlt)) rfl (by omega),(xC _ _).alloc (xA _) _⟩
theorem Qwj {s:ByteArray} {a k:Nat} (h0:a<s.size) (hn:Qco (suf s a)+a=k) (h1:a+1<k) (h48:s[a].toNat=48):Qhc (suf s a)=⟨0,0,2⟩:=by
 unfold Qhc
 rw [Qbf s a h0,xO ⟨by omega,h48⟩]
theorem Qwk {s:ByteArray} {a k:Nat} (h0:a<s.size) (hn:Qco (suf s a)+a=k) (h1:¬ (a+1<k∧s[a].toNat=48)) (h15:a+15<k):Qhc (suf s a)=⟨0,0,3⟩:=by
 unfold Qhc
 rw [Qbf s a h0,xN (by omega),xO (by omega)]
theorem Qxm {s:ByteArray} {a k:Nat} (h0:a<s.size) (hn:Qco (suf s a)+a=k) (h1:¬ (a+1<k∧s[a].toNat=48)) (h15:¬ a+15<k):Qhc (suf s a)=⟨5,k-a,0⟩:=by
 unfold Qhc
 rw [Qbf s a h0,xN (by omega),xN (by omega),show Qco (suf s a)=k-a from by omega]
theorem Qwl (s:ByteArray) (a:Nat) (w:World) (h0:a<s.size) (hs:s.size<maxLen) (ha:Qal s[a].toNat=true) (hl:Qai s[a].toNat=false) (hd:Qbd s[a].toNat=true) :
  Calls Tryz.prog 236 #[.string s,.int .i64 a] w (Qfc (Qbu (suf s a)) a w):=by
 have HK:=hQ (Qys h0 ha hl hd)
 have g34:((s[a].toNat:Int)==34)=false:=Qcp (m:=34) (fun h=>by rw [h] at hd;exact absurd hd (by decide))
 have hst:=hQ (RunAt.start Qbd s a (Nat.le_of_lt h0))
 clear hl
 unfold maxLen at hs
 go_enter Tryz.func236,Tryz.ntmps236
 go_wp2_with (first | (go_at_call 246;refine (Qaz _ _).mono ?_;rintro e w' ⟨rfl,rfl⟩) | (go_at_call 247;refine (Qav _ _).mono ?_;rintro e w' ⟨rfl,rfl⟩) | (go_at_call 248;refine (Qbg _ _).mono ?_;rintro e w' ⟨rfl,rfl⟩) | (go_at_call 249;refine (Qat _ _).mono ?_;rintro e w' ⟨rfl,rfl⟩) | (go_at_call 250;refine (Qaj _ _).mono ?_;rintro e w' ⟨rfl,rfl⟩))
 go_loop [7] (fun x=>∃ (k:Nat),a≤k∧k≤s.size∧x = .int .i64 k∧RunAt Qbd s a k) (fun x=>s.size-(intOf x).toNat)
 case atStart=>exact ⟨a,xA _,Nat.le_of_lt h0,rfl,hst.out⟩
 case round =>
  obtain ⟨k,hak,hk,rfl,hrel⟩:=hrel
  have HR:=hQ hrel
  clear hrel hst
  by_cases hgo:∃ h:k<s.size,Qbd s[k].toNat=true
  ·obtain ⟨hlt,hd'⟩:=hgo
   go_wp2_with (first | (go_at_call 246;refine (Qaz _ _).mono ?_;rintro e w' ⟨rfl,rfl⟩) | (go_at_call 247;refine (Qav _ _).mono ?_;rintro e w' ⟨rfl,rfl⟩) | (go_at_call 248;refine (Qbg _ _).mono ?_;rintro e w' ⟨rfl,rfl⟩) | (go_at_call 249;refine (Qat _ _).mono ?_;rintro e w' ⟨rfl,rfl⟩) | (go_at_call 250;refine (Qaj _ _).mono ?_;rintro e w' ⟨rfl,rfl⟩))
   go_round
   case rel=>exact ⟨k+1,by omega,by omega,by go_num,HR.out.next hlt hd'⟩
   case measure=>simp [intOf];omega
  ·have HN:Hid (Qco (suf s a)+a=k):=by
    unfold Qco
    by_cases hlt:k<s.size
    ·exact hQ (HR.out.stop hlt (by simpa using fun h=>hgo ⟨hlt,h⟩))
    ·exact hQ (HR.out.done hlt)
   by_cases h1:a+1<k
   ·have hgt:1<(k:Int)-(a:Int):=by omega
    by_cases h48:s[a].toNat=48
    ·have h48':((s[a].toNat:Int)==48)=true:=Qb8 h48
     have HX:=hQ (HK.out.trans (Qwj h0 HN.out h1 h48))
     clear h48
     by_cases hlt:k<s.size
     all_goals
      first | (have hd':Qbd s[k].toNat=false:=by simpa using fun h=>hgo ⟨hlt,h⟩) | skip
      clear hgo
      go_wp2_with (first | (go_at_call 246;refine (Qaz _ _).mono ?_;rintro e w' ⟨rfl,rfl⟩) | (go_at_call 247;refine (Qav _ _).mono ?_;rintro e w' ⟨rfl,rfl⟩) | (go_at_call 248;refine (Qbg _ _).mono ?_;rintro e w' ⟨rfl,rfl⟩) | (go_at_call 249;refine (Qat _ _).mono ?_;rintro e w' ⟨rfl,rfl⟩) | (go_at_call 250;refine (Qaj _ _).mono ?_;rintro e w' ⟨rfl,rfl⟩))
      exact bodyPost_ret (v:=.agg #[.int .i64 0,.int .i64 0,.int .i64 2,.int .i64 a]) (by simp [results,Tryz.results236,go_sem]) rfl ⟨Qdl 0 1 HX.out rfl (by omega),(xC _ _).alloc (xA _) _⟩
    ·have h48':((s[a].toNat:Int)==48)=false:=Qcp h48
     by_cases h15:a+15<k
     ·have hgt15:15<(k:Int)-(a:Int):=by omega
      have HX:=hQ (HK.out.trans (Qwk h0 HN.out (fun h=>h48 h.2) h15))
      clear h48
      by_cases hlt:k<s.size
      all_goals
       first | (have hd':Qbd s[k].toNat=false:=by simpa using fun h=>hgo ⟨hlt,h⟩) | skip
       clear hgo
       go_wp2_with (first | (go_at_call 246;refine (Qaz _ _).mono ?_;rintro e w' ⟨rfl,rfl⟩) | (go_at_call 247;refine (Qav _ _).mono ?_;rintro e w' ⟨rfl,rfl⟩) | (go_at_call 248;refine (Qbg _ _).mono ?_;rintro e w' ⟨rfl,rfl⟩) | (go_at_call 249;refine (Qat _ _).mono ?_;rintro e w' ⟨rfl,rfl⟩) | (go_at_call 250;refine (Qaj _ _).mono ?_;rintro e w' ⟨rfl,rfl⟩))
       exact bodyPost_ret (v:=.agg #[.int .i64 0,.int .i64 0,.int .i64 3,.int .i64 a]) (by simp [results,Tryz.results236,go_sem]) rfl ⟨Qdl 0 2 HX.out rfl (by omega),(xC _ _).alloc (xA _) _⟩
     ·have hgt15:¬ 15<(k:Int)-(a:Int):=by omega
      have HX:=hQ (HK.out.trans (Qxm h0 HN.out (fun h=>h48 h.2) h15))
      clear h48
      by_cases hlt:k<s.size
      all_goals
       first | (have hd':Qbd s[k].toNat=false:=by simpa using fun h=>hgo ⟨hlt,h⟩) | skip
       clear hgo
       go_wp2_with (first | (go_at_call 246;refine (Qaz _ _).mono ?_;rintro e w' ⟨rfl,rfl⟩) | (go_at_call 247;refine (Qav _ _).mono ?_;rintro e w' ⟨rfl,rfl⟩) | (go_at_call 248;refine (Qbg _ _).mono ?_;rintro e w' ⟨rfl,rfl⟩) | (go_at_call 249;refine (Qat _ _).mono ?_;rintro e w' ⟨rfl,rfl⟩) | (go_at_call 250;refine (Qaj _ _).mono ?_;rintro e w' ⟨rfl,rfl⟩))
       exact bodyPost_ret (v:=.agg #[.int .i64 ((k:Int)-(a:Int)),.int .i64 5,.int .i64 0,.int .i64 0]) (by simp [results,Tryz.results236,go_sem]) rfl ⟨Qdq 5 (k-a) HX.out (by omega) rfl,(xC _ _).alloc (xA _) _⟩
   ·have hgt:¬ 1<(k:Int)-(a:Int):=by omega
    have hgt15:¬ 15<(k:Int)-(a:Int):=by omega
    have HX:=hQ (HK.out.trans (Qxm h0 HN.out (fun h=>h1 h.1) (by omega)))
    by_cases hlt:k<s.size
    all_goals
     first | (have hd':Qbd s[k].toNat=false:=by simpa using fun h=>hgo ⟨hlt,h⟩) | skip
     clear hgo
     go_wp2_with (first | (go_at_call 246;refine (Qaz _ _).mono ?_;rintro e w' ⟨rfl,rfl⟩) | (go_at_call 247;refine (Qav _ _).mono ?_;rintro e w' ⟨rfl,rfl⟩) | (go_at_call 248;refine (Qbg _ _).mono ?_;rintro e w' ⟨rfl,rfl⟩) | (go_at_call 249;refine (Qat _ _).mono ?_;rintro e w' ⟨rfl,rfl⟩) | (go_at_call 250;refine (Qaj _ _).mono ?_;rintro e w' ⟨rfl,rfl⟩))
     exact bodyPost_ret (v:=.agg #[.int .i64 ((k:Int)-(a:Int)),.int .i64 5,.int .i64 0,.int .i64 0]) (by simp [results,Tryz.results236,go_sem]) rfl ⟨Qdq 5 (k-a) HX.out (by omega) rfl,(xC _ _).alloc (xA _) _⟩
theorem Qwm (s:ByteArray) (a:Nat) (w:World) (h0:a<s.size) (hs:s.size<maxLen)
  (hw:Qai s[a].toNat=true→∀ w:World,Calls Tryz.prog 251 #[.string s,.int .i64 a] w (Qcm s a w)) :
  Calls Tryz.prog 236 #[.string s,.int .i64 a] w (Qfc (Qbu (suf s a)) a w):=by
 cases ha:Qal s[a].toNat
 ·exact Qwi s a w h0 hs ha
 ·cases hl:Qai s[a].toNat
  ·cases hd:Qbd s[a].toNat
   ·by_cases h34:s[a].toNat=34
    ·exact Quh s a w h0 hs h34
    ·exact Quf s a w h0 hs ha hl hd h34
   ·exact Qwl s a w h0 hs ha hl hd
  ·cases hd:Qbd s[a].toNat
   ·exact Qug s a w h0 hs ha hl hd (hw hl)
   ·rw [Qnw hd] at hl
    cases hl
end Go.Proofs.YtjidpkcjpgdafaaGreat
