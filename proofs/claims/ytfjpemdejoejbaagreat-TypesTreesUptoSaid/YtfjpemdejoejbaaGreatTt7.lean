/- Part 7 -/
import Derived.Test.YtfjpemdejoejbaaGreatTt6
set_option maxRecDepth 100000
set_option maxHeartbeats 4000000
namespace Go.Proofs.YtfjpemdejoejbaaGreat
open Go.RowKit
def Qfq (t:Tk) (a:Nat) (w:World) (e:Ending) (w':World):Prop :=
 e = .returned (.agg #[.int .i64 (Qy5 t),.int .i64 t.kind,.int .i64 t.e,.int .i64 (iAt t a)])∧Below w.heap.size w w'
section
variable {s:ByteArray} {a:Nat}
theorem Zcz (h0:a<s.size) (ha:Qaq s[a].toNat=false):Qb5 (suf s a)=⟨0,0,1⟩:=by
 unfold Qb5;rw [Qbr s a h0,xO ha]
theorem Qzw (h0:a<s.size) (ha:Qaq s[a].toNat=true) (hl:Qai s[a].toNat=true):Qb5 (suf s a)=Qcv (suf s a):=by
 unfold Qb5;rw [Qbr s a h0,xN (by simp [ha]),xO hl]
theorem Zc0 (h0:a<s.size) (ha:Qaq s[a].toNat=true) (hl:Qai s[a].toNat=false) (hd:Qbm s[a].toNat=true):Qb5 (suf s a)=Qhp (suf s a):=by
 unfold Qb5;rw [Qbr s a h0,xN (by simp [ha]),xN (by simp [hl]),xO hd]
theorem Qzx (h0:a<s.size) (h34:s[a].toNat=34):Qb5 (suf s a)=Qcf 1 (suf s (a+1)):=by
 have ha:Qaq (34:Nat)=true:=by decide
 have hl:Qai (34:Nat)=false:=by decide
 have hd:Qbm (34:Nat)=false:=by decide
 unfold Qb5;rw [Qbr s a h0,h34,xN (by rw [ha];decide),xN (by rw [hl];decide),xN (by rw [hd];decide),xO rfl,Qd2]
theorem Qzy (h0:a<s.size) (ha:Qaq s[a].toNat=true) (hl:Qai s[a].toNat=false) (hd:Qbm s[a].toNat=false) (h34:s[a].toNat≠34):Qb5 (suf s a)=Qde (suf s a):=by
 unfold Qb5;rw [Qbr s a h0,xN (by simp [ha]),xN (by simp [hl]),xN (by simp [hd]),xN h34]
end
theorem Qoz {c:Int} (h:Qbm c=true):Qai c=false:=by
 unfold Qbm at h;unfold Qai Qbf Qgv;simp at h ⊢
 omega
theorem Qo0 {c:Int} (h:Qai c=false):Qbf c=false∧Qgv c=false:=by
 unfold Qai at h
 simpa using h
theorem Qqz {c:Nat} (hp:Qe7 c=false) (ha:Qaq c=true):c=92∨c=9∨c=10∨c=13:=by
 rw [Qgx,hp] at ha;unfold Qeo at ha;unfold Qe7 at hp;simp at ha hp
 omega
theorem Qq0 {c:Nat} (hp:Qe7 c=true) (h92:c≠92):¬ (c=92∨c=9∨c=10∨c=13):=by
 unfold Qe7 at hp;simp at hp
 omega
theorem Qmb {w w1:World} {t:TypeId} (hb:Below (w.heap.size+1) (w.alloc (.cells #[.int .i64 0,.int .i64 0,.int .i64 0,.int .i64 0] t)) w1) :
  w1.cell? ⟨w.heap.size,0,none⟩=some (.int .i64 0)∧w1.cell? ⟨w.heap.size,1,none⟩=some (.int .i64 0)∧w1.cell? ⟨w.heap.size,2,none⟩=some (.int .i64 0)∧w1.cell? ⟨w.heap.size,3,none⟩=some (.int .i64 0) ∧
  w1.frozen? ⟨w.heap.size,0,none⟩=false∧w1.frozen? ⟨w.heap.size,1,none⟩=false∧w1.frozen? ⟨w.heap.size,2,none⟩=false∧w1.frozen? ⟨w.heap.size,3,none⟩=false∧w.heap.size<w1.heap.size∧Below w.heap.size w w1:=by
 have hlt:w.heap.size<w1.heap.size:=by have:=hb.size;simp at this;omega
 refine ⟨(hb.cell (p:=⟨w.heap.size,0,none⟩) (by simp)).trans (by simp),(hb.cell (p:=⟨w.heap.size,1,none⟩) (by simp)).trans (by simp),(hb.cell (p:=⟨w.heap.size,2,none⟩) (by simp)).trans (by simp),(hb.cell (p:=⟨w.heap.size,3,none⟩) (by simp)).trans (by simp),(hb.frozen (p:=⟨w.heap.size,0,none⟩) (by simp)).trans (by simp),(hb.frozen (p:=⟨w.heap.size,1,none⟩) (by simp)).trans (by simp),(hb.frozen (p:=⟨w.heap.size,2,none⟩) (by simp)).trans (by simp),(hb.frozen (p:=⟨w.heap.size,3,none⟩) (by simp)).trans (by simp),hlt,?_⟩;exact ((xC _ w).alloc (xA _) _).trans (hb.mono (by omega))
theorem Qzz (s:ByteArray) (a:Nat) (w:World) (h0:a<s.size) (_hs:s.size<maxLen) (ha:Qaq s[a].toNat=false) :
  Calls Tryz.prog 138 #[.string s,.int .i64 a] w (Qfq (Qb5 (suf s a)) a w):=by
 have HT:=hQ (Nat.le_of_lt _hs)
 go_enter Tryz.func138,Tryz.ntmps138
 go_wp2_with (first | (go_at_call 160;refine (Qbd _ _).mono ?_;rintro e w' ⟨rfl,rfl⟩) | (go_at_call 161;refine (Qa7 _ _).mono ?_;rintro e w' ⟨rfl,rfl⟩) | (go_at_call 162;refine (Qbt _ _).mono ?_;rintro e w' ⟨rfl,rfl⟩) | (go_at_call 163;refine (Qa3 _ _).mono ?_;rintro e w' ⟨rfl,rfl⟩) | (go_at_call 164;refine (Qan _ _).mono ?_;rintro e w' ⟨rfl,rfl⟩) | (go_at_call 166;refine (Qg7 _ _ _ h0 HT.out).mono ?_;rintro e w' ⟨rfl,rfl⟩))
 exact bodyPost_ret (v:=.agg #[.int .i64 0,.int .i64 0,.int .i64 1,.int .i64 a]) (by simp [results,Tryz.results138,go_sem]) rfl ⟨Qdr 0 0 (Zcz h0 ha) rfl (by omega),(xC _ _).alloc (xA _) _⟩
theorem Qwj (s:ByteArray) (a:Nat) (w:World) (h0:a<s.size) (hs:s.size<maxLen) (ha:Qaq s[a].toNat=true) (hl:Qai s[a].toNat=false) (hd:Qbm s[a].toNat=false) (h34:s[a].toNat≠34) :
  Calls Tryz.prog 138 #[.string s,.int .i64 a] w (Qfq (Qb5 (suf s a)) a w):=by
 have HT:=hQ (Nat.le_of_lt hs);have HK:=hQ (Qzy h0 ha hl hd h34);have g34:((s[a].toNat:Int)==34)=false:=Qc3 h34;obtain ⟨hu,hlo⟩:=Qo0 hl;clear h34 hs
 by_cases hz:Qbh (suf s a)=0
 ·have HZ:=hQ (show Qde (suf s a)=⟨0,0,2⟩ from by unfold Qde;rw [xO hz])
  go_enter Tryz.func138,Tryz.ntmps138
  go_wp2_with (first | (go_at_call 160;refine (Qbd _ _).mono ?_;rintro e w' ⟨rfl,rfl⟩) | (go_at_call 161;refine (Qa7 _ _).mono ?_;rintro e w' ⟨rfl,rfl⟩) | (go_at_call 162;refine (Qbt _ _).mono ?_;rintro e w' ⟨rfl,rfl⟩) | (go_at_call 163;refine (Qa3 _ _).mono ?_;rintro e w' ⟨rfl,rfl⟩) | (go_at_call 164;refine (Qan _ _).mono ?_;rintro e w' ⟨rfl,rfl⟩) | (go_at_call 166;refine (Qg7 _ _ _ h0 HT.out).mono ?_;rintro e w' ⟨rfl,rfl⟩))
  exact bodyPost_ret (v:=.agg #[.int .i64 0,.int .i64 0,.int .i64 2,.int .i64 a]) (by simp [results,Tryz.results138,go_sem]) rfl ⟨Qdr 0 1 (HK.out.trans HZ.out) rfl (by omega),(xC _ _).alloc (xA _) _⟩
 ·have HZ:=hQ (show Qde (suf s a)=⟨8,Qbh (suf s a),0⟩ from by unfold Qde;rw [xN hz]);have hz':¬ ((Qbh (suf s a):Nat):Int)=0:=by omega
  clear hz
  go_enter Tryz.func138,Tryz.ntmps138
  go_wp2_with (first | (go_at_call 160;refine (Qbd _ _).mono ?_;rintro e w' ⟨rfl,rfl⟩) | (go_at_call 161;refine (Qa7 _ _).mono ?_;rintro e w' ⟨rfl,rfl⟩) | (go_at_call 162;refine (Qbt _ _).mono ?_;rintro e w' ⟨rfl,rfl⟩) | (go_at_call 163;refine (Qa3 _ _).mono ?_;rintro e w' ⟨rfl,rfl⟩) | (go_at_call 164;refine (Qan _ _).mono ?_;rintro e w' ⟨rfl,rfl⟩) | (go_at_call 166;refine (Qg7 _ _ _ h0 HT.out).mono ?_;rintro e w' ⟨rfl,rfl⟩))
  exact bodyPost_ret (v:=.agg #[.int .i64 (Qbh (suf s a):Nat),.int .i64 8,.int .i64 0,.int .i64 0]) (by simp [results,Tryz.results138,go_sem]) rfl ⟨Qdw 8 _ (HK.out.trans HZ.out) rfl rfl,(xC _ _).alloc (xA _) _⟩
theorem Qwk (s:ByteArray) (a:Nat) (w:World) (h0:a<s.size) (hs:s.size<maxLen) (ha:Qaq s[a].toNat=true) (hl:Qai s[a].toNat=true) (hd:Qbm s[a].toNat=false)
  (hw:∀ w:World,Calls Tryz.prog 165 #[.string s,.int .i64 a] w (Qcz s a w)) :
  Calls Tryz.prog 138 #[.string s,.int .i64 a] w (Qfq (Qb5 (suf s a)) a w):=by
 have HT:=hQ (Nat.le_of_lt hs);have HK:=hQ (Qzw h0 ha hl);have HW:=hQ hw;have g34:((s[a].toNat:Int)==34)=false:=Qc3 (m:=34) (fun h=>by rw [h] at hl;exact absurd hl (by decide));have HU:=hQ (show Qai s[a].toNat=(Qbf s[a].toNat || Qgv s[a].toNat) from rfl)
 cases hu:Qbf s[a].toNat
 ·cases hlo:Qgv s[a].toNat
  ·exact absurd hl (by rw [HU.out,hu,hlo];decide)
  ·clear hs hw hl
   go_enter Tryz.func138,Tryz.ntmps138
   go_wp2_with (first | (go_at_call 160;refine (Qbd _ _).mono ?_;rintro e w' ⟨rfl,rfl⟩) | (go_at_call 161;refine (Qa7 _ _).mono ?_;rintro e w' ⟨rfl,rfl⟩) | (go_at_call 162;refine (Qbt _ _).mono ?_;rintro e w' ⟨rfl,rfl⟩) | (go_at_call 163;refine (Qa3 _ _).mono ?_;rintro e w' ⟨rfl,rfl⟩) | (go_at_call 164;refine (Qan _ _).mono ?_;rintro e w' ⟨rfl,rfl⟩) | (go_at_call 166;refine (Qg7 _ _ _ h0 HT.out).mono ?_;rintro e w' ⟨rfl,rfl⟩) | (go_at_call 165;refine (HW.out _).mono ?_;rintro e w1 ⟨rfl,hb1⟩;have HI:=hQ (Qmb (t:=168) (by simpa using hb1));clear hb1;obtain ⟨c0,c1,c2,c3,f0,f1,f2,f3,hz,HB⟩:=HI.out;clear HI;have HB:=hQ HB))
   exact bodyPost_ret (v:=.agg #[.int .i64 (Qy5 (Qcv (suf s a))),.int .i64 (Qcv (suf s a)).kind,.int .i64 (Qcv (suf s a)).e,.int .i64 (iAt (Qcv (suf s a)) a)]) (by simp [results,Tryz.results138,go_sem,c0,c1,c2,c3]) rfl ⟨Qr9 (by rw [HK.out]) (by rw [HK.out]) (by rw [HK.out]) (by rw [HK.out]),(((HB.out.setCell (by simp) _).setCell (by simp) _).setCell (by simp) _).setCell (by simp) _⟩
 ·cases hlo:Qgv s[a].toNat
  all_goals
   clear hs hw hl
   go_enter Tryz.func138,Tryz.ntmps138
   go_wp2_with (first | (go_at_call 160;refine (Qbd _ _).mono ?_;rintro e w' ⟨rfl,rfl⟩) | (go_at_call 161;refine (Qa7 _ _).mono ?_;rintro e w' ⟨rfl,rfl⟩) | (go_at_call 162;refine (Qbt _ _).mono ?_;rintro e w' ⟨rfl,rfl⟩) | (go_at_call 163;refine (Qa3 _ _).mono ?_;rintro e w' ⟨rfl,rfl⟩) | (go_at_call 164;refine (Qan _ _).mono ?_;rintro e w' ⟨rfl,rfl⟩) | (go_at_call 166;refine (Qg7 _ _ _ h0 HT.out).mono ?_;rintro e w' ⟨rfl,rfl⟩) | (go_at_call 165;refine (HW.out _).mono ?_;rintro e w1 ⟨rfl,hb1⟩;have HI:=hQ (Qmb (t:=168) (by simpa using hb1));clear hb1;obtain ⟨c0,c1,c2,c3,f0,f1,f2,f3,hz,HB⟩:=HI.out;clear HI;have HB:=hQ HB))
   exact bodyPost_ret (v:=.agg #[.int .i64 (Qy5 (Qcv (suf s a))),.int .i64 (Qcv (suf s a)).kind,.int .i64 (Qcv (suf s a)).e,.int .i64 (iAt (Qcv (suf s a)) a)]) (by simp [results,Tryz.results138,go_sem,c0,c1,c2,c3]) rfl ⟨Qr9 (by rw [HK.out]) (by rw [HK.out]) (by rw [HK.out]) (by rw [HK.out]),(((HB.out.setCell (by simp) _).setCell (by simp) _).setCell (by simp) _).setCell (by simp) _⟩
theorem Qwl (s:ByteArray) (a:Nat) (w:World) (h0:a<s.size) (hs:s.size<maxLen) (h34:s[a].toNat=34) :
  Calls Tryz.prog 138 #[.string s,.int .i64 a] w (Qfq (Qb5 (suf s a)) a w):=by
 have HK:=hQ (Qzx h0 h34);have g34:((s[a].toNat:Int)==34)=true:=Qco h34;have ha:Qaq s[a].toNat=true:=by rw [h34];decide
 have hst:=hQ (QuotAt.start s a h0);clear h34;unfold maxLen at hs
 go_enter Tryz.func138,Tryz.ntmps138
 go_wp2_with (first | (go_at_call 160;refine (Qbd _ _).mono ?_;rintro e w' ⟨rfl,rfl⟩) | (go_at_call 161;refine (Qa7 _ _).mono ?_;rintro e w' ⟨rfl,rfl⟩) | (go_at_call 162;refine (Qbt _ _).mono ?_;rintro e w' ⟨rfl,rfl⟩) | (go_at_call 163;refine (Qa3 _ _).mono ?_;rintro e w' ⟨rfl,rfl⟩) | (go_at_call 164;refine (Qan _ _).mono ?_;rintro e w' ⟨rfl,rfl⟩))
 go_loop [6] (fun x=>∃ (k:Nat),a+1≤k∧k≤s.size∧x = .int .i64 k∧QuotAt s a k) (fun x=>s.size-(intOf x).toNat)
 case atStart=>exact ⟨a+1,xA _,h0,by go_num,hst.out⟩
 case round =>
  obtain ⟨k,h1,hk,rfl,hrel⟩:=hrel;have HR:=hQ hrel;clear hrel hst
  by_cases hlt:k<s.size
  ·by_cases h34:s[k].toNat=34
   ·have g34':((s[k].toNat:Int)==34)=true:=Qco h34;have H34:=hQ h34;clear h34
    go_wp2
    exact bodyPost_ret (v:=.agg #[.int .i64 ((k:Int)+1-(a:Int)),.int .i64 6,.int .i64 0,.int .i64 0]) (by simp [results,Tryz.results138,go_sem]) rfl ⟨Qdw 6 (k-a+1) (HK.out.trans (HR.out.close hlt H34.out)) (by omega) rfl,(xC _ _).alloc (xA _) _⟩
   ·have g34':((s[k].toNat:Int)==34)=false:=Qc3 h34;have H34:=hQ h34;clear h34
    cases hal:Qaq s[k].toNat
    ·have HS:=hQ (show ¬ (s[k].toNat=92∨s[k].toNat=9∨s[k].toNat=10∨s[k].toNat=13) from fun h=>by rcases h with h | h | h | h <;> (rw [h] at hal;exact absurd hal (by decide)));go_wp2_with (first | (go_at_call 160;refine (Qbd _ _).mono ?_;rintro e w' ⟨rfl,rfl⟩) | (go_at_call 161;refine (Qa7 _ _).mono ?_;rintro e w' ⟨rfl,rfl⟩) | (go_at_call 162;refine (Qbt _ _).mono ?_;rintro e w' ⟨rfl,rfl⟩) | (go_at_call 163;refine (Qa3 _ _).mono ?_;rintro e w' ⟨rfl,rfl⟩) | (go_at_call 164;refine (Qan _ _).mono ?_;rintro e w' ⟨rfl,rfl⟩))
     exact bodyPost_ret (v:=.agg #[.int .i64 0,.int .i64 0,.int .i64 1,.int .i64 k]) (by simp [results,Tryz.results138,go_sem]) rfl ⟨Qdr (k-a) 0 (HK.out.trans (HR.out.bad hlt H34.out HS.out hal)) rfl (by omega),(xC _ _).alloc (xA _) _⟩
    ·cases hp:Qe7 s[k].toNat
     ·have HS:=hQ (Qqz hp hal);go_wp2_with (first | (go_at_call 160;refine (Qbd _ _).mono ?_;rintro e w' ⟨rfl,rfl⟩) | (go_at_call 161;refine (Qa7 _ _).mono ?_;rintro e w' ⟨rfl,rfl⟩) | (go_at_call 162;refine (Qbt _ _).mono ?_;rintro e w' ⟨rfl,rfl⟩) | (go_at_call 163;refine (Qa3 _ _).mono ?_;rintro e w' ⟨rfl,rfl⟩) | (go_at_call 164;refine (Qan _ _).mono ?_;rintro e w' ⟨rfl,rfl⟩))
      exact bodyPost_ret (v:=.agg #[.int .i64 0,.int .i64 0,.int .i64 2,.int .i64 a]) (by simp [results,Tryz.results138,go_sem]) rfl ⟨Qdr 0 1 (HK.out.trans (HR.out.stop hlt H34.out HS.out)) rfl (by omega),(xC _ _).alloc (xA _) _⟩
     ·by_cases h92:s[k].toNat=92
      ·have g92:((s[k].toNat:Int)==92)=true:=Qco h92;have HS:=hQ (show s[k].toNat=92∨s[k].toNat=9∨s[k].toNat=10∨s[k].toNat=13 from .inl h92);clear h92;go_wp2_with (first | (go_at_call 160;refine (Qbd _ _).mono ?_;rintro e w' ⟨rfl,rfl⟩) | (go_at_call 161;refine (Qa7 _ _).mono ?_;rintro e w' ⟨rfl,rfl⟩) | (go_at_call 162;refine (Qbt _ _).mono ?_;rintro e w' ⟨rfl,rfl⟩) | (go_at_call 163;refine (Qa3 _ _).mono ?_;rintro e w' ⟨rfl,rfl⟩) | (go_at_call 164;refine (Qan _ _).mono ?_;rintro e w' ⟨rfl,rfl⟩))
       exact bodyPost_ret (v:=.agg #[.int .i64 0,.int .i64 0,.int .i64 2,.int .i64 a]) (by simp [results,Tryz.results138,go_sem]) rfl ⟨Qdr 0 1 (HK.out.trans (HR.out.stop hlt H34.out HS.out)) rfl (by omega),(xC _ _).alloc (xA _) _⟩
      ·have g92:((s[k].toNat:Int)==92)=false:=Qc3 h92;have HS:=hQ (Qq0 hp h92);clear h92;go_wp2_with (first | (go_at_call 160;refine (Qbd _ _).mono ?_;rintro e w' ⟨rfl,rfl⟩) | (go_at_call 161;refine (Qa7 _ _).mono ?_;rintro e w' ⟨rfl,rfl⟩) | (go_at_call 162;refine (Qbt _ _).mono ?_;rintro e w' ⟨rfl,rfl⟩) | (go_at_call 163;refine (Qa3 _ _).mono ?_;rintro e w' ⟨rfl,rfl⟩) | (go_at_call 164;refine (Qan _ _).mono ?_;rintro e w' ⟨rfl,rfl⟩))
       go_round
       case rel=>exact ⟨k+1,by omega,by omega,by go_num,HR.out.next hlt H34.out HS.out hal⟩
       case measure=>simp [intOf];omega
  ·go_wp2
   exact bodyPost_ret (v:=.agg #[.int .i64 0,.int .i64 0,.int .i64 2,.int .i64 a]) (by simp [results,Tryz.results138,go_sem]) rfl ⟨Qdr 0 1 (HK.out.trans (HR.out.done hlt)) rfl (by omega),(xC _ _).alloc (xA _) _⟩
theorem Qz0 {s:ByteArray} {a k:Nat} (h0:a<s.size) (hn:Qc1 (suf s a)+a=k) (h1:a+1<k) (h48:s[a].toNat=48):Qhp (suf s a)=⟨0,0,2⟩:=by
 unfold Qhp;rw [Qbr s a h0,xO ⟨by omega,h48⟩]
theorem Qz1 {s:ByteArray} {a k:Nat} (h0:a<s.size) (hn:Qc1 (suf s a)+a=k) (h1:¬ (a+1<k∧s[a].toNat=48)) (h15:a+15<k):Qhp (suf s a)=⟨0,0,3⟩:=by
 unfold Qhp;rw [Qbr s a h0,xN (by omega),xO (by omega)]
theorem Zbs {s:ByteArray} {a k:Nat} (h0:a<s.size) (hn:Qc1 (suf s a)+a=k) (h1:¬ (a+1<k∧s[a].toNat=48)) (h15:¬ a+15<k):Qhp (suf s a)=⟨5,k-a,0⟩:=by
 unfold Qhp;rw [Qbr s a h0,xN (by omega),xN (by omega),show Qc1 (suf s a)=k-a from by omega]
theorem Qz2 (s:ByteArray) (a:Nat) (w:World) (h0:a<s.size) (hs:s.size<maxLen) (ha:Qaq s[a].toNat=true) (hl:Qai s[a].toNat=false) (hd:Qbm s[a].toNat=true) :
  Calls Tryz.prog 138 #[.string s,.int .i64 a] w (Qfq (Qb5 (suf s a)) a w):=by
 have HK:=hQ (Zc0 h0 ha hl hd);have g34:((s[a].toNat:Int)==34)=false:=Qc3 (m:=34) (fun h=>by rw [h] at hd;exact absurd hd (by decide));have hst:=hQ (RunAt.start Qbm s a (Nat.le_of_lt h0));clear hl;unfold maxLen at hs
 go_enter Tryz.func138,Tryz.ntmps138
 go_wp2_with (first | (go_at_call 160;refine (Qbd _ _).mono ?_;rintro e w' ⟨rfl,rfl⟩) | (go_at_call 161;refine (Qa7 _ _).mono ?_;rintro e w' ⟨rfl,rfl⟩) | (go_at_call 162;refine (Qbt _ _).mono ?_;rintro e w' ⟨rfl,rfl⟩) | (go_at_call 163;refine (Qa3 _ _).mono ?_;rintro e w' ⟨rfl,rfl⟩) | (go_at_call 164;refine (Qan _ _).mono ?_;rintro e w' ⟨rfl,rfl⟩))
 go_loop [7] (fun x=>∃ (k:Nat),a≤k∧k≤s.size∧x = .int .i64 k∧RunAt Qbm s a k) (fun x=>s.size-(intOf x).toNat)
 case atStart=>exact ⟨a,xA _,Nat.le_of_lt h0,rfl,hst.out⟩
 case round =>
  obtain ⟨k,hak,hk,rfl,hrel⟩:=hrel;have HR:=hQ hrel;clear hrel hst
  by_cases hgo:∃ h:k<s.size,Qbm s[k].toNat=true
  ·obtain ⟨hlt,hd'⟩:=hgo;go_wp2_with (first | (go_at_call 160;refine (Qbd _ _).mono ?_;rintro e w' ⟨rfl,rfl⟩) | (go_at_call 161;refine (Qa7 _ _).mono ?_;rintro e w' ⟨rfl,rfl⟩) | (go_at_call 162;refine (Qbt _ _).mono ?_;rintro e w' ⟨rfl,rfl⟩) | (go_at_call 163;refine (Qa3 _ _).mono ?_;rintro e w' ⟨rfl,rfl⟩) | (go_at_call 164;refine (Qan _ _).mono ?_;rintro e w' ⟨rfl,rfl⟩))
   go_round
   case rel=>exact ⟨k+1,by omega,by omega,by go_num,HR.out.next hlt hd'⟩
   case measure=>simp [intOf];omega
  ·have HN:Hid (Qc1 (suf s a)+a=k):=by
    unfold Qc1
    by_cases hlt:k<s.size
    ·exact hQ (HR.out.stop hlt (by simpa using fun h=>hgo ⟨hlt,h⟩))
    ·exact hQ (HR.out.done hlt)
   by_cases h1:a+1<k
   ·have hgt:1<(k:Int)-(a:Int):=by omega
    by_cases h48:s[a].toNat=48
    ·have h48':((s[a].toNat:Int)==48)=true:=Qco h48;have HX:=hQ (HK.out.trans (Qz0 h0 HN.out h1 h48));clear h48
     by_cases hlt:k<s.size
     all_goals
      first | (have hd':Qbm s[k].toNat=false:=by simpa using fun h=>hgo ⟨hlt,h⟩) | skip
      clear hgo;go_wp2_with (first | (go_at_call 160;refine (Qbd _ _).mono ?_;rintro e w' ⟨rfl,rfl⟩) | (go_at_call 161;refine (Qa7 _ _).mono ?_;rintro e w' ⟨rfl,rfl⟩) | (go_at_call 162;refine (Qbt _ _).mono ?_;rintro e w' ⟨rfl,rfl⟩) | (go_at_call 163;refine (Qa3 _ _).mono ?_;rintro e w' ⟨rfl,rfl⟩) | (go_at_call 164;refine (Qan _ _).mono ?_;rintro e w' ⟨rfl,rfl⟩))
      exact bodyPost_ret (v:=.agg #[.int .i64 0,.int .i64 0,.int .i64 2,.int .i64 a]) (by simp [results,Tryz.results138,go_sem]) rfl ⟨Qdr 0 1 HX.out rfl (by omega),(xC _ _).alloc (xA _) _⟩
    ·have h48':((s[a].toNat:Int)==48)=false:=Qc3 h48
     by_cases h15:a+15<k
     ·have hgt15:15<(k:Int)-(a:Int):=by omega
      have HX:=hQ (HK.out.trans (Qz1 h0 HN.out (fun h=>h48 h.2) h15));clear h48
      by_cases hlt:k<s.size
      all_goals
       first | (have hd':Qbm s[k].toNat=false:=by simpa using fun h=>hgo ⟨hlt,h⟩) | skip
       clear hgo;go_wp2_with (first | (go_at_call 160;refine (Qbd _ _).mono ?_;rintro e w' ⟨rfl,rfl⟩) | (go_at_call 161;refine (Qa7 _ _).mono ?_;rintro e w' ⟨rfl,rfl⟩) | (go_at_call 162;refine (Qbt _ _).mono ?_;rintro e w' ⟨rfl,rfl⟩) | (go_at_call 163;refine (Qa3 _ _).mono ?_;rintro e w' ⟨rfl,rfl⟩) | (go_at_call 164;refine (Qan _ _).mono ?_;rintro e w' ⟨rfl,rfl⟩))
       exact bodyPost_ret (v:=.agg #[.int .i64 0,.int .i64 0,.int .i64 3,.int .i64 a]) (by simp [results,Tryz.results138,go_sem]) rfl ⟨Qdr 0 2 HX.out rfl (by omega),(xC _ _).alloc (xA _) _⟩
     ·have hgt15:¬ 15<(k:Int)-(a:Int):=by omega
      have HX:=hQ (HK.out.trans (Zbs h0 HN.out (fun h=>h48 h.2) h15));clear h48
      by_cases hlt:k<s.size
      all_goals
       first | (have hd':Qbm s[k].toNat=false:=by simpa using fun h=>hgo ⟨hlt,h⟩) | skip
       clear hgo;go_wp2_with (first | (go_at_call 160;refine (Qbd _ _).mono ?_;rintro e w' ⟨rfl,rfl⟩) | (go_at_call 161;refine (Qa7 _ _).mono ?_;rintro e w' ⟨rfl,rfl⟩) | (go_at_call 162;refine (Qbt _ _).mono ?_;rintro e w' ⟨rfl,rfl⟩) | (go_at_call 163;refine (Qa3 _ _).mono ?_;rintro e w' ⟨rfl,rfl⟩) | (go_at_call 164;refine (Qan _ _).mono ?_;rintro e w' ⟨rfl,rfl⟩))
       exact bodyPost_ret (v:=.agg #[.int .i64 ((k:Int)-(a:Int)),.int .i64 5,.int .i64 0,.int .i64 0]) (by simp [results,Tryz.results138,go_sem]) rfl ⟨Qdw 5 (k-a) HX.out (by omega) rfl,(xC _ _).alloc (xA _) _⟩
   ·have hgt:¬ 1<(k:Int)-(a:Int):=by omega
    have hgt15:¬ 15<(k:Int)-(a:Int):=by omega
    have HX:=hQ (HK.out.trans (Zbs h0 HN.out (fun h=>h1 h.1) (by omega)))
    by_cases hlt:k<s.size
    all_goals
     first | (have hd':Qbm s[k].toNat=false:=by simpa using fun h=>hgo ⟨hlt,h⟩) | skip
     clear hgo;go_wp2_with (first | (go_at_call 160;refine (Qbd _ _).mono ?_;rintro e w' ⟨rfl,rfl⟩) | (go_at_call 161;refine (Qa7 _ _).mono ?_;rintro e w' ⟨rfl,rfl⟩) | (go_at_call 162;refine (Qbt _ _).mono ?_;rintro e w' ⟨rfl,rfl⟩) | (go_at_call 163;refine (Qa3 _ _).mono ?_;rintro e w' ⟨rfl,rfl⟩) | (go_at_call 164;refine (Qan _ _).mono ?_;rintro e w' ⟨rfl,rfl⟩))
     exact bodyPost_ret (v:=.agg #[.int .i64 ((k:Int)-(a:Int)),.int .i64 5,.int .i64 0,.int .i64 0]) (by simp [results,Tryz.results138,go_sem]) rfl ⟨Qdw 5 (k-a) HX.out (by omega) rfl,(xC _ _).alloc (xA _) _⟩
theorem Qz3 (s:ByteArray) (a:Nat) (w:World) (h0:a<s.size) (hs:s.size<maxLen)
  (hw:Qai s[a].toNat=true→∀ w:World,Calls Tryz.prog 165 #[.string s,.int .i64 a] w (Qcz s a w)) :
  Calls Tryz.prog 138 #[.string s,.int .i64 a] w (Qfq (Qb5 (suf s a)) a w):=by
 cases ha:Qaq s[a].toNat
 ·exact Qzz s a w h0 hs ha
 ·cases hl:Qai s[a].toNat
  ·cases hd:Qbm s[a].toNat
   ·by_cases h34:s[a].toNat=34
    ·exact Qwl s a w h0 hs h34
    ·exact Qwj s a w h0 hs ha hl hd h34
   ·exact Qz2 s a w h0 hs ha hl hd
  ·cases hd:Qbm s[a].toNat
   ·exact Qwk s a w h0 hs ha hl hd (hw hl)
   ·rw [Qoz hd] at hl;cases hl
end Go.Proofs.YtfjpemdejoejbaaGreat
