/- Part 54: The law TypesCycles, walked. -/
import Derived.Test.YtclkilljmdkfaaaTy1
import Derived.Test.YtclkilljmdkfaaaTy52
set_option maxRecDepth 100000
set_option maxHeartbeats 4000000
namespace Go.Proofs.Ytclkilljmdkfaaa
open Go.RowKit Go.Shelf
theorem i64_small {j:Nat} (h:j ≤ 20):W64 (j:Int):=wf_nat (by omega)
def CyL (N:Nat) (w2:World) (i:Value) (wr:World):Prop:=∃ j:Nat,i = .int .i64 (j:Int) ∧ j ≤ N + 1 ∧ Below w2.heap.size w2 wr
theorem cycles_walk (a0 a1:Int) (A2:Option Addr) (cap2:Nat) (ls:List Bool) (w:World) (ha:BoolsAt w A2 ls) :
  Calls Try.prog 4 #[.int .i64 a0,.int .i64 a1,.slice A2 ls.length cap2] w fun e w'=>e = .returned (.bool true) ∧ Below w.heap.size w w':=by
 have hbd:=modM_bd a0 (m:=20) (by decide)
 obtain ⟨N,hN⟩:∃ N:Nat,(N:Int) = modM a0 20:=⟨(modM a0 20).toNat,by omega⟩
 have hN20:N < 20:=by omega
 have hbd2:=modM_bd a1 (m:=1 + (N:Int)) (by omega)
 obtain ⟨B,hB⟩:∃ B:Nat,(B:Int) = modM a1 (1 + (N:Int)):=⟨(modM a1 (1 + (N:Int))).toNat,by omega⟩
 have hBN:B < N + 1:=by omega
 have HM:=hQ hN
 have HM2:=hQ hB
 have HC:=hQ (show Calls Try.prog 7 #[.int .i64 (1 + (N:Int)),.slice A2 ls.length cap2,.int .i64 (B:Int)] w fun e w'=>∃ u:TV,e = .returned (.agg #[.int .i64 u.kind,.string u.text,.slice u.la u.ll u.lc,.slice u.ka u.kl u.kc]) ∧ TrAt (fun b=>b < w'.heap.size) w' (Qal (N + 1) ls (B:Int)) u ∧ Below w.heap.size w w' from by
  have h:=chain_any A2 cap2 (N + 1) ls (B:Int) w ha (by omega) (by omega) (by omega)
  rw [show ((N + 1:Nat):Int) = 1 + (N:Int) from by omega] at h
  exact h)
 clear hbd hN ha hbd2 hB
 go_enter Try.func4,Try.ntmps4
 go_wp2_with fail
 go_at_call 6
 refine (mod_is _ _ N _ (by decide) (by decide) HM.out).mono ?_
 rintro e w' ⟨rfl,rfl⟩
 go_wp2_with fail
 go_at_call 6
 refine (mod_is _ _ B _ (by omega) (by omega) HM2.out).mono ?_
 rintro e w' ⟨rfl,rfl⟩
 go_wp2_with fail
 go_at_call 7
 refine HC.out.mono ?_
 rintro e w1 ⟨u,rfl,hu,hb1⟩
 obtain ⟨g,o,hka⟩:∃ b off,u.ka = some ⟨b,off,none⟩:=hu.addr.resolve_left (by rw [Qe2];omega)
 have hkl:u.kl = N + 1:=by have:=hu.kl.1;rw [Qe2] at this;exact this
 obtain ⟨uk,ux,ula,ull,ulc,uka,ukl,ukc⟩:=u
 simp only at hka hkl
 subst hka hkl
 have HU:=hQ hu
 have HB1:=hQ hb1
 clear hu hb1
 obtain ⟨w2,hw2⟩:∃ w2,w2 = w1.alloc (oneO ⟨uk,ux,ula,ull,ulc,some ⟨g,o,none⟩,N + 1,ukc⟩):=⟨_,rfl⟩
 have HBA:=hQ (show Below w1.heap.size w1 w2 from by rw [hw2];exact Qbk w1 (oneO ⟨uk,ux,ula,ull,ulc,some ⟨g,o,none⟩,N + 1,ukc⟩))
 have HX2:=hQ (show w2.heap[w1.heap.size]? = some (oneO ⟨uk,ux,ula,ull,ulc,some ⟨g,o,none⟩,N + 1,ukc⟩) from by rw [hw2];exact xH w1 (oneO ⟨uk,ux,ula,ull,ulc,some ⟨g,o,none⟩,N + 1,ukc⟩))
 have HU2:=hQ (TrAt.move (S':=fun b=>b < w2.heap.size) (fun b hb=>xE hb HBA.out.size) (fun b _ hl=>HBA.out.block b hl) _ _ HU.out)
 have HR:=hQ (root_one (S:=fun b=>b < w2.heap.size) HU2.out HX2.out (Qab HX2.out))
 have HB2:=hQ (HB1.out.trans (HBA.out.mono HB1.out.size))
 have HF:=hQ (fit_chain (n:=N + 1) ls (B:Int) (by omega))
 have HW:=hQ (words_chain (N + 1) ls (B:Int))
 have HZ:=hQ (show ∀ t ∈ [Qal (N + 1) ls (B:Int)],Qao t ≤ 1000 from fun t ht=>by obtain rfl:=List.mem_singleton.1 ht;have:=size_chain (n:=N + 1) ls (B:Int) (by omega);omega)
 have HZS:=hQ (show Qah [Qal (N + 1) ls (B:Int)] ≤ 90000 from by have:=chain_size1 (n:=N + 1) ls (B:Int) (by omega);omega)
 go_upto_region 4 with fail
 rw [← hw2]
 clear hw2
 go_wp2_with fail
 go_loopw [8] (fun i wr=>CyL N w2 i wr) (fun i _=>N + 1 - (intOf i).toNat)
 case atStart=>exact ⟨0,rfl,by omega,xC _ _⟩
 case round =>
  obtain ⟨j,rfl,hj,hb⟩:=hrel
  have HB:=hQ hb
  clear hb
  by_cases hlt:j < N + 1
  ·have j0:(0:Int) ≤ (j:Int):=by omega
   have j1:(j:Int) < 1 + (N:Int):=by omega
   have j2:(j:Int) + 1 ≤ 21:=by omega
   have HFL:=hQ (flat_cyc (n:=N + 1) (b:=B) (i:=j) ls (by omega) hBN hlt)
   have HCI:=hQ (circ_cyc (n:=N + 1) (b:=B) (i:=j) ls (by omega) hBN hlt)
   have x3:wr.cell? ⟨w1.heap.size,3,none⟩ = some (.slice (some ⟨g,o,none⟩) (N + 1) ukc):=Qaa ((HB.out.block _ (Qab HX2.out)).trans HX2.out) 3 _ rfl
   have xl:=xK wr _ x3
   have hkj:(Qal (N + 1) ls (B:Int)).kids[j]? = some (Qc2 (N + 1) ls (B:Int) j):=chain_get hlt
   obtain ⟨kv,c0,c1,c2,c3,hkv⟩:=(HU2.out.keep HB.out).at rfl hkj
   have hkx:kv.text = Qbg j:=hkv.kl.2.2.2
   rw [hkx] at c1
   clear c0 c2 c3 hkv hkj hkx
   have cl:=xK wr _ c1
   have HRK:=hQ (HR.out.keep HB.out)
   have j3:(j:Int) < ((N + 1:Nat):Int):=by omega
   go_wp2_with fail
   go_at_call 8
   refine (expand_any _ (fun _=>False) (some ⟨w1.heap.size,0,none⟩) 1 [Qal (N + 1) ls (B:Int)] 0 (Qa5 (Qbg j)) ⟨9,Qbg j,none,0,0,none,0,0⟩ _ HRK.out HF.out HW.out HZ.out HZS.out (Qen _ _ _ _) (name_small _) (name_words two_max) (name_size _)).mono ?_
   rintro e w5 ⟨u5,rfl,_,hb5⟩
   rw [HFL.out]
   have HB5:=hQ (HB.out.trans (hb5.mono HB.out.size))
   clear hb5
   have HB6:=hQ (HB5.out.alloc HB5.out.size (trO u5))
   go_wp2_with fail
   go_at_call 10
   refine (Qdn _ (some ⟨w1.heap.size,0,none⟩) 1 [Qal (N + 1) ls (B:Int)] 0 (j:Int) _ (HR.out.keep HB6.out) HF.out HW.out HZ.out HZS.out zero64 (i64_small (by omega))).mono ?_
   rintro e w8 ⟨rfl,hb8⟩
   have HB8:=hQ (HB6.out.trans (hb8.mono HB6.out.size))
   clear hb8
   rw [HCI.out]
   by_cases hbj:B ≤ j
   ·have q1:((B:Int)) ≤ (j:Int):=by omega
    have q2:decide (((B:Int)) ≤ (j:Int)) = true:=by simpa using hbj
    go_wp2_with fail
    go_roundw
    case measure=>first | (simp [intOf];done) | (simp [intOf];omega)
    case rel=>exact ⟨j + 1,rfl,by omega,HB8.out⟩
   ·have q1:¬ ((B:Int)) ≤ (j:Int):=by omega
    have q2:decide (((B:Int)) ≤ (j:Int)) = false:=by simpa using hbj
    go_wp2_with fail
    go_roundw
    case measure=>first | (simp [intOf];done) | (simp [intOf];omega)
    case rel=>exact ⟨j + 1,rfl,by omega,HB8.out⟩
  ·obtain rfl:j = N + 1:=by omega
   have j1:¬ ((((N + 1:Nat):Int)) < 1 + (N:Int)):=by omega
   go_wp2_with fail
   go_at_call 9
   refine (awake_typ _).mono ?_
   rintro e w7 ⟨rfl,hb7⟩
   have HB7:=hQ (HB2.out.trans ((HB.out.trans (hb7.mono HB.out.size)).mono HB2.out.size))
   clear hb7
   go_wp2_with fail
   go_ret
   exact ⟨rfl,HB7.out⟩
end Go.Proofs.Ytclkilljmdkfaaa
