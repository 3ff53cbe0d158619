/- Part 51 -/
import Derived.Test.YtfjpemdejoejbaaGreatTt50
set_option maxRecDepth 100000
set_option maxHeartbeats 4000000
namespace Go.Proofs.YtfjpemdejoejbaaGreat
open Go.RowKit Go.Shelf
def Ze4:ByteArray:=⟨#[109,111,100,117,108,101,32,65,32,116,121,112,101,32,84,32,61,32,91,66,46,85,93]⟩
def Ze5:ByteArray:=⟨#[109,111,100,117,108,101,32,66,32,116,121,112,101,32,85,32,61,32,73,110,116,32,116,121,112,101,32,86,32,61,32,86]⟩
def Qj4:Tr:=((Qf5 200 Ze4).getD (noTr,0,0)).1
def Qj5:Tr:=((Qf5 200 Ze5).getD (noTr,0,0)).1
theorem Ze6:Qf5 200 Ze4=some (Qj4,0,0):=by kernel_rfl
theorem Ze7:Qf5 200 Ze5=some (Qj5,0,0):=by kernel_rfl
theorem Zdz:Qe9 (Qap [Qj4,Qj5])=true:=by kernel_rfl
theorem Qym:Qaz (Qap [Qj4,Qj5])=true:=by kernel_rfl
theorem Zbi:Qak [Qj4,Qj5] = 9:=by kernel_rfl
theorem Ze8:Qal Qj4=4:=by kernel_rfl
theorem Ze9:Qal Qj5=5:=by kernel_rfl
def Qgg (x:ByteArray):Tr:=.mk 9 x [] []
theorem Zbx:Qbv [Qj4,Qj5] 0 (Qgg ⟨#[84]⟩)=(0,1,5):=by kernel_rfl
theorem Zfa:Qbv [Qj4,Qj5] 1 (Qgg ⟨#[86]⟩)=(19,0,0):=by kernel_rfl
theorem Zfb:Qh3 [Qj4,Qj5] 1 1=true:=by kernel_rfl
theorem Zfc:Qh3 [Qj4,Qj5] 1 0=false:=by kernel_rfl
theorem ex_of {ps:List Tr} {m:Int} {t:Tr} {n:Nat} {k:Int} (h:Qbv ps m t=(0,n,k)):exT ps m t=Qbp n (Qcw k):=by
 have h1:(Qbv ps m t).1=0:=by rw [h]
 rw [Qny h1,h]
theorem Zbj (k:Int):Qbp 1 (Qcw k) = .mk 8 ⟨#[]⟩ [] [Qcw k]:=by rw [Qbp,Qbp]
theorem Zfd:exT [Qj4,Qj5] 0 (Qgg ⟨#[84]⟩) = .mk 8 ⟨#[]⟩ [] [Qcw 5]:=(ex_of Zbx).trans (Zbj 5)
theorem Zfe:∀ t∈[Qj4,Qj5],Qal t≤1000:=fun t ht=>by
 rcases List.mem_cons.1 ht with h | h
 ·rw [h,Ze8];decide
 ·rw [List.mem_singleton.1 h,Ze9];decide
theorem Zd0:∃ a b:Tr,Qf5 200 ⟨#[109,111,100,117,108,101,32,65,32,116,121,112,101,32,84,32,61,32,91,66,46,85,93]⟩=some (a,0,0)∧Qf5 200 ⟨#[109,111,100,117,108,101,32,66,32,116,121,112,101,32,85,32,61,32,73,110,116,32,116,121,112,101,32,86,32,61,32,86]⟩=some (b,0,0)∧Qe9 (Qap [a,b])=true∧Qaz (Qap [a,b])=true∧Qak [a,b]≤90000∧(∀ t∈[a,b],Qal t≤1000)∧Qbv [a,b] 0 (Qgg ⟨#[84]⟩)=(0,1,5)∧Qbv [a,b] 1 (Qgg ⟨#[86]⟩)=(19,0,0)∧Qh3 [a,b] 1 1=true∧Qh3 [a,b] 1 0=false∧exT [a,b] 0 (Qgg ⟨#[84]⟩) = .mk 8 ⟨#[]⟩ [] [Qcw 5] :=
 ⟨Qj4,Qj5,Ze6,Ze7,Zdz,Qym,by rw [Zbi];decide,Zfe,Zbx,Zfa,Zfb,Zfc,Zfd⟩
theorem Qmu (x:ByteArray):Qbb (Qgg x)=true:=by unfold Qgg;rw [Qbb,Qc4];rfl
theorem Qpt (x:ByteArray):Qal (Qgg x)≤1000:=by unfold Qgg;rw [Qal,Qak];decide
theorem Qmv {x:ByteArray} (h:x.size<maxLen):Qaz (Qgg x)=true:=Qi1 h (fun t ht=>by simp at ht)
theorem Qlk (w:World):Calls Tryz.prog 7 #[] w fun e w'=>e = .returned (.bool true)∧Below w.heap.size w w':=by
 obtain ⟨a,b,hpa,hpb,hf,hw,hz,hzs,hf1,hf2,hc1,hc0,hex⟩:=Zd0;have HPA:=hQ hpa;have HPB:=hQ hpb;have HF:=hQ hf;have HW:=hQ hw;have HZ:=hQ hz;have HZS:=hQ hzs;have HF1:=hQ hf1;have HF2:=hQ hf2;have HC1:=hQ hc1;have HC0:=hQ hc0;have HEX:=hQ hex;have HSA:=hQ (show (⟨#[109,111,100,117,108,101,32,65,32,116,121,112,101,32,84,32,61,32,91,66,46,85,93]⟩:ByteArray).size≤maxLen from Nat.le_of_ble_eq_true rfl);have HSB:=hQ (show (⟨#[109,111,100,117,108,101,32,66,32,116,121,112,101,32,85,32,61,32,73,110,116,32,116,121,112,101,32,86,32,61,32,86]⟩:ByteArray).size≤maxLen from Nat.le_of_ble_eq_true rfl);have HNT:=hQ (Qmv (x:=⟨#[84]⟩) (Nat.lt_of_le_of_lt (show _≤1 from xA _) (by unfold maxLen;omega)));have HNV:=hQ (Qmv (x:=⟨#[86]⟩) (Nat.lt_of_le_of_lt (show _≤1 from xA _) (by unfold maxLen;omega)));clear hpa hpb hf hw hz hzs hf1 hf2 hc1 hc0 hex
 go_enter Tryz.func7,Tryz.ntmps7
 go_wp2_with fail
 go_at_call 26;refine (Qoq (n:=200) (Nat.le_of_ble_eq_true rfl) _ HSA.out HPA.out).mono ?_;rintro e w1 ⟨va,rfl,hta,hb1⟩;obtain ⟨ak,ax,ala,all',alc,aka,akl,akc⟩:=va;have HTA:=hQ hta;have HB1:=hQ hb1;have HBA:=hQ (Qbq w1 (trO ⟨ak,ax,ala,all',alc,aka,akl,akc⟩));have HXA:=hQ (xH w1 (trO ⟨ak,ax,ala,all',alc,aka,akl,akc⟩));clear hta hb1;go_wp2_with fail
 go_at_call 26;refine (Qoq (n:=200) (Nat.le_of_ble_eq_true rfl) _ HSB.out HPB.out).mono ?_;rintro e w2 ⟨vb,rfl,htb,hb2⟩;obtain ⟨bk,bx,bla,bll,blc,bka,bkl,bkc⟩:=vb;have HTB:=hQ htb;have HB2:=hQ hb2;have HXA2:=hQ ((hb2.block _ (Qab HXA.out)).trans HXA.out);have HB12:=hQ (HBA.out.trans (hb2.mono HBA.out.size));have a0:w2.cell? ⟨w1.heap.size,0,none⟩=some (.int .i64 ak):=Qaa HXA2.out 0 _ rfl;have a1:w2.cell? ⟨w1.heap.size,1,none⟩=some (.string ax):=Qaa HXA2.out 1 _ rfl;have a2:w2.cell? ⟨w1.heap.size,2,none⟩=some (.slice ala all' alc):=Qaa HXA2.out 2 _ rfl;have a3:w2.cell? ⟨w1.heap.size,3,none⟩=some (.slice aka akl akc):=Qaa HXA2.out 3 _ rfl;have al:=Qab HXA2.out;clear htb hb2;go_wp2_with fail
 go_at_call 8;obtain ⟨W3,hW3⟩:∃ W3,W3=(w2.alloc (.cells #[.int .i64 bk,.string bx,.slice bla bll blc,.slice bka bkl bkc] 25)).alloc (.cells #[.int .i64 ak,.string ax,.slice ala all' alc,.slice aka akl akc,.int .i64 bk,.string bx,.slice bla bll blc,.slice bka bkl bkc] 25):=⟨_,rfl⟩;rw [←hW3];have hrow3:W3.heap[w2.heap.size+1]? = some (.cells #[.int .i64 ak,.string ax,.slice ala all' alc,.slice aka akl akc,.int .i64 bk,.string bx,.slice bla bll blc,.slice bka bkl bkc] 25 (0,0)):=by rw [hW3];exact (Qch w2 _ _).2
 have hb3:Below w2.heap.size w2 W3:=by rw [hW3];exact Qc6 w2 _ _
 have HB3:=hQ hb3;have HTA3:=hQ (HTA.out.keep (HB12.out.trans (hb3.mono HB12.out.size)));have HTB3:=hQ (HTB.out.keep hb3);have HLA:=hQ (show ∀ k,(w.heap.size≤k∧k<w1.heap.size)→k<W3.heap.size from fun k h=>xE h.2 (xQ HB12.out.size hb3.size));have HLB:=hQ (show ∀ k,((w1.alloc (trO ⟨ak,ax,ala,all',alc,aka,akl,akc⟩)).heap.size≤k∧k<w2.heap.size)→k<W3.heap.size from fun k h=>xE h.2 hb3.size);have HR3:=hQ (Zbh HTA3.out HTB3.out HLA.out HLB.out hrow3);have HBW:=hQ (HB1.out.trans ((HB12.out.trans (hb3.mono HB12.out.size)).mono HB1.out.size));clear hrow3 hb3 hW3 a0 a1 a2 a3 al;refine (Qjo _ (fun _=>False) (some ⟨w2.heap.size+1,0,none⟩) 2 [a,b] 0 (Qgg ⟨#[84]⟩) ⟨9,⟨#[84]⟩,none,0,0,none,0,0⟩ W3 HR3.out HF.out HW.out HZS.out HZ.out (Qk9 _ _ _ _) (Qmu _) HNT.out (Qpt _)).mono ?_;rintro e w4 ⟨u,rfl,hu,hb4⟩;rw [HEX.out] at hu;rw [HF1.out];have q1:=hu.kl.1;have q3:=hu.kl.2.2.1;obtain ⟨g,o,hka⟩:∃ b off,u.ka=some ⟨b,off,none⟩:=hu.addr.resolve_left (by simp [Tr.kids]);obtain ⟨kv,k0,j1,j2,j3,hkv⟩:=hu.at (j:=0) hka rfl;have q4:=hkv.kl.2.2.1;clear j1 j2 j3;obtain ⟨uk,ux,ula,ull,ulc,uka,ukl,ukc⟩:=u;simp only at q1 q3 hka;subst hka;have e1:ukl=1:=q1;have e3:uk=8:=q3;have e4:kv.kind=5:=q4;subst e1 e3;rw [e4] at k0;simp only [Nat.zero_mul,Nat.add_zero] at k0;have kl:=xK w4 _ k0;have HB4:=hQ hb4;have HX4:=hQ (xH w4 (trO ⟨8,ux,ula,ull,ulc,some ⟨g,o,none⟩,1,ukc⟩));have HB4A:=hQ (hb4.alloc hb4.size (trO ⟨8,ux,ula,ull,ulc,some ⟨g,o,none⟩,1,ukc⟩));have HK4:=hQ k0;have HKL:=hQ kl;clear hu hb4 hkv q4 e4 q1 q3 k0 kl;go_wp2_with fail
 go_at_call 8;refine (Qjo _ (fun _=>False) (some ⟨w2.heap.size+1,0,none⟩) 2 [a,b] 1 (Qgg ⟨#[86]⟩) ⟨9,⟨#[86]⟩,none,0,0,none,0,0⟩ _ (HR3.out.keep HB4A.out) HF.out HW.out HZS.out HZ.out (Qk9 _ _ _ _) (Qmu _) HNV.out (Qpt _)).mono ?_;rintro e w5 ⟨u2,rfl,hu2,hb5⟩;clear hu2;rw [HF2.out];have HB5:=hQ (HB4A.out.trans (hb5.mono HB4A.out.size));have HX5:=hQ ((hb5.block _ (Qab HX4.out)).trans HX4.out);have HK5:=hQ (Qas hb5 (by rw [xI];exact Nat.lt_succ_of_lt HKL.out) (Qas (Qbq w4 (trO ⟨8,ux,ula,ull,ulc,some ⟨g,o,none⟩,1,ukc⟩)) HKL.out HK4.out));have x0:w5.cell? ⟨w4.heap.size,0,none⟩=some (.int .i64 8):=Qaa HX5.out 0 _ rfl;have x3:w5.cell? ⟨w4.heap.size,3,none⟩=some (.slice (some ⟨g,o,none⟩) 1 ukc):=Qaa HX5.out 3 _ rfl;have xl:=Qab HX5.out;have k0:w5.cell? ⟨g,o,none⟩=some (.int .i64 5):=HK5.out;have kl:=xK w5 _ k0;have HB5A:=hQ (HB5.out.alloc HB5.out.size (trO u2));have HCA:=hQ (fun w' (hb:Below W3.heap.size W3 w')=>Qhc _ (some ⟨w2.heap.size+1,0,none⟩) 2 [a,b] 1 1 w' (HR3.out.keep hb) HF.out HW.out HZS.out HZ.out (Qhw (n:=1) (by omega)) (Qhw (n:=1) (by omega)));have HCB:=hQ (fun w' (hb:Below W3.heap.size W3 w')=>Qhc _ (some ⟨w2.heap.size+1,0,none⟩) 2 [a,b] 1 0 w' (HR3.out.keep hb) HF.out HW.out HZS.out HZ.out (Qhw (n:=1) (by omega)) (Qhw (n:=0) (by omega)));rw [HC1.out] at HCA;rw [HC0.out] at HCB;clear hb5
 go_wp2_with (first
  | (go_at_call 11;refine (HCA.out _ HB5A.out).mono ?_;rintro e w6 ⟨rfl,hb⟩;have HB6:=hQ (HB5A.out.trans (hb.mono HB5A.out.size));clear hb HCA)
  | (go_at_call 11;refine (HCB.out _ HB6.out).mono ?_;rintro e w7 ⟨rfl,hb⟩;have HB7:=hQ (HB6.out.trans (hb.mono HB6.out.size));clear hb HCB))
 go_ret
 exact ⟨rfl,HBW.out.trans (HB7.out.mono HBW.out.size)⟩
end Go.Proofs.YtfjpemdejoejbaaGreat
