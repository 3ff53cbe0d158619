/- Part 54: The law ScopeAgrees, walked. -/
import Derived.Test.YtjidpkcjpgdafaaGreatSc1
import Derived.Test.YtjidpkcjpgdafaaGreatSc36
import Derived.Test.YtjidpkcjpgdafaaGreatSc53
import Derived.Test.YtjidpkcjpgdafaaGreatSc44
import Derived.Test.YtjidpkcjpgdafaaGreatSc19
import Derived.Deep.RegionHeld3
import Derived.StillTailTactics
import Derived.BigQuiet
import Derived.Deep.QuietTactic
set_option maxRecDepth 100000
set_option maxHeartbeats 4000000
namespace Go.Proofs.YtjidpkcjpgdafaaGreat
open Go.RowKit Go.Shelf
theorem Qan {w w':World} {g o:Nat} {x:Value} (hb:Below w.heap.size w w') (hg:g < w.heap.size) (h:w.cell? ⟨g,o,none⟩ = some x):w'.cell? ⟨g,o,none⟩ = some x:=(xJ (w:=w) (a:=⟨g,o,none⟩) (hb.block g hg)).trans h
theorem light_sco (A:Option Addr) (n c:Nat) (w:World):Calls Tryz.prog 23 #[.slice A n c] w fun e w'=>e = .returned (.bool (decide (n ≤ 120))) ∧ w' = w:=by
 have h:(decide ((n:Int) ≤ 120)) = decide (n ≤ 120):=by simp;omega
 go_enter Tryz.func23,Tryz.ntmps23
 go_wp2
 go_ret
 first | exact ⟨rfl,rfl⟩ | (rw [← h];exact ⟨rfl,rfl⟩) | (simp;done) | (simp;omega)
theorem find_len:(zs:List Int) → (t u:Tr) → Qcc t zs = some u → zs.length + Qak u ≤ Qak t
 | [],t,u,h=>by
  rw [Qcc] at h
  injection h with h
  subst h
  simp
 | i :: r,t,u,h=>by
  unfold Qcc at h
  split at h
  ·rename_i hk
   have h1:=find_len r _ u h
   obtain ⟨_,_,h3⟩:=kidB_get hk
   have h2:=size_kid1 h3
   rw [xD]
   omega
  ·cases h
def AtK (t:Tr) (z:List Int) (w:World) (s7:Value) (wx:World):Prop:=∃ (g:Nat) (x:TV),s7 = .pointer (some ⟨g,0,none⟩) ∧ wx.heap[g]? = some (trO x) ∧ x.kind = ((Qcc t z).getD noTr).kind ∧ x.text = ((Qcc t z).getD noTr).text ∧ Below w.heap.size w wx
theorem atk_late {t:Tr} {z:List Int} {w w3:World} {x:TV} (hz:w3.heap[w.heap.size]? = some (trO ⟨0,⟨#[]⟩,none,0,0,none,0,0⟩)) (h1:x.kind = ((Qcc t z).getD noTr).kind) (h2:x.text = ((Qcc t z).getD noTr).text) (hb:Below w.heap.size w w3):AtK t z w (.pointer (some ⟨w.heap.size,0,none⟩)) (Qfu w3 w.heap.size x) :=
 ⟨w.heap.size,x,rfl,Qgw x hz,h1,h2,hb.trans (Qcs w3 w.heap.size x)⟩
theorem atk_early {t:Tr} {z:List Int} {w w3:World} {x:TV} (h1:x.kind = ((Qcc t z).getD noTr).kind) (h2:x.text = ((Qcc t z).getD noTr).text) (hb:Below w.heap.size w w3):AtK t z w (.pointer (some ⟨w3.heap.size,0,none⟩)) (w3.alloc (trO x)) :=
 ⟨w3.heap.size,x,rfl,xH _ _,h1,h2,hb.alloc hb.size _⟩
theorem fns_facts {ps:List Tr} (hlen:ps.length ≤ 3) (hg:∀ t ∈ ps,GoodT t) {f:Tr} (h:f ∈ fnsL ps):Qcm f = true ∧ Qdq f = true ∧ Qak f ≤ 352 ∧ f.kind = 2:=by
 obtain ⟨T,h1,h2,h3⟩:=fns_mem h
 have hcnt:=root_cnt hlen hg
 have hs:=small_cnt _ (show cntT (rootT ps) ≤ 1048576 from by omega)
 have hw:=words_cnt _ (show cntT (rootT ps) ≤ 1048576 from by omega)
 obtain ⟨i,hi⟩:=List.mem_iff_getElem?.1 h1
 obtain ⟨j,hj⟩:=List.mem_iff_getElem?.1 h2
 have hi':(rootT ps).kids[i]? = some T:=hi
 have a1:=(Qfb ((Qfb hs).2.2 i T hi')).2.2 j f hj
 have a2:=(Qfc ((Qfc hw).2.2 i T hi')).2.2 j f hj
 have a3:=Qbk hj
 have a4:=(hg T h1).2.2.1
 exact ⟨a1,a2,by omega,h3⟩
theorem vars_paths {t:Tr} (hz:Qak t ≤ 352) {z:Vrb} (h:z ∈ varsR t):∃ u,Qcc t z.1 = some u ∧ u.kind = 12 ∧ z.1.length ≤ 352 ∧ ((z.2 = none ∧ u.text ∉ visR t z.1) ∨ ∃ q k,z.2 = some q ∧ u.text ∈ visR t z.1 ∧ Qcc t q = some k ∧ q.length ≤ 352 ∧ k.text = u.text ∧ (k.kind = 4 ∨ k.kind = 20)):=by
 obtain ⟨u,h1,h2,h3,h4⟩:=agree_vars (by omega) h
 have hl:=find_len _ _ _ h1
 refine ⟨u,h1,h2,by omega,?_⟩
 cases hz2:z.2 with
 | none =>
  rw [hz2] at h3
  exact .inl ⟨rfl,fun hx=>h3.1 hx rfl⟩
 | some q =>
  obtain ⟨k,k1,k2,k3⟩:=h4 q hz2
  have hl2:=find_len _ _ _ k1
  exact .inr ⟨q,k,rfl,h3.2 (by rw [hz2];simp),k1,by omega,k2,k3⟩
theorem vars_len {t:Tr}:(varsR t).length ≤ Qak t:=by
 unfold varsR
 split
 ·exact varsT_len t [] []
 ·simp
def hasN (l:List ByteArray) (x:ByteArray):Bool:=l.any fun y=>decide (y = x)
theorem hasN_iff {l:List ByteArray} {x:ByteArray}:hasN l x = true ↔ x ∈ l:=by
 unfold hasN
 rw [List.any_eq_true]
 constructor
 ·rintro ⟨y,h1,h2⟩
  simp only [decide_eq_true_eq] at h2
  exact h2 ▸ h1
 ·intro h
  exact ⟨x,h,by simp⟩
theorem hasN_next {l:List ByteArray} {m:Nat} {y:ByteArray} (x:ByteArray) (h:l[m]? = some y):hasN (l.take (m + 1)) x = (hasN (l.take m) x || decide (y = x)):=by
 unfold hasN
 rw [List.take_add_one,h,Option.toList_some,List.any_append]
 simp
theorem NRow.len {w:World} {B:Nat} {v:Value} {l:List ByteArray} (h:NRow w B v l):l.length ≤ maxLen:=by
 rcases h.2 with ⟨_,h0⟩ | ⟨g,cap,cur,_,_,_,hnc,hm,_⟩
 ·rw [h0];exact Nat.zero_le _
 ·exact Nat.le_trans hnc hm
theorem binder_in {w:World} {lo:Nat} {f u:Tr} {z:Vrb} {y:Value × Value × Bool} (h:z.2 = none ∧ y.2.1 = .slice none 0 0 ∧ y.2.2 = true ∨ ∃ q,z.2 = some q ∧ IRow w lo y.2.1 q ∧ y.2.2 = false)
  (h4:(z.2 = none ∧ u.text ∉ visR f z.1) ∨ ∃ q k,z.2 = some q ∧ u.text ∈ visR f z.1 ∧ Qcc f q = some k ∧ q.length ≤ 352 ∧ k.text = u.text ∧ (k.kind = 4 ∨ k.kind = 20)) :
  ∃ (q:List Int) (QA:Option Addr) (qc:Nat) (kk:Tr) (fr:Bool),y.2.1 = .slice QA q.length qc ∧ IntsAt w QA q ∧ q.length ≤ 352 ∧ Qcc f q = some kk ∧ y.2.2 = fr ∧ hasN (visR f z.1) u.text = !fr ∧ (fr = false → kk.text = u.text ∧ (kk.kind = 4 ∨ kk.kind = 20)):=by
 rcases h4 with ⟨z0,hn⟩ | ⟨q,k,z0,hn,hf,hl,hk⟩
 ·rcases h with ⟨_,a,b⟩ | ⟨q,a,_⟩
  ·refine ⟨[],none,0,f,true,a,fun h=>absurd rfl h,by simp,by rw [Qcc],b,?_,fun h=>by cases h⟩
   cases hh:hasN (visR f z.1) u.text
   ·rfl
   ·exact absurd (hasN_iff.1 hh) hn
  ·rw [z0] at a;cases a
 ·rcases h with ⟨a,_⟩ | ⟨q',a,b,c⟩
  ·rw [z0] at a;cases a
  ·rw [z0] at a
   injection a with a
   subst a
   obtain ⟨QA,qn,qc,hv⟩:=b.slice
   rw [hv] at b
   obtain ⟨e,hi⟩:=b.ints
   subst e
   exact ⟨q,QA,qc,k,false,hv,hi,hl,hf,c,hasN_iff.2 hn,fun _=>hk⟩
theorem same_bytes {x y:ByteArray} (h:y ≠ x):(y.toList == x.toList) = false:=by
 rw [beq_eq_false_iff_ne]
 exact fun e=>h (bytes_inj e)
theorem agrees_walk (A:Option Addr) (c:Nat) (xs:List Int) (w:World) (hx:IntsAt w A xs) :
  Calls Tryz.prog 12 #[.slice A xs.length c] w fun e w'=>e = .returned (.bool true) ∧ Below w.heap.size w w':=by
 by_cases hl:xs.length ≤ 120
 ·have d0:=decide_eq_true hl
  have HP:=hQ (functions_any A c xs w hx hl)
  clear hx hl
  go_enter Tryz.func12,Tryz.ntmps12
  go_wp2_with (first | (go_at_call 23;refine (light_sco _ _ _ _).mono ?_;rintro e w0 ⟨rfl,h0⟩;rw [h0];clear h0 w0) | fail)
  go_at_call 41
  refine HP.out.mono ?_
  rintro e w2 ⟨l2,w1,ps,rfl,hlen,hgood,hfr,hb12,hb2⟩
  obtain ⟨FA,fc,rfl⟩:=hfr.slice
  have HFR:=hQ hfr
  have HB12:=hQ hb12
  have HB2:=hQ hb2
  have HFF:=hQ (fun f (h:f ∈ fnsL ps)=>fns_facts hlen hgood h)
  obtain ⟨fs,hfs⟩:∃ fs,fs = fnsL ps:=⟨_,rfl⟩
  have hfl:fs.length ≤ 1056:=by
   rw [hfs]
   have h1:=fns_len ps
   have h2:=good_size ps hgood
   have h3:352 * ps.length ≤ 352 * 3:=Nat.mul_le_mul_left _ hlen
   omega
  rw [← hfs] at HFR HFF ⊢
  have hfi:(fs.length:Int) ≤ 1056:=by omega
  clear hfr hb12 hb2 hlen hgood hfs hfl
  go_wp2_with fail
  go_loopw [4] (fun i wr=>∃ q:Nat,i = .int .i64 (q:Int) ∧ q ≤ fs.length ∧ Below w2.heap.size w2 wr) (fun i _=>fs.length - (intOf i).toNat)
  case atStart=>exact ⟨0,rfl,Nat.zero_le _,xC _ _⟩
  case round =>
   obtain ⟨i,rfl,hq,hb⟩:=hrel
   obtain ⟨wo,hwo⟩:∃ w',w' = wr:=⟨_,rfl⟩
   subst hwo
   have HBR:=hQ hb
   clear hb
   by_cases hlt:i < fs.length
   ·obtain ⟨f,hf⟩:∃ f,fs[i]? = some f:=⟨_,xF hlt⟩
    obtain ⟨f1,f2,f3,f4⟩:=HFF.out f (List.mem_of_getElem? hf)
    obtain ⟨-,fb,-,rfl,-⟩:=(HFR.out.later HBR.out).at hf
    obtain ⟨_,_,⟨uk,ux,ula,ull,ulc,uka,ukl,ukc⟩,c0,c1,c2,c3,hu⟩:=HFR.out.in hf
    simp only at c0 c1 c2 c3
    have HU:=hQ hu
    have cl0:=xK w2 _ c0
    have C0:=hQ c0
    have C1:=hQ c1
    have C2:=hQ c2
    have C3:=hQ c3
    have CL:=hQ cl0
    clear c0 c1 c2 c3 cl0 hu hf
    have F1:=hQ f1
    have F2:=hQ f2
    have F3:=hQ f3
    clear f1 f2 f3 f4
    have c0:=Qan HBR.out CL.out C0.out
    have c1:=Qan HBR.out CL.out C1.out
    have c2:=Qan HBR.out CL.out C2.out
    have c3:=Qan HBR.out CL.out C3.out
    have cl:=xE CL.out HBR.out.size
    have i0:(0:Int) ≤ (i:Int):=by omega
    have i1:(i:Int) < (fs.length:Int):=by omega
    have i2:(i:Int) + 1 ≤ 1057:=by omega
    go_wp2_with fail
    go_at_call 36
    refine (variablesR_any _ f ⟨uk,ux,ula,ull,ulc,uka,ukl,ukc⟩ _ (HU.out.keep HBR.out) F1.out F2.out (by have:=F3.out;omega)).mono ?_
    rintro e w3 ⟨r,ws,rfl,hvr,hva,hb3⟩
    obtain ⟨VA,vc,rfl⟩:=Qdi hvr
    have hvl:=hva.1
    rw [hvl]
    have HVR:=hQ hvr
    have HVA:=hQ hva
    have HB3:=hQ (HBR.out.trans (hb3.mono HBR.out.size))
    obtain ⟨n,hn⟩:∃ n,n = (varsR f).length:=⟨_,rfl⟩
    have hnl:n ≤ 352:=by rw [hn];have h1:=vars_len (t:=f);have:=F3.out;omega
    rw [← hn]
    have HN:=hQ hn
    clear c0 c1 c2 c3 cl hvr hva hb3 hvl hn
    go_wp2_with fail
    go_loopw [6] (fun k wr=>∃ q:Nat,k = .int .i64 (q:Int) ∧ q ≤ n ∧ Below w3.heap.size w3 wr) (fun k _=>n - (intOf k).toNat)
    case atStart=>exact ⟨0,rfl,Nat.zero_le _,xC _ _⟩
    case round =>
     obtain ⟨k,rfl,hk,hb⟩:=hrel
     obtain ⟨w5,hwo⟩:∃ w',w' = wr:=⟨_,rfl⟩
     subst hwo
     have HB5:=hQ hb
     clear hb
     by_cases hkl:k < n
     ·obtain ⟨z,hz⟩:∃ z,(varsR f)[k]? = some z:=⟨_,xF (by rw [← HN.out];exact hkl)⟩
      obtain ⟨vb,vc2,y,hvv,_,vl0,_,p0,p1,p2,hy⟩:=HVR.out.at HVA.out hz
      injection hvv with hv1 hv2 hv3
      subst hv1 hv3
      clear hv2
      obtain ⟨PA,pn,pc,hpv⟩:=hy.1.slice
      have hpi:=hy.1
      rw [hpv] at hpi p0
      obtain ⟨hpn,hpi2⟩:=hpi.ints
      subst hpn
      have hpc:=(Qgm hpi)
      obtain ⟨u,e1,e2,e3,e4⟩:=vars_paths F3.out (List.mem_of_getElem? hz)
      have HC5:=hQ (HB3.out.trans (HB5.out.mono HB3.out.size))
      have c0:=Qan HC5.out CL.out C0.out
      have c1:=Qan HC5.out CL.out C1.out
      have c2:=Qan HC5.out CL.out C2.out
      have c3:=Qan HC5.out CL.out C3.out
      have cl:=xE CL.out HC5.out.size
      have p0:=Qan HB5.out vl0 p0
      have p1:=Qan HB5.out vl0 p1
      have p2:=Qan HB5.out vl0 p2
      have vl:=xE vl0 HB5.out.size
      have HPI:=hQ (hpi2.keep HB5.out)
      have HU5:=hQ (HU.out.keep HC5.out)
      have HCA:=hQ (fun (w':World) (hb:Below w5.heap.size w5 w')=>rat_any _ f ⟨uk,ux,ula,ull,ulc,uka,ukl,ukc⟩ PA pc z.1 w' (HU5.out.keep hb) (HPI.out.keep hb) (by unfold maxLen;omega))
      have HB55:=hQ (xC w5.heap.size w5)
      have HE1:=hQ e1
      have HE2:=hQ e2
      have HE3:=hQ e3
      have HE4:=hQ e4
      have HPC:=hQ hpc
      have HY2:=hQ hy.2
      have k0:(0:Int) ≤ (k:Int):=by omega
      have k1:(k:Int) < (n:Int):=by omega
      have k2:(k:Int) + 1 ≤ 353:=by omega
      clear hpi hpi2 e1 e2 e3 e4 hpc hy hpv hz vl0
      have n0:=World.new_ne w5 _ c0
      have n1:=World.new_ne w5 _ p0
      go_wp2_with fail
      go_cut [7] (fun s7 wx=>AtK f z.1 w5 s7 wx)
      case first =>
       as_aux_lemma =>
        clear p1 p2
        go_region_held3 (fun w'=>w'.cell? ⟨fb,i * 4,none⟩ = some (.int .i64 uk) ∧ w'.cell? ⟨fb,i * 4 + 1,none⟩ = some (.string ux) ∧ w'.cell? ⟨fb,i * 4 + 2,none⟩ = some (.slice ula ull ulc) ∧ w'.cell? ⟨fb,i * 4 + 3,none⟩ = some (.slice uka ukl ukc) ∧ w'.cell? ⟨vb,k * 3,none⟩ = some (.slice PA z.1.length pc)) (first | with_reducible exact ⟨c0,c1,c2,c3,p0⟩ | go_keep) (first
         | (go_at_call 42;refine (HCA.out w5.drew (HB55.out.drew)).mono ?_;rintro e w3 ⟨hb3,x,rfl,S3,_,hx3⟩;have HKX:=hQ (And.intro hx3.kl.2.2.1 hx3.kl.2.2.2);have HB3:=hQ (show Below w5.heap.size w5 w3 from (show Below w5.heap.size w5 w5.drew from (xC _ _).drew).trans hb3);have h0:=Qan HB3.out cl c0;have h1:=Qan HB3.out cl c1;have h2:=Qan HB3.out cl c2;have h3:=Qan HB3.out cl c3;have h4:=Qan HB3.out vl p0;have g0:=xE cl HB3.out.size;have g1:=xE vl HB3.out.size;clear c0 c1 c2 c3 p0 cl vl;have c0:=h0;have c1:=h1;have c2:=h2;have c3:=h3;have p0:=h4;have cl:=g0;have vl:=g1;clear h0 h1 h2 h3 h4 g0 g1;clear hb3 hx3)
         | (go_at_call 42;refine (HCA.out ((w5.alloc (.cells #[.int .i64 0,.string ⟨#[]⟩,.slice none 0 0,.slice none 0 0] 29)).drew) ((HB55.out.alloc HB55.out.size _).drew)).mono ?_;rintro e w3 ⟨hb3,x,rfl,S3,_,hx3⟩;have HKX:=hQ (And.intro hx3.kl.2.2.1 hx3.kl.2.2.2);have HB3:=hQ (show Below w5.heap.size w5 w3 from (((xC w5.heap.size w5).alloc (xA _) (.cells #[.int .i64 0,.string ⟨#[]⟩,.slice none 0 0,.slice none 0 0] 29)).drew).trans (hb3.mono (by show _ ≤ (w5.alloc _).heap.size;rw [xI];omega)));have hzb:=(show w3.heap[w5.heap.size]? = some (.cells #[.int .i64 0,.string ⟨#[]⟩,.slice none 0 0,.slice none 0 0] 29 (0,0)) from (hb3.block _ (by show _ < (w5.alloc _).heap.size;rw [xI];omega)).trans (xH w5 _));have HZB:=hQ hzb;have zf:∀ o,w3.frozen? ⟨w5.heap.size,o,none⟩ = false:=(fun o=>Lib.frozen_of_heap hzb _);have zl:=Qaa hzb;have z0:w3.cell? ⟨w5.heap.size,0,none⟩ = some (.int .i64 0):=Qab hzb 0 _ rfl;have z1:w3.cell? ⟨w5.heap.size,1,none⟩ = some (.string ⟨#[]⟩):=Qab hzb 1 _ rfl;have z2:w3.cell? ⟨w5.heap.size,2,none⟩ = some (.slice none 0 0):=Qab hzb 2 _ rfl;have z3:w3.cell? ⟨w5.heap.size,3,none⟩ = some (.slice none 0 0):=Qab hzb 3 _ rfl;have h0:=Qan HB3.out cl c0;have h1:=Qan HB3.out cl c1;have h2:=Qan HB3.out cl c2;have h3:=Qan HB3.out cl c3;have h4:=Qan HB3.out vl p0;have g0:=xE cl HB3.out.size;have g1:=xE vl HB3.out.size;clear c0 c1 c2 c3 p0 cl vl;have c0:=h0;have c1:=h1;have c2:=h2;have c3:=h3;have p0:=h4;have cl:=g0;have vl:=g1;clear h0 h1 h2 h3 h4 g0 g1;clear hb3 hx3 hzb)
         | fail)
        all_goals
         go_wp2_with fail
         go_meet
         first
          | (have hh:=HZB.out;clear hh;exact atk_late HZB.out HKX.out.1 HKX.out.2 HB3.out)
          | exact atk_early HKX.out.1 HKX.out.2 HB3.out
      case rest =>
       obtain ⟨w6,hww⟩:∃ w',w' = wc:=⟨_,rfl⟩
       subst hww
       obtain ⟨g7,x,rfl,hxb,hxk,hxt,hb6⟩:=hcut
       rw [HE1.out,Option.getD_some] at hxk hxt
       rw [HE2.out] at hxk
       obtain ⟨xk,xx,xla,xll,xlc,xka,xkl,xkc⟩:=x
       simp only at hxk hxt
       subst hxk
       have HXT:=hQ hxt
       have HXB:=hQ hxb
       have HB6:=hQ hb6
       have c0':=Qan hb6 cl c0
       have c1':=Qan hb6 cl c1
       have c2':=Qan hb6 cl c2
       have c3':=Qan hb6 cl c3
       have p0':=Qan hb6 vl p0
       have P1:=hQ p1
       have P2:=hQ p2
       have C05:=hQ c0
       have C15:=hQ c1
       have C25:=hQ c2
       have C35:=hQ c3
       have CL5:=hQ cl
       have VL5:=hQ vl
       have cl':=xE cl hb6.size
       have vl':=xE vl hb6.size
       clear c0 c1 c2 c3 p0 p1 p2 cl vl n0 n1 hxb hxt hb6
       go_wp2_with fail
       go_still_tail 9,(by kernel_rfl)
       change wpList _ _ _ _ _ w6.drew
       have HBD:=hQ (show Below w6.heap.size w6 w6.drew from (xC _ _).drew)
       clear c0' c1' c2' c3' p0' cl' vl'
       generalize w6.drew = wd at HBD ⊢
       repeat (first | go_values | go_skip | go_guarded | go_step | go_upon)
       go_at_call 39
       have HBD5:=hQ (HB6.out.trans (HBD.out.mono HB6.out.size))
       refine (visible_any _ f ⟨uk,ux,ula,ull,ulc,uka,ukl,ukc⟩ PA pc z.1 _ (HU5.out.keep HBD5.out) F1.out F2.out (by have:=F3.out;omega) (HPI.out.keep HBD5.out) (by have:=HE3.out;omega) HPC.out).mono ?_
       rintro e w7 ⟨r,rfl,hr,hb7⟩
       obtain ⟨NA,nc,rfl⟩:=Qdi hr
       have HNR:=hQ hr
       have HB7:=hQ (HBD5.out.trans (hb7.mono HBD5.out.size))
       have HB67:=hQ (HBD.out.trans (hb7.mono HBD.out.size))
       clear hr hb7
       dsimp only
       repeat go_step
       obtain ⟨q,QA,qc,kk,fr,hq1,hq2,hq3,hq4,hq5,hq6,hq7⟩:=binder_in HY2.out HE4.out
       obtain ⟨l,hl⟩:∃ l,l = visR f z.1:=⟨_,rfl⟩
       rw [← hl] at HNR hq6 ⊢
       rw [← HXT.out] at hq6 hq7
       have HQ2:=hQ hq2
       have HQ3:=hQ hq3
       have HQ4:=hQ hq4
       have HQ6:=hQ hq6
       have HQ7:=hQ hq7
       have P1':=P1.out
       have P2':=P2.out
       rw [hq1] at P1'
       rw [hq5] at P2'
       have HP1:=hQ P1'
       have HP2:=hQ P2'
       have hlm:=HNR.out.len
       have hlm:(l.length:Int) ≤ 9223372036854775807:=by unfold maxLen at hlm;omega
       clear hq1 hq2 hq3 hq4 hq5 hq6 hq7 hl P1' P2'
       go_wp2_with fail
       go_loopw [10,11] (fun h m wr=>∃ q:Nat,m = .int .i64 (q:Int) ∧ q ≤ l.length ∧ h = .bool (hasN (l.take q) xx) ∧ Below w7.heap.size w7 wr) (fun _ m _=>l.length - (intOf m).toNat)
       case atStart=>exact ⟨0,rfl,Nat.zero_le _,rfl,xC _ _⟩
       case round =>
        obtain ⟨m,rfl,hm,rfl,hb⟩:=hrel
        have HBM:=hQ hb
        clear hb
        by_cases hml:m < l.length
        ·obtain ⟨y,hy⟩:∃ y,l[m]? = some y:=⟨_,xF hml⟩
         obtain ⟨g9,cap9,hv9,_,_⟩:=World.ownsRow.form HNR.out (by omega)
         injection hv9 with hv9 hv9b hv9c
         subst hv9 hv9c
         clear hv9b
         obtain ⟨_,_,hl9,_,_,_,hc9⟩:=HNR.out.cells
         have y0:=Qan HBM.out hl9 (hc9 m y hy)
         have yl:=xE hl9 HBM.out.size
         have hx7:=(HBM.out.block _ (xE (Qaa HXB.out) HB67.out.size)).trans ((HB67.out.block _ (Qaa HXB.out)).trans HXB.out)
         have x1:wr.cell? ⟨g7,1,none⟩ = some (.string xx):=Qab hx7 1 _ rfl
         have xl:=Qaa hx7
         have m0:(0:Int) ≤ (m:Int):=by omega
         have m1:(m:Int) < (l.length:Int):=by omega
         have HHN:=hQ (hasN_next xx hy)
         clear hc9 hl9 hx7 hy
         cases hh:hasN (l.take m) xx
         ·by_cases hyx:y = xx
          ·subst hyx
           have HR:=hQ (show hasN (l.take (m + 1)) y = true from by rw [HHN.out,hh];simp)
           clear hh
           go_wp2_with fail
           go_quiet (fail)
           all_goals
            go_wp2_with fail
            go_roundw
            case measure=>first | (simp [intOf];done) | (simp [intOf];omega)
            case rel=>exact ⟨m + 1,rfl,by omega,by rw [HR.out],HBM.out.trans ((Qhf wr.heap.size wr _).mono HBM.out.size)⟩
          ·have HR:=hQ (show hasN (l.take (m + 1)) xx = false from by rw [HHN.out,hh];simp [hyx])
           have e1:=same_bytes hyx
           clear hh hyx
           go_wp2_with fail
           go_quiet (fail)
           all_goals
            go_wp2_with fail
            go_roundw
            case measure=>first | (simp [intOf];done) | (simp [intOf];omega)
            case rel=>exact ⟨m + 1,rfl,by omega,by rw [HR.out],HBM.out.trans ((Qhf wr.heap.size wr _).mono HBM.out.size)⟩
         ·have HR:=hQ (show hasN (l.take (m + 1)) xx = true from by rw [HHN.out,hh];rfl)
          clear hh
          go_wp2_with fail
          go_quiet (fail)
          all_goals
           go_wp2_with fail
           go_roundw
           case measure=>first | (simp [intOf];done) | (simp [intOf];omega)
           case rel=>exact ⟨m + 1,rfl,by omega,by rw [HR.out],HBM.out.trans ((Qhf wr.heap.size wr _).mono HBM.out.size)⟩
        ·obtain rfl:m = l.length:=by omega
         rw [List.take_length]
         obtain ⟨w9,hww⟩:∃ w',w' = wr:=⟨_,rfl⟩
         subst hww
         have HB9:=hQ (HB7.out.trans (HBM.out.mono HB7.out.size))
         have c0:=Qan HB9.out CL5.out C05.out
         have c1:=Qan HB9.out CL5.out C15.out
         have c2:=Qan HB9.out CL5.out C25.out
         have c3:=Qan HB9.out CL5.out C35.out
         have cl:=xE CL5.out HB9.out.size
         have p1:=Qan HB9.out VL5.out HP1.out
         have vl:=xE VL5.out HB9.out.size
         have n0:=World.new_ne w9 _ c0
         have n1:=World.new_ne w9 _ p1
         have HCB:=hQ (fun (w':World) (hb:Below w9.heap.size w9 w')=>rat_any _ f ⟨uk,ux,ula,ull,ulc,uka,ukl,ukc⟩ QA qc q w' ((HU5.out.keep HB9.out).keep hb) (((HQ2.out.keep HB5.out).keep HB9.out).keep hb) (by have:=HQ3.out;unfold maxLen;omega))
         have HB99:=hQ (xC w9.heap.size w9)
         go_wp2_with fail
         go_cut [12,13] (fun s7 s8 wx=>AtK f q w9 s7 wx ∧ s8 = .bool true)
         case first =>
          as_aux_lemma =>
           go_region_held3 (fun w'=>w'.cell? ⟨fb,i * 4,none⟩ = some (.int .i64 uk) ∧ w'.cell? ⟨fb,i * 4 + 1,none⟩ = some (.string ux) ∧ w'.cell? ⟨fb,i * 4 + 2,none⟩ = some (.slice ula ull ulc) ∧ w'.cell? ⟨fb,i * 4 + 3,none⟩ = some (.slice uka ukl ukc) ∧ w'.cell? ⟨vb,k * 3 + 1,none⟩ = some (.slice QA q.length qc)) (first | with_reducible exact ⟨c0,c1,c2,c3,p1⟩ | go_keep) (first
            | (go_at_call 42;refine (HCB.out w9.drew (HB99.out.drew)).mono ?_;rintro e w3 ⟨hb3,x,rfl,S3,_,hx3⟩;have HKX:=hQ (And.intro hx3.kl.2.2.1 hx3.kl.2.2.2);have HB3:=hQ (show Below w9.heap.size w9 w3 from (show Below w9.heap.size w9 w9.drew from (xC _ _).drew).trans hb3);have h0:=Qan HB3.out cl c0;have h1:=Qan HB3.out cl c1;have h2:=Qan HB3.out cl c2;have h3:=Qan HB3.out cl c3;have h4:=Qan HB3.out vl p1;have g0:=xE cl HB3.out.size;have g1:=xE vl HB3.out.size;clear c0 c1 c2 c3 p1 cl vl;have c0:=h0;have c1:=h1;have c2:=h2;have c3:=h3;have p1:=h4;have cl:=g0;have vl:=g1;clear h0 h1 h2 h3 h4 g0 g1;clear hb3 hx3)
            | (go_at_call 42;refine (HCB.out ((w9.alloc (.cells #[.int .i64 0,.string ⟨#[]⟩,.slice none 0 0,.slice none 0 0] 29)).drew) ((HB99.out.alloc HB99.out.size _).drew)).mono ?_;rintro e w3 ⟨hb3,x,rfl,S3,_,hx3⟩;have HKX:=hQ (And.intro hx3.kl.2.2.1 hx3.kl.2.2.2);have HB3:=hQ (show Below w9.heap.size w9 w3 from (((xC w9.heap.size w9).alloc (xA _) (.cells #[.int .i64 0,.string ⟨#[]⟩,.slice none 0 0,.slice none 0 0] 29)).drew).trans (hb3.mono (by show _ ≤ (w9.alloc _).heap.size;rw [xI];omega)));have hzb:=(show w3.heap[w9.heap.size]? = some (.cells #[.int .i64 0,.string ⟨#[]⟩,.slice none 0 0,.slice none 0 0] 29 (0,0)) from (hb3.block _ (by show _ < (w9.alloc _).heap.size;rw [xI];omega)).trans (xH w9 _));have HZB:=hQ hzb;have zf:∀ o,w3.frozen? ⟨w9.heap.size,o,none⟩ = false:=(fun o=>Lib.frozen_of_heap hzb _);have zl:=Qaa hzb;have z0:w3.cell? ⟨w9.heap.size,0,none⟩ = some (.int .i64 0):=Qab hzb 0 _ rfl;have z1:w3.cell? ⟨w9.heap.size,1,none⟩ = some (.string ⟨#[]⟩):=Qab hzb 1 _ rfl;have z2:w3.cell? ⟨w9.heap.size,2,none⟩ = some (.slice none 0 0):=Qab hzb 2 _ rfl;have z3:w3.cell? ⟨w9.heap.size,3,none⟩ = some (.slice none 0 0):=Qab hzb 3 _ rfl;have h0:=Qan HB3.out cl c0;have h1:=Qan HB3.out cl c1;have h2:=Qan HB3.out cl c2;have h3:=Qan HB3.out cl c3;have h4:=Qan HB3.out vl p1;have g0:=xE cl HB3.out.size;have g1:=xE vl HB3.out.size;clear c0 c1 c2 c3 p1 cl vl;have c0:=h0;have c1:=h1;have c2:=h2;have c3:=h3;have p1:=h4;have cl:=g0;have vl:=g1;clear h0 h1 h2 h3 h4 g0 g1;clear hb3 hx3 hzb)
            | fail)
           all_goals
            go_wp2_with fail
            go_meet
            first
             | (have hh:=HZB.out;clear hh;exact ⟨atk_late HZB.out HKX.out.1 HKX.out.2 HB3.out,by rw [HQ4.out];rfl⟩)
             | exact ⟨atk_early HKX.out.1 HKX.out.2 HB3.out,by rw [HQ4.out];rfl⟩
         case rest =>
          obtain ⟨w6',hww⟩:∃ w',w' = wc:=⟨_,rfl⟩
          subst hww
          obtain ⟨⟨g12,x,rfl,hxb,hxk,hxt,hb6⟩,rfl⟩:=hcut
          rw [HQ4.out,Option.getD_some] at hxk hxt
          obtain ⟨yk,yx,yla,yll,ylc,yka,ykl,ykc⟩:=x
          simp only at hxk hxt
          have hx7:=(hb6.block _ (xE (Qaa HXB.out) (Nat.le_trans HB67.out.size HBM.out.size))).trans ((HBM.out.block _ (xE (Qaa HXB.out) HB67.out.size)).trans ((HB67.out.block _ (Qaa HXB.out)).trans HXB.out))
          have x0:w6'.cell? ⟨g7,0,none⟩ = some (.int .i64 12):=Qab hx7 0 _ rfl
          have x1:w6'.cell? ⟨g7,1,none⟩ = some (.string xx):=Qab hx7 1 _ rfl
          have xl:=Qaa hx7
          have y0:w6'.cell? ⟨g12,0,none⟩ = some (.int .i64 yk):=Qab hxb 0 _ rfl
          have y1:w6'.cell? ⟨g12,1,none⟩ = some (.string yx):=Qab hxb 1 _ rfl
          have yl:=Qaa hxb
          have p2:=Qan hb6 vl (Qan HB9.out VL5.out HP2.out)
          have vl':=xE vl hb6.size
          have HBE:=hQ (show Below w3.heap.size w3 w6' from HB5.out.trans ((HB9.out.trans (hb6.mono HB9.out.size)).mono HB5.out.size))
          rw [HQ6.out]
          clear c0 c1 c2 c3 cl p1 n0 n1 hb6 hxb hx7 vl
          cases fr with
          | true =>
           clear hxk hxt
           go_wp2_with fail
           go_roundw
           case measure=>first | (simp [intOf];done) | (simp [intOf];omega)
           case rel=>exact ⟨k + 1,rfl,by omega,HBE.out⟩
          | false =>
           obtain ⟨hkt,hkk⟩:=HQ7.out rfl
           have hyx:yx = xx:=by rw [hxt,hkt]
           subst hyx
           rcases hkk with hkk | hkk
           all_goals
            have hyk:=hxk.trans hkk
            subst hyk
            clear hxk hxt hkt hkk
            go_wp2_with fail
            go_roundw
            case measure=>first | (simp [intOf];done) | (simp [intOf];omega)
            case rel=>exact ⟨k + 1,rfl,by omega,HBE.out⟩
     ·obtain rfl:k = n:=by omega
      go_wp2_with fail
      go_roundw
      case measure=>first | (simp [intOf];done) | (simp [intOf];omega)
      case rel=>exact ⟨i + 1,rfl,by omega,HB3.out.trans (HB5.out.mono HB3.out.size)⟩
   ·obtain rfl:i = fs.length:=by omega
    go_wp2_with fail
    go_at_call 32
    refine (awake_sco _).mono ?_
    rintro e w9 ⟨rfl,hb9⟩
    have HB9:=hQ (HB2.out.trans ((HBR.out.trans (hb9.mono HBR.out.size)).mono HB2.out.size))
    clear hb9
    go_wp2_with fail
    go_ret
    exact ⟨rfl,HB9.out⟩
 ·have d0:=decide_eq_false hl
  clear hx hl
  go_enter Tryz.func12,Tryz.ntmps12
  go_wp2_with (first | (go_at_call 23;refine (light_sco _ _ _ _).mono ?_;rintro e w0 ⟨rfl,h0⟩;rw [h0];clear h0 w0) | (go_at_call 32;refine (awake_sco _).mono ?_;rintro e w9 ⟨rfl,hb9⟩;have HB9:=hQ hb9;clear hb9))
  go_ret
  exact ⟨rfl,HB9.out⟩
end Go.Proofs.YtjidpkcjpgdafaaGreat
