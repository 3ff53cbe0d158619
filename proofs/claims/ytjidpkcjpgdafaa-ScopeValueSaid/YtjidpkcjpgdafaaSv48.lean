/- Part 48: The law ScopeValue, walked. -/
import Derived.Test.YtjidpkcjpgdafaaSv1
import Derived.Test.YtjidpkcjpgdafaaSv46
import Derived.Test.YtjidpkcjpgdafaaSv47
set_option maxRecDepth 100000
set_option maxHeartbeats 4000000
namespace Go.Proofs.Ytjidpkcjpgdafaa
open Go.RowKit Go.Shelf
theorem leaf_of (S:Nat → Prop) (w:World) (k:Int) (x:ByteArray):TrAt S w (.mk k x [] []) ⟨k,x,none,0,0,none,0,0⟩:=by
 unfold TrAt
 exact ⟨rfl,rfl,rfl,rfl,fun h=>absurd rfl h,fun h=>absurd rfl h,xA _,xA _⟩
theorem two_of {S:Nat → Prop} {g:Nat} {w:World} {a b:Tr} {u v:TV} (k:Int) (x:ByteArray) (ha:TrAt S w a u) (hb:TrAt S w b v)
  (hg:w.heap[g]? = some (.cells (Qah [u,v]).toArray 26 (0,0))) (hS:S g):TrAt S w (.mk k x [] [a,b]) ⟨k,x,none,0,0,some ⟨g,0,none⟩,2,2⟩:=by
 unfold TrAt
 refine ⟨rfl,rfl,rfl,rfl,fun hne=>absurd rfl hne,fun _=>⟨g,0,rfl,hS,TrsAt.of [a,b] 0 fun i t ht=>?_⟩,xA _,xA _⟩
 obtain ⟨y,hy⟩:∃ y,[u,v][i]? = some y:=⟨_,xF (by have:=(List.getElem?_eq_some_iff.1 ht).1;simpa using this)⟩
 obtain ⟨q0,q1,q2,q3⟩:=tvCells_get [u,v] i y hy
 have hc:∀ (j:Nat) (x:Value),(Qah [u,v])[j]? = some x → w.cell? ⟨g,j,none⟩ = some x:=fun j x hx=>Qab hg j x (by simpa using hx)
 rw [Nat.zero_add]
 refine ⟨y,hc _ _ q0,hc _ _ q1,hc _ _ q2,hc _ _ q3,?_⟩
 match i,ht,hy with
 | 0,ht,hy =>
  injection ht with ht
  injection hy with hy
  subst ht hy
  exact ha
 | 1,ht,hy =>
  injection ht with ht
  injection hy with hy
  subst ht hy
  exact hb
 | i + 2,ht,_=>simp at ht
def LetL (N:Nat) (w:World) (i:Value) (wr:World):Prop:=∃ (j:Nat) (v:TV),i = .int .i64 (j:Int) ∧ j ≤ N ∧ wr.heap[w.heap.size]? = some (trO v) ∧ TrAt (fun b=>w.heap.size < b ∧ b < wr.heap.size) wr (letN j) v ∧ Below w.heap.size w wr
theorem let_next {N j:Nat} {v:TV} {w wr:World} (ht:TrAt (fun b=>w.heap.size < b ∧ b < wr.heap.size) wr (letN j) v) (hx:wr.heap[w.heap.size]? = some (trO v)) (hj:j + 1 ≤ N) (hb:Below w.heap.size w wr) :
  LetL N w (.int .i64 ((j:Int) + 1)) ((setT wr w.heap.size ⟨20,⟨#[120]⟩,none,0,0,some ⟨wr.heap.size,0,none⟩,2,2⟩).alloc (.cells (Qah [⟨12,⟨#[120]⟩,none,0,0,none,0,0⟩,v]).toArray 26)):=by
 obtain ⟨W,hW⟩:∃ W,W = setT wr w.heap.size ⟨20,⟨#[120]⟩,none,0,0,some ⟨wr.heap.size,0,none⟩,2,2⟩:=⟨_,rfl⟩
 have hx2:W.heap[w.heap.size]? = some (trO ⟨20,⟨#[120]⟩,none,0,0,some ⟨wr.heap.size,0,none⟩,2,2⟩):=by rw [hW];exact setT_heap _ hx
 have hs:W.heap.size = wr.heap.size:=by rw [hW];exact setT_size _ _ _
 have hbw:Below w.heap.size w W:=by rw [hW];exact hb.trans (setT_below _ _ _)
 have hne:∀ b:Nat,w.heap.size < b → W.heap[b]? = wr.heap[b]?:=fun b hb=>by rw [hW];exact setT_ne _ _ (by omega)
 have kl:=Qaa hx
 rw [← hW]
 have hba:=Qaf W (.cells (Qah [⟨12,⟨#[120]⟩,none,0,0,none,0,0⟩,v]).toArray 26)
 have hg:=xH W (.cells (Qah [⟨12,⟨#[120]⟩,none,0,0,none,0,0⟩,v]).toArray 26)
 rw [hs] at hba hg
 clear hW
 refine ⟨j + 1,⟨20,⟨#[120]⟩,none,0,0,some ⟨wr.heap.size,0,none⟩,2,2⟩,by simp,hj,(hba.block _ kl).trans hx2,?_,hbw.trans (hba.mono (by omega))⟩
 refine two_of 20 ⟨#[120]⟩ (leaf_of _ _ _ _) (TrAt.move (fun b hb=>⟨hb.1,?_⟩) (fun b hb _=>(hba.block b hb.2).trans (hne b hb.1)) _ _ ht) hg ⟨kl,?_⟩
 ·have:=hb.2
  rw [xI]
  omega
 ·rw [xI]
  omega
theorem fn_at {j:Nat} {v:TV} {w wr:World} (ht:TrAt (fun b=>w.heap.size < b ∧ b < wr.heap.size) wr (letN j) v) (hb:Below w.heap.size w wr) :
  TrAt (fun b=>b < ((wr.alloc (.cells (Qah [⟨5,⟨#[]⟩,none,0,0,none,0,0⟩,v]).toArray 26)).alloc (trO ⟨2,⟨#[102]⟩,none,0,0,some ⟨wr.heap.size,0,none⟩,2,2⟩)).heap.size) ((wr.alloc (.cells (Qah [⟨5,⟨#[]⟩,none,0,0,none,0,0⟩,v]).toArray 26)).alloc (trO ⟨2,⟨#[102]⟩,none,0,0,some ⟨wr.heap.size,0,none⟩,2,2⟩)) (fnN j) ⟨2,⟨#[102]⟩,none,0,0,some ⟨wr.heap.size,0,none⟩,2,2⟩ ∧
  Below w.heap.size w ((wr.alloc (.cells (Qah [⟨5,⟨#[]⟩,none,0,0,none,0,0⟩,v]).toArray 26)).alloc (trO ⟨2,⟨#[102]⟩,none,0,0,some ⟨wr.heap.size,0,none⟩,2,2⟩)):=by
 obtain ⟨W,hW⟩:∃ W,W = wr.alloc (.cells (Qah [⟨5,⟨#[]⟩,none,0,0,none,0,0⟩,v]).toArray 26):=⟨_,rfl⟩
 have hba:Below wr.heap.size wr W:=by rw [hW];exact Qaf wr _
 have hg:W.heap[wr.heap.size]? = some (.cells (Qah [⟨5,⟨#[]⟩,none,0,0,none,0,0⟩,v]).toArray 26 (0,0)):=by rw [hW];exact xH wr _
 rw [← hW]
 clear hW
 have hbb:=Qaf W (trO ⟨2,⟨#[102]⟩,none,0,0,some ⟨wr.heap.size,0,none⟩,2,2⟩)
 have hwl:=Qaa hg
 refine ⟨?_,hb.trans ((hba.trans (hbb.mono hba.size)).mono hb.size)⟩
 refine two_of 2 ⟨#[102]⟩ (leaf_of _ _ _ _) (TrAt.move (fun b hb=>?_) (fun b hb _=>(hbb.block b (by have:=hb.2;omega)).trans (hba.block b hb.2)) _ _ ht) ((hbb.block _ hwl).trans hg) ?_
 ·have:=hb.2
  rw [xI]
  omega
 ·rw [xI]
  omega
theorem value_walk (a0:Int) (w:World) :
  Calls Try.prog 3 #[.int .i64 a0] w fun e w'=>e = .returned (.bool true) ∧ Below w.heap.size w w':=by
 have hbd:=modM_bd a0 (m:=30) (by decide)
 obtain ⟨M,hM⟩:∃ M:Nat,(M:Int) = modM a0 30:=⟨(modM a0 30).toNat,by omega⟩
 have hM30:M < 30:=by omega
 have HM:=hQ hM
 clear hbd hM
 go_enter Try.func3,Try.ntmps3
 go_wp2_with fail
 go_at_call 4
 refine (mod_is _ _ M _ (by decide) (by decide) HM.out).mono ?_
 rintro e w' ⟨rfl,rfl⟩
 obtain ⟨N,hN⟩:∃ N,N = M + 1:=⟨_,rfl⟩
 have hNi:(N:Int) = 1 + (M:Int):=by omega
 have hN30:N ≤ 30:=by omega
 have HNP:=hQ (show 0 < N by omega)
 have HNI:=hQ hNi
 clear hN
 go_wp2_with fail
 go_loopw [4] (fun i wr=>LetL N w i wr) (fun i _=>N - (intOf i).toNat)
 case atStart=>exact ⟨0,⟨12,⟨#[120]⟩,none,0,0,none,0,0⟩,rfl,Nat.zero_le _,xH w _,leaf_of _ _ _ _,Qaf w _⟩
 case round =>
  obtain ⟨j,v,rfl,hj,hx,ht,hb⟩:=hrel
  have HX:=hQ hx
  have HT:=hQ ht
  have HB:=hQ hb
  clear hx ht hb
  obtain ⟨vk,vx,vla,vll,vlc,vka,vkl,vkc⟩:=v
  have k0:wr.cell? ⟨w.heap.size,0,none⟩ = some (.int .i64 vk):=Qab HX.out 0 _ rfl
  have k1:wr.cell? ⟨w.heap.size,1,none⟩ = some (.string vx):=Qab HX.out 1 _ rfl
  have k2:wr.cell? ⟨w.heap.size,2,none⟩ = some (.slice vla vll vlc):=Qab HX.out 2 _ rfl
  have k3:wr.cell? ⟨w.heap.size,3,none⟩ = some (.slice vka vkl vkc):=Qab HX.out 3 _ rfl
  have kl:=Qaa HX.out
  have kf:=Lib.frozen_of_heap HX.out
  by_cases hlt:j < N
  ·have j0:(0:Int) ≤ (j:Int):=by omega
   have j1:(j:Int) < 1 + (M:Int):=by omega
   have j2:(j:Int) + 1 ≤ 31:=by omega
   go_wp2_with fail
   go_roundw
   case measure=>first | (simp [intOf];done) | (simp [intOf];omega)
   case rel =>
    have h:=let_next (N:=N) HT.out HX.out (by omega) HB.out
    unfold setT at h
    exact h
  ·obtain rfl:j = N:=by omega
   have j1:¬ (((j:Nat):Int) < 1 + (M:Int)):=by omega
   obtain ⟨f1,f2,f3,f4,f5⟩:=facts_at hN30
   have F1:=hQ f1
   have F2:=hQ f2
   have F3:=hQ f3
   have F4:=hQ f4
   have F5:=hQ f5
   clear f1 f2 f3 f4 f5
   go_wp2_with fail
   go_at_call 5
   have HB1:=hQ (fn_at HT.out HB.out)
   refine (variablesR_any _ (fnN j) ⟨2,⟨#[102]⟩,none,0,0,some ⟨wr.heap.size,0,none⟩,2,2⟩ _ HB1.out.1 F1.out F2.out F3.out).mono ?_
   rintro e w3 ⟨r,ws,rfl,hvr,hva,hb3⟩
   obtain ⟨VA,vc,rfl⟩:=Qbe hvr
   have hvl:=hva.1
   rw [F4.out] at hvl
   rw [hvl]
   obtain ⟨p,hp⟩:=good_zero (F5.out 0 (Nat.zero_le _))
   obtain ⟨g,c,y,hvv,_,hgl,_,_,_,p2,hy⟩:=hvr.at hva hp
   injection hvv with hv1 hv2 hv3
   subst hv1 hv3
   clear hv2
   have hfr:y.2.2 = true:=by
    rcases hy.2 with ⟨_,_,h⟩ | ⟨q,h,_⟩
    ·exact h
    ·cases h
   rw [hfr] at p2
   have HVR:=hQ hvr
   have HVA:=hQ hva
   have HGL:=hQ hgl
   have HB3:=hQ (HB1.out.2.trans (hb3.mono HB1.out.2.size))
   clear hvr hva hvl hp hy hfr hb3 k0 k1 k2 k3 kl kf
   obtain ⟨L,hL⟩:∃ L,L = j + 1:=⟨_,rfl⟩
   rw [← hL]
   have l1:(L:Int) = 1 + (M:Int) + 1:=by omega
   have l2:((L:Int) == 1 + (M:Int) + 1) = true:=by rw [beq_iff_eq];exact l1
   have l3:((L:Int) != 1 + (M:Int) + 1) = false:=by rw [l1];simp
   have l4:(0:Int) < (L:Int):=by omega
   have L1:=hQ l1
   clear hL hNi l1
   go_wp2_with fail
   go_loopw [7] (fun i wr=>∃ m:Nat,i = .int .i64 (m:Int) ∧ 1 ≤ m ∧ m ≤ j + 1 ∧ Below w3.heap.size w3 wr) (fun i _=>j + 1 - (intOf i).toNat)
   case atStart=>exact ⟨1,rfl,xA _,by omega,xC _ _⟩
   case round =>
    obtain ⟨m,rfl,hm1,hm2,hb⟩:=hrel
    have HBM:=hQ hb
    clear hb
    by_cases hml:m ≤ j
    ·have m1:(m:Int) ≤ 1 + (M:Int):=by have:=HNI.out;omega
     obtain ⟨p,q,hp,hql⟩:=good_next hm1 (F5.out m hml)
     obtain ⟨g2,c2,y,hvv,_,hgl,_,_,q1,q2,hy⟩:=HVR.out.at HVA.out hp
     injection hvv with hv1 hv2 hv3
     injection hv1 with hv1
     injection hv1 with hv1
     subst hv1
     clear hv2 hv3
     have hfr:y.2.2 = false ∧ ∃ A c,y.2.1 = .slice A m c:=by
      rcases hy.2 with ⟨h,_⟩ | ⟨q',h,h2,h3⟩
      ·cases h
      ·injection h with h
       subst h
       refine ⟨h3,?_⟩
       obtain ⟨A,n,c,hv⟩:=h2.slice
       rw [hv] at h2
       have:=h2.ints.1
       rw [hql] at this
       subst this
       exact ⟨A,c,hv⟩
     obtain ⟨hf1,A,bc,hf2⟩:=hfr
     rw [hf1] at q2
     rw [hf2] at q1
     have q1:=(HBM.out.cell (p:=⟨g,m * 3 + 1,none⟩) hgl).trans q1
     have q2:=(HBM.out.cell (p:=⟨g,m * 3 + 2,none⟩) hgl).trans q2
     have ql:=xE hgl HBM.out.size
     have m2:(0:Int) ≤ (m:Int):=by omega
     have m3:(m:Int) < (L:Int):=by have:=L1.out;omega
     have m4:(m:Int) + 1 ≤ 40:=by omega
     clear hp hql hy hf1 hf2 hgl
     go_wp2_with fail
     go_roundw
     case measure=>first | (simp [intOf];done) | (simp [intOf];omega)
     case rel=>exact ⟨m + 1,rfl,by omega,by omega,HBM.out⟩
    ·have m1:¬ ((m:Int) ≤ 1 + (M:Int)):=by have:=HNI.out;omega
     go_wp2_with fail
     go_at_call 6
     refine (awake_sco _).mono ?_
     rintro e w9 ⟨rfl,hb9⟩
     have HB9:=hQ (HB3.out.trans ((HBM.out.trans (hb9.mono HBM.out.size)).mono HB3.out.size))
     clear hb9
     go_wp2_with fail
     go_ret
     exact ⟨rfl,HB9.out⟩
end Go.Proofs.Ytjidpkcjpgdafaa
