/- Part 28: Texts of stage 3 that this seat needs: TrBase, TreSize. -/
import Derived.Test.YtjidpkcjpgdafaaSv1
import Derived.Test.YtjidpkcjpgdafaaSv23
import Derived.Test.YtjidpkcjpgdafaaSv27
import Derived.Deep.QuietTactic
import Derived.Lib.Builder
set_option maxRecDepth 100000
set_option maxHeartbeats 4000000
namespace Go.Proofs.Ytjidpkcjpgdafaa
open Go.RowKit
def setT (w:World) (b:Nat) (u:TV):World:=(((w.setCell ⟨b,0,none⟩ (.int .i64 u.kind)).setCell ⟨b,1,none⟩ (.string u.text)).setCell ⟨b,2,none⟩ (.slice u.la u.ll u.lc)).setCell ⟨b,3,none⟩ (.slice u.ka u.kl u.kc)
def trO (v:TV):Obj:=.cells #[.int .i64 v.kind,.string v.text,.slice v.la v.ll v.lc,.slice v.ka v.kl v.kc] 26
theorem setT_heap {w:World} {b:Nat} {v:TV} (u:TV) (h:w.heap[b]? = some (trO v)):(setT w b u).heap[b]? = some (trO u):=Qar (Qar (Qar (Qar h rfl) rfl) rfl) rfl
theorem setT_below (w:World) (b:Nat) (u:TV):Below b w (setT w b u):=((((xC b w).setCell (p:=⟨b,0,none⟩) (xA _) _).setCell (p:=⟨b,1,none⟩) (xA _) _).setCell (p:=⟨b,2,none⟩) (xA _) _).setCell (p:=⟨b,3,none⟩) (xA _) _
mutual
def Qbl:Tr → Nat
 | .mk _ _ _ ks=>1 + Qb2 ks
def Qb2:List Tr → Nat
 | []=>0
 | t :: r=>Qbl t + Qb2 r
end
mutual
def depthT:Tr → Nat
 | .mk _ _ _ ks=>Qdo ks + 1
def Qdo:List Tr → Nat
 | []=>0
 | t :: r=>max (depthT t) (Qdo r)
end
theorem Qbj (t:Tr):Qbl t = 1 + Qb2 t.kids:=by cases t;rw [Qbl];rfl
theorem sizeL_append:(a b:List Tr) → Qb2 (a ++ b) = Qb2 a + Qb2 b
 | [],b=>by rw [List.nil_append,Qb2];omega
 | t :: r,b=>by rw [List.cons_append,Qb2,Qb2,sizeL_append r b];omega
theorem depthL_append:(a b:List Tr) → Qdo (a ++ b) = max (Qdo a) (Qdo b)
 | [],b=>by rw [List.nil_append,Qdo];omega
 | t :: r,b=>by rw [List.cons_append,Qdo,Qdo,depthL_append r b];omega
theorem take_snoc {α:Type} {l:List α} {j:Nat} {k:α} (h:l[j]? = some k):l.take (j + 1) = l.take j ++ [k]:=by
 rw [List.take_add_one,h]
 rfl
theorem Qdp {l:List Tr} {j:Nat} {k:Tr} (h:l[j]? = some k):Qb2 (l.take (j + 1)) = Qb2 (l.take j) + Qbl k:=by
 rw [take_snoc h,sizeL_append,Qb2,Qb2]
 omega
theorem depthL_take {l:List Tr} {j:Nat} {k:Tr} (h:l[j]? = some k):Qdo (l.take (j + 1)) = max (Qdo (l.take j)) (depthT k):=by
 rw [take_snoc h,depthL_append,Qdo,Qdo]
 omega
theorem Qcv (l:List Tr) (j:Nat):Qb2 (l.take j) ≤ Qb2 l:=by
 conv=>rhs;rw [← List.take_append_drop j l,sizeL_append]
 omega
theorem size_kid {t k:Tr} {j:Nat} (h:t.kids[j]? = some k):Qbl k ≤ Qbl t:=by
 have h1:=Qdp h
 have h2:=Qcv t.kids (j + 1)
 rw [Qbj t]
 omega
mutual
theorem depth_le_size:(t:Tr) → depthT t ≤ Qbl t
 | .mk _ _ _ ks=>by rw [depthT,Qbl];have:=depthL_le_size ks;omega
theorem depthL_le_size:(l:List Tr) → Qdo l ≤ Qb2 l
 | []=>by rw [Qdo];omega
 | t :: r=>by rw [Qdo,Qb2];have:=depth_le_size t;have:=depthL_le_size r;omega
end
theorem Qcq:(l:List Tr) → l.length ≤ Qb2 l
 | []=>Nat.zero_le _
 | t :: r=>by
  rw [Qb2,xD,Qbj]
  have:=Qcq r
  omega
theorem kid_sizeOf {t k:Tr} {j:Nat} (h:t.kids[j]? = some k):SizeOf.sizeOf k < SizeOf.sizeOf t:=by
 cases t with
 | mk kd x ls ks =>
  have:=List.sizeOf_lt_of_mem (List.mem_of_getElem? (show ks[j]? = some k from h))
  rw [Tr.mk.sizeOf_spec]
  omega
theorem tr_pos (t:Tr):0 < SizeOf.sizeOf t:=by cases t;rw [Tr.mk.sizeOf_spec];omega
def KidsAtN (f:List Tr → Nat) (t:Tr) (W:World) (n i:Value) (wr:World):Prop:=∃ j:Nat,i = .int .i64 j ∧ j ≤ t.kids.length ∧ n = .int .i64 (f (t.kids.take j):Nat) ∧ Below W.heap.size W wr
theorem size_any (N:Nat):∀ (S:Nat → Prop) (t:Tr) (v:TV) (w:World),SizeOf.sizeOf t ≤ N → TrAt S w t v → Qbl t ≤ 140737488355328 →
  Calls Try.prog 65 #[.agg #[.int .i64 v.kind,.string v.text,.slice v.la v.ll v.lc,.slice v.ka v.kl v.kc]] w fun e w'=>e = .returned (.int .i64 (Qbl t:Nat)) ∧ Below w.heap.size w w':=by
 induction N with
 | zero=>intro S t v w h;have:=tr_pos t;omega
 | succ N ih =>
  intro S t v w hN h hz
  have HIH:=hQ ih
  have HB0:=hQ ((xC w.heap.size w).alloc (xA _) (trO v))
  have HT:=hQ (h.keep HB0.out)
  have HX:=hQ (xH w (trO v))
  have HZ:=hQ hz
  have HN:=hQ hN
  have hkl:=h.kl.1
  obtain ⟨vk,vx,vla,vll,vlc,vka,vkl,vkc⟩:=v
  simp only at hkl
  subst hkl
  have hmax:t.kids.length ≤ 140737488355328:=by have:=Qcq t.kids;rw [Qbj] at hz;omega
  have HMX:=hQ hmax
  clear ih h hz hN
  have k3:(w.alloc (trO ⟨vk,vx,vla,vll,vlc,vka,t.kids.length,vkc⟩)).cell? ⟨w.heap.size,3,none⟩ = some (.slice vka t.kids.length vkc):=Qab HX.out 3 _ rfl
  go_enter Try.func65,Try.ntmps65
  go_wp2
  clear k3
  go_loopw [3,9] (fun n i wr=>KidsAtN (fun l=>1 + Qb2 l) t (w.alloc (trO ⟨vk,vx,vla,vll,vlc,vka,t.kids.length,vkc⟩)) n i wr) (fun _ i _=>t.kids.length - (intOf i).toNat)
  case atStart=>exact ⟨0,rfl,Nat.zero_le _,rfl,xC _ _⟩
  case round =>
   obtain ⟨j,rfl,hj,rfl,hb⟩:=hrel
   have HBR:=hQ hb
   have hx:=(hb.block w.heap.size (Qaa HX.out)).trans HX.out
   have k3:wr.cell? ⟨w.heap.size,3,none⟩ = some (.slice vka t.kids.length vkc):=Qab hx 3 _ rfl
   clear hb hx
   by_cases hlt:j < t.kids.length
   ·obtain ⟨k,hk⟩:∃ k,t.kids[j]? = some k:=⟨_,xF hlt⟩
    obtain ⟨b,off,hka⟩:∃ b off,vka = some ⟨b,off,none⟩:=HT.out.addr.resolve_left (by omega)
    subst hka
    obtain ⟨u,c0,c1,c2,c3,hu⟩:=(HT.out.keep HBR.out).at rfl hk
    have HU:=hQ hu
    have HS1:=hQ (Qdp hk)
    have HD1:=hQ (depthL_take hk)
    have hs:=Qcv t.kids (j + 1)
    have hs0:=Qdp hk
    have hds:=depthL_le_size (t.kids.take j)
    have hdk:=depth_le_size k
    have HSK:=hQ (Nat.le_trans (size_kid hk) HZ.out)
    have HNK:=hQ (show SizeOf.sizeOf k ≤ N from by have:=kid_sizeOf hk;have:=HN.out;omega)
    have hz:=HZ.out
    rw [Qbj] at hz
    have q1:((Qb2 (t.kids.take j):Nat):Int) + (Qbl k:Nat) + 1 ≤ 140737488355328:=by omega
    have q2:((Qdo (t.kids.take j):Nat):Int) ≤ 140737488355328:=by omega
    have q3:((depthT k:Nat):Int) + 1 ≤ 140737488355329:=by omega
    have hj0:(0:Int) ≤ (j:Int):=by omega
    have hj1:(j:Int) < (t.kids.length:Int):=by omega
    have hj2:(j:Int) + 1 ≤ 140737488355328:=by omega
    clear hk hu hs hs0 hds hdk hz
    have HA1:=hQ ((xC wr.heap.size wr).alloc (xA _) (trO u))
    go_wp2_with (go_at_call 65;refine (HIH.out S k u _ HNK.out (HU.out.keep HA1.out) HSK.out).mono ?_;rintro e w2 ⟨rfl,hb2⟩;have HB2:=hQ (HBR.out.trans ((HA1.out.trans (hb2.mono HA1.out.size)).mono HBR.out.size));clear hb2)
    go_roundw
    case rel=>exact ⟨j + 1,by go_num,by omega,by show _ = Value.int .i64 ((1 + Qb2 (t.kids.take (j + 1)):Nat):Int);rw [HS1.out];go_num,HB2.out⟩
    case measure=>simp [intOf];omega
   ·have hjn:j = t.kids.length:=by omega
    subst hjn
    have HR:=hQ (show Qbl t = 1 + Qb2 (t.kids.take t.kids.length) from by rw [Qbj,List.take_length])
    have hz:=HZ.out
    have h1:=depth_le_size t
    have h2:=HR.out
    go_wp2
    go_ret
    exact ⟨ret_int (by rw [HR.out]),HB0.out.trans (HBR.out.mono (by simp))⟩
end Go.Proofs.Ytjidpkcjpgdafaa
