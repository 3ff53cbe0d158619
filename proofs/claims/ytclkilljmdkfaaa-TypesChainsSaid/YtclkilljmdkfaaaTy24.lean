/- Part 24: The contract of (*writer).kids, given tree's. The contracts of text, Print, limited and Valid. Texts of stage 3 that this seat needs: TrBase, TreSize. The contract of awake of stage 2, and of semvcsmake.Mod. -/
import Derived.Test.YtclkilljmdkfaaaTy1
import Derived.Test.YtclkilljmdkfaaaTy5
import Derived.Test.YtclkilljmdkfaaaTy12
import Derived.Test.YtclkilljmdkfaaaTy19
import Derived.Test.YtclkilljmdkfaaaTy2
import Derived.Test.YtclkilljmdkfaaaTy23
import Derived.Shelf.Strings.Builder1
import Derived.Deep.RegionHeld3
import Derived.Deep.LoopGhost
import Derived.Deep.QuietTactic
import Derived.Lib.Builder
set_option maxRecDepth 100000
set_option maxHeartbeats 4000000
namespace Go.Proofs.Ytclkilljmdkfaaa
open Go.RowKit
theorem TrAt.lows {B:Nat} {w w':World} {t:Tr} {v:TV} (h:TrAt (fun k=>k < B) w t v) (hb:Below B w w'):TrAt (fun k=>k < B) w' t v:=TrAt.move (fun _ h=>h) (fun k hk _=>hb.block k hk) t v h
theorem StrsAt.low {S:Nat → Prop} {w:World} {A:Option Addr} {l:List ByteArray} (h:StrsAt S w A l):StrsAt (fun k=>k < w.heap.size) w A l:=fun hne=>by
 obtain ⟨b,off,hA,_,hc⟩:=h hne
 refine ⟨b,off,hA,?_,hc⟩
 cases l with
 | nil=>exact absurd rfl hne
 | cons a r=>exact xK w _ (hc 0 a rfl)
mutual
theorem TrAt.low {S:Nat → Prop} {w:World}:(t:Tr) → (v:TV) → TrAt S w t v → TrAt (fun k=>k < w.heap.size) w t v
 | .mk k x ls ks,v,h=>by
  unfold TrAt at h ⊢
  obtain ⟨h1,h2,h3,h4,h5,h6,h7⟩:=h
  refine ⟨h1,h2,h3,h4,h5.low,fun hne=>?_,h7⟩
  obtain ⟨b,off,hA,hb,hc⟩:=h6 hne
  refine ⟨b,off,hA,?_,TrsAt.low b ks off hc⟩
  cases ks with
  | nil=>exact absurd rfl hne
  | cons a r =>
   unfold TrsAt at hc
   obtain ⟨u,c0,_⟩:=hc
   exact xK w _ c0
theorem TrsAt.low {S:Nat → Prop} {w:World} (b:Nat):(l:List Tr) → (off:Nat) → TrsAt S w b off l → TrsAt (fun k=>k < w.heap.size) w b off l
 | [],off,h=>trivial
 | t :: r,off,h=>by
  unfold TrsAt at h ⊢
  obtain ⟨v,c0,c1,c2,c3,ht,hr⟩:=h
  exact ⟨v,c0,c1,c2,c3,TrAt.low t v ht,TrsAt.low b r _ hr⟩
end
def setT (w:World) (b:Nat) (u:TV):World:=(((w.setCell ⟨b,0,none⟩ (.int .i64 u.kind)).setCell ⟨b,1,none⟩ (.string u.text)).setCell ⟨b,2,none⟩ (.slice u.la u.ll u.lc)).setCell ⟨b,3,none⟩ (.slice u.ka u.kl u.kc)
def trO (v:TV):Obj:=.cells #[.int .i64 v.kind,.string v.text,.slice v.la v.ll v.lc,.slice v.ka v.kl v.kc] 27
theorem setT_heap {w:World} {b:Nat} {v:TV} (u:TV) (h:w.heap[b]? = some (trO v)):(setT w b u).heap[b]? = some (trO u):=Qaq (Qaq (Qaq (Qaq h rfl) rfl) rfl) rfl
theorem Qcp (w:World) (b:Nat) (u:TV):Below b w (setT w b u):=((((xC b w).setCell (p:=⟨b,0,none⟩) (xA _) _).setCell (p:=⟨b,1,none⟩) (xA _) _).setCell (p:=⟨b,2,none⟩) (xA _) _).setCell (p:=⟨b,3,none⟩) (xA _) _
mutual
def Qao:Tr → Nat
 | .mk _ _ _ ks=>1 + Qah ks
def Qah:List Tr → Nat
 | []=>0
 | t :: r=>Qao t + Qah r
end
theorem Qbd (t:Tr):Qao t = 1 + Qah t.kids:=by cases t;rw [Qao];rfl
theorem sizeL_append:(a b:List Tr) → Qah (a ++ b) = Qah a + Qah b
 | [],b=>by rw [List.nil_append,Qah];omega
 | t :: r,b=>by rw [List.cons_append,Qah,Qah,sizeL_append r b];omega
theorem take_snoc {α:Type} {l:List α} {j:Nat} {k:α} (h:l[j]? = some k):l.take (j + 1) = l.take j ++ [k]:=by
 rw [List.take_add_one,h]
 rfl
theorem sizeL_take {l:List Tr} {j:Nat} {k:Tr} (h:l[j]? = some k):Qah (l.take (j + 1)) = Qah (l.take j) + Qao k:=by
 rw [take_snoc h,sizeL_append,Qah,Qah]
 omega
theorem Qdt (l:List Tr) (j:Nat):Qah (l.take j) ≤ Qah l:=by
 conv=>rhs;rw [← List.take_append_drop j l,sizeL_append]
 omega
theorem Qdu {t k:Tr} {j:Nat} (h:t.kids[j]? = some k):Qao k ≤ Qao t:=by
 have h1:=sizeL_take h
 have h2:=Qdt t.kids (j + 1)
 rw [Qbd t]
 omega
theorem Qas:(l:List Tr) → l.length ≤ Qah l
 | []=>Nat.zero_le _
 | t :: r=>by
  rw [Qah,xD,Qbd]
  have:=Qas r
  omega
theorem Qdv {t k:Tr} {j:Nat} (h:t.kids[j]? = some k):SizeOf.sizeOf k < SizeOf.sizeOf t:=by
 cases t with
 | mk kd x ls ks =>
  have:=List.sizeOf_lt_of_mem (List.mem_of_getElem? (show ks[j]? = some k from h))
  rw [Tr.mk.sizeOf_spec]
  omega
theorem tr_pos (t:Tr):0 < SizeOf.sizeOf t:=by cases t;rw [Tr.mk.sizeOf_spec];omega
def modM (n m:Int):Int:=if n.tmod m < 0 then n.tmod m + m else n.tmod m
theorem modM_bd (n:Int) {m:Int} (hm:0 < m):0 ≤ modM n m ∧ modM n m < m:=by
 have h1:=Int.tmod_lt_of_pos n hm
 have h2:-m < n.tmod m:=Int.lt_tmod_of_pos n hm
 unfold modM
 split <;> omega
theorem mod_syn (n m:Int) (w:World) (hm:0 < m) (hm2:m ≤ 1000000):Calls Try.prog 6 #[.int .i64 n,.int .i64 m] w fun e w'=>e = .returned (.int .i64 (modM n m)) ∧ w = w':=by
 have h1:=Int.tmod_lt_of_pos n hm
 have h2:-m < n.tmod m:=Int.lt_tmod_of_pos n hm
 have HM:=hQ (show modM n m = if n.tmod m < 0 then n.tmod m + m else n.tmod m from rfl)
 have h0:m ≠ 0:=by omega
 have hb:=beqF h0
 by_cases h:n.tmod m < 0
 all_goals
  go_enter Try.func6,Try.ntmps6
  go_wp2
  go_ret
  exact ⟨ret_int (by rw [HM.out];split <;> omega),rfl⟩
theorem mod_is (a m:Int) (N:Nat) (w:World) (hm:0 < m) (hm2:m ≤ 1000000) (h:(N:Int) = modM a m):Calls Try.prog 6 #[.int .i64 a,.int .i64 m] w fun e w'=>e = .returned (.int .i64 (N:Int)) ∧ w = w':=by
 refine (mod_syn a m w hm hm2).mono fun e w' hh=>?_
 obtain ⟨he,hw⟩:=hh
 exact ⟨by rw [he,← h],hw⟩
end Go.Proofs.Ytclkilljmdkfaaa
