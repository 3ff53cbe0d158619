/- Part 4: The contract of lex.Scan: its answer is scanR; its tokens lie in memory of the call's own. -/
import Derived.Test.YtjidpkcjpgdafaaSv3
import Derived.Test.YtjidpkcjpgdafaaSv1
import Derived.Laws.OwnMore
set_option maxRecDepth 100000
set_option maxHeartbeats 4000000
namespace Go.Proofs.Ytjidpkcjpgdafaa
open Go.RowKit
theorem token_info:(Try.prog.info? 51).map (fun i=>(i.zero,i.size,i.bytes)) = some (some (.agg #[.int .i64 0,.string ByteArray.empty,.string ByteArray.empty]),3,40):=by kernel_rfl
def Qa3 (ts:List Tok):List Value:=ts.flatMap fun t=>[.int .i64 t.kind,.string t.lead,.string t.text]
theorem tokCells_snoc (ts:List Tok) (t:Tok):Qa3 (ts ++ [t]) = Qa3 ts ++ [.int .i64 t.kind,.string t.lead,.string t.text]:=by
 unfold Qa3
 rw [List.flatMap_append]
 rfl
theorem cell_three_new (w:World) (x y z:Value) (t:TypeId):∀ j u,[x,y,z][j]? = some u → (w.alloc (.cells #[x,y,z] t)).cell? ((⟨w.heap.size,0,none⟩:Addr).add j) = some u:=by
 intro j u hj
 match j,hj with
 | 0,hj=>simp at hj;subst hj;simp [Addr.add]
 | 1,hj=>simp at hj;subst hj;simp [Addr.add]
 | 2,hj=>simp at hj;subst hj;simp [Addr.add]
 | (j + 3),hj=>simp at hj
theorem one_three (k:Int) (x y:ByteArray):∀ u ∈ [Value.int .i64 k,.string x,.string y],u.oneCell' = true:=by
 intro u hu
 simp at hu
 rcases hu with rfl | rfl | rfl <;> rfl
def ScanPost (r:Res) (w:World) (e:Ending) (w':World):Prop :=
 ∃ v,e = .returned (.tuple #[v,.string r.tail,.int .i64 r.place,.int .i64 r.e]) ∧ w'.ownsRow w.heap.size 51 3 v r.toks.length (Qa3 r.toks) ∧ Below w.heap.size w w'
theorem token_from (s:ByteArray) (a:Nat) (w:World) (h0:a < s.size) (hs:s.size < maxLen) :
  Calls Try.prog 31 #[.string (s.extract a s.size)] w fun e w'=>e = .returned (.tuple #[.int .i64 (Qbh (suf s a)).kind,.int .i64 (Qbh (suf s a)).n,.int .i64 (Qbh (suf s a)).e]) ∧ w = w':=by
 rw [← suf_to_end s a]
 exact token_any _ w (ext_size s a h0) (by rw [ByteArray.size_extract];omega)
def ScanRel (s:ByteArray) (w:World) (v i:Value) (wr:World):Prop :=
 ∃ (k:Nat) (acc:List Tok),i = .int .i64 k ∧ ScanAt s k acc ∧ wr.ownsRow w.heap.size 51 3 v acc.length (Qa3 acc) ∧ Below w.heap.size w wr
theorem ScanRel.start (s:ByteArray) (w:World):ScanRel s w (.slice none 0 0) (.int .i64 0) w :=
 ⟨0,[],rfl,ScanAt.start s,World.ownsRow_nil _ _ _ _,xC _ _⟩
theorem ScanRel.next {s:ByteArray} {w wr w':World} {v v':Value} {n:Nat} {acc:List Tok} {t:Tok} {o:Obj} (h:ScanAt s n (acc ++ [t])) (hown:wr.ownsRow w.heap.size 51 3 v acc.length (Qa3 acc)) (hb:Below w.heap.size w wr)
  (hown':w'.ownsRow w.heap.size 51 3 v' (acc.length + 1) (Qa3 acc ++ [.int .i64 t.kind,.string t.lead,.string t.text])) (hg:(wr.alloc o).grownBy w' v.ownBlock):ScanRel s w v' (.int .i64 n) w':=by
 refine ⟨n,acc ++ [t],rfl,h,by rw [tokCells_snoc];simpa using hown',?_⟩
 exact (hb.alloc hb.size o).grown hg (by rw [xI];have:=hb.size;omega) (fun j hj=>(hown.lt j hj).1)
theorem scan_any (s:ByteArray) (w:World) (hs:s.size ≤ maxLen) :
  Calls Try.prog 17 #[.string s] w (ScanPost (Qaw s) w):=by
 by_cases hlong:4096 < s.size
 ·have HR:=hQ (show Qaw s = ⟨[],ByteArray.empty,4096,3⟩ from by unfold Qaw;rw [if_pos hlong])
  unfold maxLen at hs
  go_enter Try.func17,Try.ntmps17
  go_wp2
  exact bodyPost_ret (v:=.tuple #[.slice none 0 0,.string ⟨#[]⟩,.int .i64 4096,.int .i64 3]) (by simp [results,Try.results17,go_sem]) rfl ⟨_,by rw [HR.out];rfl,by rw [HR.out];exact World.ownsRow_nil _ _ _ _,xC _ _⟩
 ·have HR:=hQ (show Qaw s = scanG s from by unfold Qaw;rw [if_neg hlong])
  have HL:=hQ (show s.size < maxLen from by unfold maxLen;omega)
  have HM:=hQ hs
  have hshort:s.size ≤ 4096:=by omega
  obtain ⟨i0,hi,hz0,hz1,hz2⟩:=info_parts token_info
  clear hs hlong
  go_enter Try.func17,Try.ntmps17
  go_wp2
  go_loopw [2,6] (fun v i wr=>ScanRel s w v i wr) (fun _ i _=>s.size - (intOf i).toNat)
  case atStart=>exact ScanRel.start s w
  case round =>
   obtain ⟨k,acc,rfl,hat,hown,hbl⟩:=hrel
   have HA:=hQ hat
   have hk:=hat.1
   have hacc:=hat.2.1
   have hge:=skipTo_ge s k
   have hle:=skipTo_le s k hk
   clear hat
   have HO:=hQ hown
   have HB:=hQ hbl
   clear hown hbl
   by_cases hst:Qag s k = s.size
   ·have HD:=hQ (HR.out.trans (HA.out.done hst))
    have hst':(((Qag s k:Nat):Int) == (s.size:Int)) = true:=by simp [hst]
    have HE:=hQ (show s.extract k (Qag s k) = s.extract k s.size from by rw [hst])
    clear hst
    go_wp2_with (go_at_call 30;refine (skip_any s k _ hk HM.out).mono ?_;rintro e w' ⟨rfl,rfl⟩)
    exact bodyPost_ret (v:=.tuple #[u2,.string (s.extract k (Qag s k)),.int .i64 0,.int .i64 0]) (by simp [results,Try.results17,go_sem]) rfl ⟨_,by rw [HD.out,HE.out];rfl,by rw [HD.out];exact HO.out,HB.out⟩
   ·have hst':(((Qag s k:Nat):Int) == (s.size:Int)) = false:=Qct hst
    have hlt:Qag s k < s.size:=by omega
    by_cases he:(Qbh (suf s (Qag s k))).e = 0
    ·have HN:=hQ (HA.out.next hst he)
     have hlen:=tok_len he
     rw [Qa1] at hlen
     have he':((((Qbh (suf s (Qag s k))).e:Nat):Int) != 0) = false:=by simp [he]
     clear he hst
     go_wp2_with (first | (go_at_call 30;refine (skip_any s k _ hk HM.out).mono ?_;rintro e w' ⟨rfl,rfl⟩) | (go_at_call 31;refine (token_from s (Qag s k) _ hlt HL.out).mono ?_;rintro e w' ⟨rfl,rfl⟩) | (at_builtin;refine wpList_append_own _ rfl (.tmp 49) (.tmp 57) 47 rfl w.heap.size 51 i0 _ 3 40 Try.underlying47 hi hz0 hz1 hz2 rfl (by omega) u2 acc.length (Qa3 acc) rfl (HO.out.alloc _) ⟨wr.heap.size,0,none⟩ 1 1 [.int .i64 (Qbh (suf s (Qag s k))).kind,.string (s.extract k (Qag s k)),.string (s.extract (Qag s k) (Qag s k + (Qbh (suf s (Qag s k))).n))] rfl rfl ?c1 ?c2 ?c3 ?c4 ?c5 ?_))
     case c1=>exact cell_three_new _ _ _ _ _
     case c2=>exact one_three _ _ _
     case c3=>unfold maxLen;omega
     case c4=>omega
     case c5=>rw [xI];have:=HB.out.size;omega
     intro v' w1 hown1 hg1 _
     have HV:=hQ hown1
     have HG:=hQ hg1
     clear hown1 hg1
     go_wp2
     go_roundw
     case rel=>exact ScanRel.next HN.out HO.out HB.out HV.out HG.out
     case measure=>simp [intOf];omega
    ·have HD:=hQ (HR.out.trans (HA.out.stop hst he))
     have he':((((Qbh (suf s (Qag s k))).e:Nat):Int) != 0) = true:=by simp;omega
     have hmax:(Qbh (suf s (Qag s k))).n ≤ s.size:=by have:=tok_err_len he;rw [Qa1] at this;omega
     clear he hst
     go_wp2_with (first | (go_at_call 30;refine (skip_any s k _ hk HM.out).mono ?_;rintro e w' ⟨rfl,rfl⟩) | (go_at_call 31;refine (token_from s (Qag s k) _ hlt HL.out).mono ?_;rintro e w' ⟨rfl,rfl⟩))
     exact bodyPost_ret (v:=.tuple #[.slice none 0 0,.string ⟨#[]⟩,.int .i64 (((Qag s k:Nat):Int) + ((Qbh (suf s (Qag s k))).n:Nat)),.int .i64 (Qbh (suf s (Qag s k))).e]) (by simp [results,Try.results17,go_sem]) rfl ⟨_,by rw [HD.out];rfl,by rw [HD.out];exact World.ownsRow_nil _ _ _ _,HB.out⟩
end Go.Proofs.Ytjidpkcjpgdafaa
