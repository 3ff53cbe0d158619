/- Part 4: The contract of lex.Scan: its answer is scanR; its tokens lie in memory of the call's own. Lists of tokens in memory; the contracts of the reference's Same and of slices.Equal at tokens. The contracts of the methods of strings.Builder that lex.Join calls, at a builder of the call's own. The contract of lex.Class; of the reference's reserved and word. The contract of lex.Fuses. -/
import Derived.Test.YtnnfdbmanamfdaaGreatSt3
import Derived.Test.YtnnfdbmanamfdaaGreatSt1
import Derived.Laws.OwnMore
import Derived.Laws.StructEq
import Derived.Shelf.Strings.Builder1
import Derived.Deep.AppendLies
set_option maxRecDepth 100000
set_option maxHeartbeats 4000000
namespace Go.Proofs.YtnnfdbmanamfdaaGreat
open Go.RowKit
theorem token_info:(Tryz.prog.info? 74).map (fun i=>(i.zero,i.size,i.bytes)) = some (some (.agg #[.int .i64 0,.string ByteArray.empty,.string ByteArray.empty]),3,40):=by kernel_rfl
def Qcg (ts:List Tok):List Value:=ts.flatMap fun t=>[.int .i64 t.kind,.string t.lead,.string t.text]
theorem Qg8 (ts:List Tok) (t:Tok):Qcg (ts ++ [t]) = Qcg ts ++ [.int .i64 t.kind,.string t.lead,.string t.text]:=by
 unfold Qcg
 rw [List.flatMap_append]
 rfl
theorem cell_three_new (w:World) (x y z:Value) (t:TypeId):∀ j u,[x,y,z][j]? = some u → (w.alloc (.cells #[x,y,z] t)).cell? ((⟨w.heap.size,0,none⟩:Addr).add j) = some u:=by
 intro j u hj
 match j,hj with
 | 0,hj=>simp at hj;subst hj;simp [Addr.add]
 | 1,hj=>simp at hj;subst hj;simp [Addr.add]
 | 2,hj=>simp at hj;subst hj;simp [Addr.add]
 | (j + 3),hj=>simp at hj
theorem one_three (k:Int) (x y:ByteArray):∀ u ∈ [Value.int .i64 k,.string x,.string y],u.oneCell' = true:=by
 intro u hu
 simp at hu
 rcases hu with rfl | rfl | rfl <;> rfl
def ScanPost (r:Res) (w:World) (e:Ending) (w':World):Prop :=
 ∃ v,e = .returned (.tuple #[v,.string r.tail,.int .i64 r.place,.int .i64 r.e]) ∧ w'.ownsRow w.heap.size 74 3 v r.toks.length (Qcg r.toks) ∧ Below w.heap.size w w'
theorem token_from (s:ByteArray) (a:Nat) (w:World) (h0:a < s.size) (hs:s.size < maxLen) :
  Calls Tryz.prog 77 #[.string (s.extract a s.size)] w fun e w'=>e = .returned (.tuple #[.int .i64 (Qbb (suf s a)).kind,.int .i64 (Qbb (suf s a)).n,.int .i64 (Qbb (suf s a)).e]) ∧ w = w':=by
 rw [← Qgt s a]
 exact token_any _ w (ext_size s a h0) (by rw [ByteArray.size_extract];omega)
def ScanRel (s:ByteArray) (w:World) (v i:Value) (wr:World):Prop :=
 ∃ (k:Nat) (acc:List Tok),i = .int .i64 k ∧ ScanAt s k acc ∧ wr.ownsRow w.heap.size 74 3 v acc.length (Qcg acc) ∧ Below w.heap.size w wr
theorem ScanRel.start (s:ByteArray) (w:World):ScanRel s w (.slice none 0 0) (.int .i64 0) w :=
 ⟨0,[],rfl,ScanAt.start s,World.ownsRow_nil _ _ _ _,xC _ _⟩
theorem ScanRel.next {s:ByteArray} {w wr w':World} {v v':Value} {n:Nat} {acc:List Tok} {t:Tok} {o:Obj} (h:ScanAt s n (acc ++ [t])) (hown:wr.ownsRow w.heap.size 74 3 v acc.length (Qcg acc)) (hb:Below w.heap.size w wr)
  (hown':w'.ownsRow w.heap.size 74 3 v' (acc.length + 1) (Qcg acc ++ [.int .i64 t.kind,.string t.lead,.string t.text])) (hg:(wr.alloc o).grownBy w' v.ownBlock):ScanRel s w v' (.int .i64 n) w':=by
 refine ⟨n,acc ++ [t],rfl,h,by rw [Qg8];simpa using hown',?_⟩
 exact (hb.alloc hb.size o).grown hg (by rw [xI];have:=hb.size;omega) (fun j hj=>(hown.lt j hj).1)
theorem scan_any (s:ByteArray) (w:World) (hs:s.size ≤ maxLen) :
  Calls Tryz.prog 46 #[.string s] w (ScanPost (Qbd s) w):=by
 by_cases hlong:4096 < s.size
 ·have HR:=hQ (show Qbd s = ⟨[],ByteArray.empty,4096,3⟩ from by unfold Qbd;rw [if_pos hlong])
  unfold maxLen at hs
  go_enter Tryz.func46,Tryz.ntmps46
  go_wp2
  exact bodyPost_ret (v:=.tuple #[.slice none 0 0,.string ⟨#[]⟩,.int .i64 4096,.int .i64 3]) (by simp [results,Tryz.results46,go_sem]) rfl ⟨_,by rw [HR.out];rfl,by rw [HR.out];exact World.ownsRow_nil _ _ _ _,xC _ _⟩
 ·have HR:=hQ (show Qbd s = scanG s from by unfold Qbd;rw [if_neg hlong])
  have HL:=hQ (show s.size < maxLen from by unfold maxLen;omega)
  have HM:=hQ hs
  have hshort:s.size ≤ 4096:=by omega
  obtain ⟨i0,hi,hz0,hz1,hz2⟩:=info_parts token_info
  clear hs hlong
  go_enter Tryz.func46,Tryz.ntmps46
  go_wp2
  go_loopw [2,6] (fun v i wr=>ScanRel s w v i wr) (fun _ i _=>s.size - (intOf i).toNat)
  case atStart=>exact ScanRel.start s w
  case round =>
   obtain ⟨k,acc,rfl,hat,hown,hbl⟩:=hrel
   have HA:=hQ hat
   have hk:=hat.1
   have hacc:=hat.2.1
   have hge:=Qgs s k
   have hle:=Qf0 s k hk
   clear hat
   have HO:=hQ hown
   have HB:=hQ hbl
   clear hown hbl
   by_cases hst:Qak s k = s.size
   ·have HD:=hQ (HR.out.trans (HA.out.done hst))
    have hst':(((Qak s k:Nat):Int) == (s.size:Int)) = true:=by simp [hst]
    have HE:=hQ (show s.extract k (Qak s k) = s.extract k s.size from by rw [hst])
    clear hst
    go_wp2_with (go_at_call 76;refine (skip_any s k _ hk HM.out).mono ?_;rintro e w' ⟨rfl,rfl⟩)
    exact bodyPost_ret (v:=.tuple #[u2,.string (s.extract k (Qak s k)),.int .i64 0,.int .i64 0]) (by simp [results,Tryz.results46,go_sem]) rfl ⟨_,by rw [HD.out,HE.out];rfl,by rw [HD.out];exact HO.out,HB.out⟩
   ·have hst':(((Qak s k:Nat):Int) == (s.size:Int)) = false:=Qdu hst
    have hlt:Qak s k < s.size:=by omega
    by_cases he:(Qbb (suf s (Qak s k))).e = 0
    ·have HN:=hQ (HA.out.next hst he)
     have hlen:=tok_len he
     rw [Qbt] at hlen
     have he':((((Qbb (suf s (Qak s k))).e:Nat):Int) != 0) = false:=by simp [he]
     clear he hst
     go_wp2_with (first | (go_at_call 76;refine (skip_any s k _ hk HM.out).mono ?_;rintro e w' ⟨rfl,rfl⟩) | (go_at_call 77;refine (token_from s (Qak s k) _ hlt HL.out).mono ?_;rintro e w' ⟨rfl,rfl⟩) | (at_builtin;refine wpList_append_own _ rfl (.tmp 49) (.tmp 57) 70 rfl w.heap.size 74 i0 _ 3 40 Tryz.underlying70 hi hz0 hz1 hz2 rfl (by omega) u2 acc.length (Qcg acc) rfl (HO.out.alloc _) ⟨wr.heap.size,0,none⟩ 1 1 [.int .i64 (Qbb (suf s (Qak s k))).kind,.string (s.extract k (Qak s k)),.string (s.extract (Qak s k) (Qak s k + (Qbb (suf s (Qak s k))).n))] rfl rfl ?c1 ?c2 ?c3 ?c4 ?c5 ?_))
     case c1=>exact cell_three_new _ _ _ _ _
     case c2=>exact one_three _ _ _
     case c3=>unfold maxLen;omega
     case c4=>omega
     case c5=>rw [xI];have:=HB.out.size;omega
     intro v' w1 hown1 hg1 _
     have HV:=hQ hown1
     have HG:=hQ hg1
     clear hown1 hg1
     go_wp2
     go_roundw
     case rel=>exact ScanRel.next HN.out HO.out HB.out HV.out HG.out
     case measure=>simp [intOf];omega
    ·have HD:=hQ (HR.out.trans (HA.out.stop hst he))
     have he':((((Qbb (suf s (Qak s k))).e:Nat):Int) != 0) = true:=by simp;omega
     have hmax:(Qbb (suf s (Qak s k))).n ≤ s.size:=by have:=tok_err_len he;rw [Qbt] at this;omega
     clear he hst
     go_wp2_with (first | (go_at_call 76;refine (skip_any s k _ hk HM.out).mono ?_;rintro e w' ⟨rfl,rfl⟩) | (go_at_call 77;refine (token_from s (Qak s k) _ hlt HL.out).mono ?_;rintro e w' ⟨rfl,rfl⟩))
     exact bodyPost_ret (v:=.tuple #[.slice none 0 0,.string ⟨#[]⟩,.int .i64 (((Qak s k:Nat):Int) + ((Qbb (suf s (Qak s k))).n:Nat)),.int .i64 (Qbb (suf s (Qak s k))).e]) (by simp [results,Tryz.results46,go_sem]) rfl ⟨_,by rw [HD.out];rfl,by rw [HD.out];exact World.ownsRow_nil _ _ _ _,HB.out⟩
def Toks (w:World) (A:Option Addr) (ts:List Tok):Prop :=
 ts ≠ [] → ∃ b off,A = some ⟨b,off,none⟩ ∧ ∀ (i:Nat) (t:Tok),ts[i]? = some t →
  w.cell? ⟨b,off + i * 3,none⟩ = some (.int .i64 t.kind) ∧ w.cell? ⟨b,off + i * 3 + 1,none⟩ = some (.string t.lead) ∧ w.cell? ⟨b,off + i * 3 + 2,none⟩ = some (.string t.text)
theorem Toks.same {w w':World} {A:Option Addr} {ts:List Tok} (h:Toks w A ts) (hw:∀ p:Addr,(∃ u,w.cell? p = some u) → w'.cell? p = w.cell? p):Toks w' A ts:=fun hne=>by
 obtain ⟨b,off,hA,hc⟩:=h hne
 refine ⟨b,off,hA,fun i t ht=>?_⟩
 obtain ⟨h1,h2,h3⟩:=hc i t ht
 exact ⟨(hw _ ⟨_,h1⟩).trans h1,(hw _ ⟨_,h2⟩).trans h2,(hw _ ⟨_,h3⟩).trans h3⟩
theorem Toks.below {w w':World} {A:Option Addr} {ts:List Tok} (h:Toks w A ts) (hb:Below w.heap.size w w'):Toks w' A ts :=
 h.same fun p ⟨_,hu⟩=>hb.cell (xK w p hu)
def tokEq (t u:Tok):Bool:=t.kind == u.kind && t.lead.toList == u.lead.toList && t.text.toList == u.text.toList
def sameB:List Tok → List Tok → Bool
 | [],[]=>true
 | t :: ts,u :: us=>tokEq t u && sameB ts us
 | _,_=>false
theorem sameB_length {ts us:List Tok} (h:ts.length ≠ us.length):sameB ts us = false:=by
 induction ts generalizing us with
 | nil=>cases us with
  | nil=>exact absurd rfl h
  | cons u us=>rfl
 | cons t ts ih=>cases us with
  | nil=>rfl
  | cons u us =>
   unfold sameB
   rw [ih (by simpa using h),Bool.and_false]
def SameAt (ts us:List Tok) (k:Nat):Prop:=k ≤ ts.length ∧ sameB ts us = sameB (ts.drop k) (us.drop k)
theorem SameAt.next {ts us:List Tok} {k:Nat} {t u:Tok} (h:SameAt ts us k) (ht:ts[k]? = some t) (hu:us[k]? = some u) (he:tokEq t u = true):SameAt ts us (k + 1):=by
 obtain ⟨h1,h2⟩:=h
 obtain ⟨hk,e1⟩:=List.getElem?_eq_some_iff.1 ht
 obtain ⟨hk',e2⟩:=List.getElem?_eq_some_iff.1 hu
 refine ⟨hk,?_⟩
 rw [h2,List.drop_eq_getElem_cons hk,List.drop_eq_getElem_cons hk',e1,e2,sameB,he,Bool.true_and]
theorem SameAt.stop {ts us:List Tok} {k:Nat} {t u:Tok} (h:SameAt ts us k) (ht:ts[k]? = some t) (hu:us[k]? = some u) (he:tokEq t u = false):sameB ts us = false:=by
 obtain ⟨hk,e1⟩:=List.getElem?_eq_some_iff.1 ht
 obtain ⟨hk',e2⟩:=List.getElem?_eq_some_iff.1 hu
 rw [h.2,List.drop_eq_getElem_cons hk,List.drop_eq_getElem_cons hk',e1,e2,sameB,he,Bool.false_and]
theorem SameAt.done {ts us:List Tok} {k:Nat} (h:SameAt ts us k) (hl:ts.length = us.length) (hk:¬ k < ts.length):sameB ts us = true:=by
 rw [h.2,List.drop_eq_nil_of_le (by omega),List.drop_eq_nil_of_le (by omega)]
 rfl
theorem tok_under:Tryz.prog.underlying 74 = some (.struct (Tryz.prog.fieldsOf 74)):=by kernel_rfl
theorem tok_stood:Tryz.prog.stoodInHeld 74 = false:=by kernel_rfl
theorem tok_guard:Tryz.prog.eqGuardType Tryz.prog.depth 74 = false:=by kernel_rfl
theorem part_0 (x y z:Value) (w:World):(part 3 #[x,y,z] 0).run Tryz.prog w = .ok x w:=by
 simp [part,isAgg,run_underlying Tryz.underlying3]
theorem part_1 (x y z:Value) (w:World):(part 9 #[x,y,z] 1).run Tryz.prog w = .ok y w:=by
 simp [part,isAgg,run_underlying Tryz.underlying9]
theorem part_2 (x y z:Value) (w:World):(part 9 #[x,y,z] 2).run Tryz.prog w = .ok z w:=by
 simp [part,isAgg,run_underlying Tryz.underlying9]
theorem tok_equal (t u:Tok) (w:World):(Op.equalIn 10000 74 (.agg #[.int .i64 t.kind,.string t.lead,.string t.text]) (.agg #[.int .i64 u.kind,.string u.lead,.string u.text])).run Tryz.prog w = .ok (tokEq t u) w:=by
 rw [run_equalIn_agg w 9999 74 _ _ tok_under tok_stood]
 simp only [Program.fieldsOf,Tryz.underlying74,Op.eqFields,Sem.run_bind,Sem.run_ite,Sem.run_pure]
 have n1:("Lead" ≠ "_") = True:=by simp
 have n2:("Text" ≠ "_") = True:=by simp
 simp only [n1,n2,if_true,part_0,part_1,part_2,Result.andThen_ok,run_equalIn_int _ 9998 3 _ _ _ _ Tryz.underlying3,run_equalIn_string _ 9998 9 _ _ Tryz.underlying9]
 unfold tokEq
 cases h1:(t.kind == u.kind) <;> cases h2:(t.lead.toList == u.lead.toList) <;> cases h3:(t.text.toList == u.text.toList) <;> simp

theorem tok_neq (t u:Tok) (w:World):(binOp .neq 74 (.agg #[.int .i64 t.kind,.string t.lead,.string t.text]) (.agg #[.int .i64 u.kind,.string u.lead,.string u.text])).run Tryz.prog w = .ok (.bool (!tokEq t u)) w:=by
 rw [run_neq_struct,tok_equal]
 rfl
theorem equal_any (A B:Option Addr) (c d:Nat) (ts us:List Tok) (w:World) (ha:Toks w A ts) (hb:Toks w B us) (hn:ts.length ≤ 140737488355328) :
  Calls Tryz.prog 185 #[.slice A ts.length c,.slice B us.length d] w fun e w'=>e = .returned (.bool (sameB ts us)) ∧ ∃ n,w' = w.drewN n:=by
 by_cases hl:ts.length = us.length
 ·have hl':((ts.length:Int) != (us.length:Int)) = false:=by simp [hl]
  have HL:=hQ hl
  have HA:=hQ ha
  have HB:=hQ hb
  clear hl ha hb
  go_enter Tryz.func185,Tryz.ntmps185
  go_wp2
  go_loopw [13] (fun i wr=>∃ (k n:Nat),i = .int .i64 k ∧ k ≤ ts.length ∧ SameAt ts us k ∧ wr = w.drewN n) (fun i _=>ts.length - (intOf i).toNat)
  case atStart=>exact ⟨0,0,rfl,Nat.zero_le _,⟨Nat.zero_le _,rfl⟩,rfl⟩
  case round =>
   obtain ⟨k,n,rfl,hk,hrel,rfl⟩:=hrel
   have HR:=hQ hrel
   clear hrel
   by_cases hlt:k < ts.length
   ·obtain ⟨b,off,rfl,hca⟩:=HA.out (by intro e;rw [e] at hlt;simp at hlt)
    obtain ⟨b',off',rfl,hcb⟩:=HB.out (by intro e;rw [HL.out,e] at hlt;simp at hlt)
    obtain ⟨t,ht⟩:∃ t,ts[k]? = some t:=⟨_,xF hlt⟩
    obtain ⟨u,hu⟩:∃ u,us[k]? = some u:=⟨_,xF (by rw [← HL.out];exact hlt)⟩
    obtain ⟨a0,a1,a2⟩:=hca k t ht
    obtain ⟨b0,b1,b2⟩:=hcb k u hu
    have HT:=hQ ht
    have HU:=hQ hu
    clear hca hcb ht hu
    have hlt':(k:Int) < (ts.length:Int):=by omega
    have hlu':(k:Int) < (us.length:Int):=by have:=HL.out;omega
    have hk0:(0:Int) ≤ (k:Int):=by omega
    have hG:=fun (w:World) (x y:Operand)=>run_eqGuard_agg w .neq 74 x y #[.int .i64 t.kind,.string t.lead,.string t.text] #[.int .i64 u.kind,.string u.lead,.string u.text] tok_guard
    have hN:=fun (w:World)=>tok_neq t u w
    cases he:tokEq t u
    ·go_wp2_with fail
     go_quiet (fail)
     go_wp2
     go_ret
     exact ⟨Qah (HR.out.stop HT.out HU.out he).symm,_,World.drewN_drewN _ _ _⟩
    ·go_wp2_with fail
     go_quiet (fail)
     go_wp2
     go_roundw
     case rel=>exact ⟨k + 1,_,by go_num,by omega,HR.out.next HT.out HU.out he,rfl⟩
     case measure=>simp [intOf];omega
   ·go_wp2
    go_ret
    exact ⟨Qah (HR.out.done HL.out hlt).symm,n,rfl⟩
 ·have hl':((ts.length:Int) != (us.length:Int)) = true:=by simp;omega
  have HL:=hQ (sameB_length hl)
  clear hl ha hb
  go_enter Tryz.func185,Tryz.ntmps185
  go_wp2
  go_ret
  exact ⟨Qah HL.out.symm,0,rfl⟩
end Go.Proofs.YtnnfdbmanamfdaaGreat
namespace Go.Proofs.YtnnfdbmanamfdaaGreat
open Go.RowKit Go.Shelf
def stringRen:Go.Shelf.Ren:=⟨fun | 169=>107 | n=>n,fun | 70=>135 | 9=>9 | 0=>0 | 72=>138 | 37=>136 | 127=>169 | 3=>3 | 5=>5 | n=>n,fun | n=>n⟩
theorem stringLays:Go.Proofs.Lays.n169 Tryz.prog stringRen:={
 mixed:=by kernel_rfl
 f169:=Tryz.func107.trans (congrArg some (by kernel_rfl))
 t0:=Tryz.underlying0
 a0:=Tryz.isAgg0
 z0:=Tryz.sizeOf0
 v0:=Tryz.zeroValue0
 t3:=Tryz.underlying3
 a3:=Tryz.isAgg3
 z3:=Tryz.sizeOf3
 v3:=Tryz.zeroValue3
 t9:=Tryz.underlying9
 a9:=Tryz.isAgg9
 z9:=Tryz.sizeOf9
 v9:=Tryz.zeroValue9
 t37:=Tryz.underlying136
 a37:=Tryz.isAgg136
 z37:=Tryz.sizeOf136
 v37:=Tryz.zeroValue136
 t70:=Tryz.underlying135
 a70:=Tryz.isAgg135
 z70:=Tryz.sizeOf135
 v70:=Tryz.zeroValue135
 t72:=Tryz.underlying138
 a72:=Tryz.isAgg138
 z72:=Tryz.sizeOf138
 v72:=Tryz.zeroValue138
 t127:=Tryz.underlying169
 a127:=Tryz.isAgg169
 z127:=Tryz.sizeOf169
 v127:=Tryz.zeroValue169 }
theorem stringExtra:Builder.Extra Tryz.prog stringRen:={
 sizeBuilder:=by kernel_rfl
 liesBuilder:=by kernel_rfl
 t5:=Tryz.underlying5
 a5:=Tryz.isAgg5
 z5:=Tryz.sizeOf5
 v5:=Tryz.zeroValue5
 infoByte:=by kernel_rfl
 cellsByte:=by kernel_rfl
 sizeByte:=by kernel_rfl
 neB5:=by decide }
theorem sizeB:(Tryz.prog.info? 138).map (·.size) = some 2:=by kernel_rfl
theorem byte_info:(Tryz.prog.info? 5).map (fun i=>(i.zero,i.size,i.bytes)) = some (some (.int .u8 0),1,1):=by kernel_rfl
theorem copyCheck_used (b:Nat) (w:World) (h0:w.cell? ⟨b,0,none⟩ = some (.pointer (some ⟨b,0,none⟩))) :
  Calls Tryz.prog 186 #[.pointer (some ⟨b,0,none⟩)] w fun e w'=>e = .returned (.tuple #[]) ∧ w' = w:=by
 obtain ⟨j,hj,_⟩:=Option.map_eq_some_iff.1 sizeB
 go_enter Tryz.func186,Tryz.ntmps186
 go_wp2
 rw [Lib.run_neq_ptr_same w _ Tryz.underlying135 hj]
 go_wp2
 go_end0
 exact ⟨rfl,rfl⟩
def Kept (b:Nat) (w w':World):Prop:=∀ (k:Nat) (cs:Array Value) (T:TypeId) (fr:Nat × Nat),w.heap[k]? = some (.cells cs T fr) → k ≠ b → T ≠ 5 → w'.heap[k]? = some (.cells cs T fr)
theorem Kept.refl (b:Nat) (w:World):Kept b w w:=fun _ _ _ _ h _ _=>h
theorem Kept.trans {b:Nat} {w w1 w2:World} (h:Kept b w w1) (h':Kept b w1 w2):Kept b w w2:=fun k cs T fr h1 h2 h3=>h' k cs T fr (h k cs T fr h1 h2 h3) h2 h3
theorem Kept.set {b:Nat} {w:World} (i:Nat) (u:Value):Kept b w (w.setCell ⟨b,i,none⟩ u):=fun k _ _ _ h1 h2 _=>(Below.heap_setCell w ⟨b,i,none⟩ u k h2).trans h1
theorem Kept.grown {b base n:Nat} {w w':World} {v:Value} {xs:List Value} (hown:w.ownsRow base 5 1 v n xs) (hg:w.grownBy w' v.ownBlock):Kept b w w':=fun k cs T fr h1 _ h3=>by
 have hk:k < w.heap.size:=by
  rcases Nat.lt_or_ge k w.heap.size with h | h
  ·exact h
  ·rw [Array.getElem?_eq_none h] at h1
   cases h1
 refine (hg.block k hk ?_).trans h1
 rcases hown.2 with ⟨rfl,_⟩ | ⟨g,cap,cur,rfl,_,hh,_⟩
 ·simp [Value.ownBlock]
 ·intro e
  have:k = g:=by simpa [Value.ownBlock] using e
  subst this
  rw [hh] at h1
  injection h1 with h1
  injection h1 with _ h4
  exact h3 h4.symm
end Go.Proofs.YtnnfdbmanamfdaaGreat
namespace Go.Proofs.YtnnfdbmanamfdaaGreat
open Go.RowKit
theorem suf_nil {s:ByteArray} (h:s.size = 0):suf s 0 = []:=suf_end s 0 (by omega)
theorem suf_ne {s:ByteArray} (h:0 < s.size):suf s 0 ≠ []:=by
 intro e
 have:=Qbt s 0
 rw [e] at this
 simp at this
 omega
theorem Qf5 (s:ByteArray) (w:World) (hs:s.size < maxLen) :
  Calls Tryz.prog 164 #[.string s] w fun e w'=>e = .returned (.int .i64 (Qam (suf s 0))) ∧ w = w':=by
 have HS:=hQ hs
 by_cases h0:0 < s.size
 ·have hne:s.toList.isEmpty = false:=by
   have:=suf_ne h0
   rw [Qdx] at this
   simpa using this
  have HN:=hQ (suf_ne h0)
  have HL:=hQ (Qbt s 0)
  unfold maxLen at hs
  by_cases he:(Qbb (suf s 0)).e = 0
  ·have he':(((Qbb (suf s 0)).e:Nat):Int) = 0:=by omega
   by_cases hn:(Qbb (suf s 0)).n = s.size
   ·have hn':(((Qbb (suf s 0)).n:Nat):Int) = (s.size:Int):=by omega
    have HC:=hQ (show Qam (suf s 0) = (Qbb (suf s 0)).kind from by unfold Qam;rw [if_neg HN.out,if_neg (by rw [HL.out,he,hn];simp)])
    clear he hn
    go_enter Tryz.func164,Tryz.ntmps164
    go_wp2_with (go_at_call 77;refine (token_any _ _ h0 HS.out).mono ?_;rintro e w' ⟨rfl,rfl⟩)
    go_ret
    exact ⟨Qb8 (by rw [HC.out]),rfl⟩
   ·have hn':¬ (((Qbb (suf s 0)).n:Nat):Int) = (s.size:Int):=by omega
    have HC:=hQ (show Qam (suf s 0) = 0 from by unfold Qam;rw [if_neg HN.out,if_pos (.inr (by rw [HL.out];exact hn))])
    clear he hn
    go_enter Tryz.func164,Tryz.ntmps164
    go_wp2_with (go_at_call 77;refine (token_any _ _ h0 HS.out).mono ?_;rintro e w' ⟨rfl,rfl⟩)
    go_ret
    exact ⟨Qb8 (by rw [HC.out];rfl),rfl⟩
  ·have he':¬ (((Qbb (suf s 0)).e:Nat):Int) = 0:=by omega
   have HC:=hQ (show Qam (suf s 0) = 0 from by unfold Qam;rw [if_neg HN.out,if_pos (.inl he)])
   clear he
   go_enter Tryz.func164,Tryz.ntmps164
   go_wp2_with (go_at_call 77;refine (token_any _ _ h0 HS.out).mono ?_;rintro e w' ⟨rfl,rfl⟩)
   go_ret
   exact ⟨Qb8 (by rw [HC.out];rfl),rfl⟩
 ·have he:s.toList.isEmpty = true:=by rw [← Qdx,suf_nil (by omega)];rfl
  have HC:=hQ (show Qam (suf s 0) = 0 from by rw [suf_nil (by omega)];rfl)
  go_enter Tryz.func164,Tryz.ntmps164
  go_wp2
  go_ret
  exact ⟨Qb8 (by rw [HC.out];rfl),rfl⟩
theorem rreserved_any (s:ByteArray) (w:World):Calls Tryz.prog 196 #[.string s] w fun e w'=>e = .returned (.bool (Qar (suf s 0))) ∧ w = w':=by
 go_enter Tryz.func196,Tryz.ntmps196
 go_wp2
 all_goals
  go_ret
  exact ⟨Qah (by rw [Qdx];simp_all [Qar,reservedWords]),rfl⟩
def wordN (l:List UInt8):Nat:=if Qat (at' l 0) then Qac l else 0
theorem Qb1 (s:ByteArray) (a:Nat) (h:a < s.size):at' (suf s a) 0 = s[a].toNat:=at_suf s a 0 (by omega)
theorem wordN_yes {s:ByteArray} {a:Nat} (h:a < s.size) (hl:Qat s[a].toNat = true):wordN (suf s a) = Qac (suf s a):=by
 unfold wordN
 rw [Qb1 s a h,if_pos hl]
theorem wordN_no {s:ByteArray} {a:Nat} (h:a < s.size) (hl:Qat s[a].toNat = false):wordN (suf s a) = 0:=by
 unfold wordN
 rw [Qb1 s a h,if_neg (by simp [hl])]
theorem wordN_end {s:ByteArray} {a:Nat} (h:¬ a < s.size):wordN (suf s a) = 0:=by
 rw [suf_end s a (by omega)]
 rfl
theorem rword_any (s:ByteArray) (a:Nat) (w:World) (ha:a ≤ maxLen) (hs:s.size ≤ maxLen) :
  Calls Tryz.prog 195 #[.string s,.int .i64 a] w fun e w'=>e = .returned (.int .i64 (wordN (suf s a))) ∧ w = w':=by
 unfold maxLen at hs ha
 by_cases hlt:a < s.size
 ·have hge:decide (s.size ≤ a) = false:=by simp;omega
  have HR0:=hQ (RunAt.start Qgr s a (by omega))
  have HE:=hQ (show Qat s[a].toNat = (Qbl s[a].toNat || lowerB s[a].toNat) from rfl)
  cases hu:Qbl s[a].toNat
  ·cases hl:lowerB s[a].toNat
   ·have HW:=hQ (wordN_no hlt (by rw [HE.out,hu,hl];rfl))
    go_enter Tryz.func195,Tryz.ntmps195
    go_wp2_with (first | (go_at_call 190;refine (Qa8 _ _).mono ?_;rintro e w' ⟨rfl,rfl⟩) | (go_at_call 191;refine (Qay _ _).mono ?_;rintro e w' ⟨rfl,rfl⟩) | (go_at_call 197;refine (Qez _ _).mono ?_;rintro e w' ⟨rfl,rfl⟩))
    go_ret
    exact ⟨Qb8 (by rw [HW.out];rfl),rfl⟩
   ·have HW:=hQ (wordN_yes hlt (by rw [HE.out,hu,hl];rfl))
    go_enter Tryz.func195,Tryz.ntmps195
    go_wp2_with (first | (go_at_call 190;refine (Qa8 _ _).mono ?_;rintro e w' ⟨rfl,rfl⟩) | (go_at_call 191;refine (Qay _ _).mono ?_;rintro e w' ⟨rfl,rfl⟩) | (go_at_call 197;refine (Qez _ _).mono ?_;rintro e w' ⟨rfl,rfl⟩))
    go_loop [5] (fun x=>∃ (k:Nat),k ≤ s.size ∧ x = .int .i64 k ∧ RunAt Qgr s a k) (fun x=>s.size - (intOf x).toNat)
    case atStart=>exact ⟨a,by omega,rfl,HR0.out⟩
    case round =>
     obtain ⟨k,hk,rfl,hrel⟩:=hrel
     have HR:=hQ hrel
     clear hrel HR0
     have hk0:=HR.out.1
     by_cases hlt':k < s.size
     ·cases hw:Qgr s[k].toNat
      ·go_wp2_with (first | (go_at_call 190;refine (Qa8 _ _).mono ?_;rintro e w' ⟨rfl,rfl⟩) | (go_at_call 191;refine (Qay _ _).mono ?_;rintro e w' ⟨rfl,rfl⟩) | (go_at_call 197;refine (Qez _ _).mono ?_;rintro e w' ⟨rfl,rfl⟩))
       go_ret
       exact ⟨Qb8 (by have:=HR.out.stop hlt' hw;rw [HW.out];unfold Qac;omega),rfl⟩
      ·go_wp2_with (first | (go_at_call 190;refine (Qa8 _ _).mono ?_;rintro e w' ⟨rfl,rfl⟩) | (go_at_call 191;refine (Qay _ _).mono ?_;rintro e w' ⟨rfl,rfl⟩) | (go_at_call 197;refine (Qez _ _).mono ?_;rintro e w' ⟨rfl,rfl⟩))
       go_round
       case rel=>exact ⟨k + 1,by omega,by go_num,HR.out.next hlt' hw⟩
       case measure=>simp [intOf];omega
     ·go_wp2
      go_ret
      exact ⟨Qb8 (by have:=HR.out.done hlt';rw [HW.out];unfold Qac;omega),rfl⟩
  ·have HW:=hQ (wordN_yes hlt (by rw [HE.out,hu];rfl))
   cases hl:lowerB s[a].toNat
   all_goals
    go_enter Tryz.func195,Tryz.ntmps195
    go_wp2_with (first | (go_at_call 190;refine (Qa8 _ _).mono ?_;rintro e w' ⟨rfl,rfl⟩) | (go_at_call 191;refine (Qay _ _).mono ?_;rintro e w' ⟨rfl,rfl⟩) | (go_at_call 197;refine (Qez _ _).mono ?_;rintro e w' ⟨rfl,rfl⟩))
    go_loop [5] (fun x=>∃ (k:Nat),k ≤ s.size ∧ x = .int .i64 k ∧ RunAt Qgr s a k) (fun x=>s.size - (intOf x).toNat)
    case atStart=>exact ⟨a,by omega,rfl,HR0.out⟩
    case round =>
     obtain ⟨k,hk,rfl,hrel⟩:=hrel
     have HR:=hQ hrel
     clear hrel HR0
     have hk0:=HR.out.1
     by_cases hlt':k < s.size
     ·cases hw:Qgr s[k].toNat
      ·go_wp2_with (first | (go_at_call 190;refine (Qa8 _ _).mono ?_;rintro e w' ⟨rfl,rfl⟩) | (go_at_call 191;refine (Qay _ _).mono ?_;rintro e w' ⟨rfl,rfl⟩) | (go_at_call 197;refine (Qez _ _).mono ?_;rintro e w' ⟨rfl,rfl⟩))
       go_ret
       exact ⟨Qb8 (by have:=HR.out.stop hlt' hw;rw [HW.out];unfold Qac;omega),rfl⟩
      ·go_wp2_with (first | (go_at_call 190;refine (Qa8 _ _).mono ?_;rintro e w' ⟨rfl,rfl⟩) | (go_at_call 191;refine (Qay _ _).mono ?_;rintro e w' ⟨rfl,rfl⟩) | (go_at_call 197;refine (Qez _ _).mono ?_;rintro e w' ⟨rfl,rfl⟩))
       go_round
       case rel=>exact ⟨k + 1,by omega,by go_num,HR.out.next hlt' hw⟩
       case measure=>simp [intOf];omega
     ·go_wp2
      go_ret
      exact ⟨Qb8 (by have:=HR.out.done hlt';rw [HW.out];unfold Qac;omega),rfl⟩
 ·have HW:=hQ (wordN_end hlt)
  go_enter Tryz.func195,Tryz.ntmps195
  go_wp2
  go_ret
  exact ⟨Qb8 (by rw [HW.out];rfl),rfl⟩
theorem tokCells_at {ts:List Tok} {i:Nat} {t:Tok} (ht:ts[i]? = some t):∀ (j:Nat) (u:Value),j < 3 → [Value.int .i64 t.kind,.string t.lead,.string t.text][j]? = some u → (Qcg ts)[i * 3 + j]? = some u:=by
 induction ts generalizing i with
 | nil=>simp at ht
 | cons a r ih =>
  intro j u hj hu
  have e:Qcg (a :: r) = [Value.int .i64 a.kind,.string a.lead,.string a.text] ++ Qcg r:=by unfold Qcg;rw [List.flatMap_cons]
  rw [e]
  cases i with
  | zero =>
   have:a = t:=by simpa using ht
   subst this
   rw [List.getElem?_append_left (by simp;omega)]
   simpa using hu
  | succ i =>
   rw [List.getElem?_append_right (by simp;omega)]
   have:=ih (by simpa using ht) j u hj hu
   rw [← this]
   congr 1
   simp
   omega
theorem Toks.of_own {w:World} {base:Nat} {A:Option Addr} {c:Nat} {ts:List Tok} (h:w.ownsRow base 74 3 (.slice A ts.length c) ts.length (Qcg ts)):Toks w A ts:=fun hne=>by
 obtain ⟨g,cap,hv,_,_⟩:=h.form (by rcases ts with _ | ⟨t,r⟩;exact absurd rfl hne;simp)
 have hA:A = some ⟨g,0,none⟩:=by injection hv
 subst hA
 refine ⟨g,0,rfl,fun i t ht=>?_⟩
 have hc:=h.cells (g:=g) rfl
 have hj:=tokCells_at ht
 have hk:∀ j (u:Value),j < 3 → [Value.int .i64 t.kind,.string t.lead,.string t.text][j]? = some u → w.cell? ⟨g,0 + i * 3 + j,none⟩ = some u:=fun j u h1 h2=>by
  have:=hc (i * 3 + j) u (hj j u h1 h2)
  unfold Addr.add at this
  split at this
  ·rename_i h0
   rw [show 0 + i * 3 + j = 0 from by omega]
   exact this
  ·simpa using this
 exact ⟨hk 0 _ (by omega) rfl,hk 1 _ (by omega) rfl,hk 2 _ (by omega) rfl⟩
theorem Qgz {w:World} {base e size n:Nat} {v:Value} {xs:List Value} (h:w.ownsRow base e size v n xs):∃ A c,v = .slice A n c:=by
 rcases h.2 with ⟨h1,h2⟩ | ⟨g,cap,_,h1,_⟩
 ·subst h2
  exact ⟨none,0,h1⟩
 ·exact ⟨_,cap,h1⟩
def twoToks (a b:ByteArray):List Tok:=[⟨Qam (suf a 0),ByteArray.empty,a⟩,⟨Qam (suf b 0),ByteArray.empty,b⟩]
def Qfs (a b:ByteArray):Bool:=Qam (suf a 0) != 0 && Qam (suf b 0) != 0 && !sameB (Qbd (a ++ b)).toks (twoToks a b)
theorem scanR_few (s:ByteArray):(Qbd s).toks.length ≤ 4096:=by
 unfold Qbd
 split
 ·exact Nat.zero_le _
 ·rename_i h
  unfold scanG
  have:∀ f k acc,k ≤ s.size → acc.length ≤ k → (scanF s f k acc).toks.length ≤ 4096:=by
   intro f
   induction f with
   | zero=>intro k acc _ _;exact Nat.zero_le _
   | succ f ih =>
    intro k acc hk ha
    unfold scanF
    split
    ·show acc.length ≤ 4096
     omega
    ·split
     ·rename_i he
      have h1:=tok_len he
      have h2:=Qgs s k
      have h3:=Qf0 s k hk
      rw [Qbt] at h1
      exact ih _ _ (by omega) (by rw [xB];simp;omega)
     ·exact Nat.zero_le _
  exact this _ _ _ (Nat.zero_le _) (Nat.zero_le _)
theorem two_toks (w:World) (a b:ByteArray):Toks (w.alloc (.cells #[.int .i64 (Qam (suf a 0)),.string ⟨#[]⟩,.string a,.int .i64 (Qam (suf b 0)),.string ⟨#[]⟩,.string b] 74)) (some ⟨w.heap.size,0,none⟩) (twoToks a b):=fun _ =>
 ⟨w.heap.size,0,rfl,fun i t ht=>by
  match i,ht with
  | 0,ht=>simp [twoToks] at ht;subst ht;simp;rfl
  | 1,ht=>simp [twoToks] at ht;subst ht;simp;rfl
  | (i + 2),ht=>simp [twoToks] at ht⟩
theorem equal_two (A:Option Addr) (c:Nat) (ts:List Tok) (a b:ByteArray) (w:World) (ha:Toks w A ts) (hn:ts.length ≤ 4096) :
  Calls Tryz.prog 185 #[.slice A ts.length c,.slice (some ⟨w.heap.size,0,none⟩) 2 2] (w.alloc (.cells #[.int .i64 (Qam (suf a 0)),.string ⟨#[]⟩,.string a,.int .i64 (Qam (suf b 0)),.string ⟨#[]⟩,.string b] 74))
   fun e w'=>e = .returned (.bool (sameB ts (twoToks a b))) ∧ Below w.heap.size w w':=by
 refine (equal_any A (some ⟨w.heap.size,0,none⟩) c 2 ts (twoToks a b) (w.alloc (.cells #[.int .i64 (Qam (suf a 0)),.string ⟨#[]⟩,.string a,.int .i64 (Qam (suf b 0)),.string ⟨#[]⟩,.string b] 74)) (ha.below ((xC _ _).alloc (xA _) _)) (two_toks w a b) (by omega)).mono fun e w' h=>?_
 obtain ⟨h1,n,rfl⟩:=h
 exact ⟨h1,below_drewN ((xC _ _).alloc (xA _) _) _⟩
theorem fuses_any (a b:ByteArray) (w:World) (hs:a.size + b.size < maxLen) :
  Calls Tryz.prog 177 #[.string a,.string b] w fun e w'=>e = .returned (.bool (Qfs a b)) ∧ Below w.heap.size w w':=by
 have HA:=hQ (show a.size < maxLen from by omega)
 have HB:=hQ (show b.size < maxLen from by omega)
 have HS:=hQ (show (a ++ b).size ≤ maxLen from by rw [ByteArray.size_append];omega)
 unfold maxLen at hs
 by_cases h1:Qam (suf a 0) = 0
 ·have h1':(((Qam (suf a 0):Nat):Int) == 0) = true:=by simp [h1]
  have HF:=hQ (show Qfs a b = false from by unfold Qfs;simp [h1])
  clear h1
  go_enter Tryz.func177,Tryz.ntmps177
  go_wp2_with (first | (go_at_call 164;((with_reducible refine (Qf5 a _ HA.out).mono ?_);rintro e w' ⟨rfl,rfl⟩)) | (go_at_call 164;((with_reducible refine (Qf5 b _ HB.out).mono ?_);rintro e w' ⟨rfl,rfl⟩)))
  go_ret
  exact ⟨Qah HF.out.symm,xC _ _⟩
 ·by_cases h2:Qam (suf b 0) = 0
  ·have h1':(((Qam (suf a 0):Nat):Int) == 0) = false:=by simp;omega
   have h2':(((Qam (suf b 0):Nat):Int) == 0) = true:=by simp [h2]
   have HF:=hQ (show Qfs a b = false from by unfold Qfs;simp [h2])
   clear h1 h2
   go_enter Tryz.func177,Tryz.ntmps177
   go_wp2_with (first | (go_at_call 164;((with_reducible refine (Qf5 a _ HA.out).mono ?_);rintro e w' ⟨rfl,rfl⟩)) | (go_at_call 164;((with_reducible refine (Qf5 b _ HB.out).mono ?_);rintro e w' ⟨rfl,rfl⟩)))
   go_ret
   exact ⟨Qah HF.out.symm,xC _ _⟩
  ·have h1':(((Qam (suf a 0):Nat):Int) == 0) = false:=by simp;omega
   have h2':(((Qam (suf b 0):Nat):Int) == 0) = false:=by simp;omega
   have HF:=hQ (show Qfs a b = !sameB (Qbd (a ++ b)).toks (twoToks a b) from by unfold Qfs;simp [h1,h2])
   clear h1 h2
   go_enter Tryz.func177,Tryz.ntmps177
   go_wp2_with (first | (go_at_call 164;((with_reducible refine (Qf5 a _ HA.out).mono ?_);rintro e w' ⟨rfl,rfl⟩)) | (go_at_call 164;((with_reducible refine (Qf5 b _ HB.out).mono ?_);rintro e w' ⟨rfl,rfl⟩)) | (go_at_call 46;refine (scan_any (a ++ b) _ HS.out).mono ?_;rintro e w1 ⟨v,rfl,ho,hb⟩;obtain ⟨A,c,rfl⟩:=Qgz ho;have HO:=hQ ho;have HW:=hQ hb;clear ho hb) | (go_at_call 185;refine (equal_two A c _ a b w1 (Toks.of_own HO.out) (scanR_few _)).mono ?_;rintro e w2 ⟨rfl,hb2⟩;have HW2:=hQ hb2;clear hb2))
   go_ret
   exact ⟨Qah HF.out.symm,HW.out.trans (HW2.out.mono HW.out.size)⟩
end Go.Proofs.YtnnfdbmanamfdaaGreat
