/- Part 41: The contract of Targets of package link. -/
import Derived.Test.YtclkilljmdkfaaaTy1
import Derived.Test.YtclkilljmdkfaaaTy40
set_option maxRecDepth 100000
set_option maxHeartbeats 4000000
namespace Go.Proofs.Ytclkilljmdkfaaa
open Go.RowKit Go.Shelf
theorem prog_kind {ps:List Tr} {j:Nat} {t:Tr} (h:Qbv ps = true) (ht:ps[j]? = some t):t.kind = 1 ∧ Qai t = true:=by
 unfold Qbv at h
 rw [List.all_eq_true] at h
 have:=h t (List.mem_of_getElem? ht)
 simp at this
 exact this
def TgsAt (w:World) (B:Nat) (v:Value) (zs:List Tgm):Prop:=∃ ws,TRow w B v ws ∧ TarsAt w B ws zs
theorem TRow.keep {w w':World} {B:Nat} {v:Value} {ws:List TgV} (h:TRow w B v ws) (hb:Below w.heap.size w w'):TRow w' B v ws:=(Keeps.of_below (P:=fun _=>none) hb).row h fun _ _=>.inl rfl
theorem TgsAt.keep {w w':World} {B:Nat} {v:Value} {zs:List Tgm} (h:TgsAt w B v zs) (hb:Below w.heap.size w w'):TgsAt w' B v zs:=by
 obtain ⟨ws,h1,h2⟩:=h
 exact ⟨ws,h1.keep hb,h2.step fun _ _ h=>h.keep hb⟩
theorem TgsAt.slice {w:World} {B:Nat} {v:Value} {zs:List Tgm} (h:TgsAt w B v zs):∃ A c,v = .slice A zs.length c:=by
 obtain ⟨ws,h1,h2⟩:=h
 obtain ⟨A,c,h⟩:=Qe0 h1
 exact ⟨A,c,by rw [h,h2.1]⟩
theorem nil_names (v:Value) (a k:Nat) (h:v.ownBlock ≠ some k):nameT v a (.slice none 0 0) 0 k = none:=Qee h (by intro h;cases h) (by intro h;cases h)
def TgsL (ps:List Tr) (w:World) (l i:Value) (wr:World):Prop:=∃ j:Nat,i = .int .i64 (j:Int) ∧ j ≤ ps.length ∧ TgsAt wr w.heap.size l (Qfl ps (ps.take j) 0) ∧ Below w.heap.size w wr
theorem tgs_step {ps:List Tr} {j:Nat} {t:Tr} {w wr wb w4:World} {lv v4:Value} {ws vs4:List TgV} (ht:ps[j]? = some t) (hb:Below w.heap.size w wr) (hbb:Below wr.heap.size wr wb) (hl:TRow wr w.heap.size lv ws) (ha:TarsAt wr w.heap.size ws (Qfl ps (ps.take j) 0))
  (hv:TRow w4 w.heap.size v4 (ws ++ vs4)) (hva:TarsAt w4 wb.heap.size vs4 (tgtM ps j t [])) (hk:Keeps (nameT lv (ws.length * 5) (.slice none 0 0) ([]:List Int).length) wb w4):TgsAt w4 w.heap.size v4 (Qfl ps (ps.take (j + 1)) 0) ∧ Below w.heap.size w w4:=by
 have hl2:TRow wb w.heap.size lv ws:=hl.keep hbb
 refine ⟨⟨_,hv,?_⟩,hb.trans ((hbb.mono hb.size).trans (hk.below (Nat.le_trans hb.size hbb.size) fun k hk=>nil_names _ _ _ fun e=>by have:=(hl.lt k e).1;omega))⟩
 rw [tgtPs_step ht]
 refine TarsAt.app (ha.step fun v p h=>?_) (hva.step fun v p h=>Qem h (Nat.le_trans hb.size hbb.size))
 have h2:IRow wb w.heap.size v p:=h.keep hbb
 exact hk.row h2 fun k hk'=>.inl (nil_names _ _ _ (Qef hl2 (irow_block h2 hk').choose_spec (by decide)))
theorem targets_lnk (S:Nat → Prop) (A:Option Addr) (c:Nat) (ps:List Tr) (w:World) (hp:TrAt S w (Qa3 ps) ⟨0,⟨#[]⟩,none,0,0,A,ps.length,c⟩) (hf:fitT (Qa3 ps) = true) (hs:Qbj (Qa3 ps) = true) (hw:Qa9 (Qa3 ps) = true) (hz:Qah ps ≤ 90000) :
  Calls Try.prog 32 #[.slice A ps.length c] w fun e w'=>∃ v,e = .returned v ∧ TgsAt w' w.heap.size v (tgtsG ps) ∧ Below w.heap.size w w':=by
 have HC:=hQ (fun w' (hb:Below w.heap.size w w')=>program_lnk S A c ps w' (hp.keep hb) hs hw)
 have HP:=hQ (TrAt.low _ _ hp)
 have HT:=hQ (fun (m:Nat) (hm:m < ps.length) (N:Nat)=>targets_any w.heap.size ps A c m hf hm N)
 have HW:=hQ (Qbp hw).2.2
 have HZ:=hQ hz
 have hl:ps.length ≤ 90000:=by have:=Qas ps;omega
 clear hp hf hs hw hz
 cases hg:Qbv ps with
 | false =>
  have HV:=hQ (show tgtsG ps = [] from by unfold tgtsG;rw [hg];rfl)
  rw [hg] at HC
  clear hg HT
  go_enter Try.func32,Try.ntmps32
  go_wp2_with (go_at_call 40;refine (HC.out _ (by first | exact xC _ _ | exact below_drewN (xC _ _) _)).mono ?_;rintro e w1 ⟨rfl,hb⟩;have HB1:=hQ hb;clear hb)
  refine bodyPost_ret (v:=.slice none 0 0) (by simp [results,Try.results32,go_sem, *]) rfl ?_
  rw [HV.out]
  exact ⟨_,rfl,⟨[],World.ownsRow_nil _ _ _ _,TarsAt.nil _ _⟩,HB1.out⟩
 | true =>
  have HG:=hQ hg
  have HV:=hQ (show tgtsG ps = Qfl ps (ps.take ps.length) 0 from by unfold tgtsG;rw [hg,if_pos rfl,List.take_length])
  rw [hg] at HC
  clear hg
  go_enter Try.func32,Try.ntmps32
  go_wp2_with (go_at_call 40;refine (HC.out _ (by first | exact xC _ _ | exact below_drewN (xC _ _) _)).mono ?_;rintro e w1 ⟨rfl,hb⟩;have HB1:=hQ hb;clear hb)
  go_loopw [3,11] (fun l i wr=>TgsL ps w l i wr) (fun _ i _=>ps.length - (intOf i).toNat)
  case atStart=>exact ⟨0,rfl,Nat.zero_le _,⟨[],World.ownsRow_nil _ _ _ _,TarsAt.nil _ _⟩,HB1.out⟩
  case round =>
   obtain ⟨j,rfl,hj,hr,hb⟩:=hrel
   have HBR:=hQ hb
   obtain ⟨ws,hrow,hat⟩:=hr
   obtain ⟨LA,lc,rfl⟩:=Qe0 hrow
   have HROW:=hQ hrow
   have HAT:=hQ hat
   clear hrow hat hb
   by_cases hlt:j < ps.length
   ·obtain ⟨t,ht⟩:∃ t,ps[j]? = some t:=⟨_,xF hlt⟩
    obtain ⟨b,off,hka⟩:∃ b off,A = some ⟨b,off,none⟩:=HP.out.addr.resolve_left (by show ¬ ps.length = 0;omega)
    subst hka
    obtain ⟨u,c0,c1,c2,c3,hu⟩:=(HP.out.keep HBR.out).at rfl (show (Qa3 ps).kids[j]? = some t from ht)
    have HBA:=hQ (Qcy wr (trO u))
    have hk1:=(prog_kind HG.out ht).1
    have hws:ws.length ≤ Qah (ps.take j):=by rw [HAT.out.1];exact tgtPs_len ps _ 0
    have hsz:=sizeL_take ht
    have hsz2:=Qdt ps (j + 1)
    have hsz3:Qah (ps.take (j + 1)) = Qah (ps.take j) + Qao t:=hsz
    have HCT:=hQ (HT.out j hlt (SizeOf.sizeOf t) t u (.slice LA ws.length lc) ws (.slice none 0 0) [] (wr.alloc (trO u)) (xA _) (hu.lows (HBA.out.mono HBR.out.size)) ((HP.out.keep HBR.out).lows (HBA.out.mono HBR.out.size)) ⟨HROW.out.keep HBA.out,World.ownsRow_nil _ _ _ _,Nat.le_trans HBR.out.size HBA.out.size⟩ (.inr (by rw [hk1];decide)) (HW.out j t ht) (by have:=HZ.out;omega) (by have:=HZ.out;simp;omega))
    have HTT:=hQ ht
    have cl:=xK wr _ c0
    have hk0:(0:Int) ≤ (j:Int):=by omega
    have hk2:(j:Int) < (ps.length:Int):=by omega
    have hk3:(j:Int) + 1 ≤ 90001:=by omega
    clear hu ht hk1 hws hsz hsz2 hsz3 HT
    go_wp2_with (go_at_call 52;refine HCT.out.mono ?_;rintro e w4 ⟨v4,vs4,rfl,hv4,hva4,hk4,_⟩;have HST:=hQ (tgs_step HTT.out HBR.out HBA.out HROW.out HAT.out hv4 hva4 hk4);clear hv4 hva4 hk4)
    go_roundw
    case measure=>first | (simp [intOf];done) | (simp [intOf];omega)
    case rel=>exact ⟨j + 1,by go_num,by omega,HST.out.1,HST.out.2⟩
   ·obtain rfl:j = ps.length:=by omega
    go_wp2
    go_ret
    exact ⟨_,rfl,⟨ws,HROW.out,by rw [HV.out];exact HAT.out⟩,HBR.out⟩
end Go.Proofs.Ytclkilljmdkfaaa
