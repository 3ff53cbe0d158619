/- Part 38: The contract of Targets of package link. The contract of Uses of package link. The numbers of the paths of a tree, in their order; and what the laws over paths share. The contract of the reference's SamePath, and that of samePaths at equal lists. The contracts of samePlace and sameTargets of the law of link, at equal places and lists. -/
import Derived.Test.YtnnfdbmanamfdaaGreatLw1
import Derived.Test.YtnnfdbmanamfdaaGreatLw37
import Derived.Test.YtnnfdbmanamfdaaGreatLw35
import Derived.Test.YtnnfdbmanamfdaaGreatLw18
import Derived.Deep.RegionHeld3
import Derived.Deep.QuietTactic
set_option maxRecDepth 100000
set_option maxHeartbeats 4000000
namespace Go.Proofs.YtnnfdbmanamfdaaGreat
open Go.RowKit Go.Shelf
theorem prog_kind {ps:List Tr} {j:Nat} {t:Tr} (h:progG ps = true) (ht:ps[j]? = some t):t.kind = 1 ∧ Qao t = true:=by
 unfold progG at h
 rw [List.all_eq_true] at h
 have:=h t (List.mem_of_getElem? ht)
 simp at this
 exact this
def TgsAt (w:World) (B:Nat) (v:Value) (zs:List Tgm):Prop:=∃ ws,TRow w B v ws ∧ TarsAt w B ws zs
theorem TRow.keep {w w':World} {B:Nat} {v:Value} {ws:List TgV} (h:TRow w B v ws) (hb:Below w.heap.size w w'):TRow w' B v ws:=(Keeps.of_below (P:=fun _=>none) hb).row h fun _ _=>.inl rfl
theorem TgsAt.keep {w w':World} {B:Nat} {v:Value} {zs:List Tgm} (h:TgsAt w B v zs) (hb:Below w.heap.size w w'):TgsAt w' B v zs:=by
 obtain ⟨ws,h1,h2⟩:=h
 exact ⟨ws,h1.keep hb,h2.step fun _ _ h=>h.keep hb⟩
theorem TgsAt.slice {w:World} {B:Nat} {v:Value} {zs:List Tgm} (h:TgsAt w B v zs):∃ A c,v = .slice A zs.length c:=by
 obtain ⟨ws,h1,h2⟩:=h
 obtain ⟨A,c,h⟩:=Qeq h1
 exact ⟨A,c,by rw [h,h2.1]⟩
theorem nil_names (v:Value) (a k:Nat) (h:v.ownBlock ≠ some k):nameT v a (.slice none 0 0) 0 k = none:=Qgi h (by intro h;cases h) (by intro h;cases h)
def TgsL (ps:List Tr) (w:World) (l i:Value) (wr:World):Prop:=∃ j:Nat,i = .int .i64 (j:Int) ∧ j ≤ ps.length ∧ TgsAt wr w.heap.size l (Qgd ps (ps.take j) 0) ∧ Below w.heap.size w wr
theorem tgs_step {ps:List Tr} {j:Nat} {t:Tr} {w wr wb w4:World} {lv v4:Value} {ws vs4:List TgV} (ht:ps[j]? = some t) (hb:Below w.heap.size w wr) (hbb:Below wr.heap.size wr wb) (hl:TRow wr w.heap.size lv ws) (ha:TarsAt wr w.heap.size ws (Qgd ps (ps.take j) 0))
  (hv:TRow w4 w.heap.size v4 (ws ++ vs4)) (hva:TarsAt w4 wb.heap.size vs4 (tgtM ps j t [])) (hk:Keeps (nameT lv (ws.length * 5) (.slice none 0 0) ([]:List Int).length) wb w4):TgsAt w4 w.heap.size v4 (Qgd ps (ps.take (j + 1)) 0) ∧ Below w.heap.size w w4:=by
 have hl2:TRow wb w.heap.size lv ws:=hl.keep hbb
 refine ⟨⟨_,hv,?_⟩,hb.trans ((hbb.mono hb.size).trans (hk.below (Nat.le_trans hb.size hbb.size) fun k hk=>nil_names _ _ _ fun e=>by have:=(hl.lt k e).1;omega))⟩
 rw [tgtPs_step ht]
 refine TarsAt.app (ha.step fun v p h=>?_) (hva.step fun v p h=>Qfr h (Nat.le_trans hb.size hbb.size))
 have h2:IRow wb w.heap.size v p:=h.keep hbb
 exact hk.row h2 fun k hk'=>.inl (nil_names _ _ _ (Qev hl2 (Qfd h2 hk').choose_spec (by decide)))
theorem targets_lnk (S:Nat → Prop) (A:Option Addr) (c:Nat) (ps:List Tr) (w:World) (hp:TrAt S w (Qbx ps) ⟨0,⟨#[]⟩,none,0,0,A,ps.length,c⟩) (hf:fitT (Qbx ps) = true) (hs:Qcn (Qbx ps) = true) (hw:Qdb (Qbx ps) = true) (hz:Qap ps ≤ 90000) :
  Calls Tryz.prog 34 #[.slice A ps.length c] w fun e w'=>∃ v,e = .returned v ∧ TgsAt w' w.heap.size v (Qgp ps) ∧ Below w.heap.size w w':=by
 have HC:=hQ (fun w' (hb:Below w.heap.size w w')=>program_lnk S A c ps w' (hp.keep hb) hs hw)
 have HP:=hQ (TrAt.low _ _ hp)
 have HT:=hQ (fun (m:Nat) (hm:m < ps.length) (N:Nat)=>targets_any w.heap.size ps A c m hf hm N)
 have HW:=hQ (Qcr hw).2.2
 have HZ:=hQ hz
 have hl:ps.length ≤ 90000:=by have:=Qbj ps;omega
 clear hp hf hs hw hz
 cases hg:progG ps with
 | false =>
  have HV:=hQ (show Qgp ps = [] from by unfold Qgp;rw [hg];rfl)
  rw [hg] at HC
  clear hg HT
  go_enter Tryz.func34,Tryz.ntmps34
  go_wp2_with (go_at_call 64;refine (HC.out _ (by first | exact xC _ _ | exact below_drewN (xC _ _) _)).mono ?_;rintro e w1 ⟨rfl,hb⟩;have HB1:=hQ hb;clear hb)
  refine bodyPost_ret (v:=.slice none 0 0) (by simp [results,Tryz.results34,go_sem, *]) rfl ?_
  rw [HV.out]
  exact ⟨_,rfl,⟨[],World.ownsRow_nil _ _ _ _,TarsAt.nil _ _⟩,HB1.out⟩
 | true =>
  have HG:=hQ hg
  have HV:=hQ (show Qgp ps = Qgd ps (ps.take ps.length) 0 from by unfold Qgp;rw [hg,if_pos rfl,List.take_length])
  rw [hg] at HC
  clear hg
  go_enter Tryz.func34,Tryz.ntmps34
  go_wp2_with (go_at_call 64;refine (HC.out _ (by first | exact xC _ _ | exact below_drewN (xC _ _) _)).mono ?_;rintro e w1 ⟨rfl,hb⟩;have HB1:=hQ hb;clear hb)
  go_loopw [3,11] (fun l i wr=>TgsL ps w l i wr) (fun _ i _=>ps.length - (intOf i).toNat)
  case atStart=>exact ⟨0,rfl,Nat.zero_le _,⟨[],World.ownsRow_nil _ _ _ _,TarsAt.nil _ _⟩,HB1.out⟩
  case round =>
   obtain ⟨j,rfl,hj,hr,hb⟩:=hrel
   have HBR:=hQ hb
   obtain ⟨ws,hrow,hat⟩:=hr
   obtain ⟨LA,lc,rfl⟩:=Qeq hrow
   have HROW:=hQ hrow
   have HAT:=hQ hat
   clear hrow hat hb
   by_cases hlt:j < ps.length
   ·obtain ⟨t,ht⟩:∃ t,ps[j]? = some t:=⟨_,xF hlt⟩
    obtain ⟨b,off,hka⟩:∃ b off,A = some ⟨b,off,none⟩:=HP.out.addr.resolve_left (by show ¬ ps.length = 0;omega)
    subst hka
    obtain ⟨u,c0,c1,c2,c3,hu⟩:=(HP.out.keep HBR.out).at rfl (show (Qbx ps).kids[j]? = some t from ht)
    have HBA:=hQ (Qcu wr (trO u))
    have hk1:=(prog_kind HG.out ht).1
    have hws:ws.length ≤ Qap (ps.take j):=by rw [HAT.out.1];exact tgtPs_len ps _ 0
    have hsz:=Qc0 ht
    have hsz2:=Qcy ps (j + 1)
    have hsz3:Qap (ps.take (j + 1)) = Qap (ps.take j) + Qan t:=hsz
    have HCT:=hQ (HT.out j hlt (SizeOf.sizeOf t) t u (.slice LA ws.length lc) ws (.slice none 0 0) [] (wr.alloc (trO u)) (xA _) (hu.lows (HBA.out.mono HBR.out.size)) ((HP.out.keep HBR.out).lows (HBA.out.mono HBR.out.size)) ⟨HROW.out.keep HBA.out,World.ownsRow_nil _ _ _ _,Nat.le_trans HBR.out.size HBA.out.size⟩ (.inr (by rw [hk1];decide)) (HW.out j t ht) (by have:=HZ.out;omega) (by have:=HZ.out;simp;omega))
    have HTT:=hQ ht
    have cl:=xK wr _ c0
    have hk0:(0:Int) ≤ (j:Int):=by omega
    have hk2:(j:Int) < (ps.length:Int):=by omega
    have hk3:(j:Int) + 1 ≤ 90001:=by omega
    clear hu ht hk1 hws hsz hsz2 hsz3 HT
    go_wp2_with (go_at_call 65;refine HCT.out.mono ?_;rintro e w4 ⟨v4,vs4,rfl,hv4,hva4,hk4,_⟩;have HST:=hQ (tgs_step HTT.out HBR.out HBA.out HROW.out HAT.out hv4 hva4 hk4);clear hv4 hva4 hk4)
    go_roundw
    case measure=>first | (simp [intOf];done) | (simp [intOf];omega)
    case rel=>exact ⟨j + 1,by go_num,by omega,HST.out.1,HST.out.2⟩
   ·obtain rfl:j = ps.length:=by omega
    go_wp2
    go_ret
    exact ⟨_,rfl,⟨ws,HROW.out,by rw [HV.out];exact HAT.out⟩,HBR.out⟩
theorem place_info:(Tryz.prog.info? 59).map (fun i=>(i.zero,i.size,i.bytes)) = some (some (.agg #[.int .i64 0,.slice none 0 0]),2,32):=by kernel_rfl
abbrev PlV:=Int × Value
def plC (u:PlV):List Value:=[.int .i64 u.1,u.2]
def pCells (us:List PlV):List Value:=us.flatMap plC
theorem pCells_append (a b:List PlV):pCells (a ++ b) = pCells a ++ pCells b:=by unfold pCells;rw [List.flatMap_append]
def PlRow (w:World) (B:Nat) (v:Value) (us:List PlV):Prop:=w.ownsRow B 59 2 v us.length (pCells us)
def PlAt (w:World) (lo:Nat) (y:PlV) (z:Int × List Int):Prop:=y.1 = z.1 ∧ IRow w lo y.2 z.2
def PlsAt (w:World) (B:Nat) (v:Value) (zs:List (Int × List Int)):Prop:=∃ us,PlRow w B v us ∧ us.length = zs.length ∧ ∀ (j:Nat) (y:PlV) (z:Int × List Int),us[j]? = some y → zs[j]? = some z → PlAt w B y z
theorem PlsAt.nil (w:World) (B:Nat):PlsAt w B (.slice none 0 0) []:=⟨[],World.ownsRow_nil _ _ _ _,rfl,fun j y z h=>by simp at h⟩
theorem PlsAt.keep {w w':World} {B:Nat} {v:Value} {zs:List (Int × List Int)} (h:PlsAt w B v zs) (hb:Below w.heap.size w w'):PlsAt w' B v zs:=by
 obtain ⟨us,h1,h2,h3⟩:=h
 exact ⟨us,(Keeps.of_below (P:=fun _=>none) hb).row h1 fun _ _=>.inl rfl,h2,fun j y z hy hz=>⟨(h3 j y z hy hz).1,(h3 j y z hy hz).2.keep hb⟩⟩
theorem PlsAt.snoc {w w':World} {B:Nat} {v v':Value} {us:List PlV} {zs:List (Int × List Int)} {y:PlV} {z:Int × List Int} (hr:PlRow w B v us) (hn:us.length = zs.length) (ha:∀ (j:Nat) (y:PlV) (z:Int × List Int),us[j]? = some y → zs[j]? = some z → PlAt w B y z)
  (hy:PlAt w B y z) (hown:w'.ownsRow B 59 2 v' (us.length + 1) (pCells us ++ plC y)) (hk:Keeps (pre v (us.length * 2)) w w'):PlsAt w' B v' (zs ++ [z]):=by
 have hkeep:∀ (a:PlV) (b:Int × List Int),PlAt w B a b → PlAt w' B a b:=fun a b h=>⟨h.1,hk.row h.2 fun k hk'=>.inl (Qdd (Qev hr (Qfd h.2 hk').choose_spec (by decide)))⟩
 refine ⟨us ++ [y],?_,by rw [xB,xB,hn];rfl,fun j a b ha' hb'=>?_⟩
 ·unfold PlRow
  rw [xB,pCells_append]
  exact (show pCells us ++ plC y = pCells us ++ pCells [y] from by simp [pCells]) ▸ hown
 ·by_cases hj:j < us.length
  ·rw [List.getElem?_append_left hj] at ha'
   rw [List.getElem?_append_left (by rw [← hn];exact hj)] at hb'
   exact hkeep a b (ha j a b ha' hb')
  ·rw [List.getElem?_append_right (by omega)] at ha'
   rw [List.getElem?_append_right (by rw [← hn];omega),← hn] at hb'
   obtain ⟨q,hq⟩:∃ q,q = j - us.length:=⟨_,rfl⟩
   rw [← hq] at ha' hb'
   match q,ha',hb' with
   | 0,ha',hb' =>
    injection ha' with ha'
    injection hb' with hb'
    subst ha' hb'
    exact hkeep _ _ hy
def usesP (i d:Int) (zs:List Tgm):List (Int × List Int):=(zs.filter (ofDef i d)).map fun z=>(z.1,z.2.1)
theorem usesP_yes {i d:Int} {zs:List Tgm} {j:Nat} {z:Tgm} (h:zs[j]? = some z) (hz:ofDef i d z = true):usesP i d (zs.take (j + 1)) = usesP i d (zs.take j) ++ [(z.1,z.2.1)]:=by
 unfold usesP
 rw [List.take_add_one,h,Option.toList_some,List.filter_append,List.map_append,List.filter_cons,if_pos hz]
 rfl
theorem usesP_no {i d:Int} {zs:List Tgm} {j:Nat} {z:Tgm} (h:zs[j]? = some z) (hz:ofDef i d z = false):usesP i d (zs.take (j + 1)) = usesP i d (zs.take j):=by
 unfold usesP
 rw [List.take_add_one,h,Option.toList_some,List.filter_append,List.map_append,List.filter_cons,if_neg (by rw [hz];decide)]
 simp
theorem usesP_len (i d:Int) (zs:List Tgm):(usesP i d zs).length ≤ zs.length:=by unfold usesP;rw [List.length_map];exact List.length_filter_le _ _
theorem tCells_get:{ws:List TgV} → {j:Nat} → {y:TgV} → ws[j]? = some y → (Qdv ws)[j * 5]? = some (.int .i64 y.1) ∧ (Qdv ws)[j * 5 + 1]? = some y.2.1 ∧ (Qdv ws)[j * 5 + 2]? = some (.int .i64 y.2.2.1) ∧ (Qdv ws)[j * 5 + 3]? = some (.int .i64 y.2.2.2.1) ∧ (Qdv ws)[j * 5 + 4]? = some (.bool y.2.2.2.2)
 | [],_,_,h=>by simp at h
 | u :: r,0,y,h=>by
  injection h with h
  subst h
  exact ⟨rfl,rfl,rfl,rfl,rfl⟩
 | u :: r,j + 1,y,h=>by
  have ih:=tCells_get (ws:=r) (j:=j) (y:=y) h
  have hs:∀ k,(Qdv (u :: r))[(j + 1) * 5 + k]? = (Qdv r)[j * 5 + k]?:=fun k=>by
   unfold Qdv
   rw [List.flatMap_cons,show (j + 1) * 5 + k = j * 5 + k + 5 from by omega,List.getElem?_append_right (by simp [tgC])]
   simp [tgC]
  exact ⟨(hs 0).trans ih.1,(hs 1).trans ih.2.1,(hs 2).trans ih.2.2.1,(hs 3).trans ih.2.2.2.1,(hs 4).trans ih.2.2.2.2⟩
theorem TgsAt.at {w:World} {B:Nat} {A:Option Addr} {n c:Nat} {zs:List Tgm} (h:TgsAt w B (.slice A n c) zs) {j:Nat} {z:Tgm} (hz:zs[j]? = some z):n = zs.length ∧ ∃ g pv,A = some ⟨g,0,none⟩ ∧ B ≤ g ∧ g < w.heap.size ∧
  w.cell? ⟨g,j * 5,none⟩ = some (.int .i64 z.1) ∧ w.cell? ⟨g,j * 5 + 1,none⟩ = some pv ∧ w.cell? ⟨g,j * 5 + 2,none⟩ = some (.int .i64 z.2.2.1) ∧ w.cell? ⟨g,j * 5 + 3,none⟩ = some (.int .i64 z.2.2.2.1) ∧ w.cell? ⟨g,j * 5 + 4,none⟩ = some (.bool z.2.2.2.2) ∧ IRow w B pv z.2.1:=by
 obtain ⟨ws,h1,h2⟩:=h
 have hj:j < ws.length:=by rw [h2.1];exact (List.getElem?_eq_some_iff.1 hz).1
 obtain ⟨y,hy⟩:∃ y,ws[j]? = some y:=⟨_,xF hj⟩
 obtain ⟨a1,a2,a3⟩:=h2.2 j y z hy hz
 have hn:n = ws.length:=by
  rcases h1.2 with ⟨e,h0⟩ | ⟨g,cap,cur,e,_⟩
  ·injection e with _ e _
   omega
  ·injection e with _ e _
 refine ⟨by rw [hn,h2.1],?_⟩
 obtain ⟨g,cap,e,hg,hlt⟩:=h1.form (by omega)
 injection e with e _ _
 subst e
 have hc:=h1.cells (g:=g) rfl
 obtain ⟨q0,q1,q2,q3,q4⟩:=tCells_get hy
 have e0:=hc _ _ q0
 have e1:=hc _ _ q1
 have e2:=hc _ _ q2
 have e3:=hc _ _ q3
 have e4:=hc _ _ q4
 rw [Addr.add_lit] at e0 e1 e2 e3 e4
 simp only [Nat.zero_add] at e0 e1 e2 e3 e4
 rw [a3] at e2 e3 e4
 rw [a1] at e0
 exact ⟨g,y.2.1,rfl,hg,hlt,e0,e1,e2,e3,e4,a2⟩
theorem TgsAt.app {w w':World} {B B' k:Nat} {v l:Value} {zs:List Tgm} {us:List PlV} (h:TgsAt w B v zs) (hr:PlRow w B' l us) (hk:Keeps (pre l k) w w'):TgsAt w' B v zs:=by
 obtain ⟨ws,h1,h2⟩:=h
 refine ⟨ws,hk.row h1 fun g hg=>.inl (Qdd fun e=>?_),h2.step fun v p h=>hk.row h fun g hg=>.inl (Qdd (Qev hr (Qfd h hg).choose_spec (by decide)))⟩
 exact rows_apart h1 hr (by decide) g hg e
theorem ofDef_free {i d a b:Int} {m:Int} {p:List Int}:ofDef i d (m,p,a,b,true) = false:=rfl
theorem ofDef_no {i d a b:Int} {m:Int} {p:List Int} (h:¬ (a = i ∧ b = d)):ofDef i d (m,p,a,b,false) = false:=by
 show (!false && (a == i) && (b == d)) = false
 by_cases h1:a = i
 ·have h2:(b == d) = false:=beq_eq_false_iff_ne.2 fun h2=>h ⟨h1,h2⟩
  rw [h2,Bool.and_false]
 ·have h2:(a == i) = false:=beq_eq_false_iff_ne.2 h1
  rw [h2,Bool.and_false,Bool.false_and]
theorem ofDef_yes {a b:Int} {m:Int} {p:List Int}:ofDef a b (m,p,a,b,false) = true:=by
 show (!false && (a == a) && (b == b)) = true
 simp
def UsL (i d:Int) (zs:List Tgm) (tv:Value) (w:World) (l n:Value) (wr:World):Prop:=∃ j:Nat,n = .int .i64 (j:Int) ∧ j ≤ zs.length ∧ TgsAt wr w.heap.size tv zs ∧ PlsAt wr w.heap.size l (usesP i d (zs.take j)) ∧ Below w.heap.size w wr
theorem uses_lnk (S:Nat → Prop) (A:Option Addr) (c:Nat) (ps:List Tr) (i d:Int) (w:World) (hp:TrAt S w (Qbx ps) ⟨0,⟨#[]⟩,none,0,0,A,ps.length,c⟩) (hf:fitT (Qbx ps) = true) (hs:Qcn (Qbx ps) = true) (hw:Qdb (Qbx ps) = true) (hz:Qap ps ≤ 90000) :
  Calls Tryz.prog 38 #[.slice A ps.length c,.int .i64 i,.int .i64 d] w fun e w'=>∃ v,e = .returned v ∧ PlsAt w' w.heap.size v (usesP i d (Qgp ps)) ∧ Below w.heap.size w w':=by
 have HC:=hQ (targets_lnk S A c ps w hp hf hs hw hz)
 have HZL:=hQ (show (Qgp ps).length ≤ 90000 from Nat.le_trans (tgtsG_len ps) hz)
 obtain ⟨zs,hzs⟩:∃ zs,zs = Qgp ps:=⟨_,rfl⟩
 rw [← hzs] at HC HZL ⊢
 obtain ⟨ip,hip,pz0,pz1,pz2⟩:=info_parts place_info
 clear hp hf hs hw hz hzs
 go_enter Tryz.func38,Tryz.ntmps38
 go_upto_region 2 with fail
 go_wp2_with (go_at_call 34;refine HC.out.mono ?_;rintro e w1 ⟨v,rfl,ht,hb⟩;obtain ⟨TA,tc,rfl⟩:=ht.slice;have HT1:=hQ ht;have HB1:=hQ hb;clear ht hb)
 go_loopw [7,13] (fun l n wr=>UsL i d zs (.slice TA zs.length tc) w l n wr) (fun _ n _=>zs.length - (intOf n).toNat)
 case atStart=>exact ⟨0,rfl,Nat.zero_le _,HT1.out,PlsAt.nil _ _,HB1.out⟩
 case round =>
  obtain ⟨j,rfl,hj,ht,hpl,hb⟩:=hrel
  have HT:=hQ ht
  have HPL:=hQ hpl
  have HB:=hQ hb
  clear ht hpl hb
  by_cases hlt:j < zs.length
  ·obtain ⟨z,hz⟩:∃ z,zs[j]? = some z:=⟨_,xF hlt⟩
   obtain ⟨_,g,pv,hTA,_,gl,c0,c1,c2,c3,c4,hrow⟩:=HT.out.at hz
   subst hTA
   obtain ⟨PA,pn,pc,rfl⟩:=hrow.slice
   have HROW:=hQ hrow
   have hk0:(0:Int) ≤ (j:Int):=by omega
   have hk1:(j:Int) < (zs.length:Int):=by omega
   have hk2:(j:Int) + 1 ≤ 90001:=by have:=HZL.out;omega
   obtain ⟨m,zp,a,b,f⟩:=z
   simp only at c0 c2 c3 c4 HROW
   have HZ:=hQ hz
   have HBA:=hQ (Qcu wr (tgO m (.slice PA pn pc) a b f))
   have HX:=hQ (xH wr (tgO m (.slice PA pn pc) a b f))
   have hwj:wrap64 ((j:Int) + 1) = (j:Int) + 1:=by unfold wrap64;omega
   clear hrow hz
   by_cases hf:f = true
   ·subst hf
    have HS:=hQ (usesP_no (i:=i) (d:=d) HZ.out ofDef_free)
    go_wp2
    go_roundw
    case measure=>first | (simp [intOf];done) | (simp [intOf];omega)
    case rel=>exact ⟨j + 1,by go_num,by omega,HT.out.keep HBA.out,by rw [HS.out];exact HPL.out.keep HBA.out,HB.out.trans (HBA.out.mono HB.out.size)⟩
   ·have hf':f = false:=by simpa using hf
    subst hf'
    by_cases ha:a = i
    ·subst ha
     by_cases hd:b = d
     ·subst hd
      have HS:=hQ (usesP_yes (i:=a) (d:=b) HZ.out ofDef_yes)
      obtain ⟨us,hr,hn,hat⟩:=HPL.out
      obtain ⟨LA,lc,rfl⟩:=Qeq hr
      have HR:=hQ hr
      have HN:=hQ hn
      have HAT:=hQ hat
      have HUL:=hQ (show us.length ≤ 90000 from by rw [hn];exact Nat.le_trans (usesP_len _ _ _) (Nat.le_trans (by rw [List.length_take];omega) HZL.out))
      have HBB:=hQ (show Below wr.heap.size wr ((wr.alloc (tgO m (.slice PA pn pc) a b false)).alloc (plO m (.slice PA pn pc))) from HBA.out.alloc HBA.out.size _)
      have HRB:=hQ (show PlRow ((wr.alloc (tgO m (.slice PA pn pc) a b false)).alloc (plO m (.slice PA pn pc))) w.heap.size (.slice LA us.length lc) us from (Keeps.of_below (P:=fun _=>none) HBB.out).row HR.out fun _ _=>.inl rfl)
      have HNW:=hQ (show ∀ (q:Nat) (x:Value),[(.int .i64 m:Value),.slice PA pn pc][q]? = some x → ((wr.alloc (tgO m (.slice PA pn pc) a b false)).alloc (plO m (.slice PA pn pc))).cell? ((⟨wr.heap.size + 1,0,none⟩:Addr).add q) = some x from by
       have h:=World.news_of_block (xH (wr.alloc (tgO m (.slice PA pn pc) a b false)) (plO m (.slice PA pn pc)))
       rw [xI] at h
       exact h)
      have HON:=hQ (show ∀ u ∈ [(.int .i64 m:Value),.slice PA pn pc],u.oneCell' = true from by intro v hv;simp at hv;rcases hv with rfl | rfl <;> rfl)
      have HSZ:=hQ (show w.heap.size ≤ ((wr.alloc (tgO m (.slice PA pn pc) a b false)).alloc (plO m (.slice PA pn pc))).heap.size from Nat.le_trans HB.out.size HBB.out.size)
      have HM1:=hQ (show us.length + 1 ≤ maxLen from by have:=HUL.out;unfold maxLen;omega)
      have HM2:=hQ (show (us.length + 1) * 32 ≤ 140737488355328 from by have:=HUL.out;omega)
      clear hr hn hat
      go_wp2_with (at_builtin;refine wpList_app _ rfl _ _ 56 rfl w.heap.size 59 ip _ 2 32 Tryz.underlying56 hip pz0 pz1 pz2 rfl (by decide) _ us.length (pCells us) rfl HRB.out ⟨wr.heap.size + 1,0,none⟩ 1 1 [.int .i64 m,.slice PA pn pc] rfl rfl HNW.out HON.out (by decide) HM1.out HM2.out HSZ.out ?_;intro g3 c3 w3 hown hk3 hg hlt3;have HO:=hQ hown;have HK:=hQ hk3;clear hown hk3 hg hlt3)
      go_roundw
      case measure=>first | (simp [intOf];done) | (simp [intOf];omega)
      case rel =>
       refine ⟨j + 1,by go_num,by omega,(HT.out.keep HBB.out).app HRB.out HK.out,?_,HB.out.trans ((HBB.out.mono HB.out.size).trans (HK.out.below HSZ.out fun k hk=>Qdd fun e=>by have:=(HRB.out.lt k e).1;omega))⟩
       rw [HS.out]
       exact PlsAt.snoc HRB.out HN.out (fun q y z hy hz=>⟨(HAT.out q y z hy hz).1,(HAT.out q y z hy hz).2.keep HBB.out⟩) (y:=(m,.slice PA pn pc)) (z:=(m,zp)) ⟨rfl,HROW.out.keep HBB.out⟩ HO.out HK.out
     ·have HS:=hQ (usesP_no (i:=a) (d:=d) HZ.out (ofDef_no fun h=>hd h.2))
      have q2:=Qcf hd
      have q3:(b == d) = false:=beq_eq_false_iff_ne.2 hd
      go_wp2
      go_roundw
      case measure=>first | (simp [intOf];done) | (simp [intOf];omega)
      case rel=>exact ⟨j + 1,by go_num,by omega,HT.out.keep HBA.out,by rw [HS.out];exact HPL.out.keep HBA.out,HB.out.trans (HBA.out.mono HB.out.size)⟩
    ·have HS:=hQ (usesP_no (i:=i) (d:=d) HZ.out (ofDef_no fun h=>ha h.1))
     have q2:=Qcf ha
     have q3:(a == i) = false:=beq_eq_false_iff_ne.2 ha
     go_wp2
     go_roundw
     case measure=>first | (simp [intOf];done) | (simp [intOf];omega)
     case rel=>exact ⟨j + 1,by go_num,by omega,HT.out.keep HBA.out,by rw [HS.out];exact HPL.out.keep HBA.out,HB.out.trans (HBA.out.mono HB.out.size)⟩
  ·obtain rfl:j = zs.length:=by omega
   have HS:=hQ (show usesP i d (zs.take zs.length) = usesP i d zs from by rw [List.take_length])
   go_wp2
   go_ret
   exact ⟨_,rfl,by rw [← HS.out];exact HPL.out,HB.out⟩
theorem PsAt.at {w:World} {B n c j:Nat} {A:Option Addr} {ps:List (List Int)} {p:List Int} (h:PsAt w B (.slice A n c) ps) (hp:ps[j]? = some p) :
  ∃ g a c',A = some ⟨g,0,none⟩ ∧ g < w.heap.size ∧ w.cell? ⟨g,j,none⟩ = some (.slice a p.length c') ∧ IntRow w B (.slice a p.length c') p:=by
 obtain ⟨vs,h1,h2⟩:=h
 have hj:=(List.getElem?_eq_some_iff.1 hp).1
 rcases h1.2 with ⟨_,h0⟩ | ⟨g,cap,cur,hv,hb,hh,hnc,hm,hsz,htk⟩
 ·omega
 ·injection hv with e1 e2 e3
  have hl:=h1.1
  obtain ⟨v,hvj⟩:∃ v,vs[j]? = some v:=⟨_,xF (by omega)⟩
  have hr:=h2 j v p hvj hp
  obtain ⟨a,c',rfl⟩:=Qgz hr
  refine ⟨g,a,c',e1,Qaa hh,?_,hr⟩
  rw [Lib.cell_of_heap hh]
  rw [← htk,List.getElem?_take_of_lt (by omega)] at hvj
  rw [← Array.getElem?_toList]
  exact hvj
theorem PsAt.shape {w:World} {B:Nat} {L:Value} {ps:List (List Int)} (h:PsAt w B L ps):∃ A c,L = .slice A ps.length c:=by
 obtain ⟨vs,h1,_⟩:=h
 exact Qgz h1
def Qer:List Int → List Int → Bool
 | [],[]=>true
 | x :: r,y :: s=>(x == y) && Qer r s
 | _,_=>false
theorem intsEq_self:(p:List Int) → Qer p p = true
 | []=>rfl
 | x :: r=>by rw [Qer,intsEq_self r];simp
theorem intsEq_iff:(p q:List Int) → (Qer p q = true ↔ p = q)
 | [],[]=>by simp [Qer]
 | [],_ :: _=>by simp [Qer]
 | _ :: _,[]=>by simp [Qer]
 | x :: r,y :: s=>by rw [Qer,Bool.and_eq_true,intsEq_iff r s];simp
def SPAt (p q:List Int) (w:World) (i:Value) (wr:World):Prop:=∃ j:Nat,i = .int .i64 j ∧ j ≤ p.length ∧ Qer p q = Qer (p.drop j) (q.drop j) ∧ ∃ n:Nat,wr = w.drewN n
theorem samepath_q (A C:Option Addr) (a c:Nat) (p q:List Int) (w:World) (hA:IntsAt w A p) (hC:IntsAt w C q) (hp:p.length ≤ maxLen) (hq:q.length ≤ maxLen) :
  Calls Tryz.prog 18 #[.slice A p.length a,.slice C q.length c] w fun e w'=>e = .returned (.bool (Qer p q)) ∧ ∃ n:Nat,w' = w.drewN n:=by
 have HA:=hQ hA
 have HC:=hQ hC
 have hp6:p.length ≤ 9223372036854775807:=by unfold maxLen at hp;omega
 have hq6:q.length ≤ 9223372036854775807:=by unfold maxLen at hq;omega
 have mixedL:Tryz.prog.follows Departure.mixedOrders = true:=mixed
 clear hA hC hp hq
 by_cases hl:p.length = q.length
 ·have HL:=hQ hl
  rw [show Value.slice C q.length c = .slice C p.length c from by rw [hl]]
  clear hl hq6
  go_enter Tryz.func18,Tryz.ntmps18
  go_wp2
  go_loopw [5] (fun i wr=>SPAt p q w i wr) (fun i _=>p.length - (intOf i).toNat)
  case atStart=>exact ⟨0,rfl,Nat.zero_le _,rfl,0,rfl⟩
  case round =>
   obtain ⟨j,rfl,hj,hf,n,rfl⟩:=hrel
   have HF:=hQ hf
   clear hf
   by_cases hlt:j < p.length
   ·obtain ⟨x,hx⟩:∃ x,p[j]? = some x:=⟨_,xF hlt⟩
    obtain ⟨y,hy⟩:∃ y,q[j]? = some y:=⟨_,xF (by rw [← HL.out];exact hlt)⟩
    obtain ⟨ab,ao,rfl,abl,hac⟩:=HA.out.at hlt
    obtain ⟨cb,co,rfl,cbl,hcc⟩:=HC.out.at (show j < q.length by rw [← HL.out];exact hlt)
    have a0:=hac j x hx
    have c0:=hcc j y hy
    have HD:=hQ (show Qer (p.drop j) (q.drop j) = ((x == y) && Qer (p.drop (j + 1)) (q.drop (j + 1))) from by rw [drop_cons hx,drop_cons hy,Qer])
    have hja:(j:Int) < (p.length:Int):=by omega
    have hj0:(0:Int) ≤ (j:Int):=by omega
    clear hac hcc hx hy
    by_cases hxy:x = y
    ·subst hxy
     have HR:=hQ (show Qer p q = Qer (p.drop (j + 1)) (q.drop (j + 1)) from by rw [HF.out,HD.out];simp)
     go_wp2_with fail
     go_region_o
     all_goals
      go_wp2
      go_roundw
      case measure=>simp [intOf];omega
      case rel=>exact ⟨j + 1,by go_num,by omega,HR.out,n + 1,rfl⟩
    ·have e1:(x == y) = false:=beq_eq_false_iff_ne.2 hxy
     have e2:(x != y) = true:=by rw [bne_iff_ne];exact hxy
     have HR:=hQ (show Qer p q = false from by rw [HF.out,HD.out,e1];rfl)
     go_wp2_with fail
     go_region_o
     all_goals
      go_wp2
      go_ret
      exact ⟨Qah HR.out.symm,n + 1,rfl⟩
   ·have HR:=hQ (show Qer p q = true from by rw [HF.out,List.drop_eq_nil_of_le (by omega),List.drop_eq_nil_of_le (by have:=HL.out;omega)];rfl)
    go_wp2
    go_ret
    exact ⟨Qah HR.out.symm,n,rfl⟩
 ·have HR:=hQ (show Qer p q = false from by
   cases h:Qer p q with
   | false=>rfl
   | true=>exact absurd (congrArg List.length ((intsEq_iff p q).1 h)) hl)
  have e1:((p.length:Int) == (q.length:Int)) = false:=beq_eq_false_iff_ne.2 (by omega)
  have e2:((p.length:Int) != (q.length:Int)) = true:=by rw [bne_iff_ne];omega
  have e3:(p.length == q.length) = false:=beq_eq_false_iff_ne.2 hl
  have e4:(p.length != q.length) = true:=by rw [bne_iff_ne];exact hl
  go_enter Tryz.func18,Tryz.ntmps18
  go_wp2
  go_ret
  exact ⟨Qah HR.out.symm,0,rfl⟩
theorem tbelow_drewN (w:World) (n:Nat):Below w.heap.size w (w.drewN n):=⟨rfl,rfl,rfl,xA _,fun _ _=>rfl⟩
theorem samepath_any (A C:Option Addr) (a c:Nat) (p q:List Int) (w:World) (hA:IntsAt w A p) (hC:IntsAt w C q) (hp:p.length ≤ maxLen) (hq:q.length ≤ maxLen) :
  Calls Tryz.prog 18 #[.slice A p.length a,.slice C q.length c] w fun e w'=>e = .returned (.bool (Qer p q)) ∧ Below w.heap.size w w' :=
 (samepath_q A C a c p q w hA hC hp hq).mono fun _ _ ⟨he,n,hn⟩=>⟨he,by rw [hn];exact tbelow_drewN w n⟩
theorem sameplace_any (A C:Option Addr) (a c:Nat) (m:Int) (p:List Int) (w:World) (hA:IntsAt w A p) (hC:IntsAt w C p) (hp:p.length ≤ maxLen) :
  Calls Tryz.prog 39 #[.agg #[.int .i64 m,.slice A p.length a],.agg #[.int .i64 m,.slice C p.length c]] w fun e w'=>e = .returned (.bool true) ∧ Below w.heap.size w w':=by
 obtain ⟨x0,x1⟩:=tgt_boxes w (plO m (.slice A p.length a)) (plO m (.slice C p.length c))
 have HB0:=hQ (tgt_below w (plO m (.slice A p.length a)) (plO m (.slice C p.length c)))
 have HC:=hQ (fun (w':World) (hb:Below w.heap.size w w')=>samepath_any A C a c p p w' (hA.keep hb) (hC.keep hb) hp hp)
 have k0:=Qab x0 0 _ rfl
 have k1:=Qab x0 1 _ rfl
 have m0:=Qab x1 0 _ rfl
 have m1:=Qab x1 1 _ rfl
 have e0:=Qaa x0
 have e1:=Qaa x1
 have q0:(m == m) = true:=by simp
 clear hA hC hp x0 x1
 go_enter Tryz.func39,Tryz.ntmps39
 go_wp2_with (go_at_call 18;refine (HC.out _ HB0.out).mono ?_;rw [intsEq_self];rintro e w1 ⟨rfl,hb⟩;have HB1:=hQ (HB0.out.trans (hb.mono HB0.out.size));clear hb)
 go_ret
 exact ⟨rfl,HB1.out⟩
def SmT (n:Nat) (w:World) (i:Value) (wr:World):Prop:=∃ j:Nat,i = .int .i64 j ∧ j ≤ n ∧ Below w.heap.size w wr
theorem Qbr {w w':World} {g o:Nat} {x:Value} (hb:Below w.heap.size w w') (hg:g < w.heap.size) (h:w.cell? ⟨g,o,none⟩ = some x):w'.cell? ⟨g,o,none⟩ = some x:=(xJ (w:=w) (a:=⟨g,o,none⟩) (hb.block g hg)).trans h
theorem IRow.len {w:World} {B n c:Nat} {A:Option Addr} {p:List Int} (h:IRow w B (.slice A n c) p):n = p.length:=h.ints.1
theorem sametargets_any (B B':Nat) (LA MA:Option Addr) (LC MC:Nat) (zs:List Tgm) (w:World) (hL:TgsAt w B (.slice LA zs.length LC) zs) (hM:TgsAt w B' (.slice MA zs.length MC) zs) (hn:zs.length ≤ 1000000) (hl:∀ z ∈ zs,z.2.1.length ≤ maxLen) :
  Calls Tryz.prog 33 #[.slice LA zs.length LC,.slice MA zs.length MC] w fun e w'=>e = .returned (.bool true) ∧ Below w.heap.size w w':=by
 have HL:=hQ hL
 have HM:=hQ hM
 have HLN:=hQ hl
 have mixedL:Tryz.prog.follows Departure.mixedOrders = true:=mixed
 clear hL hM hl
 go_enter Tryz.func33,Tryz.ntmps33
 go_wp2
 go_loopw [5] (fun i wr=>SmT zs.length w i wr) (fun i _=>zs.length - (intOf i).toNat)
 case atStart=>exact ⟨0,rfl,Nat.zero_le _,xC _ _⟩
 case round =>
  obtain ⟨j,rfl,hj,hb⟩:=hrel
  have HB:=hQ hb
  have HLR:=hQ (HL.out.keep hb)
  have HMR:=hQ (HM.out.keep hb)
  clear hb
  by_cases hlt:j < zs.length
  ·obtain ⟨z,hz⟩:∃ z,zs[j]? = some z:=⟨_,xF hlt⟩
   obtain ⟨_,g,pv,hLA,_,gl,c0,c1,c2,c3,c4,hrow⟩:=HLR.out.at hz
   obtain ⟨_,g',qv,hMA,_,gl',d0,d1,d2,d3,d4,hrow'⟩:=HMR.out.at hz
   subst hLA hMA
   obtain ⟨PA,pn,pc,rfl⟩:=hrow.slice
   obtain ⟨QA,qn,qc,rfl⟩:=hrow'.slice
   have e1:=hrow.len
   have e2:=hrow'.len
   subst e1 e2
   have HPR:=hQ hrow.intsAt
   have HQR:=hQ hrow'.intsAt
   have HPL:=hQ (HLN.out z (List.mem_of_getElem? hz))
   have hja:(j:Int) < (zs.length:Int):=by omega
   have hj0:(0:Int) ≤ (j:Int):=by omega
   have hj2:(j:Int) + 1 ≤ 1000001:=by omega
   obtain ⟨z0,zp,z1,z2,z3⟩:=z
   simp only at c0 c2 c3 c4 d0 d2 d3 d4 HPR HQR HPL c1 d1
   have q1:(z1 != z1) = false:=by simp
   have q2:(z2 != z2) = false:=by simp
   have q3:(z3 != z3) = false:=by simp
   clear hrow hrow' hz
   go_wp2_with fail
   go_region_held3 (fun w'=>w'.cell? ⟨g,j * 5,none⟩ = some (.int .i64 z0) ∧ w'.cell? ⟨g,j * 5 + 1,none⟩ = some (.slice PA zp.length pc) ∧ w'.cell? ⟨g,j * 5 + 2,none⟩ = some (.int .i64 z1) ∧ w'.cell? ⟨g,j * 5 + 3,none⟩ = some (.int .i64 z2) ∧ w'.cell? ⟨g,j * 5 + 4,none⟩ = some (.bool z3) ∧ w'.cell? ⟨g',j * 5,none⟩ = some (.int .i64 z0) ∧ w'.cell? ⟨g',j * 5 + 1,none⟩ = some (.slice QA zp.length qc) ∧ w'.cell? ⟨g',j * 5 + 2,none⟩ = some (.int .i64 z1) ∧ w'.cell? ⟨g',j * 5 + 3,none⟩ = some (.int .i64 z2) ∧ w'.cell? ⟨g',j * 5 + 4,none⟩ = some (.bool z3)) (first | with_reducible exact ⟨c0,c1,c2,c3,c4,d0,d1,d2,d3,d4⟩ | go_keep) ((go_at_call 39;refine (sameplace_any PA QA pc qc z0 zp _ (HPR.out.keep (xC _ _).drew) (HQR.out.keep (xC _ _).drew) HPL.out).mono ?_;rintro e w5 ⟨rfl,hb5⟩;have hbd:Below wr.heap.size wr w5:=(show Below wr.heap.size wr _ from (xC _ _).drew).trans hb5;have HB5:=hQ hbd;have h0:=Qbr hbd gl c0;have h1:=Qbr hbd gl c1;have h2:=Qbr hbd gl c2;have h3:=Qbr hbd gl c3;have h4:=Qbr hbd gl c4;have i0:=Qbr hbd gl' d0;have i1:=Qbr hbd gl' d1;have i2:=Qbr hbd gl' d2;have i3:=Qbr hbd gl' d3;have i4:=Qbr hbd gl' d4;have g3:=xE gl hbd.size;have g4:=xE gl' hbd.size;clear hb5 hbd c0 c1 c2 c3 c4 d0 d1 d2 d3 d4 gl gl';have c0:=h0;have c1:=h1;have c2:=h2;have c3:=h3;have c4:=h4;have d0:=i0;have d1:=i1;have d2:=i2;have d3:=i3;have d4:=i4;have gl:=g3;have gl':=g4;clear h0 h1 h2 h3 h4 i0 i1 i2 i3 i4 g3 g4))
   all_goals
    clear c0 c1 c2 c3 c4 d0 d1 d2 d3 d4 gl gl'
    go_wp2
    go_roundw
    case measure=>first | (simp [intOf];done) | (simp [intOf];omega)
    case rel=>exact ⟨j + 1,by go_num,by omega,HB.out.trans (HB5.out.mono HB.out.size)⟩
  ·go_wp2
   go_ret
   exact ⟨rfl,HB.out⟩
end Go.Proofs.YtnnfdbmanamfdaaGreat
