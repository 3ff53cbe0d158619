/- Part 51: The contract of chain of the law of types. -/
import Derived.Test.YtclkilljmdkfaaaTy1
import Derived.Test.YtclkilljmdkfaaaTy50
import Derived.Deep.Grids
import Derived.Deep.DeepCutAuto
set_option maxRecDepth 100000
set_option maxHeartbeats 4000000
namespace Go.Proofs.Ytclkilljmdkfaaa
open Go.RowKit Go.Shelf
def BoolsAt (w:World) (A:Option Addr) (zs:List Bool):Prop:=zs ≠ [] → ∃ b off,A = some ⟨b,off,none⟩ ∧ b < w.heap.size ∧ ∀ (i:Nat) (x:Bool),zs[i]? = some x → w.cell? ⟨b,off + i,none⟩ = some (.bool x)
theorem BoolsAt.keep {w w':World} {A:Option Addr} {zs:List Bool} (h:BoolsAt w A zs) (hb:Below w.heap.size w w'):BoolsAt w' A zs:=fun hne=>by
 obtain ⟨b,off,hA,hlt,hc⟩:=h hne
 exact ⟨b,off,hA,xE hlt hb.size,fun i x hx=>(xJ (w:=w) (a:=⟨b,off + i,none⟩) (hb.block b hlt)).trans (hc i x hx)⟩
theorem conv_one (w:World) (x:Int):(convert 42 9 (.slice (some ⟨w.heap.size,0,none⟩) 1 1)).run Try.prog (w.alloc (.cells #[.int .u8 x] 5)) = .ok (.string (strOfNums [x])) (w.alloc (.cells #[.int .u8 x] 5)) :=
 run_convert_bytes_arg _ 42 5 Try.underlying42 Try.underlying5 w.heap.size 0 1 1 [x] rfl (fun i hi=>by
  obtain rfl:i = 0:=by omega
  exact Qaa (xH w _) 0 _ rfl) 9 Try.underlying9
theorem conv_two (w:World) (x:Int) (o:Obj):(convert 42 9 (.slice (some ⟨w.heap.size,0,none⟩) 1 1)).run Try.prog ((w.alloc (.cells #[.int .u8 x] 5)).alloc o) = .ok (.string (strOfNums [x])) ((w.alloc (.cells #[.int .u8 x] 5)).alloc o) :=
 run_convert_bytes_arg _ 42 5 Try.underlying42 Try.underlying5 w.heap.size 0 1 1 [x] rfl (fun i hi=>by
  obtain rfl:i = 0:=by omega
  exact Qaa (Qel (xH w _)) 0 _ rfl) 9 Try.underlying9
theorem conv_three (w:World) (x:Int) (o o2:Obj):(convert 42 9 (.slice (some ⟨w.heap.size + 1 + 1,0,none⟩) 1 1)).run Try.prog (((w.alloc o).alloc o2).alloc (.cells #[.int .u8 x] 5)) = .ok (.string (strOfNums [x])) (((w.alloc o).alloc o2).alloc (.cells #[.int .u8 x] 5)):=by
 have h:=conv_one ((w.alloc o).alloc o2) x
 rw [xI,xI] at h
 exact h
theorem name_str (k:Nat) (x:Int) (hx:x = 97 + (k:Int)):(⟨#[84]⟩:ByteArray) ++ strOfNums [x] = Qbg k:=by
 subst hx
 have h:(97 + (k:Int)).toNat = 97 + k:=by omega
 unfold strOfNums Qbg
 rw [List.map_cons,List.map_nil,h]
 rfl
def XcR (n:Nat) (back:Int) (i:Nat) (wr wx:World):Prop:=wx.heap[wr.heap.size + 1]? = some (trO ⟨(Qak n back i).kind,(Qak n back i).text,none,0,0,none,0,0⟩) ∧ Below wr.heap.size wr wx
def XdR (n:Nat) (ls:List Bool) (back:Int) (i:Nat) (wr wx:World):Prop:=∃ y,wx.heap[wr.heap.size + 1]? = some (trO y) ∧ TrAt (fun b=>wr.heap.size ≤ b ∧ b < wx.heap.size) wx (Qea n ls back i) y ∧ Below wr.heap.size wr wx
theorem inner_leaf (n:Nat) (back:Int) (i:Nat) (w:World) (S:Nat → Prop):TrAt S w (Qak n back i) ⟨(Qak n back i).kind,(Qak n back i).text,none,0,0,none,0,0⟩:=by
 unfold Qak
 split
 ·split
  ·exact Qen _ _ _ _
  ·exact Qen _ _ _ _
 ·exact Qen _ _ _ _
theorem xc_next {n:Nat} {back:Int} {i:Nat} {wr:World} {o:Obj} (he:¬ (i:Int) = (n:Int) - 1):XcR n back i wr ((wr.alloc o).alloc (.cells #[.int .i64 9,.string (⟨#[84]⟩ ++ strOfNums [97 + (i:Int) + 1]),.slice none 0 0,.slice none 0 0] 27)):=by
 have e:Qak n back i = Qa5 (Qbg (i + 1)):=by unfold Qak;rw [if_neg (by omega)]
 unfold XcR
 rw [e,name_str (i + 1) _ (by omega)]
 exact ⟨(Qb6 wr _ _).2,Qcl wr _ _⟩
theorem xc_end {n:Nat} {back:Int} {i:Nat} {wr:World} {o:Obj} (he:i + 1 = n) (hb:¬ 0 ≤ back):XcR n back i wr ((wr.alloc o).alloc (.cells #[.int .i64 5,.string ⟨#[]⟩,.slice none 0 0,.slice none 0 0] 27)):=by
 have e:Qak n back i = Qcs 5:=by unfold Qak;rw [if_pos he,if_neg hb]
 unfold XcR
 rw [e]
 exact ⟨(Qb6 wr _ _).2,Qcl wr _ _⟩
theorem xc_back {n:Nat} {back:Int} {i:Nat} {wr:World} {o o2:Obj} (he:i + 1 = n) (hb:0 ≤ back):XcR n back i wr (((wr.alloc o).alloc (.cells #[.int .i64 9,.string (⟨#[84]⟩ ++ strOfNums [97 + back]),.slice none 0 0,.slice none 0 0] 27)).alloc o2):=by
 have e:Qak n back i = Qa5 (Qbg back.toNat):=by unfold Qak;rw [if_pos he,if_pos hb]
 unfold XcR
 rw [e,name_str back.toNat _ (by omega)]
 exact ⟨Qel (Qb6 wr _ _).2,(Qcl wr _ _).alloc (Qcl wr _ _).size _⟩
theorem xd_none {n:Nat} {ls:List Bool} {back:Int} {i:Nat} {wr wx:World} (hx:wx.heap[wr.heap.size + 1]? = some (trO ⟨(Qak n back i).kind,(Qak n back i).text,none,0,0,none,0,0⟩)) (hb:Below wr.heap.size wr wx) (hc:bitC ls i = false):XdR n ls back i wr wx:=by
 refine ⟨_,hx,?_,hb⟩
 have e:Qea n ls back i = Qak n back i:=by unfold Qea;rw [hc];rfl
 rw [e]
 exact inner_leaf _ _ _ _ _
theorem xd_list {n:Nat} {ls:List Bool} {back:Int} {i:Nat} {wr wx:World} (hx:wx.heap[wr.heap.size + 1]? = some (trO ⟨(Qak n back i).kind,(Qak n back i).text,none,0,0,none,0,0⟩)) (hb:Below wr.heap.size wr wx) (hc:bitC ls i = true) :
  XdR n ls back i wr ((setT wx (wr.heap.size + 1) ⟨8,⟨#[]⟩,none,0,0,some ⟨wx.heap.size,0,none⟩,1,1⟩).alloc (oneO ⟨(Qak n back i).kind,(Qak n back i).text,none,0,0,none,0,0⟩)):=by
 have hsz:=Qex wx (wr.heap.size + 1) ⟨8,⟨#[]⟩,none,0,0,some ⟨wx.heap.size,0,none⟩,1,1⟩
 have hbs:=hb.trans ((Qcp wx (wr.heap.size + 1) ⟨8,⟨#[]⟩,none,0,0,some ⟨wx.heap.size,0,none⟩,1,1⟩).mono (Nat.le_succ _))
 refine ⟨_,Qel (setT_heap _ hx),?_,hbs.alloc hbs.size _⟩
 have e:Qea n ls back i = .mk 8 ⟨#[]⟩ [] [Qak n back i]:=by unfold Qea;rw [hc];rfl
 rw [e]
 refine node_in (us:=[⟨(Qak n back i).kind,(Qak n back i).text,none,0,0,none,0,0⟩]) 8 ⟨#[]⟩ rfl (fun j a u ha hu=>?_) (by have h:=xH (setT wx (wr.heap.size + 1) ⟨8,⟨#[]⟩,none,0,0,some ⟨wx.heap.size,0,none⟩,1,1⟩) (oneO ⟨(Qak n back i).kind,(Qak n back i).text,none,0,0,none,0,0⟩);rw [hsz] at h;exact h) ⟨hb.size,by rw [xI,hsz];omega⟩ 1 rfl
 match j,ha,hu with
 | 0,ha,hu =>
  injection ha with ha
  injection hu with hu
  subst ha hu
  exact inner_leaf _ _ _ _ _
 | j + 1,ha,_=>simp at ha
def ChL (n:Nat) (ls:List Bool) (back:Int) (w:World) (v:Value) (wr:World):Prop:=∃ (i:Nat) (l:Value),v = .int .i64 (i:Int) ∧ i ≤ n ∧ wr.heap[w.heap.size]? = some (trO ⟨0,⟨#[]⟩,none,0,0,none,0,0⟩) ∧ wr.heap[w.heap.size + 1]? = some (modO 1 ⟨#[77]⟩ l) ∧
 OT wr w.heap.size (w.heap.size + 2) l ((List.range i).map (Qc2 n ls back)) ∧ Below w.heap.size w wr
theorem alias_c {n:Nat} {ls:List Bool} {back:Int} {i:Nat} {w wr w7:World} {y:TV} {l:Value} {x:ByteArray} (o1 c:Obj) (hxn:x = Qbg i) (hyt:TrAt (fun b=>wr.heap.size ≤ b ∧ b < w7.heap.size) w7 (Qea n ls back i) y) (hb:Below wr.heap.size wr w7) (hl:w.heap.size + 1 < wr.heap.size) (hown:∀ b,l.ownBlock = some b → w.heap.size + 2 ≤ b ∧ b < wr.heap.size) :
  TrAt (fun b=>(b < w.heap.size ∨ w.heap.size + 2 ≤ b) ∧ b < (((w7.alloc o1).alloc (oneO y)).alloc c).heap.size ∧ l.ownBlock ≠ some b) (((w7.alloc o1).alloc (oneO y)).alloc c) (Qc2 n ls back i) ⟨3,x,none,0,0,some ⟨w7.heap.size + 1,0,none⟩,1,1⟩:=by
 subst hxn
 have hs:=hb.size
 refine node_in (us:=[y]) 3 (Qbg i) rfl (fun j a u ha hu=>?_) (three_mid w7 o1 (oneO y) c) ⟨.inr (by omega),by rw [Qdj];omega,fun e=>by have:=hown _ e;omega⟩ 1 rfl
 match j,ha,hu with
 | 0,ha,hu =>
  injection ha with ha
  injection hu with hu
  subst ha hu
  exact TrAt.move (fun b hb'=>⟨.inr (by omega),by rw [Qdj];omega,fun e=>by have:=hown _ e;omega⟩) (fun b _ hlt=>(Qd8 (xC w7.heap.size w7) o1 (oneO y) c).block b hlt) _ _ hyt
 | j + 1,ha,_=>simp at ha
theorem ch_next {n:Nat} {ls:List Bool} {back:Int} {i g cap:Nat} {w wr wk w6:World} {l:Value} {vs:List TV} {us:List Tr} {y:TV} (hus:us = (List.range i).map (Qc2 n ls back)) (hlt:i < n)
  (h0:wr.heap[w.heap.size]? = some (trO ⟨0,⟨#[]⟩,none,0,0,none,0,0⟩)) (h1:wr.heap[w.heap.size + 1]? = some (modO 1 ⟨#[77]⟩ l)) (hb:Below w.heap.size w wr) (hbk:Below wr.heap.size wr wk) (hlen:vs.length = us.length)
  (hrow:wk.ownsRow (w.heap.size + 2) 27 4 l us.length (Qaf vs))
  (h3:∀ (i:Nat) (k:Tr) (u:TV),us[i]? = some k → vs[i]? = some u → TrAt (fun b=>(b < w.heap.size ∨ w.heap.size + 2 ≤ b) ∧ b < wk.heap.size ∧ l.ownBlock ≠ some b) wk k u)
  (hy:TrAt (fun b=>(b < w.heap.size ∨ w.heap.size + 2 ≤ b) ∧ b < wk.heap.size ∧ l.ownBlock ≠ some b) wk (Qc2 n ls back i) y)
  (ho:w6.ownsRow (w.heap.size + 2) 27 4 (.slice (some ⟨g,0,none⟩) (us.length + 1) cap) (us.length + 1) (Qaf vs ++ y.cells)) (hkp:Keeps (pre l (us.length * 4)) wk w6) (hg:l.ownBlock = some g ∨ wk.heap.size ≤ g) :
  ChL n ls back w (.int .i64 ((i:Int) + 1)) (w6.setCell ⟨w.heap.size + 1,3,none⟩ (.slice (some ⟨g,0,none⟩) (us.length + 1) cap)):=by
 have hlo:∀ b,b < w.heap.size + 2 → l.ownBlock ≠ some b:=fun b hl e=>by have:=(World.ownsRow.lt hrow b e).1;omega
 have hw:∀ b,b < w.heap.size + 2 → b < wr.heap.size → w6.heap[b]? = wr.heap[b]?:=fun b h hl=>(hkp.block b (xE hl hbk.size) (Qbr (hlo b h))).trans (hbk.block b hl)
 have hst:=OT.snoc (k:=Qc2 n ls back i) hlen hrow h3 hy ho hkp hg
 have hb6:Below w.heap.size w w6:=hb.trans ((hbk.mono hb.size).trans (hkp.below (Nat.le_trans hb.size hbk.size) fun b hl=>Qbr (hlo b (by omega))))
 refine ⟨i + 1,.slice (some ⟨g,0,none⟩) (us.length + 1) cap,rfl,by omega,(Qdl (by omega)).trans ((hw _ (by omega) (Qab h0)).trans h0),Qaq ((hw _ (by omega) (Qab h1)).trans h1) rfl,?_,hb6.setCell (p:=⟨w.heap.size + 1,3,none⟩) (by show w.heap.size ≤ w.heap.size + 1;omega) _⟩
 rw [List.range_succ,List.map_append,← hus]
 exact hst.keep (by simp [World.setCell]) fun b hl h=>Qdl (by omega)
theorem ch_end {n:Nat} {ls:List Bool} {back:Int} {w wr:World} {us:List Tr} {MA:Option Addr} {mc:Nat} (hus:us = (Qal n ls back).kids) (hb:Below w.heap.size w wr) (_hl:w.heap.size < wr.heap.size) (hot:OT wr w.heap.size (w.heap.size + 2) (.slice MA us.length mc) us) :
  ∃ u:TV,Ending.returned (.agg #[.int .i64 1,.string ⟨#[77]⟩,.slice none 0 0,.slice MA us.length mc]) = .returned (.agg #[.int .i64 u.kind,.string u.text,.slice u.la u.ll u.lc,.slice u.ka u.kl u.kc]) ∧
   TrAt (fun b=>b < (setT wr w.heap.size ⟨1,⟨#[77]⟩,none,0,0,MA,us.length,mc⟩).heap.size) (setT wr w.heap.size ⟨1,⟨#[77]⟩,none,0,0,MA,us.length,mc⟩) (Qal n ls back) u ∧ Below w.heap.size w (setT wr w.heap.size ⟨1,⟨#[77]⟩,none,0,0,MA,us.length,mc⟩):=by
 have hsz:=Qex wr w.heap.size ⟨1,⟨#[77]⟩,none,0,0,MA,us.length,mc⟩
 refine ⟨⟨1,⟨#[77]⟩,none,0,0,MA,us.length,mc⟩,rfl,?_,hb.trans (Qcp _ _ _)⟩
 have h2:OT (setT wr w.heap.size ⟨1,⟨#[77]⟩,none,0,0,MA,us.length,mc⟩) w.heap.size (w.heap.size + 2) (.slice MA us.length mc) us:=hot.keep (by rw [hsz];exact xA _) fun b hl h=>Qdw _ (by omega)
 have h3:=h2.node (S:=fun b=>b < (setT wr w.heap.size ⟨1,⟨#[77]⟩,none,0,0,MA,us.length,mc⟩).heap.size) 1 ⟨#[77]⟩ fun b _ h=>h
 have e:Qal n ls back = .mk 1 ⟨#[77]⟩ [] us:=by rw [hus];rfl
 rw [e]
 exact h3
theorem chain_any (A:Option Addr) (c:Nat) (n:Nat) (ls:List Bool) (back:Int) (w:World) (ha:BoolsAt w A ls) (hn:n ≤ 20) (hb:back < 20) (hb1:-1 ≤ back) :
  Calls Try.prog 7 #[.int .i64 n,.slice A ls.length c,.int .i64 back] w fun e w'=>∃ u:TV,e = .returned (.agg #[.int .i64 u.kind,.string u.text,.slice u.la u.ll u.lc,.slice u.ka u.kl u.kc]) ∧ TrAt (fun b=>b < w'.heap.size) w' (Qal n ls back) u ∧ Below w.heap.size w w':=by
 obtain ⟨it,hit,ht0,ht1,ht2⟩:=info_parts Qct
 have HA:=hQ ha
 have H2:=hQ (Qcl w (trO ⟨0,⟨#[]⟩,none,0,0,none,0,0⟩) (modO 1 ⟨#[77]⟩ (.slice none 0 0)))
 have K2:=hQ (Qb6 w (trO ⟨0,⟨#[]⟩,none,0,0,none,0,0⟩) (modO 1 ⟨#[77]⟩ (.slice none 0 0)))
 clear ha
 have kc:=conv_one
 have kc2:=conv_two
 have kc3:=conv_three
 go_enter Try.func7,Try.ntmps7
 go_wp2
 go_loopw [8] (fun v wr=>ChL n ls back w v wr) (fun v _=>n - (intOf v).toNat)
 case atStart=>exact ⟨0,.slice none 0 0,rfl,Nat.zero_le _,K2.out.1,K2.out.2,OT.nil _ _ _,H2.out⟩
 case round =>
  obtain ⟨i,l,rfl,hi,h0,h1,hot,hbw⟩:=hrel
  obtain ⟨us,hus⟩:∃ us,us = (List.range i).map (Qc2 n ls back):=⟨_,rfl⟩
  rw [← hus] at hot
  have HUS:=hQ hus
  clear hus
  obtain ⟨MA,mc,hm⟩:=hot.slice
  subst hm
  have H0:=hQ h0
  have H1:=hQ h1
  have HOT:=hQ hot
  have HBR:=hQ hbw
  have m3:wr.cell? ⟨w.heap.size + 1,3,none⟩ = some (.slice MA us.length mc):=Qaa h1 3 _ rfl
  have mbl:=Qab h1
  have mfr:=Lib.frozen_of_heap h1
  clear h0 h1 hot hbw
  by_cases hlt:i < n
  ·have i0:(0:Int) ≤ (i:Int):=by omega
   have i1:(i:Int) < (n:Int):=by omega
   have i2:(i:Int) + 1 ≤ 20:=by omega
   go_upto_if 27 with fail
   go_cut [27] (fun _ wx=>XcR n back i wr wx)
   case first =>
    by_cases he:(i:Int) = (n:Int) - 1
    ·have b1:((i:Int) == (n:Int) - 1) = true:=by simpa using he
     have HE:=hQ he
     clear he
     by_cases hbk:(0:Int) ≤ back
     ·go_wp2
      go_meet
      case rel=>exact xc_back (by have:=HE.out;omega) hbk
     ·go_wp2
      go_meet
      case rel=>exact xc_end (by have:=HE.out;omega) (by omega)
    ·have b1:=beqF he
     go_wp2
     go_meet
     case rel=>exact xc_next he
   case rest =>
    obtain ⟨w5,hw5⟩:∃ w',w' = wc:=⟨_,rfl⟩
    subst hw5
    obtain ⟨hx,hb5⟩:=hcut
    have HX:=hQ hx
    have HB5:=hQ hb5
    clear hx hb5
    go_upto_region 10 with fail
    go_cut [47] (fun s47 wx=>s47 = .bool (bitC ls i) ∧ wx = w5)
    case first =>
     by_cases hil:i < ls.length
     ·obtain ⟨x,hx⟩:∃ x,ls[i]? = some x:=⟨_,xF hil⟩
      have hbit:bitC ls i = x:=by unfold bitC;rw [hx];rfl
      obtain ⟨ab,ao,hA,_,hc⟩:=(HA.out.keep (HBR.out.trans (HB5.out.mono HBR.out.size))) (by intro h;rw [h] at hil;simp at hil)
      subst hA
      have e0:=hc i x hx
      have el:=xK w5 _ e0
      have hil2:(i:Int) < (ls.length:Int):=by omega
      have HBIT:=hQ hbit
      clear hc hx hbit
      cases x
      ·go_wp2
       go_meet
       case rel=>exact ⟨by rw [HBIT.out],rfl⟩
      ·go_wp2
       go_meet
       case rel=>exact ⟨by rw [HBIT.out],rfl⟩
     ·have hbit:bitC ls i = false:=by unfold bitC;rw [List.getElem?_eq_none (by omega)];rfl
      have hil2:¬ ((i:Int) < (ls.length:Int)):=by omega
      have HBIT:=hQ hbit
      clear hbit
      go_wp2
      go_meet
      case rel=>exact ⟨by rw [HBIT.out],rfl⟩
    case rest =>
     obtain ⟨rfl,rfl⟩:=hcut
     have k0:wc.cell? ⟨wr.heap.size + 1,0,none⟩ = some (.int .i64 (Qak n back i).kind):=Qaa HX.out 0 _ rfl
     have k1:wc.cell? ⟨wr.heap.size + 1,1,none⟩ = some (.string (Qak n back i).text):=Qaa HX.out 1 _ rfl
     have k2:wc.cell? ⟨wr.heap.size + 1,2,none⟩ = some (.slice none 0 0):=Qaa HX.out 2 _ rfl
     have k3:wc.cell? ⟨wr.heap.size + 1,3,none⟩ = some (.slice none 0 0):=Qaa HX.out 3 _ rfl
     have kl:=Qab HX.out
     have kf:=Lib.frozen_of_heap HX.out
     go_upto_if 47 with fail
     go_cut [48] (fun _ wx=>XdR n ls back i wr wx)
     case first =>
      by_cases hb:bitC ls i = true
      ·have HBIT:=hQ hb
       rw [hb]
       clear hb
       go_wp2
       go_meet
       case rel=>exact xd_list HX.out HB5.out HBIT.out
      ·have hb0:bitC ls i = false:=by simpa using hb
       have HBIT:=hQ hb0
       rw [hb0]
       clear hb hb0
       go_wp2
       go_meet
       case rel=>exact xd_none HX.out HB5.out HBIT.out
     case rest =>
      obtain ⟨w7,hw7⟩:∃ w',w' = wc:=⟨_,rfl⟩
      subst hw7
      obtain ⟨y,hy,hyt,hb7⟩:=hcut
      have HYT:=hQ hyt
      have HB7:=hQ hb7
      have x1:=(HB7.out.block _ mbl).trans H1.out
      have HY:=hQ hy
      clear m3 mbl mfr k0 k1 k2 k3 kl kf hyt hb7 hy
      obtain ⟨yk,yx,yla,yll,ylc,yka,ykl,ykc⟩:=y
      have k0:w7.cell? ⟨wr.heap.size + 1,0,none⟩ = some (.int .i64 yk):=Qaa HY.out 0 _ rfl
      have k1:w7.cell? ⟨wr.heap.size + 1,1,none⟩ = some (.string yx):=Qaa HY.out 1 _ rfl
      have k2:w7.cell? ⟨wr.heap.size + 1,2,none⟩ = some (.slice yla yll ylc):=Qaa HY.out 2 _ rfl
      have k3:w7.cell? ⟨wr.heap.size + 1,3,none⟩ = some (.slice yka ykl ykc):=Qaa HY.out 3 _ rfl
      have kl:=Qab HY.out
      have m3:w7.cell? ⟨w.heap.size + 1,3,none⟩ = some (.slice MA us.length mc):=Qaa x1 3 _ rfl
      have mbl:=Qab x1
      have mfr:=Lib.frozen_of_heap x1
      have mb2:=Nat.lt_of_succ_lt mbl
      have mb3:=Nat.lt_succ_of_lt mb2
      clear x1
      obtain ⟨vs,hlen,hrow,hts⟩:=HOT.out
      have HLEN:=hQ hlen
      have HTR:=hQ hts
      have hul:us.length = i:=by rw [HUS.out,List.length_map,List.length_range]
      have HM1:=hQ (show us.length + 1 ≤ maxLen from by unfold maxLen;omega)
      have HM2:=hQ (show (us.length + 1) * 72 ≤ 140737488355328 from by omega)
      have HWK:=hQ (Qd8 HB7.out (.cells #[.int .u8 (97 + (i:Int))] 5) (oneO ⟨yk,yx,yla,yll,ylc,yka,ykl,ykc⟩) (defO 3 (⟨#[84]⟩ ++ strOfNums [97 + (i:Int)]) (w7.heap.size + 1) 1))
      have HRW:=hQ (Qd9 hrow HWK.out)
      have HNW:=hQ (three_news w7 (.cells #[.int .u8 (97 + (i:Int))] 5) (oneO ⟨yk,yx,yla,yll,ylc,yka,ykl,ykc⟩) 3 (⟨#[84]⟩ ++ strOfNums [97 + (i:Int)]))
      have HSZ:=hQ (show w.heap.size + 2 ≤ (((w7.alloc (.cells #[.int .u8 (97 + (i:Int))] 5)).alloc (oneO ⟨yk,yx,yla,yll,ylc,yka,ykl,ykc⟩)).alloc (defO 3 (⟨#[84]⟩ ++ strOfNums [97 + (i:Int)]) (w7.heap.size + 1) 1)).heap.size from by rw [Qdj];omega)
      clear hlen hrow hts hul
      go_wp2_with (at_builtin;refine Qdg _ rfl _ _ 25 rfl (w.heap.size + 2) 27 it _ 4 72 Try.underlying25 hit ht0 ht1 ht2 rfl (by decide) _ us.length (Qaf vs) rfl HRW.out ⟨w7.heap.size + 2,0,none⟩ 1 1 (TV.cells ⟨3,⟨#[84]⟩ ++ strOfNums [97 + (i:Int)],none,0,0,some ⟨w7.heap.size + 1,0,none⟩,1,1⟩) rfl rfl HNW.out (Qek _) (by decide) HM1.out HM2.out HSZ.out ?_;intro g6 c6 w6 hown6 hk6 hg6 hlt6;have HO6:=hQ hown6;have HK6:=hQ hk6;have HG6:=hQ hg6;have x1:=keeps_box HRW.out HK6.out HWK.out H1.out;clear hown6 hk6 hg6 hlt6 m3 mbl mfr;have m3:w6.cell? ⟨w.heap.size + 1,3,none⟩ = some _:=Qaa x1 3 _ rfl;have mbl:=Qab x1;have mfr:=Lib.frozen_of_heap x1;clear x1)
      go_roundw
      case measure=>first | (simp [intOf];done) | (simp [intOf];omega)
      case rel=>exact ch_next HUS.out hlt H0.out H1.out HBR.out HWK.out HLEN.out HRW.out (fun j k u hk hu=>TrAt.move (fun b hb=>⟨hb.1,xE hb.2.1 HWK.out.size,hb.2.2⟩) (fun b _ hl=>HWK.out.block b hl) _ _ (HTR.out j k u hk hu)) (alias_c _ _ (name_str i _ rfl) HYT.out HB7.out (Qab H1.out) HOT.out.lt) HO6.out HK6.out HG6.out
  ·obtain rfl:i = n:=by omega
   have m0:wr.cell? ⟨w.heap.size + 1,0,none⟩ = some (.int .i64 1):=Qaa H1.out 0 _ rfl
   have m1:wr.cell? ⟨w.heap.size + 1,1,none⟩ = some (.string ⟨#[77]⟩):=Qaa H1.out 1 _ rfl
   have m2:wr.cell? ⟨w.heap.size + 1,2,none⟩ = some (.slice none 0 0):=Qaa H1.out 2 _ rfl
   obtain ⟨y0,y1,y2,y3,yl,yf⟩:=res_facts H0.out
   have HEQ:=hQ (show us = (Qal i ls back).kids from HUS.out)
   go_wp2
   refine bodyPost_ret (v:=.agg #[.int .i64 1,.string ⟨#[77]⟩,.slice none 0 0,.slice MA us.length mc]) (by simp [results,Try.results7,go_sem, *]) rfl ?_
   exact ch_end HEQ.out HBR.out (Qab H0.out) HOT.out
end Go.Proofs.Ytclkilljmdkfaaa
