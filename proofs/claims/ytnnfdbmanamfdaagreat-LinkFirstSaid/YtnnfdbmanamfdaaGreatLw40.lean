/- Part 40: The contract of Targets of the reference of link. The contract of the reference's pieces at every tree of the right shape. Plain: what a target of a program is; what the definition is to which it refers. -/
import Derived.Test.YtnnfdbmanamfdaaGreatLw1
import Derived.Test.YtnnfdbmanamfdaaGreatLw38
import Derived.Test.YtnnfdbmanamfdaaGreatLw36
import Derived.Test.YtnnfdbmanamfdaaGreatLw39
import Derived.Test.YtnnfdbmanamfdaaGreatLw30
import Derived.Test.YtnnfdbmanamfdaaGreatLw31
import Derived.Test.YtnnfdbmanamfdaaGreatLw32
import Derived.Test.YtnnfdbmanamfdaaGreatLw33
import Derived.Deep.DeepCutAuto
set_option maxRecDepth 100000
set_option maxHeartbeats 4000000
namespace Go.Proofs.YtnnfdbmanamfdaaGreat
open Go.RowKit Go.Shelf
mutual
theorem pathsT_long:(t:Tr) → (p z:List Int) → z ∈ Qcw t p → z.length ≤ p.length + Qan t
 | .mk k x ls ks,p,z,h=>by
  rw [Qcw] at h
  rw [Qan]
  rcases List.mem_cons.1 h with rfl | h
  ·omega
  ·have:=pathsL_long ks 0 p z h
   omega
theorem pathsL_long:(l:List Tr) → (i:Nat) → (p z:List Int) → z ∈ Qdw l i p → z.length ≤ p.length + 1 + Qap l
 | [],_,_,_,h=>by rw [Qdw] at h;simp at h
 | t :: r,i,p,z,h=>by
  rw [Qdw] at h
  rw [Qap]
  rcases List.mem_append.1 h with h | h
  ·have:=pathsT_long t _ z h
   rw [xB,List.length_singleton] at this
   omega
  ·have:=pathsL_long r (i + 1) p z h
   omega
end
theorem words_find:∀ (zs:List Int) (t u:Tr),Qdb t = true → Qc8 t zs = some u → Qdb u = true
 | [],t,u,h,hf=>by
  rw [Qc8] at hf
  injection hf with hf
  subst hf
  exact h
 | i :: r,t,u,h,hf=>by
  unfold Qc8 at hf
  cases hk:kidB t i
  ·rw [hk] at hf;cases hf
  ·rw [hk] at hf
   obtain ⟨_,_,h3⟩:=kidB_get hk
   exact words_find r (kidAt t i) u ((Qcr h).2.2 _ _ h3) hf
theorem words_node {t:Tr} (z:List Int) (h:Qdb t = true):((Qc8 t z).getD noTr).text.size ≤ maxLen:=by
 cases e:Qc8 t z with
 | none=>exact Nat.zero_le _
 | some u=>exact Nat.le_of_lt (Qcr (words_find z t u h e)).1
def useM (ps:List Tr) (m:Nat) (R:Tr) (z:List Int):List Tgm:=(useAt ps m R z).map fun x=>((m:Int),x)
def pathM (ps:List Tr) (m:Nat) (R:Tr) (l:List (List Int)):List Tgm:=(l.flatMap (useAt ps m R)).map fun x=>((m:Int),x)
theorem pathM_step {ps:List Tr} {m:Nat} {R:Tr} {l:List (List Int)} {k:Nat} {z:List Int} (h:l[k]? = some z):pathM ps m R (l.take (k + 1)) = pathM ps m R (l.take k) ++ useM ps m R z:=by
 unfold pathM useM
 rw [List.take_add_one,h,Option.toList_some,List.flatMap_append,List.map_append]
 simp
theorem useM_eq (ps:List Tr) (m:Nat) (R:Tr) (z:List Int):useM ps m R z = hitM ps m ((Qc8 R z).getD noTr) z:=by
 unfold useM useAt hitM
 cases Qc8 R z with
 | none =>
  rw [show hitP ps m ((none:Option Tr).getD noTr) z = [] from if_neg (by decide)]
 | some u=>rfl
theorem pathM_all (ps:List Tr) (m:Nat) (t:Tr):pathM ps m t (Qcw t []) = tgtM ps m t []:=by unfold pathM tgtM;rw [targets_paths]
theorem pathM_len (ps:List Tr) (m:Nat) (t:Tr) (k:Nat):(pathM ps m t ((Qcw t []).take k)).length ≤ Qan t:=by
 have h:(pathM ps m t ((Qcw t []).take k)).length ≤ (pathM ps m t (Qcw t [])).length:=by
  conv=>rhs;rw [← List.take_append_drop k (Qcw t [])]
  unfold pathM
  rw [List.flatMap_append,List.map_append,xB]
  omega
 rw [pathM_all] at h
 exact Nat.le_trans h (tgtM_len ps m t [])
theorem TgsAt.snoc {w w':World} {B:Nat} {v v':Value} {ws:List TgV} {zs:List Tgm} {y:TgV} {z:Tgm} (hr:TRow w B v ws) (ha:TarsAt w B ws zs) (hy:TarAt w B y z)
  (hown:w'.ownsRow B 61 5 v' (ws.length + 1) (Qdv ws ++ tgC y)) (hk:Keeps (pre v (ws.length * 5)) w w'):TgsAt w' B v' (zs ++ [z]):=by
 refine ⟨ws ++ [y],?_,(TarsAt.app ha (TarsAt.one hy)).step fun a p h=>hk.row h fun k hk'=>.inl (Qdd (Qev hr (Qfd h hk').choose_spec (by decide)))⟩
 unfold TRow
 rw [xB,tCells_append]
 exact (show Qdv ws ++ tgC y = Qdv ws ++ Qdv [y] from by simp [Qdv]) ▸ hown
theorem PsAt.app {w w':World} {B B' k:Nat} {L l:Value} {ps:List (List Int)} {ws:List TgV} (h:PsAt w B L ps) (hr:TRow w B' l ws) (hk:Keeps (pre l k) w w'):PsAt w' B L ps:=by
 obtain ⟨vs,h1,h2⟩:=h
 exact ⟨vs,hk.row h1 fun g hg=>.inl (Qdd fun e=>rows_apart h1 hr (by decide) g hg e),fun i v p hv hp=>hk.row (h2 i v p hv hp) fun g hg=>.inl (Qdd (Qev hr (Qfd (h2 i v p hv hp) hg).choose_spec (by decide)))⟩
def RiL (ps:List Tr) (j:Nat) (t:Tr) (LP:Value) (w:World) (l n:Value) (wr:World):Prop:=∃ k:Nat,n = .int .i64 (k:Int) ∧ k ≤ (Qcw t []).length ∧ TgsAt wr w.heap.size l (Qgd ps (ps.take j) 0 ++ pathM ps j t ((Qcw t []).take k)) ∧ PsAt wr w.heap.size LP (Qcw t []) ∧ Below w.heap.size w wr
def AtC (t:Tr) (z:List Int) (w:World) (s7:Value) (wx:World):Prop:=∃ (g:Nat) (x:TV),s7 = .pointer (some ⟨g,0,none⟩) ∧ wx.heap[g]? = some (trO x) ∧ x.kind = ((Qc8 t z).getD noTr).kind ∧ x.text = ((Qc8 t z).getD noTr).text ∧ Below w.heap.size w wx
theorem PsAt.low {w:World} {B B':Nat} {L:Value} {ps:List (List Int)} (h:PsAt w B L ps) (hb:B' ≤ B):PsAt w B' L ps:=by
 obtain ⟨vs,h1,h2⟩:=h
 exact ⟨vs,Qfr h1 hb,fun i v p hv hp=>Qfr (h2 i v p hv hp) hb⟩
theorem at_late {t:Tr} {z:List Int} {w w3:World} {x:TV} (hz:w3.heap[w.heap.size]? = some (trO ⟨0,⟨#[]⟩,none,0,0,none,0,0⟩)) (h1:x.kind = ((Qc8 t z).getD noTr).kind) (h2:x.text = ((Qc8 t z).getD noTr).text) (hb:Below w.heap.size w w3):AtC t z w (.pointer (some ⟨w.heap.size,0,none⟩)) (Qga w3 w.heap.size x) :=
 ⟨w.heap.size,x,rfl,Qg1 x hz,h1,h2,hb.trans (Qcd w3 w.heap.size x)⟩
theorem at_early {t:Tr} {z:List Int} {w w3:World} {x:TV} (h1:x.kind = ((Qc8 t z).getD noTr).kind) (h2:x.text = ((Qc8 t z).getD noTr).text) (hb:Below w.heap.size w w3):AtC t z w (.pointer (some ⟨w3.heap.size,0,none⟩)) (w3.alloc (trO x)) :=
 ⟨w3.heap.size,x,rfl,xH _ _,h1,h2,hb.alloc hb.size _⟩
theorem targets_r06 (S:Nat → Prop) (A:Option Addr) (c:Nat) (ps:List Tr) (w:World) (hp:TrAt S w (Qbx ps) ⟨0,⟨#[]⟩,none,0,0,A,ps.length,c⟩) (hf:fitT (Qbx ps) = true) (hs:Qcn (Qbx ps) = true) (hw:Qdb (Qbx ps) = true) (hz1:∀ t ∈ ps,Qan t ≤ 1000) (hz:Qap ps ≤ 90000) :
  Calls Tryz.prog 35 #[.slice A ps.length c] w fun e w'=>∃ v,e = .returned v ∧ TgsAt w' w.heap.size v (Qgp ps) ∧ Below w.heap.size w w':=by
 have HC:=hQ (fun w' (hb:Below w.heap.size w w')=>program_r06 S A c ps w' (hp.keep hb) hs hz1 hw)
 have HFI:=hQ (fun (m:Nat) (hm:m < ps.length) (s:ByteArray) (hs:s.size ≤ maxLen) w' (hb:Below w.heap.size w w')=>find_r06 S A c ps m s w' (hp.keep hb) hf hs hm)
 have HP:=hQ (TrAt.low _ _ hp)
 have HF:=hQ (Qco hf).2.2
 have HW:=hQ (Qcr hw).2.2
 have HZ:=hQ hz
 have HZ1:=hQ hz1
 have hl:ps.length ≤ 90000:=by have:=Qbj ps;omega
 obtain ⟨iv,hiv,vz0,vz1,vz2⟩:=info_parts tgt_info
 clear hp hf hs hw hz hz1
 cases hg:progG ps with
 | false =>
  have HV:=hQ (show Qgp ps = [] from by unfold Qgp;rw [hg];rfl)
  rw [hg] at HC
  clear hg HFI
  go_enter Tryz.func35,Tryz.ntmps35
  go_wp2_with (go_at_call 66;refine (HC.out _ (by first | exact xC _ _ | exact below_drewN (xC _ _) _)).mono ?_;rintro e w1 ⟨rfl,hb⟩;have HB1:=hQ hb;clear hb)
  refine bodyPost_ret (v:=.slice none 0 0) (by simp [results,Tryz.results35,go_sem, *]) rfl ?_
  rw [HV.out]
  exact ⟨_,rfl,⟨[],World.ownsRow_nil _ _ _ _,TarsAt.nil _ _⟩,HB1.out⟩
 | true =>
  have HV:=hQ (show Qgp ps = Qgd ps (ps.take ps.length) 0 from by unfold Qgp;rw [hg,if_pos rfl,List.take_length])
  rw [hg] at HC
  clear hg
  go_enter Tryz.func35,Tryz.ntmps35
  go_wp2_with (go_at_call 66;refine (HC.out _ (by first | exact xC _ _ | exact below_drewN (xC _ _) _)).mono ?_;rintro e w1 ⟨rfl,hb⟩;have HB1:=hQ hb;clear hb)
  go_loopw [3,4] (fun l i wr=>TgsL ps w l i wr) (fun _ i _=>ps.length - (intOf i).toNat)
  case atStart=>exact ⟨0,rfl,Nat.zero_le _,⟨[],World.ownsRow_nil _ _ _ _,TarsAt.nil _ _⟩,HB1.out⟩
  case round =>
   obtain ⟨j,rfl,hj,hr,hb⟩:=hrel
   have HBR:=hQ hb
   have HR:=hQ hr
   clear hr hb
   by_cases hlt:j < ps.length
   ·obtain ⟨t,ht⟩:∃ t,ps[j]? = some t:=⟨_,xF hlt⟩
    obtain ⟨b,off,hka⟩:∃ b off,A = some ⟨b,off,none⟩:=HP.out.addr.resolve_left (by show ¬ ps.length = 0;omega)
    subst hka
    obtain ⟨u,c0,c1,c2,c3,hu⟩:=(HP.out.keep HBR.out).at rfl (show (Qbx ps).kids[j]? = some t from ht)
    have HTJ:=hQ ht
    have HLJ:=hQ hlt
    have htz:=HZ1.out t (List.mem_of_getElem? ht)
    have HTZ:=hQ htz
    have HCP:=hQ (rpaths_any _ t u wr hu (HF.out j t ht) (by omega))
    have HUX:=hQ (fun (wx:World) (hb:Below w.heap.size w wx)=>(HP.out.keep hb).at rfl (show (Qbx ps).kids[j]? = some t from ht))
    have HFT:=hQ (HF.out j t ht)
    have HWT:=hQ (HW.out j t ht)
    have cl:=xK wr _ c0
    have hk0:(0:Int) ≤ (j:Int):=by omega
    have hk2:(j:Int) < (ps.length:Int):=by omega
    have hk3:(j:Int) + 1 ≤ 90001:=by omega
    clear hu ht htz
    obtain ⟨wo,hwo⟩:∃ w',w' = wr:=⟨_,rfl⟩
    subst hwo
    go_wp2_with (go_at_call 27;refine HCP.out.mono ?_;rintro e w2 ⟨LP,rfl,hps,hb⟩;obtain ⟨PP,pcap,rfl⟩:=hps.shape;have HPS:=hQ hps;have HB2:=hQ (HBR.out.trans (hb.mono HBR.out.size));have HB2':=hQ hb;clear hps hb c0 c1 c2 c3 cl)
    go_loopw [3,6] (fun l n wq=>RiL ps j t (.slice PP (Qcw t []).length pcap) w l n wq) (fun _ n _=>(Qcw t []).length - (intOf n).toNat)
    case atStart=>exact ⟨0,rfl,Nat.zero_le _,by rw [show pathM ps j t ((Qcw t []).take 0) = [] from by simp [pathM],List.append_nil];exact HR.out.keep HB2'.out,HPS.out.low HBR.out.size,HB2.out⟩
    case round =>
     obtain ⟨k,rfl,hk,htg,hps,hb⟩:=hrel
     have HTG:=hQ htg
     have HPSQ:=hQ hps
     have HBQ:=hQ hb
     clear htg hps hb
     by_cases hlk:k < (Qcw t []).length
     ·obtain ⟨z,hz⟩:∃ z,(Qcw t [])[k]? = some z:=⟨_,xF hlk⟩
      obtain ⟨g,pa,pc,hPP,gl,p0,hrow⟩:=HPSQ.out.at hz
      subst hPP
      obtain ⟨u2,c0,c1,c2,c3,hu2⟩:=HUX.out wr HBQ.out
      have cl:=xK wr _ c0
      have HZK:=hQ hz
      have hirow:IRow wr w.heap.size (.slice pa z.length pc) z:=hrow
      have HIR:=hQ hirow
      have hzl:z.length ≤ maxLen:=by
       have:=pathsT_long t [] z (List.mem_of_getElem? hz)
       have:=HTZ.out
       unfold maxLen
       simp at *
       omega
      have HCA:=hQ (fun (w':World) (hb:Below wr.heap.size wr w')=>rat_any _ t u2 pa pc z w' (hu2.keep hb) (hirow.intsAt.keep hb) hzl)
      have HXW:=hQ (words_node z HWT.out)
      have hq0:(0:Int) ≤ (k:Int):=by omega
      have hq1:(k:Int) < ((Qcw t []).length:Int):=by omega
      have hq2:(k:Int) + 1 ≤ 1000001:=by
       have:(Qcw t []).length = Qan t:=pathsT_len t []
       have:=HTZ.out
       omega
      have mixedL:Tryz.prog.follows Departure.mixedOrders = true:=mixed
      have n0:=World.new_ne wr _ c0
      have n1:=World.new_ne wr _ p0
      clear hu2 hrow hirow hz hzl
      go_upto_region 11 with fail
      go_cut [7] (fun s7 wx=>AtC t z wr s7 wx)
      case first =>
       go_region_held3 (fun w'=>w'.cell? ⟨b,off + j * 4,none⟩ = some (.int .i64 u2.kind) ∧ w'.cell? ⟨b,off + j * 4 + 1,none⟩ = some (.string u2.text) ∧ w'.cell? ⟨b,off + j * 4 + 2,none⟩ = some (.slice u2.la u2.ll u2.lc) ∧ w'.cell? ⟨b,off + j * 4 + 3,none⟩ = some (.slice u2.ka u2.kl u2.kc) ∧ w'.cell? ⟨g,k,none⟩ = some (.slice pa z.length pc)) (first | with_reducible exact ⟨c0,c1,c2,c3,p0⟩ | go_keep) (first
        | (go_at_call 28;refine (HCA.out wr.drew (xC _ _).drew).mono ?_;rintro e w3 ⟨hb3,x,rfl,S3,_,hx3⟩;have HKX:=hQ (And.intro hx3.kl.2.2.1 hx3.kl.2.2.2);have HB3:=hQ (show Below wr.heap.size wr w3 from (show Below wr.heap.size wr wr.drew from (xC _ _).drew).trans hb3);have h0:=Qbr HB3.out cl c0;have h1:=Qbr HB3.out cl c1;have h2:=Qbr HB3.out cl c2;have h3:=Qbr HB3.out cl c3;have h4:=Qbr HB3.out gl p0;have g3:=xE cl HB3.out.size;have g4:=xE gl HB3.out.size;clear c0 c1 c2 c3 p0 cl gl;have c0:=h0;have c1:=h1;have c2:=h2;have c3:=h3;have p0:=h4;have cl:=g3;have gl:=g4;clear h0 h1 h2 h3 h4 g3 g4;clear hb3 hx3)
        | (go_at_call 28;refine (HCA.out ((wr.alloc (.cells #[.int .i64 0,.string ⟨#[]⟩,.slice none 0 0,.slice none 0 0] 25)).drew) ((xC _ _).alloc (xA _) _).drew).mono ?_;rintro e w3 ⟨hb3,x,rfl,S3,_,hx3⟩;have HKX:=hQ (And.intro hx3.kl.2.2.1 hx3.kl.2.2.2);have HB3:=hQ (show Below wr.heap.size wr w3 from (((xC wr.heap.size wr).alloc (xA _) (.cells #[.int .i64 0,.string ⟨#[]⟩,.slice none 0 0,.slice none 0 0] 25)).drew).trans (hb3.mono (by show _ ≤ (wr.alloc _).heap.size;rw [xI];omega)));have hzb:=(show w3.heap[wr.heap.size]? = some (.cells #[.int .i64 0,.string ⟨#[]⟩,.slice none 0 0,.slice none 0 0] 25 (0,0)) from (hb3.block _ (by show _ < (wr.alloc _).heap.size;rw [xI];omega)).trans (xH wr _));have HZB:=hQ hzb;have zf:∀ o,w3.frozen? ⟨wr.heap.size,o,none⟩ = false:=(fun o=>Lib.frozen_of_heap hzb _);have zl:=Qaa hzb;have z0:w3.cell? ⟨wr.heap.size,0,none⟩ = some (.int .i64 0):=Qab hzb 0 _ rfl;have z1:w3.cell? ⟨wr.heap.size,1,none⟩ = some (.string ⟨#[]⟩):=Qab hzb 1 _ rfl;have z2:w3.cell? ⟨wr.heap.size,2,none⟩ = some (.slice none 0 0):=Qab hzb 2 _ rfl;have z3:w3.cell? ⟨wr.heap.size,3,none⟩ = some (.slice none 0 0):=Qab hzb 3 _ rfl;have h0:=Qbr HB3.out cl c0;have h1:=Qbr HB3.out cl c1;have h2:=Qbr HB3.out cl c2;have h3:=Qbr HB3.out cl c3;have h4:=Qbr HB3.out gl p0;have g3:=xE cl HB3.out.size;have g4:=xE gl HB3.out.size;clear c0 c1 c2 c3 p0 cl gl;have c0:=h0;have c1:=h1;have c2:=h2;have c3:=h3;have p0:=h4;have cl:=g3;have gl:=g4;clear h0 h1 h2 h3 h4 g3 g4;clear hb3 hx3 hzb)
        | fail)
       all_goals
        go_wp2_with fail
        go_meet
        first
         | (have hh:=HZB.out;clear hh;exact at_late HZB.out HKX.out.1 HKX.out.2 HB3.out)
         | exact at_early HKX.out.1 HKX.out.2 HB3.out
      case rest =>
       obtain ⟨w3,hww⟩:∃ w',w' = wc:=⟨_,rfl⟩
       subst hww
       obtain ⟨g7,x,rfl,hxb,hxk,hxt,hbc⟩:=hcut
       have HB3:=hQ hbc
       have HB3W:=hQ (HBQ.out.trans (hbc.mono HBQ.out.size))
       have HTG3:=hQ (HTG.out.keep hbc)
       have HPS3:=hQ (HPSQ.out.keep hbc)
       have HIR3:=hQ (HIR.out.keep hbc)
       obtain ⟨xk,xx,xla,xll,xlc,xka,xkl,xkc⟩:=x
       simp only at hxk hxt
       have HXS:=hQ (show xx.size ≤ maxLen from by rw [hxt];exact HXW.out)
       have p1:=Qbr hbc gl p0
       have gl1:=xE gl hbc.size
       clear c0 c1 c2 c3 p0 cl gl n0 n1
       have p0:=p1
       have gl:=gl1
       clear p1 gl1
       have x0:w3.cell? ⟨g7,0,none⟩ = some (.int .i64 xk):=Qab hxb 0 _ rfl
       have x1:w3.cell? ⟨g7,1,none⟩ = some (.string xx):=Qab hxb 1 _ rfl
       have xl:=Qaa hxb
       clear hxb hbc
       by_cases hk16:((Qc8 t z).getD noTr).kind = 16
       ·have hxk2:xk = 16:=hxk.trans hk16
        subst hxk2
        have HUS:=hQ ((useM_eq ps j t z).trans (hitM_yes (.inl hk16)))
        rw [← hxt] at HUS
        obtain ⟨r0,hr0⟩:∃ r,r = Qb6 ps j xx:=⟨_,rfl⟩
        have HFC:=hQ (HFI.out j HLJ.out xx HXS.out w3 HB3W.out)
        rw [← hr0] at HFC HUS
        clear hr0 hxk hxt hk16
        obtain ⟨ws,hrow,hat⟩:=HTG3.out
        obtain ⟨LA,lc,rfl⟩:=Qeq hrow
        have HROW:=hQ hrow
        have HAT:=hQ hat
        have HWL:=hQ (show ws.length + 1 ≤ 100000 from by
         have q1:=tgtPs_len ps (ps.take j) 0
         have q2:=pathM_len ps j t k
         have q3:=Qc0 HTJ.out
         have q4:=Qcy ps (j + 1)
         have q5:=HZ.out
         have q6:ws.length = (Qgd ps (ps.take j) 0).length + (pathM ps j t ((Qcw t []).take k)).length:=by rw [hat.1,xB]
         omega)
        clear hrow hat
        go_upto_region 14 with (go_at_call 67;refine HFC.out.mono ?_;rintro e w4 ⟨rfl,hb⟩;have HB4:=hQ hb;clear hb x0 x1 xl)
        have HB4W:=hQ (HB3W.out.trans (HB4.out.mono HB3W.out.size))
        have p0':=Qbr HB4.out gl p0
        have gl':=xE gl HB4.out.size
        clear p0 gl
        have hbA:=Qcu w4 (tgO j (.slice pa z.length pc) r0.1 r0.2.1 (!r0.2.2))
        have HBA:=hQ hbA
        have HVR:=hQ (show TRow (w4.alloc (tgO j (.slice pa z.length pc) r0.1 r0.2.1 (!r0.2.2))) w.heap.size (.slice LA ws.length lc) ws from (HROW.out.keep HB4.out).keep hbA)
        have HN4:=hQ (World.news_of_block (xH w4 (tgO j (.slice pa z.length pc) r0.1 r0.2.1 (!r0.2.2))))
        have HONE:=hQ (show ∀ u ∈ [(.int .i64 j:Value),.slice pa z.length pc,.int .i64 r0.1,.int .i64 r0.2.1,.bool (!r0.2.2)],u.oneCell' = true from by intro v hv;simp at hv;rcases hv with rfl | rfl | rfl | rfl | rfl <;> rfl)
        have HBW4:=hQ (show w.heap.size ≤ (w4.alloc (tgO j (.slice pa z.length pc) r0.1 r0.2.1 (!r0.2.2))).heap.size from Nat.le_trans HB4W.out.size hbA.size)
        clear hbA
        go_wp2_with (at_builtin;refine wpList_app _ rfl _ _ 51 rfl w.heap.size 61 iv _ 5 56 Tryz.underlying51 hiv vz0 vz1 vz2 rfl (by decide) _ ws.length (Qdv ws) rfl HVR.out ⟨w4.heap.size,0,none⟩ 1 1 [.int .i64 j,.slice pa z.length pc,.int .i64 r0.1,.int .i64 r0.2.1,.bool (!r0.2.2)] rfl rfl HN4.out HONE.out (by decide) (by have:=HWL.out;unfold maxLen;omega) (by have:=HWL.out;omega) HBW4.out ?_;intro g5 c5 w5 hown hk5 hg hlt5;have HO:=hQ hown;have HK:=hQ hk5;clear hown hk5 hg hlt5 p0' gl')
        go_roundw
        case measure=>first | (simp [intOf];done) | (simp [intOf];omega)
        case rel =>
         have hbig:Below w4.heap.size w4 (w4.alloc (tgO j (.slice pa z.length pc) r0.1 r0.2.1 (!r0.2.2))):=HBA.out
         refine ⟨k + 1,by go_num,by omega,?_,((HPS3.out.keep HB4.out).keep hbig).app HVR.out HK.out,HB4W.out.trans ((hbig.mono HB4W.out.size).trans (HK.out.below HBW4.out fun q hq=>Qdd fun e=>by have:=(HVR.out.lt q e).1;omega))⟩
         rw [pathM_step HZK.out,HUS.out,← List.append_assoc]
         exact TgsAt.snoc HVR.out ((HAT.out.step fun _ _ h=>h.keep HB4.out).step fun _ _ h=>h.keep hbig) (y:=((j:Int),.slice pa z.length pc,r0.1,r0.2.1,!r0.2.2)) ⟨rfl,(HIR3.out.keep HB4.out).keep hbig,rfl⟩ HO.out HK.out
       ·by_cases hk9:((Qc8 t z).getD noTr).kind = 9
        ·have hxk2:xk = 9:=hxk.trans hk9
         subst hxk2
         have HUS:=hQ ((useM_eq ps j t z).trans (hitM_yes (.inr hk9)))
         rw [← hxt] at HUS
         obtain ⟨r0,hr0⟩:∃ r,r = Qb6 ps j xx:=⟨_,rfl⟩
         have HFC:=hQ (HFI.out j HLJ.out xx HXS.out w3 HB3W.out)
         rw [← hr0] at HFC HUS
         clear hr0 hxk hxt hk9
         obtain ⟨ws,hrow,hat⟩:=HTG3.out
         obtain ⟨LA,lc,rfl⟩:=Qeq hrow
         have HROW:=hQ hrow
         have HAT:=hQ hat
         have HWL:=hQ (show ws.length + 1 ≤ 100000 from by
          have q1:=tgtPs_len ps (ps.take j) 0
          have q2:=pathM_len ps j t k
          have q3:=Qc0 HTJ.out
          have q4:=Qcy ps (j + 1)
          have q5:=HZ.out
          have q6:ws.length = (Qgd ps (ps.take j) 0).length + (pathM ps j t ((Qcw t []).take k)).length:=by rw [hat.1,xB]
          omega)
         clear hrow hat
         go_upto_region 14 with (go_at_call 67;refine HFC.out.mono ?_;rintro e w4 ⟨rfl,hb⟩;have HB4:=hQ hb;clear hb x0 x1 xl)
         have HB4W:=hQ (HB3W.out.trans (HB4.out.mono HB3W.out.size))
         have p0':=Qbr HB4.out gl p0
         have gl':=xE gl HB4.out.size
         clear p0 gl
         have hbA:=Qcu w4 (tgO j (.slice pa z.length pc) r0.1 r0.2.1 (!r0.2.2))
         have HBA:=hQ hbA
         have HVR:=hQ (show TRow (w4.alloc (tgO j (.slice pa z.length pc) r0.1 r0.2.1 (!r0.2.2))) w.heap.size (.slice LA ws.length lc) ws from (HROW.out.keep HB4.out).keep hbA)
         have HN4:=hQ (World.news_of_block (xH w4 (tgO j (.slice pa z.length pc) r0.1 r0.2.1 (!r0.2.2))))
         have HONE:=hQ (show ∀ u ∈ [(.int .i64 j:Value),.slice pa z.length pc,.int .i64 r0.1,.int .i64 r0.2.1,.bool (!r0.2.2)],u.oneCell' = true from by intro v hv;simp at hv;rcases hv with rfl | rfl | rfl | rfl | rfl <;> rfl)
         have HBW4:=hQ (show w.heap.size ≤ (w4.alloc (tgO j (.slice pa z.length pc) r0.1 r0.2.1 (!r0.2.2))).heap.size from Nat.le_trans HB4W.out.size hbA.size)
         clear hbA
         go_wp2_with (at_builtin;refine wpList_app _ rfl _ _ 51 rfl w.heap.size 61 iv _ 5 56 Tryz.underlying51 hiv vz0 vz1 vz2 rfl (by decide) _ ws.length (Qdv ws) rfl HVR.out ⟨w4.heap.size,0,none⟩ 1 1 [.int .i64 j,.slice pa z.length pc,.int .i64 r0.1,.int .i64 r0.2.1,.bool (!r0.2.2)] rfl rfl HN4.out HONE.out (by decide) (by have:=HWL.out;unfold maxLen;omega) (by have:=HWL.out;omega) HBW4.out ?_;intro g5 c5 w5 hown hk5 hg hlt5;have HO:=hQ hown;have HK:=hQ hk5;clear hown hk5 hg hlt5 p0' gl')
         go_roundw
         case measure=>first | (simp [intOf];done) | (simp [intOf];omega)
         case rel =>
          have hbig:Below w4.heap.size w4 (w4.alloc (tgO j (.slice pa z.length pc) r0.1 r0.2.1 (!r0.2.2))):=HBA.out
          refine ⟨k + 1,by go_num,by omega,?_,((HPS3.out.keep HB4.out).keep hbig).app HVR.out HK.out,HB4W.out.trans ((hbig.mono HB4W.out.size).trans (HK.out.below HBW4.out fun q hq=>Qdd fun e=>by have:=(HVR.out.lt q e).1;omega))⟩
          rw [pathM_step HZK.out,HUS.out,← List.append_assoc]
          exact TgsAt.snoc HVR.out ((HAT.out.step fun _ _ h=>h.keep HB4.out).step fun _ _ h=>h.keep hbig) (y:=((j:Int),.slice pa z.length pc,r0.1,r0.2.1,!r0.2.2)) ⟨rfl,(HIR3.out.keep HB4.out).keep hbig,rfl⟩ HO.out HK.out
        ·have HUS:=hQ ((useM_eq ps j t z).trans (hitM_no (fun h=>h.elim hk16 hk9)))
         have q1:xk ≠ 16:=fun e=>hk16 (hxk ▸ e)
         have q2:xk ≠ 9:=fun e=>hk9 (hxk ▸ e)
         have e1:=Qcf q1
         have e2:=Qcf q2
         have e3:(xk == 16) = false:=beq_eq_false_iff_ne.2 q1
         have e4:(xk == 9) = false:=beq_eq_false_iff_ne.2 q2
         clear hxk hxt hk16 hk9 p0 gl
         go_wp2
         go_roundw
         case measure=>first | (simp [intOf];done) | (simp [intOf];omega)
         case rel=>exact ⟨k + 1,by go_num,by omega,by rw [pathM_step HZK.out,HUS.out,List.append_nil];exact HTG3.out,HPS3.out,HB3W.out⟩
     ·obtain rfl:k = (Qcw t []).length:=by omega
      have hend:=HTG.out
      rw [List.take_length,pathM_all,← tgtPs_step HTJ.out] at hend
      have HEND:=hQ hend
      clear hend
      have hq2:(j:Int) + 1 ≤ 90001:=by omega
      go_wp2
      refine ⟨⟨j + 1,by go_num,HLJ.out,HEND.out,HBQ.out⟩,?_⟩
      first | (simp [intOf];done) | (simp [intOf];omega)
   ·obtain rfl:j = ps.length:=by omega
    have hk0:¬ ((ps.length:Int) < (ps.length:Int)):=by omega
    go_wp2
    go_ret
    exact ⟨_,rfl,by rw [HV.out];exact HR.out,HBR.out⟩
end Go.Proofs.YtnnfdbmanamfdaaGreat
namespace Go.Proofs.YtnnfdbmanamfdaaGreat
open Go.RowKit
theorem shapedRL_all (k:Int) (n:Nat):∀ (ks:List Tr) (i:Nat),Qcm k n i ks = true → ∀ a ∈ ks,Qct a = true
 | [],_,_,a,h=>by simp at h
 | b :: r,i,h,a,ha=>by
  rw [Qcm,Bool.and_eq_true,Bool.and_eq_true] at h
  rcases List.mem_cons.1 ha with rfl | ha
  ·exact h.1.2
  ·exact shapedRL_all k n r (i + 1) h.2 a ha
theorem shaped_kids {t:Tr} (hz:Qan t ≤ 1000) (h:Qao t = true):0 ≤ Qau t.kind t.kids.length ∧ ∀ a ∈ t.kids,Qao a = true:=by
 rw [← Qfb _ t (xA _) hz,Qg4,Bool.and_eq_true,Bool.and_eq_true] at h
 refine ⟨by have h1:=h.1.1;rw [Bool.not_eq_true'] at h1;have h2:=of_decide_eq_false h1;omega,fun a ha=>?_⟩
 have h1:=shapedRL_all _ _ _ _ h.2 a ha
 rw [← Qfb _ a (xA _) (by have h2:=mem_size ha;have h3:=Qbv t;omega)]
 exact h1
theorem two_last {α:Type} (l:List α) (h:2 ≤ l.length):∃ qs a b,l = qs ++ [a,b]:=by
 have hd:(l.drop (l.length - 2)).length = 2:=by rw [List.length_drop];omega
 match hm:l.drop (l.length - 2),hd with
 | [a,b],_=>exact ⟨l.take (l.length - 2),a,b,by rw [← hm,List.take_append_drop]⟩
theorem Qd5 {n:Nat} {must m:Int} (h:0 ≤ Qba n must m):(n:Int) = must:=by
 unfold Qba at h
 by_cases e:(n:Int) = must
 ·exact e
 ·rw [if_neg e] at h
  omega
theorem len_two {α:Type} (l:List α) (h:l.length = 2):∃ a b,l = [a,b]:=by
 match l,h with
 | [a,b],_=>exact ⟨a,b,rfl⟩
theorem len_three {α:Type} (l:List α) (h:l.length = 3):∃ a b c,l = [a,b,c]:=by
 match l,h with
 | [a,b,c],_=>exact ⟨a,b,c,rfl⟩
theorem rpieces_all:∀ N:Nat,PcC N
 | 0=>fun B l ps t v w h=>by have:=tr_pos t;omega
 | N + 1=>by
  have ih:=rpieces_all N
  intro B l ps t v w hN ht hs hz hl hB hb
  obtain ⟨h1,h2⟩:=shaped_kids hz hs
  have hkl:=ht.kl
  obtain ⟨k,x,ls,ks⟩:=t
  obtain ⟨vk,vx,vla,vll,vlc,vka,vkl,vkc⟩:=v
  simp only [Tr.kind,Tr.text,Tr.leads,Tr.kids] at hkl h1 h2
  obtain ⟨rfl,rfl,rfl,rfl⟩:=hkl
  by_cases h0:vk ≤ 0 ∨ 23 ≤ vk
  ·have hm:Qau vk ks.length = -1:=by unfold Qau;simp only [show vk ≠ 1 from by omega,show vk ≠ 2 from by omega,show vk ≠ 3 from by omega,show vk ≠ 4 from by omega,show vk ≠ 5 from by omega,show vk ≠ 6 from by omega,show vk ≠ 7 from by omega,show vk ≠ 8 from by omega,show vk ≠ 9 from by omega,show vk ≠ 10 from by omega,show vk ≠ 11 from by omega,show vk ≠ 12 from by omega,show vk ≠ 13 from by omega,show vk ≠ 14 from by omega,show vk ≠ 15 from by omega,show vk ≠ 16 from by omega,show vk ≠ 17 from by omega,show vk ≠ 18 from by omega,show vk ≠ 19 from by omega,show vk ≠ 20 from by omega,show vk ≠ 21 from by omega,show vk ≠ 22 from by omega,if_false]
   omega
  ·rcases kid_cases h0 with rfl | rfl | rfl | rfl | rfl | rfl | rfl | rfl | rfl | rfl | rfl | rfl | rfl | rfl | rfl | rfl | rfl | rfl | rfl | rfl | rfl | rfl
   ·exact rpieces_1 ih B l ps vx ls ks vla vka vlc vkc w hN ht (fun j k hk=>h2 k (List.mem_of_getElem? hk)) hz hl hB hb
   ·have hn:2 ≤ ks.length:=by
     rcases Nat.lt_or_ge ks.length 2 with h' | h'
     ·have hm:Qau 2 ks.length = -1:=by show (if 2 ≤ (ks.length:Int) then 6 + max 0 ((ks.length:Int) - 3) else -1) = _;rw [if_neg (by omega)]
      omega
     ·exact h'
    obtain ⟨qs,a,b,rfl⟩:=two_last ks hn
    have hlen:(qs ++ [a,b]).length = qs.length + 2:=by simp
    rw [hlen] at ht ⊢
    exact rpieces_2 ih B l ps vx ls qs a b vla vka vlc vkc w hN ht (h2 a (by simp)) (h2 b (by simp)) (fun k hk=>h2 k (by simp [hk])) hz hl hB hb
   ·have hn:=Qd5 (n:=ks.length) (must:=1) (m:=3) h1
    obtain ⟨a,rfl⟩:=List.length_eq_one_iff.1 (show ks.length = 1 from by omega)
    exact rpieces_3 ih B l ps vx ls a vla vka vlc vkc w hN ht (h2 a (by simp)) hz hl hB hb
   ·have hn:=Qd5 (n:=ks.length) (must:=1) (m:=2) h1
    obtain ⟨a,rfl⟩:=List.length_eq_one_iff.1 (show ks.length = 1 from by omega)
    exact rpieces_4 ih B l ps vx ls a vla vka vlc vkc w hN ht (h2 a (by simp)) hz hl hB hb
   ·obtain rfl:ks = []:=List.eq_nil_of_length_eq_zero (by have hn:=Qd5 (n:=ks.length) (must:=0) (m:=1) h1;omega)
    exact rpieces_5 ih B l ps vx ls vla vka vlc vkc w hN ht hz hl hB hb
   ·obtain rfl:ks = []:=List.eq_nil_of_length_eq_zero (by have hn:=Qd5 (n:=ks.length) (must:=0) (m:=1) h1;omega)
    exact rpieces_6 ih B l ps vx ls vla vka vlc vkc w hN ht hz hl hB hb
   ·obtain rfl:ks = []:=List.eq_nil_of_length_eq_zero (by have hn:=Qd5 (n:=ks.length) (must:=0) (m:=1) h1;omega)
    exact rpieces_7 ih B l ps vx ls vla vka vlc vkc w hN ht hz hl hB hb
   ·have hn:=Qd5 (n:=ks.length) (must:=1) (m:=2) h1
    obtain ⟨a,rfl⟩:=List.length_eq_one_iff.1 (show ks.length = 1 from by omega)
    exact rpieces_8 ih B l ps vx ls a vla vka vlc vkc w hN ht (h2 a (by simp)) hz hl hB hb
   ·obtain rfl:ks = []:=List.eq_nil_of_length_eq_zero (by have hn:=Qd5 (n:=ks.length) (must:=0) (m:=1) h1;omega)
    exact rpieces_9 ih B l ps vx ls vla vka vlc vkc w hN ht hz hl hB hb
   ·obtain rfl:ks = []:=List.eq_nil_of_length_eq_zero (by have hn:=Qd5 (n:=ks.length) (must:=0) (m:=1) h1;omega)
    exact rpieces_10 ih B l ps vx ls vla vka vlc vkc w hN ht hz hl hB hb
   ·obtain rfl:ks = []:=List.eq_nil_of_length_eq_zero (by have hn:=Qd5 (n:=ks.length) (must:=0) (m:=1) h1;omega)
    exact rpieces_11 ih B l ps vx ls vla vka vlc vkc w hN ht hz hl hB hb
   ·obtain rfl:ks = []:=List.eq_nil_of_length_eq_zero (by have hn:=Qd5 (n:=ks.length) (must:=0) (m:=1) h1;omega)
    exact rpieces_12 ih B l ps vx ls vla vka vlc vkc w hN ht hz hl hB hb
   ·obtain rfl:ks = []:=List.eq_nil_of_length_eq_zero (by have hn:=Qd5 (n:=ks.length) (must:=0) (m:=1) h1;omega)
    exact rpieces_13 ih B l ps vx ls vla vka vlc vkc w hN ht hz hl hB hb
   ·obtain rfl:ks = []:=List.eq_nil_of_length_eq_zero (by have hn:=Qd5 (n:=ks.length) (must:=0) (m:=1) h1;omega)
    exact rpieces_14 ih B l ps vx ls vla vka vlc vkc w hN ht hz hl hB hb
   ·obtain rfl:ks = []:=List.eq_nil_of_length_eq_zero (by have hn:=Qd5 (n:=ks.length) (must:=0) (m:=1) h1;omega)
    exact rpieces_15 ih B l ps vx ls vla vka vlc vkc w hN ht hz hl hB hb
   ·exact rpieces_16 ih B l ps vx ls ks vla vka vlc vkc w hN ht (fun j k hk=>h2 k (List.mem_of_getElem? hk)) hz hl hB hb
   ·have hn:=Qd5 (n:=ks.length) (must:=1) (m:=0) h1
    obtain ⟨a,rfl⟩:=List.length_eq_one_iff.1 (show ks.length = 1 from by omega)
    exact rpieces_17 ih B l ps vx ls a vla vka vlc vkc w hN ht (h2 a (by simp)) hz hl hB hb
   ·exact rpieces_18 ih B l ps vx ls ks vla vka vlc vkc w hN ht (fun j k hk=>h2 k (List.mem_of_getElem? hk)) hz hl hB hb
   ·have hn:=Qd5 (n:=ks.length) (must:=3) (m:=3) h1
    obtain ⟨a,b,c,rfl⟩:=len_three ks (show ks.length = 3 from by omega)
    exact rpieces_19 ih B l ps vx ls a b c vla vka vlc vkc w hN ht (h2 a (by simp)) (h2 b (by simp)) (h2 c (by simp)) hz hl hB hb
   ·have hn:=Qd5 (n:=ks.length) (must:=2) (m:=4) h1
    obtain ⟨a,b,rfl⟩:=len_two ks (show ks.length = 2 from by omega)
    exact rpieces_20 ih B l ps vx ls a b vla vka vlc vkc w hN ht (h2 a (by simp)) (h2 b (by simp)) hz hl hB hb
   ·have hn:=Qd5 (n:=ks.length) (must:=2) (m:=1) h1
    obtain ⟨a,b,rfl⟩:=len_two ks (show ks.length = 2 from by omega)
    exact rpieces_21 ih B l ps vx ls a b vla vka vlc vkc w hN ht (h2 a (by simp)) (h2 b (by simp)) hz hl hB hb
   ·have hn:=Qd5 (n:=ks.length) (must:=1) (m:=2) h1
    obtain ⟨a,rfl⟩:=List.length_eq_one_iff.1 (show ks.length = 1 from by omega)
    exact rpieces_22 ih B l ps vx ls a vla vka vlc vkc w hN ht (h2 a (by simp)) hz hl hB hb
theorem tgts_mem {ps:List Tr} {z:Tgm} (h:z ∈ Qgp ps):progG ps = true ∧ ∃ (i:Nat) (t u:Tr),ps[i]? = some t ∧ z.1 = (i:Int) ∧ z.2.1 ∈ Qcw t [] ∧ Qc8 t z.2.1 = some u ∧ (u.kind = 16 ∨ u.kind = 9) ∧ z.2.2 = ((Qb6 ps i u.text).1,(Qb6 ps i u.text).2.1,!(Qb6 ps i u.text).2.2):=by
 unfold Qgp at h
 split at h
 ·rename_i hg
  refine ⟨hg,?_⟩
  obtain ⟨k,t,hk,hz⟩:=tgtPs_mem ps 0 h
  rw [Nat.zero_add] at hz
  unfold tgtM at hz
  rw [targets_paths] at hz
  obtain ⟨x,hx,rfl⟩:=List.mem_map.1 hz
  obtain ⟨p,hp,hx⟩:=List.mem_flatMap.1 hx
  unfold useAt at hx
  cases hf:Qc8 t p with
  | none=>rw [hf] at hx;simp at hx
  | some u =>
   rw [hf] at hx
   have hx2:x ∈ hitP ps k u p:=hx
   unfold hitP at hx2
   split at hx2
   ·rename_i hk2
    rw [List.mem_singleton] at hx2
    subst hx2
    exact ⟨k,t,u,hk,rfl,hp,hf,hk2,rfl⟩
   ·simp at hx2
 ·simp at h
theorem tgts_long {ps:List Tr} {z:Tgm} (h:z ∈ Qgp ps) (hz:Qap ps ≤ 90000):z.2.1.length ≤ 90000:=by
 obtain ⟨_,i,t,u,ht,_,hp,_⟩:=tgts_mem h
 have h1:=pathsT_long t [] z.2.1 hp
 have h2:=Qc0 ht
 have h3:=Qcy ps (i + 1)
 simp at h1
 omega
theorem kid_first:(l:List Tr) → (x:ByteArray) → kidG l x < l.length → ∃ t,l[kidG l x]? = some t ∧ t.text = x ∧ NoKid l x (kidG l x)
 | [],x,h=>by simp at h
 | a :: r,x,h=>by
  by_cases hx:a.text = x
  ·rw [kidG,if_pos hx]
   exact ⟨a,rfl,hx,fun j t hj=>absurd hj (by omega)⟩
  ·rw [kidG,if_neg hx] at h ⊢
   obtain ⟨t,h1,h2,h3⟩:=kid_first r x (by simpa using h)
   refine ⟨t,by simpa using h1,h2,fun j u hj hu=>?_⟩
   match j,hj,hu with
   | 0,_,hu =>
    injection hu with hu
    rw [← hu]
    exact hx
   | j + 1,hj,hu=>exact h3 j u (by omega) (by simpa using hu)
theorem inMod_found {ps:List Tr} {i:Nat} {x:ByteArray} (h:(Qft ps i x).2.2 = true):∃ (t k:Tr) (d:Nat),ps[i]? = some t ∧ t.kids[d]? = some k ∧ k.text = x ∧ NoKid t.kids x d ∧ Qft ps i x = ((i:Int),(d:Int),true):=by
 unfold Qft at h ⊢
 split at h
 ·rename_i hk
  cases ht:ps[i]? with
  | none =>
   rw [ht] at hk
   exact absurd hk (by simp [noTr,Tr.kids])
  | some t =>
   rw [ht,Option.getD_some] at hk
   obtain ⟨k,h1,h2,h3⟩:=kid_first t.kids x hk
   refine ⟨t,k,_,rfl,h1,h2,h3,?_⟩
   rw [Option.getD_some,if_pos hk]
 ·cases h
theorem look_found {ps:List Tr} {i:Nat} {s:ByteArray} (h:(Qb6 ps i s).2.2 = true):∃ (m d:Nat) (t k:Tr),ps[m]? = some t ∧ t.kids[d]? = some k ∧ k.text = (Qfx s).2.1 ∧ NoKid t.kids (Qfx s).2.1 d ∧ Qb6 ps i s = ((m:Int),(d:Int),true) ∧
  ((Qfx s).2.2 = true ∧ t.text = (Qfx s).1 ∨ (Qfx s).2.2 = false ∧ m = i):=by
 unfold Qb6 at h ⊢
 cases hd:(Qfx s).2.2 with
 | true =>
  rw [hd,if_pos rfl] at h
  rw [if_pos rfl]
  split at h
  ·rename_i hk
   obtain ⟨a,ha,hat,_⟩:=kid_first ps (Qfx s).1 hk
   obtain ⟨t,k,d,h1,h2,h3,h4,h5⟩:=inMod_found h
   rw [ha] at h1
   injection h1 with h1
   subst h1
   rw [if_pos hk]
   exact ⟨_,d,a,k,ha,h2,h3,h4,h5,.inl ⟨rfl,hat⟩⟩
  ·cases h
 | false =>
  rw [hd,if_neg (by decide)] at h
  rw [if_neg (by decide)]
  obtain ⟨t,k,d,h1,h2,h3,h4,h5⟩:=inMod_found h
  exact ⟨i,d,t,k,h1,h2,h3,h4,h5,.inr ⟨rfl,rfl⟩⟩
theorem shaped_find:∀ (zs:List Int) (t u:Tr),Qao t = true → Qan t ≤ 1000 → Qc8 t zs = some u → Qao u = true ∧ Qan u ≤ 1000
 | [],t,u,h,hz,hf=>by
  rw [Qc8] at hf
  injection hf with hf
  subst hf
  exact ⟨h,hz⟩
 | i :: r,t,u,h,hz,hf=>by
  unfold Qc8 at hf
  cases hk:kidB t i
  ·rw [hk] at hf;cases hf
  ·rw [hk] at hf
   obtain ⟨_,_,h3⟩:=kidB_get hk
   have hsz:=Qbw h3
   exact shaped_find r (kidAt t i) u ((shaped_kids hz h).2 _ (List.mem_of_getElem? h3)) (by omega) hf
theorem shaped_named {t:Tr} (h:Qao t = true):Qa9 (Qae t.kind) t.text = true:=by
 rw [shapedT_eq] at h
 simp at h
 exact h.1.2
theorem module_kid {t k:Tr} {d:Nat} (hz:Qan t ≤ 1000) (h:Qao t = true) (hk:t.kind = 1) (ht:t.kids[d]? = some k):k.kind = 2 ∨ k.kind = 3:=by
 rw [← Qfb _ t (xA _) hz,Qg4] at h
 simp only [Bool.and_eq_true] at h
 have h2:=h.2
 have key:∀ (l:List Tr) (n i j:Nat),Qcm 1 n i l = true → ∀ a,l[j]? = some a → a.kind = 2 ∨ a.kind = 3:=by
  intro l
  induction l with
  | nil=>intro n i j _ a ha;simp at ha
  | cons b r ih =>
   intro n i j hr a ha
   rw [Qcm] at hr
   simp only [Bool.and_eq_true] at hr
   match j,ha with
   | 0,ha =>
    injection ha with ha
    subst ha
    have:=hr.1.1
    unfold Qhh at this
    rw [if_pos rfl] at this
    simpa using this
   | j + 1,ha=>exact ih n (i + 1) j hr.2 a (by simpa using ha)
 rw [hk] at h2
 exact key _ _ _ d h2 k ht
theorem kinds_agree {ps:List Tr} {m d:Nat} {t u k:Tr} (hs:Qao u = true) (hu:u.kind = 16 ∨ u.kind = 9) (_ht:ps[m]? = some t) (hT:Qao t = true) (hk1:t.kind = 1) (hz:Qan t ≤ 1000) (hk:t.kids[d]? = some k) (hx:k.text = (Qfx u.text).2.1):(u.kind = 16 ↔ k.kind = 2):=by
 have hks:Qao k = true:=(shaped_kids hz hT).2 _ (List.mem_of_getElem? hk)
 have hkk:=module_kid hz hT hk1 hk
 have hun:=shaped_named hs
 have hkn:=shaped_named hks
 have ck:Qam (bl k.text) = 1 ∧ k.kind = 2 ∨ Qam (bl k.text) = 2 ∧ k.kind = 3:=by
  rcases hkk with e | e
  ·rw [e] at hkn
   exact .inl ⟨name_func hkn,e⟩
  ·rw [e] at hkn
   exact .inr ⟨name_alias hkn,e⟩
 have cu:(Qam (bl u.text) = 1 ∨ Qam (bl u.text) = 3) ∧ u.kind = 16 ∨ (Qam (bl u.text) = 2 ∨ Qam (bl u.text) = 4) ∧ u.kind = 9:=by
  rcases hu with e | e
  ·rw [e] at hun
   exact .inl ⟨name_call hun,e⟩
  ·rw [e] at hun
   exact .inr ⟨name_named hun,e⟩
 by_cases hd:dotP u.text < u.text.size
 ·have hdv:(Qfx u.text).2.1 = u.text.extract (dotP u.text + 1) u.text.size:=by unfold Qfx;rw [if_pos hd]
  rw [hdv] at hx
  have hb:bl k.text = (bl u.text).drop (dotG (bl u.text) + 1):=by
   rw [hx,bl_name]
   rfl
  have hdl:dotG (bl u.text) < (bl u.text).length:=by rw [Qfi];exact hd
  have c1:1 ≤ Qam (bl u.text) ∧ Qam (bl u.text) ≤ 4:=by omega
  have hcd:=class_dot c1.1 c1.2 hdl
  have hcf:=class_first (l:=bl k.text) (by omega)
  rw [hb,lnk_at_drop,← hb] at hcf
  rcases hcd with ⟨a1,a2⟩ | ⟨a1,a2⟩
  ·rw [a2] at hcf
   have:=of_decide_eq_true hcf.symm
   omega
  ·rw [a2] at hcf
   have:=of_decide_eq_false hcf.symm
   omega
 ·have hdv:(Qfx u.text).2.1 = u.text:=by unfold Qfx;rw [if_neg hd]
  rw [hdv] at hx
  rw [hx] at ck
  omega
end Go.Proofs.YtnnfdbmanamfdaaGreat
