/- Part 35 -/
import Derived.Test.YtclkilljmdkfaaaGreatTf34
import Derived.Deep.DeepCutAuto
set_option maxRecDepth 100000
set_option maxHeartbeats 4000000
namespace Go.Proofs.YtclkilljmdkfaaaGreat
open Go.RowKit Go.Shelf
abbrev Zk1 (B:Nat) (w:World) (ps:List Tr) (A:Option Addr) (c:Nat):Prop:=TrAt (fun k=>k<B) w (Qbp ps) ⟨0,⟨#[]⟩,none,0,0,A,ps.length,c⟩
def TgtC (B:Nat) (ps:List Tr) (A:Option Addr) (c m N:Nat):Prop:=∀ (t:Tr) (v:TV) (lv:Value) (ws:List TgV) (pv:Value) (p:List Int) (w:World),SizeOf.sizeOf t≤N→TrAt (fun k=>k<B) w t v→Zk1 B w ps A c→HandT B w lv ws pv p →
 (p≠[]∨¬ (t.kind=16∨t.kind=9))→Qbh t=true→ws.length+Qah t≤100000→p.length+Qah t≤1000000 →
 Calls Tryz.prog 135 #[lv,.slice A ps.length c,.agg #[.int .i64 m,pv],.agg #[.int .i64 v.kind,.string v.text,.slice v.la v.ll v.lc,.slice v.ka v.kl v.kc]] w (TPost B lv ws pv p ps m t w)
abbrev plO (m:Int) (pv:Value):Obj:=.cells #[.int .i64 m,pv] 119
theorem Zch (w:World) (a b:Obj):((w.alloc a).alloc b).heap[w.heap.size]? = some a∧((w.alloc a).alloc b).heap[w.heap.size+1]? = some b :=
 ⟨(((xC (w.alloc a).heap.size _).alloc (xA _) _).block w.heap.size (by simp)).trans (xH w _),by rw [←xI w a];exact xH _ _⟩
theorem Zci (w:World) (a b:Obj):Below w.heap.size w ((w.alloc a).alloc b):=((xC w.heap.size w).alloc (xA _) _).alloc (by rw [xI];omega) _
abbrev tgO (a:Int) (pv:Value) (b d:Int) (f:Bool):Obj:=.cells #[.int .i64 a,pv,.int .i64 b,.int .i64 d,.bool f] 121
def UseC (m:Nat) (p:List Int) (w1:World) (s:Value) (wx:World):Prop:=∃ (g:Nat) (y:Value),s = .pointer (some ⟨g,0,none⟩)∧wx.heap[g]? = some (plO m y)∧IRow wx w1.heap.size y p∧Below w1.heap.size w1 wx
theorem Zgd {m:Nat} {p:List Int} {w1 w2:World} {y:Value} (hz:w2.heap[w1.heap.size]? = some (plO 0 (.slice none 0 0))) (hy:IRow w2 (w1.heap.size+1) y p) (hb:Below w1.heap.size w1 w2) :
  UseC m p w1 (.pointer (some ⟨w1.heap.size,0,none⟩)) ((w2.setCell ⟨w1.heap.size,0,none⟩ (.int .i64 m)).setCell ⟨w1.heap.size,1,none⟩ y) :=
 ⟨w1.heap.size,y,rfl,Qa2 (Qa2 hz rfl) rfl,Qg4 (Qu5 (Qu5 hy (xW _) _) (xW _) _) (Nat.le_succ _),(hb.setCell (p:=⟨w1.heap.size,0,none⟩) (xA _) _).setCell (p:=⟨w1.heap.size,1,none⟩) (xA _) _⟩
theorem Zcj {m:Nat} {p:List Int} {w1 w2:World} {y:Value} (hy:IRow w2 w1.heap.size y p) (hb:Below w1.heap.size w1 w2):UseC m p w1 (.pointer (some ⟨w2.heap.size,0,none⟩)) (w2.alloc (plO m y)) :=
 ⟨w2.heap.size,y,rfl,xH _ _,hy.keep (Qe2 _ _),hb.alloc hb.size _⟩
theorem Zge (B:Nat) (ps:List Tr) (A:Option Addr) (c m N:Nat) (hf:Qhs (Qbp ps)=true) (hm:m<ps.length) (ih:TgtC B ps A c m N):TgtC B ps A c m (N+1):=by
 intro t v lv ws pv p w hN ht hr hh hne hw h1 h2
 obtain ⟨LA,lc,hlv⟩:=Qhm hh.hl
 obtain ⟨PA,pc,hpv⟩:=Qhm hh.hp
 subst hlv hpv
 have hkl:=ht.kl.1
 have hkd:=ht.kl.2.2.1
 have htx:=ht.kl.2.2.2
 obtain ⟨vk,vx,vla,vll,vlc,vka,vkl,vkc⟩:=v
 simp only at hkl hkd htx
 subst hkl hkd htx
 obtain ⟨x0,x1⟩:=Zch w (plO m (.slice PA p.length pc)) (trO ⟨t.kind,t.text,vla,vll,vlc,vka,t.kids.length,vkc⟩)
 have hb0:=Zci w (plO m (.slice PA p.length pc)) (trO ⟨t.kind,t.text,vla,vll,vlc,vka,t.kids.length,vkc⟩)
 obtain ⟨W0,hW0⟩:∃ W0,W0=(w.alloc (.cells #[.int .i64 m,.slice PA p.length pc] 119)).alloc (.cells #[.int .i64 t.kind,.string t.text,.slice vla vll vlc,.slice vka t.kids.length vkc] 25):=⟨_,rfl⟩
 have hW0':W0=(w.alloc (plO m (.slice PA p.length pc))).alloc (trO ⟨t.kind,t.text,vla,vll,vlc,vka,t.kids.length,vkc⟩):=hW0
 rw [←hW0'] at x0 x1 hb0
 have HW0:=hQ hW0.symm
 have HX:=hQ x1
 have HPX:=hQ x0
 have HB0:=hQ hb0
 have HT:=hQ (ht.lows (hb0.mono hh.hb))
 have HR:=hQ (hr.lows (hb0.mono hh.hb))
 have HH:=hQ (hh.later hb0)
 have HH0:=hQ hh
 have HIH:=hQ ih
 have HF:=hQ hf
 have HM:=hQ hm
 have H1:=hQ h1
 have H2:=hQ h2
 have HN:=hQ hN
 have HWD:=hQ (Qb3 hw).2.2
 have HTX:=hQ (Nat.le_of_lt (Qb3 hw).1)
 have HKL:=hQ (show t.kids.length≤100000 from by have:=Qa0 t.kids;have:=Qa3 t;omega)
 have HPL2:=hQ (show p.length≤1000000 from by omega)
 have HLW:=hQ (show ws.length+1≤100000 from by have:=Qa3 t;omega)
 have HNE:=hQ hne
 have e0:=Qab x1 0 _ rfl
 have e3:W0.cell? ⟨w.heap.size+1,3,none⟩=some (.slice vka t.kids.length vkc):=Qab x1 3 _ rfl
 have el:=Qaa x1
 clear ht hr hh hb0 ih hf hm h1 h2 hN hw x0 x1 hW0 hW0' hne
 have hK:(t.kind=16∨t.kind=9)∨¬ (t.kind=16∨t.kind=9):=Decidable.em _
 rcases hK with hk | hk
 ·skip
  have hnp:p≠[]:=HNE.out.resolve_right (fun h=>h hk)
  have HNP:=hQ hnp
  have HHM:=hQ (Zgb (ps:=ps) (m:=m) (t:=t) (p:=p) hk)
  obtain ⟨iv,hiv,vz0,vz1,vz2⟩:=info_parts Zga
  obtain ⟨r0,hr0⟩:∃ r,r=Qby ps m t.text:=⟨_,rfl⟩
  have HLK:=hQ (fun w' (hb:Below W0.heap.size W0 w')=>Qor _ A c ps m t.text w' (HR.out.keep hb) HF.out HTX.out HM.out)
  rw [←hr0] at HLK HHM
  clear hr0 hnp e3
  go_enter Tryz.func135,Tryz.ntmps135
  go_upto_region 1 with fail
  rw [HW0.out]
  have k0:W0.cell? ⟨w.heap.size,0,none⟩=some (.int .i64 m):=Qab HPX.out 0 _ rfl
  have e1:W0.cell? ⟨w.heap.size+1,1,none⟩=some (.string t.text):=Qab HX.out 1 _ rfl
  have ek:=Qaa HPX.out
  have ec:W0.cell? ⟨w.heap.size+1,0,none⟩=some (.int .i64 16)∨W0.cell? ⟨w.heap.size+1,0,none⟩=some (.int .i64 9):=by
   have e0':W0.cell? ⟨w.heap.size+1,0,none⟩=some (.int .i64 t.kind):=e0
   rcases hk with h | h
   ·rw [h] at e0';exact .inl e0'
   ·rw [h] at e0';exact .inr e0'
  clear e0 hk
  rcases ec with e0 | e0
  all_goals
   go_upto_region 3 with (go_at_call 127;refine (HLK.out _ (xC _ _)).mono ?_;rintro e w1 ⟨rfl,hb⟩;have HB1:=hQ hb;clear hb)
   have HH1:=hQ (HH.out.later HB1.out)
   clear k0 e0 e1 ek el
   have k0:w1.cell? ⟨w.heap.size,0,none⟩=some (.int .i64 m):=Qab ((HB1.out.block _ (Qaa HPX.out)).trans HPX.out) 0 _ rfl
   have k1:w1.cell? ⟨w.heap.size,1,none⟩=some (.slice PA p.length pc):=Qab ((HB1.out.block _ (Qaa HPX.out)).trans HPX.out) 1 _ rfl
   have HCI:=hQ (fun (w':World) (hb:Below w1.heap.size w1 w')=>Qxh PA pc p w' (HH1.out.later hb).hp.intsAt HNP.out HPL2.out)
   have HP1:=hQ ((HB1.out.block _ (Qaa HPX.out)).trans HPX.out)
   go_cut [12] (fun s12 wx=>UseC m p w1 s12 wx)
   case first =>
    have n0:w1.heap.size≠w.heap.size:=World.new_ne w1 _ k0
    have n1:w.heap.size≠w1.heap.size:=n0.symm
    go_region_held3 (fun w'=>w'.cell? ⟨w.heap.size,0,none⟩=some (.int .i64 m)∧w'.cell? ⟨w.heap.size,1,none⟩=some (.slice PA p.length pc)) (first | with_reducible exact ⟨k0,k1⟩ | go_keep) (first
     | (go_at_call 117;refine (HCI.out w1.drew (xC _ _).drew).mono ?_;rintro e w2 ⟨y,rfl,hy,hb⟩;obtain ⟨YA,yn,yc,rfl⟩:=hy.slice;have HY:=hQ hy;have HB2:=hQ (show Below w1.heap.size w1 w2 from (show Below w1.heap.size w1 w1.drew from (xC _ _).drew).trans hb);have HTAG1:=hQ True.intro;clear k0 k1;have k0:w2.cell? ⟨w.heap.size,0,none⟩=some (.int .i64 m):=Qab ((HB2.out.block _ (Qaa HP1.out)).trans HP1.out) 0 _ rfl;have k1:w2.cell? ⟨w.heap.size,1,none⟩=some (.slice PA p.length pc):=Qab ((HB2.out.block _ (Qaa HP1.out)).trans HP1.out) 1 _ rfl;clear hy hb)
     | (go_at_call 117;refine (HCI.out ((w1.alloc (.cells #[.int .i64 0,.slice none 0 0] 119)).drew) ((xC _ _).alloc (xA _) _).drew).mono ?_;rintro e w2 ⟨y,rfl,hy,hb⟩;obtain ⟨YA,yn,yc,rfl⟩:=hy.slice;have HY:=hQ hy;have HB2:=hQ (show Below w1.heap.size w1 w2 from (((xC w1.heap.size w1).alloc (xA _) (.cells #[.int .i64 0,.slice none 0 0] 119)).drew).trans (hb.mono (by show _≤(w1.alloc _).heap.size;rw [xI];omega)));have hzb:=(show w2.heap[w1.heap.size]? = some (.cells #[.int .i64 0,.slice none 0 0] 119 (0,0)) from (hb.block _ (by show _<(w1.alloc _).heap.size;rw [xI];omega)).trans (xH w1 _));have HZB:=hQ hzb;have zf:∀ o,w2.frozen? ⟨w1.heap.size,o,none⟩=false:=(fun o=>xL hzb _);have zl:=Qaa hzb;have z0:w2.cell? ⟨w1.heap.size,0,none⟩=some (.int .i64 0):=Qab hzb 0 _ rfl;have z1:w2.cell? ⟨w1.heap.size,1,none⟩=some (.slice none 0 0):=Qab hzb 1 _ rfl;have HTAG2:=hQ True.intro;clear k0 k1;have k0:w2.cell? ⟨w.heap.size,0,none⟩=some (.int .i64 m):=Qab ((HB2.out.block _ (Qaa HP1.out)).trans HP1.out) 0 _ rfl;have k1:w2.cell? ⟨w.heap.size,1,none⟩=some (.slice PA p.length pc):=Qab ((HB2.out.block _ (Qaa HP1.out)).trans HP1.out) 1 _ rfl;clear hy hb hzb)
     | fail)
    all_goals
     go_wp2_with fail
     go_meet
     first
      | (have hh:=HZB.out;clear hh;exact Zgd HZB.out (Qg4 HY.out (by show _≤(w1.alloc _).heap.size;rw [xI];omega)) HB2.out)
      | exact Zcj (Qg4 HY.out (xA _)) HB2.out
   case rest =>
    obtain ⟨w2,hww⟩:∃ w',w'=wc:=⟨_,rfl⟩
    subst hww
    obtain ⟨gu,y,rfl,hub,huy,hbb⟩:=hcut
    obtain ⟨YA,yn,yc,rfl⟩:=huy.slice
    have HUY:=hQ huy
    have HUB:=hQ hub
    have HBB:=hQ (HB1.out.trans (hbb.mono HB1.out.size))
    have HH2:=hQ (HH1.out.later hbb)
    have hbA:=Qe2 w2 (tgO m (.slice YA yn yc) r0.1 r0.2.1 (!r0.2.2))
    have HVR:=hQ (show TRow (w2.alloc (tgO m (.slice YA yn yc) r0.1 r0.2.1 (!r0.2.2))) B (.slice LA ws.length lc) ws from (HH2.out.later hbA).hl)
    have HN4:=hQ (xM (xH w2 (tgO m (.slice YA yn yc) r0.1 r0.2.1 (!r0.2.2))))
    have HONE:=hQ (show ∀ u∈[(.int .i64 m:Value),.slice YA yn yc,.int .i64 r0.1,.int .i64 r0.2.1,.bool (!r0.2.2)],u.oneCell'=true from by intro v hv;simp at hv;rcases hv with rfl | rfl | rfl | rfl | rfl <;> rfl)
    have HBW4:=hQ (show B≤(w2.alloc (tgO m (.slice YA yn yc) r0.1 r0.2.1 (!r0.2.2))).heap.size from (HH2.out.later hbA).hb)
    have HX4:=hQ (show (w2.alloc (tgO m (.slice YA yn yc) r0.1 r0.2.1 (!r0.2.2))).heap[w.heap.size+1]? = some (trO ⟨t.kind,t.text,vla,vll,vlc,vka,t.kids.length,vkc⟩) from (hbA.block _ (Qaa ((HBB.out.block _ (Qaa HX.out)).trans HX.out))).trans ((HBB.out.block _ (Qaa HX.out)).trans HX.out))
    have HSZW:=hQ (show W0.heap.size≤w1.heap.size from HB1.out.size)
    have u0:w2.cell? ⟨gu,0,none⟩=some (.int .i64 m):=Qab hub 0 _ rfl
    have u1:w2.cell? ⟨gu,1,none⟩=some (.slice YA yn yc):=Qab hub 1 _ rfl
    have ul:=Qaa hub
    clear huy hub hbb hbA k0 k1
    go_wp2_with (at_builtin;refine Qfn _ rfl _ _ 116 rfl B 121 iv _ 5 56 Tryz.underlying116 hiv vz0 vz1 vz2 rfl (by decide) _ ws.length (Qff ws) rfl HVR.out ⟨w2.heap.size,0,none⟩ 1 1 [.int .i64 m,.slice YA yn yc,.int .i64 r0.1,.int .i64 r0.2.1,.bool (!r0.2.2)] rfl rfl HN4.out HONE.out (by decide) (by have:=HLW.out;unfold maxLen;omega) (by have:=HLW.out;omega) HBW4.out ?_;intro g3 c3 w3 hown hk3 hg hlt3;have HO:=hQ hown;have HK:=hQ hk3;have HG:=hQ (Qlc (n:=ws.length+1) (c:=c3) hg);have e3:w3.cell? ⟨w.heap.size+1,3,none⟩=some (.slice vka t.kids.length vkc):=Qab ((hk3.block _ (Qaa HX4.out) (Qc2 (Qgy HVR.out HX4.out (by decide)))).trans HX4.out) 3 _ rfl;have el:=xK w3 _ e3;clear hown hk3 hg hlt3 u0 u1 ul)
    clear e3 el
    have HS:=hQ (show Zk0 B (.slice LA ws.length lc) ws (.slice PA p.length pc) p (Qy2 ps m t p) W0 (.slice (some ⟨g3,0,none⟩) (ws.length+1) c3) w3 from by
     rw [HHM.out]
     exact Zjk (y:=((m:Int),.slice YA yn yc,r0.1,r0.2.1,!r0.2.2)) HH.out HBB.out ⟨rfl,Qg4 HUY.out HSZW.out,rfl⟩ HO.out HK.out HG.out)
    go_loopw [0,51] (fun l i wr=>∃ j:Nat,j≤t.kids.length∧i = .int .i64 (j:Int)∧Zk0 B (.slice LA ws.length lc) ws (.slice PA p.length pc) p (Qy2 ps m t p ++ Zb9 ps m (t.kids.take j) p) W0 l wr) (fun _ i _=>t.kids.length-(intOf i).toNat)
    case atStart=>exact ⟨0,xZ _,rfl,by rw [List.take_zero,show Zb9 ps m [] p = [] from rfl,List.append_nil];exact HS.out⟩
    case round =>
     obtain ⟨j,hj,rfl,vs',hvr,hva,hks,hlt⟩:=hrel
     obtain ⟨wj,hwj⟩:∃ wj,ws ++ vs'=wj:=⟨_,rfl⟩
     rw [hwj] at hvr
     obtain ⟨LJ,lcj,hlj⟩:=Qhm hvr
     subst hlj
     have HJ:=hQ (show HandT B wr (.slice LJ wj.length lcj) wj (.slice PA p.length pc) p from ⟨hvr,(HH.out.keep hks).hp,(HH.out.keep hks).hb⟩)
     have HVA:=hQ hva
     have HWJ:=hQ hwj
     have HKS:=hQ hks
     have HLT:=hQ hlt
     have HBW:=hQ (show Below B W0 wr from hks.below HH.out.hb (fun k hk=>Qhn HH.out hk))
     have HXX:=hQ (show wr.heap[w.heap.size+1]? = some (trO ⟨t.kind,t.text,vla,vll,vlc,vka,t.kids.length,vkc⟩) from (hks.block _ (Qaa HX.out) (Qkr HH0.out (Nat.le_succ _))).trans HX.out)
     have HPP:=hQ (show wr.heap[w.heap.size]? = some (plO m (.slice PA p.length pc)) from (hks.block _ (Qaa HPX.out) (Qkr HH0.out (xA _))).trans HPX.out)
     clear hvr hva hks hlt hwj
     by_cases hlt:j<t.kids.length
     ·obtain ⟨kb,ko,hka⟩:∃ b off,vka=some ⟨b,off,none⟩:=HT.out.addr.resolve_left (by show ¬ t.kids.length=0;omega)
      subst hka
      obtain ⟨kd,hkd⟩:∃ kd,t.kids[j]? = some kd:=⟨_,xF hlt⟩
      obtain ⟨u,c0,c1,c2,c3,hu⟩:=(HT.out.lows HBW.out).at rfl hkd
      have hcap:=HT.out.caps.2
      simp only at hcap
      have k3:=Qab HXX.out 3 _ rfl
      have hkl2:=Qas hkd
      have hks2:=Qr4 hkd
      have hks3:=Qe3 hkd
      have hks4:=Qfc t.kids (j+1)
      have hks5:=Qa3 t
      have hks6:vs'.length≤1+Qam (t.kids.take j):=by
       rw [HVA.out.1,xB]
       have q1:=Qvp ps m t p
       have q2:=Qvq ps m (t.kids.take j) p
       omega
      have hks7:wj.length=ws.length+vs'.length:=by rw [←HWJ.out,xB]
      have HB1:=hQ (show wj.length+Qah kd≤100000 from by have:=H1.out;omega)
      have HB2:=hQ (show (p ++ [(j:Int)]).length+Qah kd≤1000000 from by have:=H2.out;rw [xB,List.length_singleton];omega)
      have HSZ:=hQ (show SizeOf.sizeOf kd≤N from by have:=HN.out;omega)
      have HUK:=hQ hkd
      have HU:=hQ hu
      have HPL:=hQ (show p.length+1≤maxLen from by have:=H2.out;unfold maxLen;omega)
      have HPB:=hQ (show (p.length+1)*8≤140737488355328 from by have:=H2.out;omega)
      clear hkl2 hks2 hks3 hks4 hks5 hks6 hks7 hkd hu
      have ekb:=xK wr _ c0
      go_upto_region 8 with fail
      have HBD:=hQ (show Below wr.heap.size wr (wr.alloc (trO u)).drew from (Qe2 wr (trO u)).drew)
      have HBA:=hQ (show Below wr.heap.size wr (((wr.alloc (trO u)).drew).alloc (.cells #[.int .i64 (j:Int)] 3)) from HBD.out.alloc HBD.out.size _)
      have HJA:=hQ (show HandT B (((wr.alloc (trO u)).drew).alloc (.cells #[.int .i64 (j:Int)] 3)) (.slice LJ wj.length lcj) wj (.slice PA p.length pc) p from HJ.out.later HBA.out)
      have HTB:=hQ (show (((wr.alloc (trO u)).drew).alloc (.cells #[.int .i64 (j:Int)] 3)).heap[w.heap.size+1]? = some (trO ⟨t.kind,t.text,vla,vll,vlc,some ⟨kb,ko,none⟩,t.kids.length,vkc⟩) from (HBA.out.block _ (Qaa HXX.out)).trans HXX.out)
      have HQB:=hQ (show (((wr.alloc (trO u)).drew).alloc (.cells #[.int .i64 (j:Int)] 3)).heap[w.heap.size]? = some (plO m (.slice PA p.length pc)) from (HBA.out.block _ (Qaa HPP.out)).trans HPP.out)
      have HKB:=hQ (show (((wr.alloc (trO u)).drew).alloc (.cells #[.int .i64 (j:Int)] 3)).heap[wr.heap.size]? = some (trO u) from (Below.heap_alloc _ _ _ (by show _<(wr.alloc (trO u)).heap.size;rw [xI];omega)).trans (xH wr (trO u)))
      have HNA:=hQ (show ∀ (i:Nat) (x:Value),[(Value.int .i64 (j:Int))][i]? = some x→(((wr.alloc (trO u)).drew).alloc (.cells #[.int .i64 (j:Int)] 3)).cell? ((⟨wr.heap.size+1,0,none⟩:Addr).add i)=some x from xM (cs:=#[.int .i64 (j:Int)]) (t:=3) (fr:=(0,0)) (by
       have:=xH (wr.alloc (trO u)).drew (.cells #[.int .i64 (j:Int)] 3)
       rwa [show (wr.alloc (trO u)).drew.heap.size=wr.heap.size+1 from xI wr (trO u)] at this))
      have HNO:=hQ (show ∀ x∈[(Value.int .i64 (j:Int))],x.oneCell'=true from by intro x hx;rw [List.mem_singleton] at hx;rw [hx];rfl)
      obtain ⟨ii,hii,iz0,iz1,iz2⟩:=info_parts Qmz
      clear c0 c1 c2 c3 k3 ekb
      have k0:(wr.alloc (.cells #[.int .i64 u.kind,.string u.text,.slice u.la u.ll u.lc,.slice u.ka u.kl u.kc] 25)).drew.cell? ⟨w.heap.size,0,none⟩=some (.int .i64 m):=(HBD.out.cell (p:=⟨w.heap.size,0,none⟩) (Qaa HPP.out)).trans (Qab HPP.out 0 _ rfl)
      have k1:(wr.alloc (.cells #[.int .i64 u.kind,.string u.text,.slice u.la u.ll u.lc,.slice u.ka u.kl u.kc] 25)).drew.cell? ⟨w.heap.size,1,none⟩=some (.slice PA p.length pc):=(HBD.out.cell (p:=⟨w.heap.size,1,none⟩) (Qaa HPP.out)).trans (Qab HPP.out 1 _ rfl)
      have m0:(wr.alloc (.cells #[.int .i64 u.kind,.string u.text,.slice u.la u.ll u.lc,.slice u.ka u.kl u.kc] 25)).drew.cell? ⟨wr.heap.size,0,none⟩=some (.int .i64 u.kind):=Qab (xH wr (trO u)) 0 _ rfl
      have m1:(wr.alloc (.cells #[.int .i64 u.kind,.string u.text,.slice u.la u.ll u.lc,.slice u.ka u.kl u.kc] 25)).drew.cell? ⟨wr.heap.size,1,none⟩=some (.string u.text):=Qab (xH wr (trO u)) 1 _ rfl
      have m2:(wr.alloc (.cells #[.int .i64 u.kind,.string u.text,.slice u.la u.ll u.lc,.slice u.ka u.kl u.kc] 25)).drew.cell? ⟨wr.heap.size,2,none⟩=some (.slice u.la u.ll u.lc):=Qab (xH wr (trO u)) 2 _ rfl
      have m3:(wr.alloc (.cells #[.int .i64 u.kind,.string u.text,.slice u.la u.ll u.lc,.slice u.ka u.kl u.kc] 25)).drew.cell? ⟨wr.heap.size,3,none⟩=some (.slice u.ka u.kl u.kc):=Qab (xH wr (trO u)) 3 _ rfl
      have p0:wr.cell? ⟨w.heap.size,0,none⟩=some (.int .i64 m):=Qab HPP.out 0 _ rfl
      have p1:wr.cell? ⟨w.heap.size,1,none⟩=some (.slice PA p.length pc):=Qab HPP.out 1 _ rfl
      have pel:=Qaa HPP.out
      go_region_held3 (fun w'=>w'.cell? ⟨w.heap.size,0,none⟩=some (.int .i64 m)∧w'.cell? ⟨w.heap.size,1,none⟩=some (.slice PA p.length pc)∧w'.cell? ⟨wr.heap.size,0,none⟩=some (.int .i64 u.kind)∧w'.cell? ⟨wr.heap.size,1,none⟩=some (.string u.text)∧w'.cell? ⟨wr.heap.size,2,none⟩=some (.slice u.la u.ll u.lc)∧w'.cell? ⟨wr.heap.size,3,none⟩=some (.slice u.ka u.kl u.kc)) (first | with_reducible exact ⟨k0,k1,m0,m1,m2,m3⟩ | go_keep) (first
       | (refine Qvf _ (by rfl) _ _ _ (by rfl) B 3 ii _ 1 8 Tryz.underlying35 hii iz0 iz1 iz2 rfl (by decide) _ p.length (p.map (Value.int .i64)) (by rfl) HJA.out.hp ⟨wr.heap.size+1,0,none⟩ 1 1 [.int .i64 (j:Int)] (by rfl) (by rfl) HNA.out HNO.out (by decide) HPL.out HPB.out HJA.out.hb ?_;intro g cg w2 hown hk hg hlt2;have hlp:=Qlc (n:=p.length+1) (c:=cg) hg;have hpp:=HJA.out.path hk (Qr5 hown);have HP1:=hQ hpp.1;have HK1:=hQ hpp.2;have HLP:=hQ hlp;have HQB:=hQ (show w2.heap[w.heap.size]? = some (plO m (.slice PA p.length pc)) from (HK1.out.block _ (Qaa HQB.out) (Qh7 HJA.out HQB.out)).trans HQB.out);have HKB:=hQ (show w2.heap[wr.heap.size]? = some (trO u) from (HK1.out.block _ (Qaa HKB.out) (Qh6 HJA.out HKB.out)).trans HKB.out);clear k0 k1 m0 m1 m2 m3;have k0:w2.cell? ⟨w.heap.size,0,none⟩=some (.int .i64 m):=Qab HQB.out 0 _ rfl;have k1:w2.cell? ⟨w.heap.size,1,none⟩=some (.slice PA p.length pc):=Qab HQB.out 1 _ rfl;have m0:w2.cell? ⟨wr.heap.size,0,none⟩=some (.int .i64 u.kind):=Qab HKB.out 0 _ rfl;have m1:w2.cell? ⟨wr.heap.size,1,none⟩=some (.string u.text):=Qab HKB.out 1 _ rfl;have m2:w2.cell? ⟨wr.heap.size,2,none⟩=some (.slice u.la u.ll u.lc):=Qab HKB.out 2 _ rfl;have m3:w2.cell? ⟨wr.heap.size,3,none⟩=some (.slice u.ka u.kl u.kc):=Qab HKB.out 3 _ rfl;clear hown hk hg hlt2 hlp hpp)
       | (go_at_call 135;refine (HIH.out kd u _ wj _ (p ++ [(j:Int)]) w2 HSZ.out (HU.out.lows ((HBA.out.mono HJ.out.hb).trans (HK1.out.below HJA.out.hb (fun k hk=>Qhn HJA.out hk)))) (HR.out.lows (HBW.out.trans ((HBA.out.mono HJ.out.hb).trans (HK1.out.below HJA.out.hb (fun k hk=>Qhn HJA.out hk))))) HP1.out (.inl (by simp)) (HWD.out j kd HUK.out) HB1.out HB2.out).mono ?_;rintro e w4 ⟨v4,vs4,rfl,hv4,hva4,hk4,hl4⟩;have HV4:=hQ hv4;have HVA4:=hQ hva4;have HK4:=hQ hk4;have HL4:=hQ hl4;have HQB:=hQ (show w4.heap[w.heap.size]? = some (plO m (.slice PA p.length pc)) from (HK4.out.block _ (Qaa HQB.out) (Qh7 HP1.out HQB.out)).trans HQB.out);have HKB:=hQ (show w4.heap[wr.heap.size]? = some (trO u) from (HK4.out.block _ (Qaa HKB.out) (Qh6 HP1.out HKB.out)).trans HKB.out);clear k0 k1 m0 m1 m2 m3;have k0:w4.cell? ⟨w.heap.size,0,none⟩=some (.int .i64 m):=Qab HQB.out 0 _ rfl;have k1:w4.cell? ⟨w.heap.size,1,none⟩=some (.slice PA p.length pc):=Qab HQB.out 1 _ rfl;have m0:w4.cell? ⟨wr.heap.size,0,none⟩=some (.int .i64 u.kind):=Qab HKB.out 0 _ rfl;have m1:w4.cell? ⟨wr.heap.size,1,none⟩=some (.string u.text):=Qab HKB.out 1 _ rfl;have m2:w4.cell? ⟨wr.heap.size,2,none⟩=some (.slice u.la u.ll u.lc):=Qab HKB.out 2 _ rfl;have m3:w4.cell? ⟨wr.heap.size,3,none⟩=some (.slice u.ka u.kl u.kc):=Qab HKB.out 3 _ rfl;clear hv4 hva4 hk4 hl4)
       | fail)
      all_goals
       clear k0 k1 m0 m1 m2 m3 p0 p1 pel
       have hwj:wrap64 ((j:Int)+1)=(j:Int)+1:=by have:=HKL.out;unfold wrap64;omega
       go_wp2
       go_roundw
       case measure =>
        show t.kids.length-(intOf (.int .i64 (wrap64 ((j:Int)+1)))).toNat<t.kids.length-(intOf (.int .i64 (j:Int))).toNat
        rw [hwj]
        show t.kids.length-((j:Int)+1).toNat<t.kids.length-((j:Int)).toNat
        omega
       case rel =>
        have hk24:Keeps (Qjv (.slice LJ wj.length lcj) (wj.length*5) (.slice PA p.length pc) p.length) wr w4 :=
         (Keeps.of_below HBA.out).trans (HK1.out.trans HK4.out (Qi2 HJA.out (Later.refl _ _) HLP.out (xA _) (by rw [xB];omega))) (Qkq _ _)
        have hsz2:wr.heap.size≤w2.heap.size:=xQ HBA.out.size HK1.out.size
        have hsz1:W0.heap.size≤wr.heap.size:=HKS.out.size
        refine ⟨j+1,by omega,by go_num,vs' ++ vs4,?_,?_,?_,?_⟩
        ·rw [←xT,HWJ.out]
         exact HV4.out
        ·rw [Qr7 HUK.out,←xT]
         refine TarsAt.app (HVA.out.step fun v q h=>?_) (HVA4.out.step fun v q h=>Qg4 h (by omega))
         refine hk24.row h fun k hk'=>.inl (Qgx (Qgy HJ.out.hl (Qld h hk').choose_spec (by decide)) (fun e=>?_) (by intro h;cases h))
         have h1:=(HH.out.hp.lt k e).2
         have h2:=(h.lt k hk').1
         omega
        ·exact HKS.out.trans hk24 (Qi2 HH.out HLT.out (Later.refl _ _) (by have h:=congrArg List.length HWJ.out;rw [xB] at h;omega) (xA _))
        ·exact HLT.out.trans HL4.out (by omega)
     ·obtain rfl:j=t.kids.length:=by omega
      go_wp2
      go_ret
      refine ⟨_,vs',rfl,by rw [HWJ.out];exact HJ.out.hl,?_,(Keeps.of_below HB0.out).trans HKS.out (Qkq _ _),fun g hg=>(HLT.out g hg).imp id fun h=>xQ HB0.out.size h⟩
      have h:=HVA.out.step fun v q h=>Qg4 h HB0.out.size
      rw [List.take_length] at h
      rw [Zca]
      exact h
 ·skip
  have hno:t.kind≠16∧t.kind≠9:=⟨fun e=>hk (.inl e),fun e=>hk (.inr e)⟩
  have e0':W0.cell? ⟨w.heap.size+1,0,none⟩=some (.int .i64 t.kind):=e0
  have d1:decide (t.kind=16)=false:=xR hno.1
  have d1':(t.kind==16)=false:=beq_eq_false_iff_ne.2 hno.1
  have d2:decide (t.kind=9)=false:=xR hno.2
  have d2':(t.kind==9)=false:=beq_eq_false_iff_ne.2 hno.2
  have HHM:=hQ (Zjj (ps:=ps) (m:=m) (p:=p) hk)
  clear e0 hno hk
  go_enter Tryz.func135,Tryz.ntmps135
  go_upto_region 1 with fail
  rw [HW0.out]
  go_wp2_with fail
  clear e0' e3 el d1 d1' d2 d2'
  have HS:=hQ (show Zk0 B (.slice LA ws.length lc) ws (.slice PA p.length pc) p (Qy2 ps m t p) W0 (.slice LA ws.length lc) W0 from ⟨[],by rw [List.append_nil];exact HH.out.hl,by rw [HHM.out];exact TarsAt.nil _ _,Keeps.refl _ _,Later.refl _ _⟩)
  go_loopw [0,51] (fun l i wr=>∃ j:Nat,j≤t.kids.length∧i = .int .i64 (j:Int)∧Zk0 B (.slice LA ws.length lc) ws (.slice PA p.length pc) p (Qy2 ps m t p ++ Zb9 ps m (t.kids.take j) p) W0 l wr) (fun _ i _=>t.kids.length-(intOf i).toNat)
  case atStart=>exact ⟨0,xZ _,rfl,by rw [List.take_zero,show Zb9 ps m [] p = [] from rfl,List.append_nil];exact HS.out⟩
  case round =>
   obtain ⟨j,hj,rfl,vs',hvr,hva,hks,hlt⟩:=hrel
   obtain ⟨wj,hwj⟩:∃ wj,ws ++ vs'=wj:=⟨_,rfl⟩
   rw [hwj] at hvr
   obtain ⟨LJ,lcj,hlj⟩:=Qhm hvr
   subst hlj
   have HJ:=hQ (show HandT B wr (.slice LJ wj.length lcj) wj (.slice PA p.length pc) p from ⟨hvr,(HH.out.keep hks).hp,(HH.out.keep hks).hb⟩)
   have HVA:=hQ hva
   have HWJ:=hQ hwj
   have HKS:=hQ hks
   have HLT:=hQ hlt
   have HBW:=hQ (show Below B W0 wr from hks.below HH.out.hb (fun k hk=>Qhn HH.out hk))
   have HXX:=hQ (show wr.heap[w.heap.size+1]? = some (trO ⟨t.kind,t.text,vla,vll,vlc,vka,t.kids.length,vkc⟩) from (hks.block _ (Qaa HX.out) (Qkr HH0.out (Nat.le_succ _))).trans HX.out)
   have HPP:=hQ (show wr.heap[w.heap.size]? = some (plO m (.slice PA p.length pc)) from (hks.block _ (Qaa HPX.out) (Qkr HH0.out (xA _))).trans HPX.out)
   clear hvr hva hks hlt hwj
   by_cases hlt:j<t.kids.length
   ·obtain ⟨kb,ko,hka⟩:∃ b off,vka=some ⟨b,off,none⟩:=HT.out.addr.resolve_left (by show ¬ t.kids.length=0;omega)
    subst hka
    obtain ⟨kd,hkd⟩:∃ kd,t.kids[j]? = some kd:=⟨_,xF hlt⟩
    obtain ⟨u,c0,c1,c2,c3,hu⟩:=(HT.out.lows HBW.out).at rfl hkd
    have hcap:=HT.out.caps.2
    simp only at hcap
    have k3:=Qab HXX.out 3 _ rfl
    have hkl2:=Qas hkd
    have hks2:=Qr4 hkd
    have hks3:=Qe3 hkd
    have hks4:=Qfc t.kids (j+1)
    have hks5:=Qa3 t
    have hks6:vs'.length≤1+Qam (t.kids.take j):=by
     rw [HVA.out.1,xB]
     have q1:=Qvp ps m t p
     have q2:=Qvq ps m (t.kids.take j) p
     omega
    have hks7:wj.length=ws.length+vs'.length:=by rw [←HWJ.out,xB]
    have HB1:=hQ (show wj.length+Qah kd≤100000 from by have:=H1.out;omega)
    have HB2:=hQ (show (p ++ [(j:Int)]).length+Qah kd≤1000000 from by have:=H2.out;rw [xB,List.length_singleton];omega)
    have HSZ:=hQ (show SizeOf.sizeOf kd≤N from by have:=HN.out;omega)
    have HUK:=hQ hkd
    have HU:=hQ hu
    have HPL:=hQ (show p.length+1≤maxLen from by have:=H2.out;unfold maxLen;omega)
    have HPB:=hQ (show (p.length+1)*8≤140737488355328 from by have:=H2.out;omega)
    clear hkl2 hks2 hks3 hks4 hks5 hks6 hks7 hkd hu
    have ekb:=xK wr _ c0
    go_upto_region 8 with fail
    have HBD:=hQ (show Below wr.heap.size wr (wr.alloc (trO u)).drew from (Qe2 wr (trO u)).drew)
    have HBA:=hQ (show Below wr.heap.size wr (((wr.alloc (trO u)).drew).alloc (.cells #[.int .i64 (j:Int)] 3)) from HBD.out.alloc HBD.out.size _)
    have HJA:=hQ (show HandT B (((wr.alloc (trO u)).drew).alloc (.cells #[.int .i64 (j:Int)] 3)) (.slice LJ wj.length lcj) wj (.slice PA p.length pc) p from HJ.out.later HBA.out)
    have HTB:=hQ (show (((wr.alloc (trO u)).drew).alloc (.cells #[.int .i64 (j:Int)] 3)).heap[w.heap.size+1]? = some (trO ⟨t.kind,t.text,vla,vll,vlc,some ⟨kb,ko,none⟩,t.kids.length,vkc⟩) from (HBA.out.block _ (Qaa HXX.out)).trans HXX.out)
    have HQB:=hQ (show (((wr.alloc (trO u)).drew).alloc (.cells #[.int .i64 (j:Int)] 3)).heap[w.heap.size]? = some (plO m (.slice PA p.length pc)) from (HBA.out.block _ (Qaa HPP.out)).trans HPP.out)
    have HKB:=hQ (show (((wr.alloc (trO u)).drew).alloc (.cells #[.int .i64 (j:Int)] 3)).heap[wr.heap.size]? = some (trO u) from (Below.heap_alloc _ _ _ (by show _<(wr.alloc (trO u)).heap.size;rw [xI];omega)).trans (xH wr (trO u)))
    have HNA:=hQ (show ∀ (i:Nat) (x:Value),[(Value.int .i64 (j:Int))][i]? = some x→(((wr.alloc (trO u)).drew).alloc (.cells #[.int .i64 (j:Int)] 3)).cell? ((⟨wr.heap.size+1,0,none⟩:Addr).add i)=some x from xM (cs:=#[.int .i64 (j:Int)]) (t:=3) (fr:=(0,0)) (by
     have:=xH (wr.alloc (trO u)).drew (.cells #[.int .i64 (j:Int)] 3)
     rwa [show (wr.alloc (trO u)).drew.heap.size=wr.heap.size+1 from xI wr (trO u)] at this))
    have HNO:=hQ (show ∀ x∈[(Value.int .i64 (j:Int))],x.oneCell'=true from by intro x hx;rw [List.mem_singleton] at hx;rw [hx];rfl)
    obtain ⟨ii,hii,iz0,iz1,iz2⟩:=info_parts Qmz
    clear c0 c1 c2 c3 k3 ekb
    have k0:(wr.alloc (.cells #[.int .i64 u.kind,.string u.text,.slice u.la u.ll u.lc,.slice u.ka u.kl u.kc] 25)).drew.cell? ⟨w.heap.size,0,none⟩=some (.int .i64 m):=(HBD.out.cell (p:=⟨w.heap.size,0,none⟩) (Qaa HPP.out)).trans (Qab HPP.out 0 _ rfl)
    have k1:(wr.alloc (.cells #[.int .i64 u.kind,.string u.text,.slice u.la u.ll u.lc,.slice u.ka u.kl u.kc] 25)).drew.cell? ⟨w.heap.size,1,none⟩=some (.slice PA p.length pc):=(HBD.out.cell (p:=⟨w.heap.size,1,none⟩) (Qaa HPP.out)).trans (Qab HPP.out 1 _ rfl)
    have m0:(wr.alloc (.cells #[.int .i64 u.kind,.string u.text,.slice u.la u.ll u.lc,.slice u.ka u.kl u.kc] 25)).drew.cell? ⟨wr.heap.size,0,none⟩=some (.int .i64 u.kind):=Qab (xH wr (trO u)) 0 _ rfl
    have m1:(wr.alloc (.cells #[.int .i64 u.kind,.string u.text,.slice u.la u.ll u.lc,.slice u.ka u.kl u.kc] 25)).drew.cell? ⟨wr.heap.size,1,none⟩=some (.string u.text):=Qab (xH wr (trO u)) 1 _ rfl
    have m2:(wr.alloc (.cells #[.int .i64 u.kind,.string u.text,.slice u.la u.ll u.lc,.slice u.ka u.kl u.kc] 25)).drew.cell? ⟨wr.heap.size,2,none⟩=some (.slice u.la u.ll u.lc):=Qab (xH wr (trO u)) 2 _ rfl
    have m3:(wr.alloc (.cells #[.int .i64 u.kind,.string u.text,.slice u.la u.ll u.lc,.slice u.ka u.kl u.kc] 25)).drew.cell? ⟨wr.heap.size,3,none⟩=some (.slice u.ka u.kl u.kc):=Qab (xH wr (trO u)) 3 _ rfl
    have p0:wr.cell? ⟨w.heap.size,0,none⟩=some (.int .i64 m):=Qab HPP.out 0 _ rfl
    have p1:wr.cell? ⟨w.heap.size,1,none⟩=some (.slice PA p.length pc):=Qab HPP.out 1 _ rfl
    have pel:=Qaa HPP.out
    go_region_held3 (fun w'=>w'.cell? ⟨w.heap.size,0,none⟩=some (.int .i64 m)∧w'.cell? ⟨w.heap.size,1,none⟩=some (.slice PA p.length pc)∧w'.cell? ⟨wr.heap.size,0,none⟩=some (.int .i64 u.kind)∧w'.cell? ⟨wr.heap.size,1,none⟩=some (.string u.text)∧w'.cell? ⟨wr.heap.size,2,none⟩=some (.slice u.la u.ll u.lc)∧w'.cell? ⟨wr.heap.size,3,none⟩=some (.slice u.ka u.kl u.kc)) (first | with_reducible exact ⟨k0,k1,m0,m1,m2,m3⟩ | go_keep) (first
     | (refine Qvf _ (by rfl) _ _ _ (by rfl) B 3 ii _ 1 8 Tryz.underlying35 hii iz0 iz1 iz2 rfl (by decide) _ p.length (p.map (Value.int .i64)) (by rfl) HJA.out.hp ⟨wr.heap.size+1,0,none⟩ 1 1 [.int .i64 (j:Int)] (by rfl) (by rfl) HNA.out HNO.out (by decide) HPL.out HPB.out HJA.out.hb ?_;intro g cg w2 hown hk hg hlt2;have hlp:=Qlc (n:=p.length+1) (c:=cg) hg;have hpp:=HJA.out.path hk (Qr5 hown);have HP1:=hQ hpp.1;have HK1:=hQ hpp.2;have HLP:=hQ hlp;have HQB:=hQ (show w2.heap[w.heap.size]? = some (plO m (.slice PA p.length pc)) from (HK1.out.block _ (Qaa HQB.out) (Qh7 HJA.out HQB.out)).trans HQB.out);have HKB:=hQ (show w2.heap[wr.heap.size]? = some (trO u) from (HK1.out.block _ (Qaa HKB.out) (Qh6 HJA.out HKB.out)).trans HKB.out);clear k0 k1 m0 m1 m2 m3;have k0:w2.cell? ⟨w.heap.size,0,none⟩=some (.int .i64 m):=Qab HQB.out 0 _ rfl;have k1:w2.cell? ⟨w.heap.size,1,none⟩=some (.slice PA p.length pc):=Qab HQB.out 1 _ rfl;have m0:w2.cell? ⟨wr.heap.size,0,none⟩=some (.int .i64 u.kind):=Qab HKB.out 0 _ rfl;have m1:w2.cell? ⟨wr.heap.size,1,none⟩=some (.string u.text):=Qab HKB.out 1 _ rfl;have m2:w2.cell? ⟨wr.heap.size,2,none⟩=some (.slice u.la u.ll u.lc):=Qab HKB.out 2 _ rfl;have m3:w2.cell? ⟨wr.heap.size,3,none⟩=some (.slice u.ka u.kl u.kc):=Qab HKB.out 3 _ rfl;clear hown hk hg hlt2 hlp hpp)
     | (go_at_call 135;refine (HIH.out kd u _ wj _ (p ++ [(j:Int)]) w2 HSZ.out (HU.out.lows ((HBA.out.mono HJ.out.hb).trans (HK1.out.below HJA.out.hb (fun k hk=>Qhn HJA.out hk)))) (HR.out.lows (HBW.out.trans ((HBA.out.mono HJ.out.hb).trans (HK1.out.below HJA.out.hb (fun k hk=>Qhn HJA.out hk))))) HP1.out (.inl (by simp)) (HWD.out j kd HUK.out) HB1.out HB2.out).mono ?_;rintro e w4 ⟨v4,vs4,rfl,hv4,hva4,hk4,hl4⟩;have HV4:=hQ hv4;have HVA4:=hQ hva4;have HK4:=hQ hk4;have HL4:=hQ hl4;have HQB:=hQ (show w4.heap[w.heap.size]? = some (plO m (.slice PA p.length pc)) from (HK4.out.block _ (Qaa HQB.out) (Qh7 HP1.out HQB.out)).trans HQB.out);have HKB:=hQ (show w4.heap[wr.heap.size]? = some (trO u) from (HK4.out.block _ (Qaa HKB.out) (Qh6 HP1.out HKB.out)).trans HKB.out);clear k0 k1 m0 m1 m2 m3;have k0:w4.cell? ⟨w.heap.size,0,none⟩=some (.int .i64 m):=Qab HQB.out 0 _ rfl;have k1:w4.cell? ⟨w.heap.size,1,none⟩=some (.slice PA p.length pc):=Qab HQB.out 1 _ rfl;have m0:w4.cell? ⟨wr.heap.size,0,none⟩=some (.int .i64 u.kind):=Qab HKB.out 0 _ rfl;have m1:w4.cell? ⟨wr.heap.size,1,none⟩=some (.string u.text):=Qab HKB.out 1 _ rfl;have m2:w4.cell? ⟨wr.heap.size,2,none⟩=some (.slice u.la u.ll u.lc):=Qab HKB.out 2 _ rfl;have m3:w4.cell? ⟨wr.heap.size,3,none⟩=some (.slice u.ka u.kl u.kc):=Qab HKB.out 3 _ rfl;clear hv4 hva4 hk4 hl4)
     | fail)
    all_goals
     clear k0 k1 m0 m1 m2 m3 p0 p1 pel
     have hwj:wrap64 ((j:Int)+1)=(j:Int)+1:=by have:=HKL.out;unfold wrap64;omega
     go_wp2
     go_roundw
     case measure =>
      show t.kids.length-(intOf (.int .i64 (wrap64 ((j:Int)+1)))).toNat<t.kids.length-(intOf (.int .i64 (j:Int))).toNat
      rw [hwj]
      show t.kids.length-((j:Int)+1).toNat<t.kids.length-((j:Int)).toNat
      omega
     case rel =>
      have hk24:Keeps (Qjv (.slice LJ wj.length lcj) (wj.length*5) (.slice PA p.length pc) p.length) wr w4 :=
       (Keeps.of_below HBA.out).trans (HK1.out.trans HK4.out (Qi2 HJA.out (Later.refl _ _) HLP.out (xA _) (by rw [xB];omega))) (Qkq _ _)
      have hsz2:wr.heap.size≤w2.heap.size:=xQ HBA.out.size HK1.out.size
      have hsz1:W0.heap.size≤wr.heap.size:=HKS.out.size
      refine ⟨j+1,by omega,by go_num,vs' ++ vs4,?_,?_,?_,?_⟩
      ·rw [←xT,HWJ.out]
       exact HV4.out
      ·rw [Qr7 HUK.out,←xT]
       refine TarsAt.app (HVA.out.step fun v q h=>?_) (HVA4.out.step fun v q h=>Qg4 h (by omega))
       refine hk24.row h fun k hk'=>.inl (Qgx (Qgy HJ.out.hl (Qld h hk').choose_spec (by decide)) (fun e=>?_) (by intro h;cases h))
       have h1:=(HH.out.hp.lt k e).2
       have h2:=(h.lt k hk').1
       omega
      ·exact HKS.out.trans hk24 (Qi2 HH.out HLT.out (Later.refl _ _) (by have h:=congrArg List.length HWJ.out;rw [xB] at h;omega) (xA _))
      ·exact HLT.out.trans HL4.out (by omega)
   ·obtain rfl:j=t.kids.length:=by omega
    go_wp2
    go_ret
    refine ⟨_,vs',rfl,by rw [HWJ.out];exact HJ.out.hl,?_,(Keeps.of_below HB0.out).trans HKS.out (Qkq _ _),fun g hg=>(HLT.out g hg).imp id fun h=>xQ HB0.out.size h⟩
    have h:=HVA.out.step fun v q h=>Qg4 h HB0.out.size
    rw [List.take_length] at h
    rw [Zca]
    exact h
theorem Qub (B:Nat) (ps:List Tr) (A:Option Addr) (c m:Nat) (hf:Qhs (Qbp ps)=true) (hm:m<ps.length) (N:Nat):TgtC B ps A c m N:=by
 induction N with
 | zero=>intro t v lv ws pv p w h;have:=Qgu t;omega
 | succ N ih=>exact Zge B ps A c m N hf hm ih
end Go.Proofs.YtclkilljmdkfaaaGreat
