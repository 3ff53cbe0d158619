/- Part 36: The contract of variables: the variables of a tree behind a list. -/
import Derived.Test.YtjidpkcjpgdafaaSv1
import Derived.Test.YtjidpkcjpgdafaaSv35
set_option maxRecDepth 100000
set_option maxHeartbeats 4000000
namespace Go.Proofs.Ytjidpkcjpgdafaa
open Go.RowKit Go.Shelf
theorem var_info:(Try.prog.info? 31).map (fun i=>(i.zero,i.size,i.bytes)) = some (some (.agg #[.slice none 0 0,.slice none 0 0,.bool false]),3,56):=by kernel_rfl
theorem Qbe {w:World} {B:Nat} {e:TypeId} {s:Nat} {v:Value} {n:Nat} {xs:List Value} (h:w.ownsRow B e s v n xs):∃ A c,v = .slice A n c:=by
 rcases h.2 with ⟨rfl,rfl⟩ | ⟨g,cap,cur,rfl,_⟩
 ·exact ⟨_,_,rfl⟩
 ·exact ⟨_,_,rfl⟩
theorem Qaf (w:World) (o:Obj):Below w.heap.size w (w.alloc o):=(xC w.heap.size w).alloc (xA _) o
theorem Qcw (A:Option Addr) (m cap:Nat) (st:List Bnd) (x:ByteArray) (w:World) (hm:m = st.length) (hS:StkAt w A st) (hl:m ≤ 1000000) :
  Calls Try.prog 14 #[.slice A m cap,.string x] w (InnPost (Qda st x) w):=by
 subst hm
 exact innermost_any A cap st x w hS hl
theorem later_some {w:World} {v:Value} {g n c:Nat} (h:v.ownBlock = some g ∨ w.heap.size ≤ g):Later w v (.slice (some ⟨g,0,none⟩) n c):=fun k hk=>by
 injection hk with hk
 have e:g = k:=hk
 subst e
 exact h
theorem IRow.intsAt {w:World} {B n c:Nat} {A:Option Addr} {p:List Int} (h:IRow w B (.slice A n c) p):IntsAt w A p:=h.ints.2
theorem IRow.app {w:World} {B:Nat} {v:Value} {p:List Int} {P:Nat → Option Nat} {w':World} (h:IRow w B v p) (hk:Keeps P w w') (hp:∀ g,B ≤ g → g < w.heap.size → P g = none):IRow w' B v p :=
 hk.row h fun g hg=>.inl (hp g (h.lt g hg).1 (h.lt g hg).2)
theorem var_end {B:Nat} {t:Tr} {lv v' pv sv:Value} {ws:List (Value × Value × Bool)} {p:List Int} {us:List (ByteArray × Value)} {st:List Bnd} {w w2 w3:World} {y:Value × Value × Bool} {z:Vrb} {o:Obj}
  (hh:Hand B w lv ws pv p sv us st) (hb:Below w.heap.size w w2) (hv:VarAt w2 w.heap.size y z) (hown:w3.ownsRow B 31 3 v' (ws.length + 1) (Qdq ws ++ [y.1,y.2.1,.bool y.2.2])) (hk:Keeps (pre lv (ws.length * 3)) (w2.alloc o) w3)
  (hl:Later (w2.alloc o) lv v') (hvt:varsT t p st = [z]):VPost B lv ws pv p sv us st t w (.returned v') w3:=by
 have hb3:=hb.trans ((Qaf w2 o).mono hb.size)
 refine ⟨v',[y],rfl,?_,?_,(Keeps.of_below hb3).trans hk asks_l,fun g hg=>(hl g hg).imp id fun h=>Nat.le_trans hb3.size h⟩
 ·unfold VRow
  rw [xB,vCells_append]
  exact hown
 ·rw [hvt]
  refine (VarsAt.one hv).step fun v q h=>?_
  exact (h.keep (Qaf w2 o)).app hk fun g hg _=>Qbs fun e=>by
   have:=(hh.hl.lt g e).2
   omega
theorem variables_var (B:Nat) (t:Tr) (v:TV) (lv:Value) (ws:List (Value × Value × Bool)) (pv:Value) (p:List Int) (sv:Value) (us:List (ByteArray × Value)) (st:List Bnd) (w:World) (ht:TrAt (fun k=>k < B) w t v) (hh:Hand B w lv ws pv p sv us st)
  (hk:t.kind = 12) (hne:p ≠ []) (h1:ws.length + 1 ≤ 100000) (h2:p.length ≤ 1000000) (h3:us.length ≤ 1000000) :
  Calls Try.prog 8 #[lv,.agg #[.int .i64 v.kind,.string v.text,.slice v.la v.ll v.lc,.slice v.ka v.kl v.kc],pv,sv] w (VPost B lv ws pv p sv us st t w):=by
 obtain ⟨LA,lc,hlv⟩:=Qbe hh.hl
 obtain ⟨PA,pc,hpv⟩:=Qbe hh.hp
 obtain ⟨SA,sc,hsv⟩:=Qbe hh.hs
 subst hlv hpv hsv
 have HT:=hQ (show TrAt (fun k=>k < B) w t v from ht)
 have hkd:=ht.kl.2.2.1
 have htx:=ht.kl.2.2.2
 obtain ⟨vk,vx,vla,vll,vlc,vka,vkl,vkc⟩:=v
 simp only at hkd htx
 rw [hk] at hkd
 subst hkd htx
 have HH:=hQ hh
 have HSL:=hQ (hh.hm.stk hh.hs).1
 obtain ⟨iv,hiv,vz0,vz1,vz2⟩:=info_parts var_info
 clear ht hh
 go_enter Try.func8,Try.ntmps8
 cases hin:Qda st t.text with
 | none =>
  have HIN:=hQ hin
  clear hin
  have HVT:=hQ (show varsT t p st = [(p,none)] from by rw [varsT_eq,if_pos hk,HIN.out])
  go_wp2_with (first
   | (go_at_call 14;have hhb:=Qaf w (.cells #[.int .i64 12,.string t.text,.slice vla vll vlc,.slice vka vkl vkc] 26);have hh0:=HH.out.later hhb;refine (Qcw SA _ sc st t.text _ HSL.out (hh0.hm.stk hh0.hs).2 h3).mono ?_;rw [HIN.out];rintro e w1 ⟨hb,rfl⟩;have HBA:=hQ (hhb.trans (hb.mono hhb.size));have HH1:=hQ (hh0.later hb);clear hb hhb hh0)
   | (go_at_call 15;refine (clone_ints PA pc p _ HH1.out.hp.intsAt hne h2).mono ?_;rintro e w2 ⟨y,rfl,hy,hb⟩;obtain ⟨YA,yn,yc,rfl⟩:=hy.slice;have HBB:=hQ (HBA.out.trans (hb.mono HBA.out.size));have HH2:=hQ (HH1.out.later hb);have HY:=hQ (hy.low HBA.out.size);have HVR:=hQ (show VRow (w2.alloc (.cells #[.slice YA yn yc,.slice none 0 0,.bool true] 31)) B (.slice LA ws.length lc) ws from HH2.out.hl.alloc _);have HN:=hQ (World.news_of_block (xH w2 (.cells #[.slice YA yn yc,.slice none 0 0,.bool true] 31)));have HONE:=hQ (show ∀ u ∈ [(.slice YA yn yc:Value),.slice none 0 0,.bool true],u.oneCell' = true from by intro v hv;simp at hv;rcases hv with rfl | rfl | rfl <;> rfl);have HBW:=hQ (show B ≤ (w2.alloc (.cells #[.slice YA yn yc,.slice none 0 0,.bool true] 31)).heap.size from by have:=HH2.out.hb;rw [xI];omega);clear hb hy)
   | (at_builtin;refine wpList_app _ rfl _ _ 27 rfl B 31 iv _ 3 56 Try.underlying27 hiv vz0 vz1 vz2 rfl (by decide) _ ws.length (Qdq ws) rfl HVR.out ⟨w2.heap.size,0,none⟩ 1 1 [.slice YA yn yc,.slice none 0 0,.bool true] rfl rfl HN.out HONE.out (by decide) (by unfold maxLen;omega) (by omega) HBW.out ?_;intro g3 c3 w3 hown hk3 hg hlt;have HO:=hQ hown;have HK:=hQ hk3;have HG:=hQ (later_some (n:=ws.length + 1) (c:=c3) hg);clear hown hk3 hg hlt))
  go_ret
  exact (show VPost B (.slice LA ws.length lc) ws (.slice PA p.length pc) p (.slice SA us.length sc) us st t w (.returned (.slice (some ⟨g3,0,none⟩) (ws.length + 1) c3)) w3 from
   var_end (y:=(.slice YA yn yc,.slice none 0 0,true)) HH.out HBB.out ⟨HY.out,.inl ⟨rfl,rfl,rfl⟩⟩ HO.out HK.out HG.out HVT.out)
 | some q =>
  have HIN:=hQ hin
  clear hin
  have HVT:=hQ (show varsT t p st = [(p,some q)] from by rw [varsT_eq,if_pos hk,HIN.out])
  go_wp2_with (first
   | (go_at_call 14;have hhb:=Qaf w (.cells #[.int .i64 12,.string t.text,.slice vla vll vlc,.slice vka vkl vkc] 26);have hh0:=HH.out.later hhb;refine (Qcw SA _ sc st t.text _ HSL.out (hh0.hm.stk hh0.hs).2 h3).mono ?_;rw [HIN.out];rintro e w1 ⟨hb,x,rfl,hx⟩;obtain ⟨XA,xn,xc,rfl⟩:=hx.slice;have HX:=hQ (hx.low hhb.size);clear hx;have HBA:=hQ (hhb.trans (hb.mono hhb.size));have HH1:=hQ (hh0.later hb);clear hb hhb hh0)
   | (go_at_call 15;refine (clone_ints PA pc p _ HH1.out.hp.intsAt hne h2).mono ?_;rintro e w2 ⟨y,rfl,hy,hb⟩;obtain ⟨YA,yn,yc,rfl⟩:=hy.slice;have HBB:=hQ (HBA.out.trans (hb.mono HBA.out.size));have HH2:=hQ (HH1.out.later hb);have HX2:=hQ (HX.out.keep hb);have HY:=hQ (hy.low HBA.out.size);have HVR:=hQ (show VRow (w2.alloc (.cells #[.slice YA yn yc,.slice XA xn xc,.bool false] 31)) B (.slice LA ws.length lc) ws from HH2.out.hl.alloc _);have HN:=hQ (World.news_of_block (xH w2 (.cells #[.slice YA yn yc,.slice XA xn xc,.bool false] 31)));have HONE:=hQ (show ∀ u ∈ [(.slice YA yn yc:Value),.slice XA xn xc,.bool false],u.oneCell' = true from by intro v hv;simp at hv;rcases hv with rfl | rfl | rfl <;> rfl);have HBW:=hQ (show B ≤ (w2.alloc (.cells #[.slice YA yn yc,.slice XA xn xc,.bool false] 31)).heap.size from by have:=HH2.out.hb;rw [xI];omega);clear hb hy)
   | (at_builtin;refine wpList_app _ rfl _ _ 27 rfl B 31 iv _ 3 56 Try.underlying27 hiv vz0 vz1 vz2 rfl (by decide) _ ws.length (Qdq ws) rfl HVR.out ⟨w2.heap.size,0,none⟩ 1 1 [.slice YA yn yc,.slice XA xn xc,.bool false] rfl rfl HN.out HONE.out (by decide) (by unfold maxLen;omega) (by omega) HBW.out ?_;intro g3 c3 w3 hown hk3 hg hlt;have HO:=hQ hown;have HK:=hQ hk3;have HG:=hQ (later_some (n:=ws.length + 1) (c:=c3) hg);clear hown hk3 hg hlt))
  go_ret
  exact (show VPost B (.slice LA ws.length lc) ws (.slice PA p.length pc) p (.slice SA us.length sc) us st t w (.returned (.slice (some ⟨g3,0,none⟩) (ws.length + 1) c3)) w3 from
   var_end (y:=(.slice YA yn yc,.slice XA xn xc,false)) HH.out HBB.out ⟨HY.out,.inr ⟨q,rfl,HX2.out,rfl⟩⟩ HO.out HK.out HG.out HVT.out)
end Go.Proofs.Ytjidpkcjpgdafaa
