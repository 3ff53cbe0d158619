/- Part 35 -/
import Derived.Test.YtjidpkcjpgdafaaGreatSf34
set_option maxRecDepth 100000
set_option maxHeartbeats 4000000
namespace Go.Proofs.YtjidpkcjpgdafaaGreat
open Go.RowKit Go.Shelf
def VarL (B:Nat) (lv:Value) (ws:List (Value × Value × Bool)) (pv:Value) (p:List Int) (sv:Value) (us:List (ByteArray × Value)) (st:List Bnd) (t:Tr) (w0:World) (j:Nat) (l:Value) (wr:World):Prop :=
 ∃ vs',VRow wr B l (ws ++ vs')∧VarsAt wr w0.heap.size vs' (Qgd t.kind t.text t.kids (t.kids.take j) 0 p st)∧Keeps (Qd7 lv (ws.length*3) pv p.length sv (us.length*2)) w0 wr∧Later w0 lv l
theorem Qqk:(l:List Tr)→(j:Nat)→(k:Tr)→l[j]? = some k→Qam k+l.length≤Qbb l+1
 | [],_,_,h=>by simp at h
 | a :: r,0,k,h=>by
  injection h with h
  subst h
  have:=Qbn r
  rw [Qbb,xD]
  omega
 | a :: r,j+1,k,h=>by
  have ih:=Qqk r j k h
  have:=Qa5 a
  rw [Qbb,xD]
  omega
theorem Qns {t k:Tr} {j:Nat} (h:t.kids[j]? = some k):Qam k+t.kids.length≤Qam t:=by
 have h1:=Qqk _ _ _ h
 have h2:=Qa5 t
 omega
theorem Qt5 {w:World} {B:Nat} {v:Value} {p:List Int} {q:Int} (h:w.ownsRow B 3 1 v (p.length+1) (p.map (Value.int .i64) ++ [.int .i64 q])):IRow w B v (p ++ [q]):=by
 unfold IRow
 rw [xB,List.length_singleton,List.map_append]
 exact h
theorem Qg2 {w:World} {B:Nat} {e:TypeId} {s:Nat} {v:Value} {n:Nat} {xs:List Value} (h:w.ownsRow B e s v n xs) {g:Nat} {cur:Array Value} {ty:TypeId} {fr:Nat × Nat} (hg:w.heap[g]? = some (.cells cur ty fr)) (ht:ty≠e):v.ownBlock≠some g:=fun k=>by
 rcases h.2 with ⟨rfl,_⟩|⟨g',cap,cur',rfl,_,hh,_⟩
 ·cases k
 ·injection k with k
  have k':g'=g:=k
  subst k'
  rw [hg] at hh
  injection hh with hh
  injection hh with _ h2
  exact ht h2
theorem Qeh {B:Nat} {w:World} {lv pv sv:Value} {ws:List (Value × Value × Bool)} {p:List Int} {us:List (ByteArray × Value)} {st:List Bnd} {a b c k:Nat} {v:TV} (h:Hand B w lv ws pv p sv us st) (hk:w.heap[k]? = some (trO v)):Qd7 lv a pv b sv c k=none :=
 Qf6 (Qg2 h.hl hk (by decide)) (Qg2 h.hp hk (by decide)) (Qg2 h.hs hk (by decide))
theorem Qls {w:World} {B:Nat} {v:Value} {p:List Int} {g:Nat} (h:IRow w B v p) (hg:v.ownBlock=some g):∃ cur,w.heap[g]? = some (.cells cur 3 (0,0)):=by
 rcases h.2 with ⟨rfl,_⟩|⟨g',cap,cur,rfl,_,hh,_⟩
 ·cases hg
 ·injection hg with hg
  have e:g'=g:=hg
  subst e
  exact ⟨cur,hh⟩
theorem Qib {B:Nat} {w:World} {lv pv sv:Value} {ws:List (Value × Value × Bool)} {p:List Int} {us:List (ByteArray × Value)} {st:List Bnd} {a b c k:Nat} (h:Hand B w lv ws pv p sv us st) (hk:k<B):Qd7 lv a pv b sv c k=none :=
 Qf6 (fun e=>by have:=(h.hl.lt k e).1;omega) (fun e=>by have:=(h.hp.lt k e).1;omega) (fun e=>by have:=(h.hs.lt k e).1;omega)
theorem Qr9 {B:Nat} {w:World} {lv pv sv:Value} {ws:List (Value × Value × Bool)} {p:List Int} {us:List (ByteArray × Value)} {st:List Bnd} {a b c k:Nat} (h:Hand B w lv ws pv p sv us st) (hk:w.heap.size≤k):Qd7 lv a pv b sv c k=none :=
 Qf6 (fun e=>by have:=(h.hl.lt k e).2;omega) (fun e=>by have:=(h.hp.lt k e).2;omega) (fun e=>by have:=(h.hs.lt k e).2;omega)
theorem Qms (N:Nat):∀ (B:Nat) (t:Tr) (v:TV) (lv:Value) (ws:List (Value × Value × Bool)) (pv:Value) (p:List Int) (sv:Value) (us:List (ByteArray × Value)) (st:List Bnd) (w:World),SizeOf.sizeOf t≤N→TrAt (fun k=>k<B) w t v→Hand B w lv ws pv p sv us st →
  (p≠[]∨t.kind=2)→ws.length+Qam t≤100000→p.length+Qam t≤1000000→us.length+2*Qam t≤1000000 →
  Calls Tryz.prog 71 #[lv,.agg #[.int .i64 v.kind,.string v.text,.slice v.la v.ll v.lc,.slice v.ka v.kl v.kc],pv,sv] w (Qt3 B lv ws pv p sv us st t w):=by
 induction N with
 | zero=>intro B t v lv ws pv p sv us st w h;have:=Qh7 t;omega
 | succ N ih =>
 intro B t v lv ws pv p sv us st w hN ht hh hne h1 h2 h3
 by_cases hk:t.kind=12
 ·have hs1:=Qa5 t
  exact Qmr B t v lv ws pv p sv us st w ht hh hk (hne.resolve_right (by rw [hk];decide)) (by omega) (by omega) (by omega)
 ·obtain ⟨LA,lc,hlv⟩:=Qbe hh.hl
  obtain ⟨PA,pc,hpv⟩:=Qbe hh.hp
  obtain ⟨SA,sc,hsv⟩:=Qbe hh.hs
  subst hlv hpv hsv
  have hb0:=Qaf w (trO v)
  have HT:=hQ (ht.lows (hb0.mono hh.hb))
  have HX:=hQ (xH w (trO v))
  have HH:=hQ (hh.later hb0)
  have HB0:=hQ hb0
  have HH0:=hQ hh
  have hkl:=ht.kl.1
  have hkd:=ht.kl.2.2.1
  have htx:=ht.kl.2.2.2
  obtain ⟨vk,vx,vla,vll,vlc,vka,vkl,vkc⟩:=v
  simp only at hkl hkd htx
  subst hkl hkd htx
  have HIH:=hQ ih
  have HNE:=hQ hne
  have H1:=hQ h1
  have H2:=hQ h2
  have H3:=hQ h3
  have HN:=hQ hN
  have HKL:=hQ (show t.kids.length≤100000 from by have:=Qbn t.kids;have:=Qa5 t;omega)
  have d12:decide (t.kind=12)=false:=xR hk
  have d12':(t.kind==12)=false:=by simpa using hk
  clear ht hh hb0 ih hne h1 h2 h3 hN
  go_enter Tryz.func71,Tryz.ntmps71
  go_wp2_with fail
  go_loopw [0,35] (fun l i wr=>∃ j:Nat,j≤t.kids.length∧i = .int .i64 (j:Int)∧VarL B (.slice LA ws.length lc) ws (.slice PA p.length pc) p (.slice SA us.length sc) us st t (w.alloc (trO ⟨t.kind,t.text,vla,vll,vlc,vka,t.kids.length,vkc⟩)) j l wr) (fun _ i _=>t.kids.length-(intOf i).toNat)
  case atStart =>
   exact ⟨0,xZ _,rfl,[],by rw [List.append_nil];exact HH.out.hl,by rw [List.take_zero,Qgd];exact VarsAt.nil _ _,Keeps.refl _ _,Later.refl _ _⟩
  case round =>
   obtain ⟨j,hj,rfl,vs',hvr,hva,hks,hlt⟩:=hrel
   obtain ⟨wj,hwj⟩:∃ wj,ws ++ vs'=wj:=⟨_,rfl⟩
   rw [hwj] at hvr
   obtain ⟨LJ,lcj,hlj⟩:=Qbe hvr
   subst hlj
   have HJ:=hQ (show Hand B wr (.slice LJ wj.length lcj) wj (.slice PA p.length pc) p (.slice SA us.length sc) us st from by
    have h:=HH.out.keep hks
    exact ⟨hvr,h.hp,h.hs,h.hm,h.hb⟩)
   have HVA:=hQ hva
   have HWJ:=hQ hwj
   have HKS:=hQ hks
   have HLT:=hQ hlt
   have HBW:=hQ (show Below B (w.alloc (trO ⟨t.kind,t.text,vla,vll,vlc,vka,t.kids.length,vkc⟩)) wr from hks.below HH.out.hb (fun k hk=>Qib HH.out hk))
   have HXX:=hQ (show wr.heap[w.heap.size]? = some (trO ⟨t.kind,t.text,vla,vll,vlc,vka,t.kids.length,vkc⟩) from (hks.block _ (Qab HX.out) (Qr9 HH0.out (xA _))).trans HX.out)
   clear hvr hva hks hlt hwj
   by_cases hlt:j<t.kids.length
   ·obtain ⟨kb,ko,hka⟩:∃ b off,vka=some ⟨b,off,none⟩:=HT.out.addr.resolve_left (by omega)
    subst hka
    obtain ⟨kd,hkd⟩:∃ kd,t.kids[j]? = some kd:=⟨_,xF hlt⟩
    obtain ⟨u,c0,c1,c2,c3,hu⟩:=(HT.out.lows HBW.out).at rfl hkd
    have hcap:=HT.out.caps.2
    simp only at hcap
    have k0:=Qaa HXX.out 0 _ rfl
    have k1:=Qaa HXX.out 1 _ rfl
    have k2:=Qaa HXX.out 2 _ rfl
    have k3:=Qaa HXX.out 3 _ rfl
    go_wp2_with fail
    have hkl2:=Qd1 hkd
    have hks2:=Qns hkd
    have hks3:=Qcl hkd
    have hks4:=Qcq t.kids (j+1)
    have hks5:=Qa5 t
    have hks6:vs'.length≤Qbb (t.kids.take j):=by rw [HVA.out.1];exact Qki _ _ _ _ _ _ _
    have hks7:wj.length=ws.length+vs'.length:=by rw [←HWJ.out,xB]
    have HB1:=hQ (show wj.length+Qam kd≤100000 from by have:=H1.out;omega)
    have HB2:=hQ (show (p ++ [(j:Int)]).length+Qam kd≤1000000 from by have:=H2.out;rw [xB,List.length_singleton];omega)
    have HB3:=hQ (show ∀ m:Nat,m≤us.length+t.kids.length+1→m+2*Qam kd≤1000000 from fun m hm=>by have:=H3.out;omega)
    have HB4:=hQ (show us.length+t.kids.length+1≤1000000 from by have:=H3.out;omega)
    have HB5:=hQ (show p.length≤1000000 from by have:=H2.out;omega)
    have HSZ:=hQ (show SizeOf.sizeOf kd≤N from by have:=HN.out;omega)
    have HUK:=hQ hkd
    have HU:=hQ hu
    have HBD:=hQ (show Below wr.heap.size wr (wr.alloc (trO u)).drew from (Qaf wr (trO u)).drew)
    have HBA:=hQ (show Below wr.heap.size wr (((wr.alloc (trO u)).drew).alloc (.cells #[.int .i64 (j:Int)] 3)) from HBD.out.alloc HBD.out.size _)
    have HJA:=hQ (show Hand B (((wr.alloc (trO u)).drew).alloc (.cells #[.int .i64 (j:Int)] 3)) (.slice LJ wj.length lcj) wj (.slice PA p.length pc) p (.slice SA us.length sc) us st from HJ.out.later HBA.out)
    have HTB:=hQ (show (((wr.alloc (trO u)).drew).alloc (.cells #[.int .i64 (j:Int)] 3)).heap[w.heap.size]? = some (trO ⟨t.kind,t.text,vla,vll,vlc,some ⟨kb,ko,none⟩,t.kids.length,vkc⟩) from (HBA.out.block _ (Qab HXX.out)).trans HXX.out)
    have HKB:=hQ (show (((wr.alloc (trO u)).drew).alloc (.cells #[.int .i64 (j:Int)] 3)).heap[wr.heap.size]? = some (trO u) from (Below.heap_alloc _ _ _ (by show _<(wr.alloc (trO u)).heap.size;rw [xI];omega)).trans (xH wr (trO u)))
    have HNA:=hQ (show ∀ (i:Nat) (x:Value),[(Value.int .i64 (j:Int))][i]? = some x→(((wr.alloc (trO u)).drew).alloc (.cells #[.int .i64 (j:Int)] 3)).cell? ((⟨wr.heap.size+1,0,none⟩:Addr).add i)=some x from xM (cs:=#[.int .i64 (j:Int)]) (t:=3) (fr:=(0,0)) (by
     have:=xH (wr.alloc (trO u)).drew (.cells #[.int .i64 (j:Int)] 3)
     rwa [show (wr.alloc (trO u)).drew.heap.size=wr.heap.size+1 from xI wr (trO u)] at this))
    have HNO:=hQ (show ∀ x∈[(Value.int .i64 (j:Int))],x.oneCell'=true from by intro x hx;rw [List.mem_singleton] at hx;rw [hx];rfl)
    have HPL:=hQ (show p.length+1≤maxLen from by have:=H2.out;have:=Qa5 t;unfold maxLen;omega)
    have HPB:=hQ (show (p.length+1)*8≤140737488355328 from by have:=H2.out;have:=Qa5 t;omega)
    obtain ⟨ii,hii,iz0,iz1,iz2⟩:=info_parts Qkj
    have k0:(wr.alloc (trO u)).drew.cell? ⟨w.heap.size,0,none⟩=some (.int .i64 t.kind):=(HBD.out.cell (p:=⟨w.heap.size,0,none⟩) (Qab HXX.out)).trans (Qaa HXX.out 0 _ rfl)
    have k1:(wr.alloc (trO u)).drew.cell? ⟨w.heap.size,1,none⟩=some (.string t.text):=(HBD.out.cell (p:=⟨w.heap.size,1,none⟩) (Qab HXX.out)).trans (Qaa HXX.out 1 _ rfl)
    have k2:(wr.alloc (trO u)).drew.cell? ⟨w.heap.size,2,none⟩=some (.slice vla vll vlc):=(HBD.out.cell (p:=⟨w.heap.size,2,none⟩) (Qab HXX.out)).trans (Qaa HXX.out 2 _ rfl)
    have k3:(wr.alloc (trO u)).drew.cell? ⟨w.heap.size,3,none⟩=some (.slice (some ⟨kb,ko,none⟩) t.kids.length vkc):=(HBD.out.cell (p:=⟨w.heap.size,3,none⟩) (Qab HXX.out)).trans (Qaa HXX.out 3 _ rfl)
    have m0:(wr.alloc (trO u)).drew.cell? ⟨wr.heap.size,0,none⟩=some (.int .i64 u.kind):=Qaa (xH wr (trO u)) 0 _ rfl
    have m1:(wr.alloc (trO u)).drew.cell? ⟨wr.heap.size,1,none⟩=some (.string u.text):=Qaa (xH wr (trO u)) 1 _ rfl
    have m2:(wr.alloc (trO u)).drew.cell? ⟨wr.heap.size,2,none⟩=some (.slice u.la u.ll u.lc):=Qaa (xH wr (trO u)) 2 _ rfl
    have m3:(wr.alloc (trO u)).drew.cell? ⟨wr.heap.size,3,none⟩=some (.slice u.ka u.kl u.kc):=Qaa (xH wr (trO u)) 3 _ rfl
    clear hkl2 hks2 hks3 hks4 hks5 hks6 hks7 hkd hu
    go_region_held3 (fun w'=>w'.cell? ⟨w.heap.size,0,none⟩=some (.int .i64 t.kind)∧w'.cell? ⟨w.heap.size,1,none⟩=some (.string t.text)∧w'.cell? ⟨w.heap.size,2,none⟩=some (.slice vla vll vlc)∧w'.cell? ⟨w.heap.size,3,none⟩=some (.slice (some ⟨kb,ko,none⟩) t.kids.length vkc)∧w'.cell? ⟨wr.heap.size,0,none⟩=some (.int .i64 u.kind)∧w'.cell? ⟨wr.heap.size,1,none⟩=some (.string u.text)∧w'.cell? ⟨wr.heap.size,2,none⟩=some (.slice u.la u.ll u.lc)∧w'.cell? ⟨wr.heap.size,3,none⟩=some (.slice u.ka u.kl u.kc)) (first | with_reducible exact ⟨k0,k1,k2,k3,m0,m1,m2,m3⟩ | go_keep) (first
     | (refine Qv7 _ (by rfl) _ _ _ (by rfl) B 3 ii _ 1 8 Tryz.underlying23 hii iz0 iz1 iz2 rfl (by decide) _ p.length (p.map (Value.int .i64)) (by rfl) HJA.out.hp ⟨wr.heap.size+1,0,none⟩ 1 1 [.int .i64 (j:Int)] (by rfl) (by rfl) HNA.out HNO.out (by decide) HPL.out HPB.out HJA.out.hb ?_;intro g cg w2 hown hk hg hlt2;have hlp:=Qis (n:=p.length+1) (c:=cg) hg;have hpp:=HJA.out.path hk (Qt5 hown) hlp;have HP1:=hQ hpp.1;have HK1:=hQ hpp.2.1;have HP0:=hQ hpp.2.2;have HLP:=hQ hlp;have HTB:=hQ (show w2.heap[w.heap.size]? = some (trO ⟨t.kind,t.text,vla,vll,vlc,some ⟨kb,ko,none⟩,t.kids.length,vkc⟩) from (HK1.out.block _ (Qab HTB.out) (Qeh HJA.out HTB.out)).trans HTB.out);have HKB:=hQ (show w2.heap[wr.heap.size]? = some (trO u) from (HK1.out.block _ (Qab HKB.out) (Qeh HJA.out HKB.out)).trans HKB.out);clear k0 k1 k2 k3 m0 m1 m2 m3;have k0:w2.cell? ⟨w.heap.size,0,none⟩=some (.int .i64 t.kind):=Qaa HTB.out 0 _ rfl;have k1:w2.cell? ⟨w.heap.size,1,none⟩=some (.string t.text):=Qaa HTB.out 1 _ rfl;have k2:w2.cell? ⟨w.heap.size,2,none⟩=some (.slice vla vll vlc):=Qaa HTB.out 2 _ rfl;have k3:w2.cell? ⟨w.heap.size,3,none⟩=some (.slice (some ⟨kb,ko,none⟩) t.kids.length vkc):=Qaa HTB.out 3 _ rfl;have m0:w2.cell? ⟨wr.heap.size,0,none⟩=some (.int .i64 u.kind):=Qaa HKB.out 0 _ rfl;have m1:w2.cell? ⟨wr.heap.size,1,none⟩=some (.string u.text):=Qaa HKB.out 1 _ rfl;have m2:w2.cell? ⟨wr.heap.size,2,none⟩=some (.slice u.la u.ll u.lc):=Qaa HKB.out 2 _ rfl;have m3:w2.cell? ⟨wr.heap.size,3,none⟩=some (.slice u.ka u.kl u.kc):=Qaa HKB.out 3 _ rfl;clear hown hk hg hlt2 hlp hpp)
     | (go_at_call 115;refine (Qnq (fun k=>k<B) B _ us t ⟨t.kind,t.text,vla,vll,vlc,some ⟨kb,ko,none⟩,t.kids.length,vkc⟩ PA p.length pc (j:Int) w2 (HT.out.lows ((HBW.out.trans (HBA.out.mono (HJ.out.hb))).trans (HK1.out.below HJA.out.hb (fun k hk=>Qib HJA.out hk)))) HP1.out.hs HP1.out.hb HB4.out).mono ?_;rintro e w3 he;have hle:=(fun (g':Nat) (_:(Value.slice PA p.length pc).ownBlock=some g') (_:(Value.slice (some ⟨g,0,none⟩) (p.length+1) cg).ownBlock=some g')=>(show p.length≤(p ++ [(j:Int)]).length from by rw [xB];omega));obtain ⟨sv',us',rfl,hul,hul2,hh3,hk3,hl3,hp3⟩:=HP1.out.stack HP0.out hle HNE.out HB5.out he;have HP3:=hQ hh3;have HK3:=hQ hk3;have HL3:=hQ hl3;have HUL:=hQ hul;have HUM:=hQ hul2;have HTB:=hQ (show w3.heap[w.heap.size]? = some (trO ⟨t.kind,t.text,vla,vll,vlc,some ⟨kb,ko,none⟩,t.kids.length,vkc⟩) from (HK3.out.block _ (Qab HTB.out) (Qeh HP1.out HTB.out)).trans HTB.out);have HKB:=hQ (show w3.heap[wr.heap.size]? = some (trO u) from (HK3.out.block _ (Qab HKB.out) (Qeh HP1.out HKB.out)).trans HKB.out);clear k0 k1 k2 k3 m0 m1 m2 m3;have k0:w3.cell? ⟨w.heap.size,0,none⟩=some (.int .i64 t.kind):=Qaa HTB.out 0 _ rfl;have k1:w3.cell? ⟨w.heap.size,1,none⟩=some (.string t.text):=Qaa HTB.out 1 _ rfl;have k2:w3.cell? ⟨w.heap.size,2,none⟩=some (.slice vla vll vlc):=Qaa HTB.out 2 _ rfl;have k3:w3.cell? ⟨w.heap.size,3,none⟩=some (.slice (some ⟨kb,ko,none⟩) t.kids.length vkc):=Qaa HTB.out 3 _ rfl;have m0:w3.cell? ⟨wr.heap.size,0,none⟩=some (.int .i64 u.kind):=Qaa HKB.out 0 _ rfl;have m1:w3.cell? ⟨wr.heap.size,1,none⟩=some (.string u.text):=Qaa HKB.out 1 _ rfl;have m2:w3.cell? ⟨wr.heap.size,2,none⟩=some (.slice u.la u.ll u.lc):=Qaa HKB.out 2 _ rfl;have m3:w3.cell? ⟨wr.heap.size,3,none⟩=some (.slice u.ka u.kl u.kc):=Qaa HKB.out 3 _ rfl;clear he hle hul hul2 hh3 hk3 hl3 hp3)
     | (go_at_call 71;refine (HIH.out B kd u _ wj _ (p ++ [(j:Int)]) _ us' _ w3 HSZ.out (HU.out.lows (((HBA.out.mono HJ.out.hb).trans (HK1.out.below HJA.out.hb (fun k hk=>Qib HJA.out hk))).trans (HK3.out.below HP1.out.hb (fun k hk=>Qib HP1.out hk)))) HP3.out (.inl (by simp)) HB1.out HB2.out (HB3.out _ HUL.out)).mono ?_;rintro e w4 ⟨v4,vs4,rfl,hv4,hva4,hk4,hl4⟩;have HV4:=hQ hv4;have HVA4:=hQ hva4;have HK4:=hQ hk4;have HL4:=hQ hl4;have HTB:=hQ (show w4.heap[w.heap.size]? = some (trO ⟨t.kind,t.text,vla,vll,vlc,some ⟨kb,ko,none⟩,t.kids.length,vkc⟩) from (HK4.out.block _ (Qab HTB.out) (Qeh HP3.out HTB.out)).trans HTB.out);have HKB:=hQ (show w4.heap[wr.heap.size]? = some (trO u) from (HK4.out.block _ (Qab HKB.out) (Qeh HP3.out HKB.out)).trans HKB.out);clear k0 k1 k2 k3 m0 m1 m2 m3;have k0:w4.cell? ⟨w.heap.size,0,none⟩=some (.int .i64 t.kind):=Qaa HTB.out 0 _ rfl;have k1:w4.cell? ⟨w.heap.size,1,none⟩=some (.string t.text):=Qaa HTB.out 1 _ rfl;have k2:w4.cell? ⟨w.heap.size,2,none⟩=some (.slice vla vll vlc):=Qaa HTB.out 2 _ rfl;have k3:w4.cell? ⟨w.heap.size,3,none⟩=some (.slice (some ⟨kb,ko,none⟩) t.kids.length vkc):=Qaa HTB.out 3 _ rfl;have m0:w4.cell? ⟨wr.heap.size,0,none⟩=some (.int .i64 u.kind):=Qaa HKB.out 0 _ rfl;have m1:w4.cell? ⟨wr.heap.size,1,none⟩=some (.string u.text):=Qaa HKB.out 1 _ rfl;have m2:w4.cell? ⟨wr.heap.size,2,none⟩=some (.slice u.la u.ll u.lc):=Qaa HKB.out 2 _ rfl;have m3:w4.cell? ⟨wr.heap.size,3,none⟩=some (.slice u.ka u.kl u.kc):=Qaa HKB.out 3 _ rfl;clear hv4 hva4 hk4 hl4)
     | fail)
    all_goals
     clear k0 k1 k2 k3 m0 m1 m2 m3
     have hwj:wrap64 ((j:Int)+1)=(j:Int)+1:=by have:=HKL.out;unfold wrap64;omega
     go_wp2
     go_roundw
     case measure =>
      show t.kids.length-(intOf (.int .i64 (wrap64 ((j:Int)+1)))).toNat<t.kids.length-(intOf (.int .i64 (j:Int))).toNat
      rw [hwj]
      show t.kids.length-((j:Int)+1).toNat<t.kids.length-((j:Int)).toNat
      omega
     case rel =>
      have hk24:Keeps (Qd7 (.slice LJ wj.length lcj) (wj.length*3) (.slice PA p.length pc) p.length (.slice SA us.length sc) (us.length*2)) wr w4:=by
       refine (Keeps.of_below HBA.out).trans (P':=Qd7 (.slice LJ wj.length lcj) (wj.length*3) (.slice PA p.length pc) p.length (.slice SA us.length sc) (us.length*2)) ?_ (Qnr _ _)
       have d:=HJA.out.apart
       have d':=HP1.out.apart
       have hk34:=HK3.out.trans HK4.out (Qir (Later.refl _ _) (Later.refl _ _) HL3.out (xA _) (xA _) (by have:=HUM.out;omega) d'.1 d'.2.1 d'.2.2)
       exact HK1.out.trans hk34 (Qir (Later.refl _ _) HLP.out (Later.refl _ _) (xA _) (by rw [xB];omega) (xA _) d.1 d.2.1 d.2.2)
      have hsz2:wr.heap.size≤w3.heap.size:=xQ HBA.out.size (xQ HK1.out.size HK3.out.size)
      have hsz1:(w.alloc (trO ⟨t.kind,t.text,vla,vll,vlc,some ⟨kb,ko,none⟩,t.kids.length,vkc⟩)).heap.size≤wr.heap.size:=HKS.out.size
      refine ⟨j+1,by omega,by go_num,vs' ++ vs4,?_,?_,?_,?_⟩
      ·rw [←xT,HWJ.out]
       exact HV4.out
      ·rw [Qgp HUK.out,Qlr]
       refine VarsAt.app (HVA.out.step fun v q h=>?_) ?_
       ·refine hk24.row h fun k hk'=>.inl (Qf6 (Qg2 HJ.out.hl (Qls h hk').choose_spec (by decide)) (fun e=>?_) (Qg2 HJ.out.hs (Qls h hk').choose_spec (by decide)))
        have h1:=(HH.out.hp.lt k e).2
        have h2:=(h.lt k hk').1
        omega
       ·rw [Nat.zero_add,List.length_take,Nat.min_eq_left hj]
        exact HVA4.out.step fun v q h=>Qdz h (by omega)
      ·refine HKS.out.trans hk24 ?_
       have d:=HH.out.apart
       exact Qir HLT.out (Later.refl _ _) (Later.refl _ _) (by have h:=congrArg List.length HWJ.out;rw [xB] at h;omega) (xA _) (xA _) d.1 d.2.1 d.2.2
      ·exact HLT.out.trans HL4.out (by omega)
   ·obtain rfl:j=t.kids.length:=by omega
    go_wp2
    go_ret
    refine ⟨_,vs',rfl,by rw [HWJ.out];exact HJ.out.hl,?_,(Keeps.of_below HB0.out).trans HKS.out (Qnr _ _),fun g hg=>(HLT.out g hg).imp id fun h=>xQ HB0.out.size h⟩
    have h:=HVA.out.step fun v q h=>Qdz h HB0.out.size
    rw [List.take_length] at h
    rw [Qmn,xN hk]
    exact h
end Go.Proofs.YtjidpkcjpgdafaaGreat
