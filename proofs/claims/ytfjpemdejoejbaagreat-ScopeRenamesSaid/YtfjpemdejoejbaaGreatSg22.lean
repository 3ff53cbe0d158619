/- Part 22 -/
import Derived.Test.YtfjpemdejoejbaaGreatSg21
set_option maxRecDepth 100000
set_option maxHeartbeats 4000000
namespace Go.Proofs.YtfjpemdejoejbaaGreat
open Go.RowKit Go.Shelf
def VarL (B:Nat) (lv:Value) (ws:List (Value × Value × Bool)) (pv:Value) (p:List Int) (sv:Value) (us:List (ByteArray × Value)) (st:List Bnd) (t:Tr) (w0:World) (j:Nat) (l:Value) (wr:World):Prop :=
 ∃ vs',VRow wr B l (ws ++ vs')∧VarsAt wr w0.heap.size vs' (Qg3 t.kind t.text t.kids (t.kids.take j) 0 p st)∧Keeps (Qfb lv (ws.length*3) pv p.length sv (us.length*2)) w0 wr∧Later w0 lv l
theorem Quh:(l:List Tr)→(j:Nat)→(k:Tr)→l[j]? = some k→Qak k+l.length≤Qaq l+1
 | [],_,_,h=>by simp at h
 | a :: r,0,k,h=>by
  injection h with h;subst h;have:=Qba r
  rw [Qaq,xD];omega
 | a :: r,j+1,k,h=>by
  have ih:=Quh r j k h;have:=Qa7 a
  rw [Qaq,xD];omega
theorem Qqo {t k:Tr} {j:Nat} (h:t.kids[j]? = some k):Qak k+t.kids.length≤Qak t:=by
 have h1:=Quh _ _ _ h;have h2:=Qa7 t;omega
theorem Qzk {w:World} {B:Nat} {v:Value} {p:List Int} {q:Int} (h:w.ownsRow B 3 1 v (p.length+1) (p.map (Value.int .i64) ++ [.int .i64 q])):IRow w B v (p ++ [q]):=by
 unfold IRow;rw [xB,List.length_singleton,List.map_append];exact h
theorem Qi2 {w:World} {B:Nat} {e:TypeId} {s:Nat} {v:Value} {n:Nat} {xs:List Value} (h:w.ownsRow B e s v n xs) {g:Nat} {cur:Array Value} {ty:TypeId} {fr:Nat × Nat} (hg:w.heap[g]? = some (.cells cur ty fr)) (ht:ty≠e):v.ownBlock≠some g:=fun k=>by
 rcases h.2 with ⟨rfl,_⟩|⟨g',cap,cur',rfl,_,hh,_⟩
 ·cases k
 ·injection k with k;have k':g'=g:=k;subst k';rw [hg] at hh;injection hh with hh;injection hh with _ h2;exact ht h2
theorem Qfn {B:Nat} {w:World} {lv pv sv:Value} {ws:List (Value × Value × Bool)} {p:List Int} {us:List (ByteArray × Value)} {st:List Bnd} {a b c k:Nat} {v:TV} (h:Hand B w lv ws pv p sv us st) (hk:w.heap[k]? = some (trO v)):Qfb lv a pv b sv c k=none :=
 Qhz (Qi2 h.hl hk (by decide)) (Qi2 h.hp hk (by decide)) (Qi2 h.hs hk (by decide))
theorem Qn3 {w:World} {B:Nat} {v:Value} {p:List Int} {g:Nat} (h:IRow w B v p) (hg:v.ownBlock=some g):∃ cur,w.heap[g]? = some (.cells cur 3 (0,0)):=by
 rcases h.2 with ⟨rfl,_⟩|⟨g',cap,cur,rfl,_,hh,_⟩
 ·cases hg
 ·injection hg with hg;have e:g'=g:=hg;subst e;exact ⟨cur,hh⟩
theorem Qkb {B:Nat} {w:World} {lv pv sv:Value} {ws:List (Value × Value × Bool)} {p:List Int} {us:List (ByteArray × Value)} {st:List Bnd} {a b c k:Nat} (h:Hand B w lv ws pv p sv us st) (hk:k<B):Qfb lv a pv b sv c k=none :=
 Qhz (fun e=>by have:=(h.hl.lt k e).1;omega) (fun e=>by have:=(h.hp.lt k e).1;omega) (fun e=>by have:=(h.hs.lt k e).1;omega)
theorem Qwl {B:Nat} {w:World} {lv pv sv:Value} {ws:List (Value × Value × Bool)} {p:List Int} {us:List (ByteArray × Value)} {st:List Bnd} {a b c k:Nat} (h:Hand B w lv ws pv p sv us st) (hk:w.heap.size≤k):Qfb lv a pv b sv c k=none :=
 Qhz (fun e=>by have:=(h.hl.lt k e).2;omega) (fun e=>by have:=(h.hp.lt k e).2;omega) (fun e=>by have:=(h.hs.lt k e).2;omega)
theorem Qpf (N:Nat):∀ (B:Nat) (t:Tr) (v:TV) (lv:Value) (ws:List (Value × Value × Bool)) (pv:Value) (p:List Int) (sv:Value) (us:List (ByteArray × Value)) (st:List Bnd) (w:World),SizeOf.sizeOf t≤N→TrAt (fun k=>k<B) w t v→Hand B w lv ws pv p sv us st →
  (p≠[]∨t.kind=2)→ws.length+Qak t≤100000→p.length+Qak t≤1000000→us.length+2*Qak t≤1000000 →
  Calls Tryz.prog 48 #[lv,.agg #[.int .i64 v.kind,.string v.text,.slice v.la v.ll v.lc,.slice v.ka v.kl v.kc],pv,sv] w (Qzi B lv ws pv p sv us st t w):=by
 induction N with
 | zero=>intro B t v lv ws pv p sv us st w h;have:=Qgu t;omega
 | succ N ih =>
 intro B t v lv ws pv p sv us st w hN ht hh hne h1 h2 h3
 by_cases hk:t.kind=12
 ·have hs1:=Qa7 t;exact Qpe B t v lv ws pv p sv us st w ht hh hk (hne.resolve_right (by rw [hk];decide)) (by omega) (by omega) (by omega)
 ·obtain ⟨LA,lc,hlv⟩:=Qdq hh.hl;obtain ⟨PA,pc,hpv⟩:=Qdq hh.hp;obtain ⟨SA,sc,hsv⟩:=Qdq hh.hs;subst hlv hpv hsv;have hb0:=Qas w (trO v);have HT:=hQ (ht.lows (hb0.mono hh.hb));have HX:=hQ (xH w (trO v));have HH:=hQ (hh.later hb0);have HB0:=hQ hb0;have HH0:=hQ hh;have hkl:=ht.kl.1;have hkd:=ht.kl.2.2.1;have htx:=ht.kl.2.2.2;obtain ⟨vk,vx,vla,vll,vlc,vka,vkl,vkc⟩:=v;simp only at hkl hkd htx;subst hkl hkd htx;have HIH:=hQ ih;have HNE:=hQ hne;have H1:=hQ h1;have H2:=hQ h2;have H3:=hQ h3;have HN:=hQ hN;have HKL:=hQ (show t.kids.length≤100000 from by have:=Qba t.kids;have:=Qa7 t;omega);have d12:decide (t.kind=12)=false:=xR hk;have d12':(t.kind==12)=false:=by simpa using hk
  clear ht hh hb0 ih hne h1 h2 h3 hN
  go_enter Tryz.func48,Tryz.ntmps48
  go_wp2_with fail
  go_loopw [0,35] (fun l i wr=>∃ j:Nat,j≤t.kids.length∧i = .int .i64 (j:Int)∧VarL B (.slice LA ws.length lc) ws (.slice PA p.length pc) p (.slice SA us.length sc) us st t (w.alloc (trO ⟨t.kind,t.text,vla,vll,vlc,vka,t.kids.length,vkc⟩)) j l wr) (fun _ i _=>t.kids.length-(intOf i).toNat)
  case atStart =>
   exact ⟨0,xZ _,rfl,[],by rw [List.append_nil];exact HH.out.hl,by rw [List.take_zero,Qg3];exact VarsAt.nil _ _,Keeps.refl _ _,Later.refl _ _⟩
  case round =>
   obtain ⟨j,hj,rfl,vs',hvr,hva,hks,hlt⟩:=hrel;obtain ⟨wj,hwj⟩:∃ wj,ws ++ vs'=wj:=⟨_,rfl⟩;rw [hwj] at hvr;obtain ⟨LJ,lcj,hlj⟩:=Qdq hvr;subst hlj
   have HJ:=hQ (show Hand B wr (.slice LJ wj.length lcj) wj (.slice PA p.length pc) p (.slice SA us.length sc) us st from by
    have h:=HH.out.keep hks;exact ⟨hvr,h.hp,h.hs,h.hm,h.hb⟩)
   have HVA:=hQ hva;have HWJ:=hQ hwj;have HKS:=hQ hks;have HLT:=hQ hlt;have HBW:=hQ (show Below B (w.alloc (trO ⟨t.kind,t.text,vla,vll,vlc,vka,t.kids.length,vkc⟩)) wr from hks.below HH.out.hb (fun k hk=>Qkb HH.out hk));have HXX:=hQ (show wr.heap[w.heap.size]? = some (trO ⟨t.kind,t.text,vla,vll,vlc,vka,t.kids.length,vkc⟩) from (hks.block _ (Qaa HX.out) (Qwl HH0.out (xA _))).trans HX.out);clear hvr hva hks hlt hwj
   by_cases hlt:j<t.kids.length
   ·obtain ⟨kb,ko,hka⟩:∃ b off,vka=some ⟨b,off,none⟩:=HT.out.addr.resolve_left (by omega);subst hka;obtain ⟨kd,hkd⟩:∃ kd,t.kids[j]? = some kd:=⟨_,xF hlt⟩;obtain ⟨u,c0,c1,c2,c3,hu⟩:=(HT.out.lows HBW.out).at rfl hkd;have hcap:=HT.out.caps.2;simp only at hcap;have k0:=Qab HXX.out 0 _ rfl;have k1:=Qab HXX.out 1 _ rfl;have k2:=Qab HXX.out 2 _ rfl;have k3:=Qab HXX.out 3 _ rfl;go_wp2_with fail
    have hkl2:=Qa0 hkd;have hks2:=Qqo hkd;have hks3:=Qc0 hkd;have hks4:=Qdw t.kids (j+1);have hks5:=Qa7 t;have hks6:vs'.length≤Qaq (t.kids.take j):=by rw [HVA.out.1];exact Qmp _ _ _ _ _ _ _
    have hks7:wj.length=ws.length+vs'.length:=by rw [←HWJ.out,xB]
    have HB1:=hQ (show wj.length+Qak kd≤100000 from by have:=H1.out;omega);have HB2:=hQ (show (p ++ [(j:Int)]).length+Qak kd≤1000000 from by have:=H2.out;rw [xB,List.length_singleton];omega);have HB3:=hQ (show ∀ m:Nat,m≤us.length+t.kids.length+1→m+2*Qak kd≤1000000 from fun m hm=>by have:=H3.out;omega);have HB4:=hQ (show us.length+t.kids.length+1≤1000000 from by have:=H3.out;omega);have HB5:=hQ (show p.length≤1000000 from by have:=H2.out;omega);have HSZ:=hQ (show SizeOf.sizeOf kd≤N from by have:=HN.out;omega);have HUK:=hQ hkd;have HU:=hQ hu;have HBD:=hQ (show Below wr.heap.size wr (wr.alloc (trO u)).drew from (Qas wr (trO u)).drew);have HBA:=hQ (show Below wr.heap.size wr (((wr.alloc (trO u)).drew).alloc (.cells #[.int .i64 (j:Int)] 3)) from HBD.out.alloc HBD.out.size _);have HJA:=hQ (show Hand B (((wr.alloc (trO u)).drew).alloc (.cells #[.int .i64 (j:Int)] 3)) (.slice LJ wj.length lcj) wj (.slice PA p.length pc) p (.slice SA us.length sc) us st from HJ.out.later HBA.out);have HTB:=hQ (show (((wr.alloc (trO u)).drew).alloc (.cells #[.int .i64 (j:Int)] 3)).heap[w.heap.size]? = some (trO ⟨t.kind,t.text,vla,vll,vlc,some ⟨kb,ko,none⟩,t.kids.length,vkc⟩) from (HBA.out.block _ (Qaa HXX.out)).trans HXX.out);have HKB:=hQ (show (((wr.alloc (trO u)).drew).alloc (.cells #[.int .i64 (j:Int)] 3)).heap[wr.heap.size]? = some (trO u) from (Below.heap_alloc _ _ _ (by show _<(wr.alloc (trO u)).heap.size;rw [xI];omega)).trans (xH wr (trO u)))
    have HNA:=hQ (show ∀ (i:Nat) (x:Value),[(Value.int .i64 (j:Int))][i]? = some x→(((wr.alloc (trO u)).drew).alloc (.cells #[.int .i64 (j:Int)] 3)).cell? ((⟨wr.heap.size+1,0,none⟩:Addr).add i)=some x from xM (cs:=#[.int .i64 (j:Int)]) (t:=3) (fr:=(0,0)) (by
     have:=xH (wr.alloc (trO u)).drew (.cells #[.int .i64 (j:Int)] 3)
     rwa [show (wr.alloc (trO u)).drew.heap.size=wr.heap.size+1 from xI wr (trO u)] at this))
    have HNO:=hQ (show ∀ x∈[(Value.int .i64 (j:Int))],x.oneCell'=true from by intro x hx;rw [List.mem_singleton] at hx;rw [hx];rfl);have HPL:=hQ (show p.length+1≤maxLen from by have:=H2.out;have:=Qa7 t;unfold maxLen;omega);have HPB:=hQ (show (p.length+1)*8≤140737488355328 from by have:=H2.out;have:=Qa7 t;omega);obtain ⟨ii,hii,iz0,iz1,iz2⟩:=info_parts Qqk;have k0:(wr.alloc (trO u)).drew.cell? ⟨w.heap.size,0,none⟩=some (.int .i64 t.kind):=(HBD.out.cell (p:=⟨w.heap.size,0,none⟩) (Qaa HXX.out)).trans (Qab HXX.out 0 _ rfl);have k1:(wr.alloc (trO u)).drew.cell? ⟨w.heap.size,1,none⟩=some (.string t.text):=(HBD.out.cell (p:=⟨w.heap.size,1,none⟩) (Qaa HXX.out)).trans (Qab HXX.out 1 _ rfl);have k2:(wr.alloc (trO u)).drew.cell? ⟨w.heap.size,2,none⟩=some (.slice vla vll vlc):=(HBD.out.cell (p:=⟨w.heap.size,2,none⟩) (Qaa HXX.out)).trans (Qab HXX.out 2 _ rfl);have k3:(wr.alloc (trO u)).drew.cell? ⟨w.heap.size,3,none⟩=some (.slice (some ⟨kb,ko,none⟩) t.kids.length vkc):=(HBD.out.cell (p:=⟨w.heap.size,3,none⟩) (Qaa HXX.out)).trans (Qab HXX.out 3 _ rfl);have m0:(wr.alloc (trO u)).drew.cell? ⟨wr.heap.size,0,none⟩=some (.int .i64 u.kind):=Qab (xH wr (trO u)) 0 _ rfl;have m1:(wr.alloc (trO u)).drew.cell? ⟨wr.heap.size,1,none⟩=some (.string u.text):=Qab (xH wr (trO u)) 1 _ rfl;have m2:(wr.alloc (trO u)).drew.cell? ⟨wr.heap.size,2,none⟩=some (.slice u.la u.ll u.lc):=Qab (xH wr (trO u)) 2 _ rfl;have m3:(wr.alloc (trO u)).drew.cell? ⟨wr.heap.size,3,none⟩=some (.slice u.ka u.kl u.kc):=Qab (xH wr (trO u)) 3 _ rfl;clear hkl2 hks2 hks3 hks4 hks5 hks6 hks7 hkd hu
    go_region_held3 (fun w'=>w'.cell? ⟨w.heap.size,0,none⟩=some (.int .i64 t.kind)∧w'.cell? ⟨w.heap.size,1,none⟩=some (.string t.text)∧w'.cell? ⟨w.heap.size,2,none⟩=some (.slice vla vll vlc)∧w'.cell? ⟨w.heap.size,3,none⟩=some (.slice (some ⟨kb,ko,none⟩) t.kids.length vkc)∧w'.cell? ⟨wr.heap.size,0,none⟩=some (.int .i64 u.kind)∧w'.cell? ⟨wr.heap.size,1,none⟩=some (.string u.text)∧w'.cell? ⟨wr.heap.size,2,none⟩=some (.slice u.la u.ll u.lc)∧w'.cell? ⟨wr.heap.size,3,none⟩=some (.slice u.ka u.kl u.kc)) (first | with_reducible exact ⟨k0,k1,k2,k3,m0,m1,m2,m3⟩ | go_keep) (first
     | (refine Zc5 _ (by rfl) _ _ _ (by rfl) B 3 ii _ 1 8 Tryz.underlying35 hii iz0 iz1 iz2 rfl (by decide) _ p.length (p.map (Value.int .i64)) (by rfl) HJA.out.hp ⟨wr.heap.size+1,0,none⟩ 1 1 [.int .i64 (j:Int)] (by rfl) (by rfl) HNA.out HNO.out (by decide) HPL.out HPB.out HJA.out.hb ?_;intro g cg w2 hown hk hg hlt2;have hlp:=Qkx (n:=p.length+1) (c:=cg) hg;have hpp:=HJA.out.path hk (Qzk hown) hlp;have HP1:=hQ hpp.1;have HK1:=hQ hpp.2.1;have HP0:=hQ hpp.2.2;have HLP:=hQ hlp;have HTB:=hQ (show w2.heap[w.heap.size]? = some (trO ⟨t.kind,t.text,vla,vll,vlc,some ⟨kb,ko,none⟩,t.kids.length,vkc⟩) from (HK1.out.block _ (Qaa HTB.out) (Qfn HJA.out HTB.out)).trans HTB.out);have HKB:=hQ (show w2.heap[wr.heap.size]? = some (trO u) from (HK1.out.block _ (Qaa HKB.out) (Qfn HJA.out HKB.out)).trans HKB.out);clear k0 k1 k2 k3 m0 m1 m2 m3;have k0:w2.cell? ⟨w.heap.size,0,none⟩=some (.int .i64 t.kind):=Qab HTB.out 0 _ rfl;have k1:w2.cell? ⟨w.heap.size,1,none⟩=some (.string t.text):=Qab HTB.out 1 _ rfl;have k2:w2.cell? ⟨w.heap.size,2,none⟩=some (.slice vla vll vlc):=Qab HTB.out 2 _ rfl;have k3:w2.cell? ⟨w.heap.size,3,none⟩=some (.slice (some ⟨kb,ko,none⟩) t.kids.length vkc):=Qab HTB.out 3 _ rfl;have m0:w2.cell? ⟨wr.heap.size,0,none⟩=some (.int .i64 u.kind):=Qab HKB.out 0 _ rfl;have m1:w2.cell? ⟨wr.heap.size,1,none⟩=some (.string u.text):=Qab HKB.out 1 _ rfl;have m2:w2.cell? ⟨wr.heap.size,2,none⟩=some (.slice u.la u.ll u.lc):=Qab HKB.out 2 _ rfl;have m3:w2.cell? ⟨wr.heap.size,3,none⟩=some (.slice u.ka u.kl u.kc):=Qab HKB.out 3 _ rfl;clear hown hk hg hlt2 hlp hpp)
     | (go_at_call 78;refine (Qqm (fun k=>k<B) B _ us t ⟨t.kind,t.text,vla,vll,vlc,some ⟨kb,ko,none⟩,t.kids.length,vkc⟩ PA p.length pc (j:Int) w2 (HT.out.lows ((HBW.out.trans (HBA.out.mono (HJ.out.hb))).trans (HK1.out.below HJA.out.hb (fun k hk=>Qkb HJA.out hk)))) HP1.out.hs HP1.out.hb HB4.out).mono ?_;rintro e w3 he;have hle:=(fun (g':Nat) (_:(Value.slice PA p.length pc).ownBlock=some g') (_:(Value.slice (some ⟨g,0,none⟩) (p.length+1) cg).ownBlock=some g')=>(show p.length≤(p ++ [(j:Int)]).length from by rw [xB];omega));obtain ⟨sv',us',rfl,hul,hul2,hh3,hk3,hl3,hp3⟩:=HP1.out.stack HP0.out hle HNE.out HB5.out he;have HP3:=hQ hh3;have HK3:=hQ hk3;have HL3:=hQ hl3;have HUL:=hQ hul;have HUM:=hQ hul2;have HTB:=hQ (show w3.heap[w.heap.size]? = some (trO ⟨t.kind,t.text,vla,vll,vlc,some ⟨kb,ko,none⟩,t.kids.length,vkc⟩) from (HK3.out.block _ (Qaa HTB.out) (Qfn HP1.out HTB.out)).trans HTB.out);have HKB:=hQ (show w3.heap[wr.heap.size]? = some (trO u) from (HK3.out.block _ (Qaa HKB.out) (Qfn HP1.out HKB.out)).trans HKB.out);clear k0 k1 k2 k3 m0 m1 m2 m3;have k0:w3.cell? ⟨w.heap.size,0,none⟩=some (.int .i64 t.kind):=Qab HTB.out 0 _ rfl;have k1:w3.cell? ⟨w.heap.size,1,none⟩=some (.string t.text):=Qab HTB.out 1 _ rfl;have k2:w3.cell? ⟨w.heap.size,2,none⟩=some (.slice vla vll vlc):=Qab HTB.out 2 _ rfl;have k3:w3.cell? ⟨w.heap.size,3,none⟩=some (.slice (some ⟨kb,ko,none⟩) t.kids.length vkc):=Qab HTB.out 3 _ rfl;have m0:w3.cell? ⟨wr.heap.size,0,none⟩=some (.int .i64 u.kind):=Qab HKB.out 0 _ rfl;have m1:w3.cell? ⟨wr.heap.size,1,none⟩=some (.string u.text):=Qab HKB.out 1 _ rfl;have m2:w3.cell? ⟨wr.heap.size,2,none⟩=some (.slice u.la u.ll u.lc):=Qab HKB.out 2 _ rfl;have m3:w3.cell? ⟨wr.heap.size,3,none⟩=some (.slice u.ka u.kl u.kc):=Qab HKB.out 3 _ rfl;clear he hle hul hul2 hh3 hk3 hl3 hp3)
     | (go_at_call 48;refine (HIH.out B kd u _ wj _ (p ++ [(j:Int)]) _ us' _ w3 HSZ.out (HU.out.lows (((HBA.out.mono HJ.out.hb).trans (HK1.out.below HJA.out.hb (fun k hk=>Qkb HJA.out hk))).trans (HK3.out.below HP1.out.hb (fun k hk=>Qkb HP1.out hk)))) HP3.out (.inl (by simp)) HB1.out HB2.out (HB3.out _ HUL.out)).mono ?_;rintro e w4 ⟨v4,vs4,rfl,hv4,hva4,hk4,hl4⟩;have HV4:=hQ hv4;have HVA4:=hQ hva4;have HK4:=hQ hk4;have HL4:=hQ hl4;have HTB:=hQ (show w4.heap[w.heap.size]? = some (trO ⟨t.kind,t.text,vla,vll,vlc,some ⟨kb,ko,none⟩,t.kids.length,vkc⟩) from (HK4.out.block _ (Qaa HTB.out) (Qfn HP3.out HTB.out)).trans HTB.out);have HKB:=hQ (show w4.heap[wr.heap.size]? = some (trO u) from (HK4.out.block _ (Qaa HKB.out) (Qfn HP3.out HKB.out)).trans HKB.out);clear k0 k1 k2 k3 m0 m1 m2 m3;have k0:w4.cell? ⟨w.heap.size,0,none⟩=some (.int .i64 t.kind):=Qab HTB.out 0 _ rfl;have k1:w4.cell? ⟨w.heap.size,1,none⟩=some (.string t.text):=Qab HTB.out 1 _ rfl;have k2:w4.cell? ⟨w.heap.size,2,none⟩=some (.slice vla vll vlc):=Qab HTB.out 2 _ rfl;have k3:w4.cell? ⟨w.heap.size,3,none⟩=some (.slice (some ⟨kb,ko,none⟩) t.kids.length vkc):=Qab HTB.out 3 _ rfl;have m0:w4.cell? ⟨wr.heap.size,0,none⟩=some (.int .i64 u.kind):=Qab HKB.out 0 _ rfl;have m1:w4.cell? ⟨wr.heap.size,1,none⟩=some (.string u.text):=Qab HKB.out 1 _ rfl;have m2:w4.cell? ⟨wr.heap.size,2,none⟩=some (.slice u.la u.ll u.lc):=Qab HKB.out 2 _ rfl;have m3:w4.cell? ⟨wr.heap.size,3,none⟩=some (.slice u.ka u.kl u.kc):=Qab HKB.out 3 _ rfl;clear hv4 hva4 hk4 hl4)
     | fail)
    all_goals
     clear k0 k1 k2 k3 m0 m1 m2 m3;have hwj:wrap64 ((j:Int)+1)=(j:Int)+1:=by have:=HKL.out;unfold wrap64;omega
     go_wp2
     go_roundw
     case measure =>
      show t.kids.length-(intOf (.int .i64 (wrap64 ((j:Int)+1)))).toNat<t.kids.length-(intOf (.int .i64 (j:Int))).toNat
      rw [hwj]
      show t.kids.length-((j:Int)+1).toNat<t.kids.length-((j:Int)).toNat
      omega
     case rel =>
      have hk24:Keeps (Qfb (.slice LJ wj.length lcj) (wj.length*3) (.slice PA p.length pc) p.length (.slice SA us.length sc) (us.length*2)) wr w4:=by
       refine (Keeps.of_below HBA.out).trans (P':=Qfb (.slice LJ wj.length lcj) (wj.length*3) (.slice PA p.length pc) p.length (.slice SA us.length sc) (us.length*2)) ?_ (Qqn _ _);have d:=HJA.out.apart;have d':=HP1.out.apart;have hk34:=HK3.out.trans HK4.out (Qkw (Later.refl _ _) (Later.refl _ _) HL3.out (xA _) (xA _) (by have:=HUM.out;omega) d'.1 d'.2.1 d'.2.2);exact HK1.out.trans hk34 (Qkw (Later.refl _ _) HLP.out (Later.refl _ _) (xA _) (by rw [xB];omega) (xA _) d.1 d.2.1 d.2.2)
      have hsz2:wr.heap.size≤w3.heap.size:=xQ HBA.out.size (xQ HK1.out.size HK3.out.size);have hsz1:(w.alloc (trO ⟨t.kind,t.text,vla,vll,vlc,some ⟨kb,ko,none⟩,t.kids.length,vkc⟩)).heap.size≤wr.heap.size:=HKS.out.size
      refine ⟨j+1,by omega,by go_num,vs' ++ vs4,?_,?_,?_,?_⟩
      ·rw [←xT,HWJ.out];exact HV4.out
      ·rw [Qeu HUK.out,Qn2]
       refine VarsAt.app (HVA.out.step fun v q h=>?_) ?_
       ·refine hk24.row h fun k hk'=>.inl (Qhz (Qi2 HJ.out.hl (Qn3 h hk').choose_spec (by decide)) (fun e=>?_) (Qi2 HJ.out.hs (Qn3 h hk').choose_spec (by decide)))
        have h1:=(HH.out.hp.lt k e).2;have h2:=(h.lt k hk').1;omega
       ·rw [Nat.zero_add,List.length_take,Nat.min_eq_left hj];exact HVA4.out.step fun v q h=>Qij h (by omega)
      ·refine HKS.out.trans hk24 ?_;have d:=HH.out.apart;exact Qkw HLT.out (Later.refl _ _) (Later.refl _ _) (by have h:=congrArg List.length HWJ.out;rw [xB] at h;omega) (xA _) (xA _) d.1 d.2.1 d.2.2
      ·exact HLT.out.trans HL4.out (by omega)
   ·obtain rfl:j=t.kids.length:=by omega
    go_wp2
    go_ret
    refine ⟨_,vs',rfl,by rw [HWJ.out];exact HJ.out.hl,?_,(Keeps.of_below HB0.out).trans HKS.out (Qqn _ _),fun g hg=>(HLT.out g hg).imp id fun h=>xQ HB0.out.size h⟩;have h:=HVA.out.step fun v q h=>Qij h HB0.out.size
    rw [List.take_length] at h;rw [Qo9,xN hk];exact h
def Qfx (t:Tr):Bool:=decide (t.kind=2) && Qan t
theorem Qfy (S:Nat→Prop) (t:Tr) (v:TV) (w:World) (ht:TrAt S w t v) (hs:Qcf t=true) (hw:Qdb t=true) :
  Calls Tryz.prog 47 #[.agg #[.int .i64 v.kind,.string v.text,.slice v.la v.ll v.lc,.slice v.ka v.kl v.kc]] w fun e w'=>e = .returned (.bool (Qfx t))∧Below w.heap.size w w':=by
 have hb0:=Qas w (trO v);have HT:=hQ (ht.keep hb0);have HX:=hQ (xH w (trO v));have HB0:=hQ hb0;have HS:=hQ hs;have HW:=hQ hw;have hkd:=ht.kl.2.2.1;obtain ⟨vk,vx,vla,vll,vlc,vka,vkl,vkc⟩:=v;simp only at hkd;subst hkd;clear ht hb0 hs hw
 by_cases h2:t.kind=2
 ·have HF:=hQ (show Qfx t=Qan t from by unfold Qfx;rw [xS h2,Bool.true_and]);have d2:decide (t.kind=2)=true:=xS h2;have d2':(t.kind==2)=true:=by simpa using h2
  go_enter Tryz.func47,Tryz.ntmps47
  clear h2;go_wp2_with (go_at_call 62;refine (Qv9 _ _ t _ _ (xA _) HT.out HS.out HW.out).mono ?_;rintro e w1 ⟨rfl,hb⟩;have HB1:=hQ (HB0.out.trans (hb.mono HB0.out.size));clear hb)
  go_ret
  exact ⟨Qah HF.out.symm,HB1.out⟩
 ·have HF:=hQ (show Qfx t=false from by unfold Qfx;rw [xR h2,Bool.false_and]);have d2:decide (t.kind=2)=false:=xR h2
  go_enter Tryz.func47,Tryz.ntmps47
  go_wp2
  go_ret
  exact ⟨Qah HF.out.symm,HB0.out⟩
def Qfo (t:Tr):List Vrb:=if Qfx t=true then Qi8 t [] [] else []
theorem Qzl (a b c k:Nat):Qfb (.slice none 0 0) a (.slice none 0 0) b (.slice none 0 0) c k=none:=Qhz (by intro h;cases h) (by intro h;cases h) (by intro h;cases h)
theorem Zda (w:World):Hand w.heap.size w (.slice none 0 0) [] (.slice none 0 0) [] (.slice none 0 0) [] [] :=
 ⟨World.ownsRow_nil _ _ _ _,World.ownsRow_nil _ _ _ _,World.ownsRow_nil _ _ _ _,⟨rfl,fun j y z hy=>by simp at hy⟩,xA _⟩
theorem Qg4 (S:Nat→Prop) (t:Tr) (v:TV) (w:World) (ht:TrAt S w t v) (hs:Qcf t=true) (hw:Qdb t=true) (hz:Qak t≤10000) :
  Calls Tryz.prog 20 #[.agg #[.int .i64 v.kind,.string v.text,.slice v.la v.ll v.lc,.slice v.ka v.kl v.kc]] w fun e w'=>∃ r ws,e = .returned r∧VRow w' w.heap.size r ws∧VarsAt w' w.heap.size ws (Qfo t)∧Below w.heap.size w w':=by
 have hb0:=Qas w (trO v);have HT:=hQ (ht.keep hb0);have HX:=hQ (xH w (trO v));have HB0:=hQ hb0;have HS:=hQ hs;have HW:=hQ hw;have HZ:=hQ hz;obtain ⟨vk,vx,vla,vll,vlc,vka,vkl,vkc⟩:=v;clear ht hb0 hs hw hz
 cases hf:Qfx t
 ·have HF:=hQ hf;have HR:=hQ (show Qfo t = [] from by unfold Qfo;rw [hf];rfl);clear hf
  go_enter Tryz.func20,Tryz.ntmps20
  go_wp2_with (go_at_call 47;refine (Qfy _ t _ _ HT.out HS.out HW.out).mono ?_;rw [HF.out];rintro e w1 ⟨rfl,hb⟩;have HB1:=hQ (HB0.out.trans (hb.mono HB0.out.size));clear hb)
  go_ret
  exact ⟨_,[],rfl,World.ownsRow_nil _ _ _ _,by rw [HR.out];exact VarsAt.nil _ _,HB1.out⟩
 ·have HF:=hQ hf;have HR:=hQ (show Qfo t=Qi8 t [] [] from by unfold Qfo;rw [hf];rfl);have HK:=hQ (show t.kind=2 from by unfold Qfx at hf;simp at hf;exact hf.1);clear hf
  go_enter Tryz.func20,Tryz.ntmps20
  go_wp2_with (first
   | (go_at_call 47;refine (Qfy _ t _ _ HT.out HS.out HW.out).mono ?_;rw [HF.out];rintro e w1 ⟨rfl,hb⟩;have HB1:=hQ (HB0.out.trans (hb.mono HB0.out.size));have HT1:=hQ (TrAt.low t _ (HT.out.keep hb));have hx1:=(hb.block _ (Qaa HX.out)).trans HX.out;have k0:w1.cell? ⟨w.heap.size,0,none⟩=some (.int .i64 vk):=Qab hx1 0 _ rfl;have k1:w1.cell? ⟨w.heap.size,1,none⟩=some (.string vx):=Qab hx1 1 _ rfl;have k2:w1.cell? ⟨w.heap.size,2,none⟩=some (.slice vla vll vlc):=Qab hx1 2 _ rfl;have k3:w1.cell? ⟨w.heap.size,3,none⟩=some (.slice vka vkl vkc):=Qab hx1 3 _ rfl;clear hb hx1)
   | (go_at_call 48;refine (Qpf _ w1.heap.size t _ _ [] _ [] _ [] [] _ (xA _) HT1.out (Zda w1) (.inr HK.out) (by have:=HZ.out;simp;omega) (by have:=HZ.out;simp;omega) (by have:=HZ.out;simp;omega)).mono ?_;rintro e w2 ⟨r,ws,rfl,hr,hv,hk,_⟩;have HR2:=hQ (Qij hr HB1.out.size);have HV2:=hQ (hv.step fun v q h=>Qij h HB1.out.size);have HB2:=hQ (HB1.out.trans ((hk.below (xA _) (fun k _=>Qzl _ _ _ k)).mono HB1.out.size));clear hr hv hk))
  go_ret
  exact ⟨_,ws,rfl,HR2.out,by rw [HR.out];exact HV2.out,HB2.out⟩
def StkE (w:World) (PA:Option Addr) (wr:World) (us:List (ByteArray × Value)) (st:List Bnd):Prop:=us.length=st.length∧∀ (j:Nat) (y:ByteArray × Value) (z:Bnd),us[j]? = some y→st[j]? = some z →
 y.1=z.1∧z.2≠[]∧z.2.length≤1000000∧(IB wr w.heap.size y.2 z.2∨∃ pc,y.2 = .slice PA z.2.length pc∧IntsAt w PA z.2)
def Zgc (t:Tr) (PA:Option Addr) (zs:List Int) (w:World) (D:Nat) (r i:Value) (wr:World):Prop :=
 ∃ (j m:Nat) (x:TV) (cur:Tr) (us:List (ByteArray × Value)) (st:List Bnd),i = .int .i64 (j:Int)∧j≤zs.length∧wr.heap[D]? = some (trO x)∧TrAt (fun k=>k<w.heap.size) wr cur x∧Below w.heap.size w wr∧0≤Qnd m cur (zs.drop j)∧(zs.take j≠[]∨cur.kind=2)∧Qak cur≤Qak t∧us.length+2*Qak cur≤20000 ∧
  Ql0 wr (D+1) r us∧StkE w PA wr us st∧Qbt t [] zs [] = Qbt cur (zs.take j) (zs.drop j) st
theorem Qzm (w:World) {b k:Nat} (u:TV) (h:k≠b):(Qeg w b u).heap[k]? = w.heap[k]?:=by
 unfold Qeg;rw [heap_setCell_other _ _ _ _ h,heap_setCell_other _ _ _ _ h,heap_setCell_other _ _ _ _ h,heap_setCell_other _ _ _ _ h]
theorem Qzn {w w':World} {B:Nat} {e:TypeId} {s:Nat} {v:Value} {n:Nat} {xs:List Value} (h:w.ownsRow B e s v n xs) (hk:∀ k,B≤k→w'.heap[k]? = w.heap[k]?):w'.ownsRow B e s v n xs:=by
 refine ⟨h.1,?_⟩
 rcases h.2 with h0|⟨g,cap,cur,hv,hb,hh,hr⟩
 ·exact .inl h0
 ·exact .inr ⟨g,cap,cur,hv,hb,(hk g hb).trans hh,hr⟩
theorem IntsAt.take {w:World} {A:Option Addr} {zs:List Int} {j:Nat} (h:IntsAt w A zs):IntsAt w A (zs.take j):=fun hne=>by
 obtain ⟨b,off,h1,h2,h3⟩:=h (fun e=>hne (by rw [e,List.take_nil]));refine ⟨b,off,h1,h2,fun i x hx=>h3 i x ?_⟩;have hi:=(xP.1 hx).1;rw [List.length_take] at hi
 rwa [List.getElem?_take_of_lt (by omega)] at hx
theorem Qzo {w wr wd w3:World} {D j c:Nat} {PA:Option Addr} {r:Value} {us us':List (ByteArray × Value)} {st:List Bnd} {cur:Tr} {p:List Int} {q:Int} {x:TV} (hr:Ql0 wr (D+1) r us) (hrd:Ql0 wd (D+1) r us) (hst:StkE w PA wr us st) (hd:Below wr.heap.size wr wd) (hk:Keeps (pre r (us.length*2)) wd w3) (hD:w.heap.size≤D)
  (hc:(cur.kind=20∧q=1∧us' = [(cur.text,Value.slice PA j c)])∨(¬(cur.kind=20∧q=1)∧cur.kind=2∧q=(cur.kids.length:Int)-1∧ParamsAt w3 wd.heap.size us' (Qek cur.kids))∨(¬(cur.kind=20∧q=1)∧¬(cur.kind=2∧q=(cur.kids.length:Int)-1)∧us' = []))
  (hpl:p.length=j) (hA:IntsAt w PA p) (hne:p≠[]∨cur.kind=2) (hjl:p.length≤1000000) (hwd:w.heap.size≤wd.heap.size) (hx:w3.heap[D]? = some (trO x)) (u:TV) :
  StkE w PA (Qeg w3 D u) (us ++ us') (st ++ Qct cur.kind cur.text cur.kids p q)∧us'.length≤cur.kids.length+1:=by
 have set:∀ {v:Value} {z:List Int},IB w3 w.heap.size v z→IB (Qeg w3 D u) w.heap.size v z:=fun {v z} ⟨g,cp,cu,h1,h2,h3,h4⟩=>⟨g,cp,cu,h1,h2,(Qzm w3 u (fun e=>by
  subst e;rw [hx] at h3;injection h3 with h3;injection h3 with _ h5;exact absurd h5 (by decide))).trans h3,h4⟩
 have hlen:us'.length=(Qct cur.kind cur.text cur.kids p q).length∧∀ (i:Nat) (y:ByteArray × Value) (z:Bnd),us'[i]? = some y→(Qct cur.kind cur.text cur.kids p q)[i]? = some z →
   y.1=z.1∧z.2≠[]∧z.2.length≤1000000∧(IB (Qeg w3 D u) w.heap.size y.2 z.2∨∃ pc,y.2 = .slice PA z.2.length pc∧IntsAt w PA z.2):=by
  rcases hc with ⟨c1,c2,rfl⟩|⟨c0,c1,c2,hp⟩|⟨c0,c1,rfl⟩
  ·have he:Qct cur.kind cur.text cur.kids p q = [(cur.text,p)]:=xO ⟨c1,c2⟩;rw [he];have hp0:p≠[]:=hne.resolve_right (by rw [c1];decide);refine ⟨rfl,fun i y z hy hz=>?_⟩
   match i,hy,hz with
   | 0,hy,hz =>
    injection hy with hy;injection hz with hz;subst hy hz;exact ⟨rfl,hp0,hjl,.inr ⟨c,by rw [hpl],hA⟩⟩
  ·have he:Qct cur.kind cur.text cur.kids p q=Qek cur.kids:=by unfold Qct;rw [xN c0,xO ⟨c1,c2⟩]
   rw [he];refine ⟨hp.1,fun i y z hy hz=>?_⟩;obtain ⟨q1,q2⟩:=hp.2 i y z hy hz;have hz1:z.2.length=1:=Qms (yA hz);exact ⟨q1,fun e=>by rw [e] at hz1;simp at hz1,by omega,.inl (set (q2.low hwd))⟩
  ·have he:Qct cur.kind cur.text cur.kids p q = []:=by unfold Qct;rw [xN c0,xN c1]
   rw [he];exact ⟨rfl,fun i y z hy=>by simp at hy⟩
 refine ⟨⟨by rw [xB,xB,hst.1,hlen.1],fun i y z hy hz=>?_⟩,by rw [hlen.1];exact Qwj _ _ _ _ _⟩
 by_cases hj:i<us.length
 ·rw [yB hj] at hy;rw [yB (by rw [←hst.1];exact hj)] at hz;obtain ⟨q1,q2,q3,q4⟩:=hst.2 i y z hy hz;exact ⟨q1,q2,q3,q4.imp (fun h=>set ((h.keep hd).keeps hrd hk)) id⟩
 ·rw [xX (by omega)] at hy;rw [xX (by rw [←hst.1];omega),←hst.1] at hz;exact hlen.2 _ y z hy hz
theorem Qgn {w:World} {b i:Nat} {cs:Array Value} {ty:TypeId} (h:w.heap[b]? = some (.cells cs ty (0,0))):w.frozen? ⟨b,i,none⟩=false:=by simp [World.frozen?,h]
theorem Qwm (S:Nat→Prop) (t:Tr) (v:TV) (PA:Option Addr) (c:Nat) (zs:List Int) (w:World) (ht:TrAt S w t v) (hs:Qcf t=true) (hw:Qdb t=true) (hz:Qak t≤10000) (hA:IntsAt w PA zs) (hzl:zs.length≤10000)
  (hc:zs.length≤c) (hf:Qfx t=true) (hn:0≤Qnd 0 t zs) :
  Calls Tryz.prog 74 #[.agg #[.int .i64 v.kind,.string v.text,.slice v.la v.ll v.lc,.slice v.ka v.kl v.kc],.slice PA zs.length c] w fun e w'=>∃ r us,e = .returned r∧Ql0 w' w.heap.size r us∧StkE w PA w' us (Qbt t [] zs [])∧us.length≤20000∧Below w.heap.size w w':=by
 have hb0:=Qas w (trO v);have HT:=hQ (ht.keep hb0);have HX:=hQ (xH w (trO v));have HB0:=hQ hb0;have HS:=hQ hs;have HW:=hQ hw;have HZ:=hQ hz;have HF:=hQ hf;have HN:=hQ hn;have HA:=hQ hA;have HZL:=hQ hzl;have HC:=hQ hc;have HTL:=hQ (TrAt.low t v ht);have HK2:=hQ (show t.kind=2 from by unfold Qfx at hf;simp at hf;exact hf.1);have hkl:=ht.kl.1;obtain ⟨vk,vx,vla,vll,vlc,vka,vkl,vkc⟩:=v;simp only at hkl;subst hkl;clear ht hb0 hs hw hz hf hA hzl hc;have d0:decide (Qnd 0 t zs<0)=false:=xR (by omega);clear hn
 go_enter Tryz.func74,Tryz.ntmps74
 go_wp2_with (first
  | (go_at_call 47;refine (Qfy _ t _ _ HT.out HS.out HW.out).mono ?_;rw [HF.out];rintro e w1 ⟨rfl,hb⟩;have HB1:=hQ (HB0.out.trans (hb.mono HB0.out.size));have HT1:=hQ (HT.out.keep hb);have HX1:=hQ ((hb.block _ (Qaa HX.out)).trans HX.out);have k0:w1.cell? ⟨w.heap.size,0,none⟩=some (.int .i64 vk):=Qab HX1.out 0 _ rfl;have k1:w1.cell? ⟨w.heap.size,1,none⟩=some (.string vx):=Qab HX1.out 1 _ rfl;have k2:w1.cell? ⟨w.heap.size,2,none⟩=some (.slice vla vll vlc):=Qab HX1.out 2 _ rfl;have k3:w1.cell? ⟨w.heap.size,3,none⟩=some (.slice vka t.kids.length vkc):=Qab HX1.out 3 _ rfl;clear hb)
  | (go_at_call 107;refine (Qmm _ t _ PA c zs _ HT1.out (HA.out.keep HB1.out) (by have:=HZL.out;unfold maxLen;omega) (by have:=HZ.out;omega)).mono ?_;rintro e w2 ⟨rfl,hb⟩;have HB2:=hQ (HB1.out.trans (hb.mono HB1.out.size));have HT2:=hQ (HT1.out.keep hb);have HX2:=hQ ((hb.block _ (Qaa HX1.out)).trans HX1.out);clear k0 k1 k2 k3;have k0:w2.cell? ⟨w.heap.size,0,none⟩=some (.int .i64 vk):=Qab HX2.out 0 _ rfl;have k1:w2.cell? ⟨w.heap.size,1,none⟩=some (.string vx):=Qab HX2.out 1 _ rfl;have k2:w2.cell? ⟨w.heap.size,2,none⟩=some (.slice vla vll vlc):=Qab HX2.out 2 _ rfl;have k3:w2.cell? ⟨w.heap.size,3,none⟩=some (.slice vka t.kids.length vkc):=Qab HX2.out 3 _ rfl;clear hb))
 have HD2:=hQ (Qas w2 (trO ⟨vk,vx,vla,vll,vlc,vka,t.kids.length,vkc⟩));have HB3:=hQ (HB2.out.trans (HD2.out.mono HB2.out.size));have HX3:=hQ (xH w2 (trO ⟨vk,vx,vla,vll,vlc,vka,t.kids.length,vkc⟩));have HSZ2:=hQ HB2.out.size;clear k0 k1 k2 k3
 go_loopw [5,21] (fun r i wr=>Zgc t PA zs w w2.heap.size r i wr) (fun _ i _=>zs.length-(intOf i).toNat)
 case atStart =>
  refine ⟨0,0,_,t,[],[],rfl,xZ _,HX3.out,HTL.out.lows HB3.out,HB3.out,HN.out,.inr HK2.out,xA _,by simp;have:=HZ.out;omega,World.ownsRow_nil _ _ _ _,⟨rfl,fun j y z hy=>by simp at hy⟩,rfl⟩
 case round =>
  obtain ⟨j,m,x,cur,us,st,rfl,hj,hx,hty,hb,hnn,hne,hsz,hul,hr,hst,hpp⟩:=hrel;have HXX:=hQ hx;have HTY:=hQ hty;have HBR:=hQ hb;have HNN:=hQ hnn;have HNE:=hQ hne;have HSZ:=hQ hsz;have HUL:=hQ hul;have HR:=hQ hr;have HST:=hQ hst;have HPP:=hQ hpp;have hkl:=hty.kl.1;have hkk:=hty.kl.2.2.1;obtain ⟨xk,xx,xla,xll,xlc,xka,xkl,xkc⟩:=x;simp only at hkl hkk;subst hkl hkk;clear hx hty hb hnn hne hsz hul hr hst hpp
  by_cases hlt:j<zs.length
  ·obtain ⟨z,hz⟩:∃ z,zs[j]? = some z:=⟨_,xF hlt⟩;obtain ⟨ab,ao,rfl,_,hac⟩:=(HA.out.keep HBR.out).at hlt;have a0:=hac j z hz;have HDZ:=hQ (Qhd hz);have hz0:=hQ hz;clear hac hz;have hcc:=HC.out
   have hkb:Qjn cur z=true:=by
    have h:=HNN.out;rw [HDZ.out,Qnd] at h;cases hkb:Qjn cur z with
    | true=>rfl
    | false=>rw [hkb] at h;simp at h
   have HNK:=hQ (show 0≤Qnd (m+1+Qaq (cur.kids.take z.toNat)) (Qep cur z) (zs.drop (j+1)) from by have h:=HNN.out;rw [HDZ.out,Qnd,hkb] at h;exact h);obtain ⟨z0,z1,z2⟩:=Qd7 hkb;obtain ⟨q,rfl⟩:∃ q:Nat,z=(q:Int):=⟨z.toNat,by omega⟩;rw [Int.toNat_natCast] at z2 HNK;have hq:q<cur.kids.length:=by omega
   obtain ⟨kb,ko,hka⟩:∃ b off,xka=some ⟨b,off,none⟩:=HTY.out.addr.resolve_left (by omega);subst hka;have hcap:=HTY.out.caps.2;simp only at hcap;have hqc:(q:Int)≤(xkc:Int):=by omega
   have hjc:j≤c:=by omega
   have HZ2:=hQ z2;have HKS:=hQ (Qqo z2);have HDR:=hQ (show Below wr.heap.size wr wr.drew from (xC _ wr).drew);have HTD:=hQ (show TrAt (fun k=>k<w.heap.size) wr.drew cur ⟨cur.kind,xx,xla,xll,xlc,some ⟨kb,ko,none⟩,cur.kids.length,xkc⟩ from HTY.out.keep HDR.out);have HRD:=hQ (hS1 HR.out HDR.out);have HXD:=hQ (show wr.drew.heap[w2.heap.size]? = some (trO ⟨cur.kind,xx,xla,xll,xlc,some ⟨kb,ko,none⟩,cur.kids.length,xkc⟩) from HXX.out);have HBB:=hQ (show w2.heap.size+1≤wr.drew.heap.size from Qaa HXX.out);have HLN:=hQ (show us.length+cur.kids.length+1≤1000000 from by have h1:=HUL.out;have h2:=Qba cur.kids;have h3:=Qa7 cur;omega);have k0:wr.drew.cell? ⟨w2.heap.size,0,none⟩=some (.int .i64 cur.kind):=Qab HXD.out 0 _ rfl;have k1:wr.drew.cell? ⟨w2.heap.size,1,none⟩=some (.string xx):=Qab HXD.out 1 _ rfl;have k2:wr.drew.cell? ⟨w2.heap.size,2,none⟩=some (.slice xla xll xlc):=Qab HXD.out 2 _ rfl;have k3:wr.drew.cell? ⟨w2.heap.size,3,none⟩=some (.slice (some ⟨kb,ko,none⟩) cur.kids.length xkc):=Qab HXD.out 3 _ rfl;clear hkb z2;go_wp2_with fail
   go_region_held3 (fun w'=>w'.cell? ⟨w2.heap.size,0,none⟩=some (.int .i64 cur.kind)∧w'.cell? ⟨w2.heap.size,1,none⟩=some (.string xx)∧w'.cell? ⟨w2.heap.size,2,none⟩=some (.slice xla xll xlc)∧w'.cell? ⟨w2.heap.size,3,none⟩=some (.slice (some ⟨kb,ko,none⟩) cur.kids.length xkc)) (first | with_reducible exact ⟨k0,k1,k2,k3⟩ | go_keep) (first
    | (go_at_call 78;refine (Qqm (fun k=>k<w.heap.size) (w2.heap.size+1) u5 us cur ⟨cur.kind,xx,xla,xll,xlc,some ⟨kb,ko,none⟩,cur.kids.length,xkc⟩ (some ⟨ab,ao,none⟩) j c (q:Int) wr.drew HTD.out HRD.out HBB.out HLN.out).mono ?_;rintro e w3 ⟨sv',us',rfl,hs3,hk3,hl3,hc3⟩;have HS3:=hQ hs3;have HK3:=hQ hk3;have HC3:=hQ hc3;have HX3':=hQ (show w3.heap[w2.heap.size]? = some (trO ⟨cur.kind,xx,xla,xll,xlc,some ⟨kb,ko,none⟩,cur.kids.length,xkc⟩) from (hk3.block _ (Qaa HXD.out) (Qdp (Qi2 HRD.out HXD.out (by decide)))).trans HXD.out);clear k0 k1 k2 k3;have k0:w3.cell? ⟨w2.heap.size,0,none⟩=some (.int .i64 cur.kind):=Qab HX3'.out 0 _ rfl;have k1:w3.cell? ⟨w2.heap.size,1,none⟩=some (.string xx):=Qab HX3'.out 1 _ rfl;have k2:w3.cell? ⟨w2.heap.size,2,none⟩=some (.slice xla xll xlc):=Qab HX3'.out 2 _ rfl;have k3:w3.cell? ⟨w2.heap.size,3,none⟩=some (.slice (some ⟨kb,ko,none⟩) cur.kids.length xkc):=Qab HX3'.out 3 _ rfl;clear hs3 hk3 hl3 hc3)
    | fail)
   all_goals
    have HBK:=hQ (show Below w.heap.size wr.drew w3 from HK3.out.below (xQ HSZ2.out (by have:=HBB.out;omega)) (fun k hk=>Qdp fun e=>by have:=(HRD.out.lt k e).1;have:=HSZ2.out;omega));obtain ⟨u,c0,c1,c2,c3,hu⟩:=(HTD.out.lows HBK.out).at rfl HZ2.out;have HU:=hQ hu;have f0:w3.frozen? ⟨w2.heap.size,0,none⟩=false:=Qgn HX3'.out;have f1:w3.frozen? ⟨w2.heap.size,1,none⟩=false:=Qgn HX3'.out;have f2:w3.frozen? ⟨w2.heap.size,2,none⟩=false:=Qgn HX3'.out;have f3:w3.frozen? ⟨w2.heap.size,3,none⟩=false:=Qgn HX3'.out;clear hu;have hwj:wrap64 ((j:Int)+1)=(j:Int)+1:=by have:=HZL.out;unfold wrap64;omega
    go_wp2
    go_roundw
    case measure =>
     show zs.length-(intOf (.int .i64 (wrap64 ((j:Int)+1)))).toNat<zs.length-(intOf (.int .i64 (j:Int))).toNat
     rw [hwj]
     show zs.length-((j:Int)+1).toNat<zs.length-((j:Int)).toNat
     omega
    case rel =>
     have hse:=Qzo (p:=zs.take j) HR.out HRD.out HST.out HDR.out HK3.out HSZ2.out HC3.out (by rw [List.length_take,Nat.min_eq_left hj]) HA.out.take HNE.out (by have:=HZL.out;rw [List.length_take];omega) (xQ HBR.out.size HDR.out.size) HX3'.out u
     refine ⟨j+1,_,u,Qep cur q,us ++ us',st ++ Qct cur.kind cur.text cur.kids (zs.take j) q,by go_num,by omega,Qfw u HX3'.out,TrAt.move (fun _ h=>h) (fun k hk _=>(Qbk w3 w2.heap.size u).block k (xE hk HSZ2.out)) _ _ HU.out,((HBR.out.trans (HDR.out.mono HBR.out.size)).trans HBK.out).trans ((Qbk w3 w2.heap.size u).mono HSZ2.out),HNK.out,.inl ?_,?_,?_,Qzn HS3.out (fun k hk=>Qzm w3 u (by omega)),hse.1,?_⟩
     ·intro e;have:=congrArg List.length e
      rw [List.length_take,xG] at this;omega
     ·have:=HKS.out
      have:=HSZ.out
      omega
     ·have h1:=HKS.out;have h2:=HUL.out;have h3:=hse.2;rw [xB];omega
     ·rw [HPP.out,HDZ.out,Qbt,Qeu hz0.out]
  ·obtain rfl:j=zs.length:=by omega
   go_wp2
   go_ret
   have h:=HPP.out;rw [List.drop_length,Qbt] at h;exact ⟨_,us,rfl,Qij HR.out (by have:=HSZ2.out;omega),by rw [h];exact HST.out,by have:=HUL.out;omega,HBR.out⟩
end Go.Proofs.YtfjpemdejoejbaaGreat
