/- Part 34 -/
import Derived.Test.YtjidpkcjpgdafaaGreatSd30
import Derived.IntWalk
set_option maxRecDepth 100000
set_option maxHeartbeats 4000000
namespace Go.Proofs.YtjidpkcjpgdafaaGreat
open Go.RowKit
theorem Qwd {N:Nat} (ih:PcC N) (B:Nat) (l:Value) (ps:List Qbi) (x:ByteArray) (ls:List ByteArray) (a b c:Tr) (vla vka:Option Addr) (vlc vkc:Nat) (w:World) (hN:SizeOf.sizeOf (Tr.mk 19 x ls [a,b,c])≤N+1) (ht:TrAt (fun k=>k<B) w (Tr.mk 19 x ls [a,b,c]) ⟨19,x,vla,ls.length,vlc,vka,3,vkc⟩)
  (hsa:Qao a=true) (hsb:Qao b=true) (hsc:Qao c=true) (hz:Qak (Tr.mk 19 x ls [a,b,c])≤1000) (hl:PRow w B l ps) (hB:B≤w.heap.size) (hb:ps.length+(Qaf (Tr.mk 19 x ls [a,b,c])).length≤1000000) :
  Calls Tryz.prog 214 #[l,.agg #[.int .i64 19,.string x,.slice vla ls.length vlc,.slice vka 3 vkc]] w (Qdy B ps (Qaf (Tr.mk 19 x ls [a,b,c])) l w):=by
 obtain ⟨xb,xo,hka⟩:∃ b off,vka=some ⟨b,off,none⟩:=ht.addr.resolve_left (by show (3:Nat)≠0;decide)
 subst hka
 have HIH:=hQ ih
 have HBD:=hQ hb
 have HEQ:=hQ (Qzw x ls a b c)
 have HNa:=hQ (show SizeOf.sizeOf a≤N from by have:=Qay (t:=Tr.mk 19 x ls [a,b,c]) (j:=0) (k:=a) rfl;omega)
 have HZa:=hQ (show Qak a≤1000 from by have:=Qbc (t:=Tr.mk 19 x ls [a,b,c]) (j:=0) (k:=a) rfl;omega)
 have HSHa:=hQ hsa
 have HNb:=hQ (show SizeOf.sizeOf b≤N from by have:=Qay (t:=Tr.mk 19 x ls [a,b,c]) (j:=1) (k:=b) rfl;omega)
 have HZb:=hQ (show Qak b≤1000 from by have:=Qbc (t:=Tr.mk 19 x ls [a,b,c]) (j:=1) (k:=b) rfl;omega)
 have HSHb:=hQ hsb
 have HNc:=hQ (show SizeOf.sizeOf c≤N from by have:=Qay (t:=Tr.mk 19 x ls [a,b,c]) (j:=2) (k:=c) rfl;omega)
 have HZc:=hQ (show Qak c≤1000 from by have:=Qbc (t:=Tr.mk 19 x ls [a,b,c]) (j:=2) (k:=c) rfl;omega)
 have HSHc:=hQ hsc
 have HXB:=hQ (show xb<B from by obtain ⟨_,b1,o1,hA,hS,_⟩:=ht.kid (j:=0) (k:=a) rfl;injection hA with e1;injection e1 with e1 _ _;rw [e1];exact hS)
 have HST:=hQ (PSt.start hl ht hB)
 obtain ⟨ip,hip,pz0,pz1,pz2⟩:=info_parts Qbd
 clear ih hN ht hz hl hB hb hsa hsb hsc
 go_enter Tryz.func214,Tryz.ntmps214
 go_wp2_with fail
 generalize hW0:w.alloc (.cells #[.int .i64 19,.string x,.slice vla ls.length vlc,.slice (some ⟨xb,xo,none⟩) 3 vkc] 29)=W0 at ⊢
 have HS0:=hQ (show PSt B l w (Tr.mk 19 x ls [a,b,c]) ⟨19,x,vla,ls.length,vlc,some ⟨xb,xo,none⟩,3,vkc⟩ l ps W0 from hW0 ▸ HST.out)
 clear HST hW0
 obtain ⟨k0,k1,k2,k3⟩:=HS0.out.c4
 obtain ⟨ua,c0,c1,c2,c3,hu⟩:=HS0.out.tree.at rfl (show (Tr.mk 19 x ls [a,b,c]).kids[0]? = some a from rfl)
 replace c0:W0.cell? ⟨xb,xo,none⟩=some (.int .i64 ua.kind):=c0
 replace c1:W0.cell? ⟨xb,xo+1,none⟩=some (.string ua.text):=c1
 replace c2:W0.cell? ⟨xb,xo+2,none⟩=some (.slice ua.la ua.ll ua.lc):=c2
 replace c3:W0.cell? ⟨xb,xo+3,none⟩=some (.slice ua.ka ua.kl ua.kc):=c3
 have HU:=hQ hu
 clear hu
 obtain ⟨n1,hn1⟩:∃ n,(ps).length=n:=⟨_,rfl⟩
 have HQ1:=hQ hn1
 clear hn1
 have HM1:=hQ (show n1+1≤1000000 from by have h:=HBD.out;rw [←HQ1.out];rw [HEQ.out] at h;(try simp only [xB,xD,xG] at h ⊢);omega)
 have HL1:=hQ (show (ps).length+1≤1000000 from by have h:=HBD.out;rw [HEQ.out] at h;(try simp only [xB,xD,xG] at h ⊢);omega)
 obtain ⟨n2,hn2⟩:∃ n,(ps ++ [(ldR ls 0,(⟨#[105,102]⟩:ByteArray))]).length=n:=⟨_,rfl⟩
 have HQ2:=hQ hn2
 clear hn2
 have HM2:=hQ (show n2+(Qaf a).length≤1000000 from by have h:=HBD.out;rw [←HQ2.out];rw [HEQ.out] at h;(try simp only [xB,xD,xG] at h ⊢);omega)
 have HL2:=hQ (show (ps ++ [(ldR ls 0,(⟨#[105,102]⟩:ByteArray))]).length+(Qaf a).length≤1000000 from by have h:=HBD.out;rw [HEQ.out] at h;(try simp only [xB,xD,xG] at h ⊢);omega)
 go_region_held3 (fun w'=>w'.cell? ⟨w.heap.size,0,none⟩=some (.int .i64 19)∧w'.cell? ⟨w.heap.size,1,none⟩=some (.string x)∧w'.cell? ⟨w.heap.size,2,none⟩=some (.slice vla ls.length vlc)∧w'.cell? ⟨w.heap.size,3,none⟩=some (.slice (some ⟨xb,xo,none⟩) 3 vkc)∧w'.cell? ⟨xb,xo,none⟩=some (.int .i64 ua.kind)∧w'.cell? ⟨xb,xo+1,none⟩=some (.string ua.text)∧w'.cell? ⟨xb,xo+2,none⟩=some (.slice ua.la ua.ll ua.lc)∧w'.cell? ⟨xb,xo+3,none⟩=some (.slice ua.ka ua.kl ua.kc)) (first | with_reducible exact ⟨k0,k1,k2,k3,c0,c1,c2,c3⟩ | go_keep) (first
  | (go_at_call 239;((with_reducible refine (Qaw _ (Tr.mk 19 x ls [a,b,c]) ⟨19,x,vla,ls.length,vlc,some ⟨xb,xo,none⟩,3,vkc⟩ 0 0 rfl _ HS0.out.drew.tree (by decide)).mono ?_);rintro e w1 ⟨rfl,hb⟩;have HS1:=hQ (HS0.out.drew.below hb);clear k0 k1 k2 k3;obtain ⟨k0,k1,k2,k3⟩:=HS1.out.c4;have hkb:∀ k,k<B→w1.heap[k]? = (W0).heap[k]?:=fun k hk=>hb.block k (xE hk HS0.out.drew.le);have d0:w1.cell? ⟨xb,xo,none⟩=some (.int .i64 ua.kind):=(xJ (w:=W0) (a:=⟨xb,xo,none⟩) (hkb xb HXB.out)).trans c0;have d1:w1.cell? ⟨xb,xo+1,none⟩=some (.string ua.text):=(xJ (w:=W0) (a:=⟨xb,xo+1,none⟩) (hkb xb HXB.out)).trans c1;have d2:w1.cell? ⟨xb,xo+2,none⟩=some (.slice ua.la ua.ll ua.lc):=(xJ (w:=W0) (a:=⟨xb,xo+2,none⟩) (hkb xb HXB.out)).trans c2;have d3:w1.cell? ⟨xb,xo+3,none⟩=some (.slice ua.ka ua.kl ua.kc):=(xJ (w:=W0) (a:=⟨xb,xo+3,none⟩) (hkb xb HXB.out)).trans c3;have HU1:=hQ (TrAt.move (w:=W0) (w':=w1) (S':=fun k=>k<B) (fun _ h=>h) (fun k hk _=>hkb k hk) _ _ HU.out);clear c0 c1 c2 c3 hkb;have c0:=d0;have c1:=d1;have c2:=d2;have c3:=d3;clear d0 d1 d2 d3;clear hb))
  | (refine step_append_lies _ (by rfl) _ _ _ (by rfl) B 211 ip _ 2 32 Tryz.underlying208 hip pz0 pz1 pz2 rfl (by decide) _ n1 (Qan (ps)) (by rfl) ((HS1.out.alloc _).rowN HQ1.out) ⟨w1.heap.size,0,none⟩ 1 1 (Qan [(ldR ls 0,(⟨#[105,102]⟩:ByteArray))]) (by rfl) (by rfl) (xM (cs:=#[.string (ldR ls 0),.string ⟨#[105,102]⟩]) (t:=211) (fr:=(0,0)) (xH w1 _)) (Qas _) (by decide) (by unfold maxLen;have:=HM1.out;omega) (by have:=HM1.out;omega) (HS1.out.alloc _).le _ (by rfl) ?_;intro g cw2 w2 hown hgr hat hlt;have HS2:=hQ ((HS1.out.alloc _).appN HQ1.out (qs:=[(ldR ls 0,(⟨#[105,102]⟩:ByteArray))]) rfl hown hgr hat (xA _));clear k0 k1 k2 k3;obtain ⟨k0,k1,k2,k3⟩:=HS2.out.c4;have hkb:∀ k,k<B→w2.heap[k]? = (w1).heap[k]?:=fun k hk=>((HS1.out.alloc _).keepB hgr k hk).trans (Below.heap_alloc _ _ k (xE hk HS1.out.le));have d0:w2.cell? ⟨xb,xo,none⟩=some (.int .i64 ua.kind):=(xJ (w:=w1) (a:=⟨xb,xo,none⟩) (hkb xb HXB.out)).trans c0;have d1:w2.cell? ⟨xb,xo+1,none⟩=some (.string ua.text):=(xJ (w:=w1) (a:=⟨xb,xo+1,none⟩) (hkb xb HXB.out)).trans c1;have d2:w2.cell? ⟨xb,xo+2,none⟩=some (.slice ua.la ua.ll ua.lc):=(xJ (w:=w1) (a:=⟨xb,xo+2,none⟩) (hkb xb HXB.out)).trans c2;have d3:w2.cell? ⟨xb,xo+3,none⟩=some (.slice ua.ka ua.kl ua.kc):=(xJ (w:=w1) (a:=⟨xb,xo+3,none⟩) (hkb xb HXB.out)).trans c3;have HU2:=hQ (TrAt.move (w:=w1) (w':=w2) (S':=fun k=>k<B) (fun _ h=>h) (fun k hk _=>hkb k hk) _ _ HU1.out);clear c0 c1 c2 c3 hkb;have c0:=d0;have c1:=d1;have c2:=d2;have c3:=d3;clear d0 d1 d2 d3;clear hown hgr hat hlt)
  | (go_at_call 214;refine (HIH.out B _ (ps ++ [(ldR ls 0,(⟨#[105,102]⟩:ByteArray))]) a ua _ HNa.out HU2.out HSHa.out HZa.out HS2.out.row HS2.out.le HL2.out).mono ?_;rintro e w3 ⟨lw3,rfl,hr,hg,ho⟩;have HS3:=hQ (HS2.out.call hr hg ho);clear k0 k1 k2 k3;obtain ⟨k0,k1,k2,k3⟩:=HS3.out.c4;have hkb:∀ k,k<B→w3.heap[k]? = (w2).heap[k]?:=fun k hk=>HS2.out.keepB hg k hk;have d0:w3.cell? ⟨xb,xo,none⟩=some (.int .i64 ua.kind):=(xJ (w:=w2) (a:=⟨xb,xo,none⟩) (hkb xb HXB.out)).trans c0;have d1:w3.cell? ⟨xb,xo+1,none⟩=some (.string ua.text):=(xJ (w:=w2) (a:=⟨xb,xo+1,none⟩) (hkb xb HXB.out)).trans c1;have d2:w3.cell? ⟨xb,xo+2,none⟩=some (.slice ua.la ua.ll ua.lc):=(xJ (w:=w2) (a:=⟨xb,xo+2,none⟩) (hkb xb HXB.out)).trans c2;have d3:w3.cell? ⟨xb,xo+3,none⟩=some (.slice ua.ka ua.kl ua.kc):=(xJ (w:=w2) (a:=⟨xb,xo+3,none⟩) (hkb xb HXB.out)).trans c3;have HU3:=hQ (TrAt.move (w:=w2) (w':=w3) (S':=fun k=>k<B) (fun _ h=>h) (fun k hk _=>hkb k hk) _ _ HU2.out);clear c0 c1 c2 c3 hkb;have c0:=d0;have c1:=d1;have c2:=d2;have c3:=d3;clear d0 d1 d2 d3;clear hr hg ho)
  | fail)
 all_goals
  clear c0 c1 c2 c3
  go_wp2_with fail
  obtain ⟨ub,c0,c1,c2,c3,hu⟩:=HS3.out.tree.at rfl (show (Tr.mk 19 x ls [a,b,c]).kids[1]? = some b from rfl)
  replace c0:w3.cell? ⟨xb,xo+4,none⟩=some (.int .i64 ub.kind):=c0
  replace c1:w3.cell? ⟨xb,xo+4+1,none⟩=some (.string ub.text):=c1
  replace c2:w3.cell? ⟨xb,xo+4+2,none⟩=some (.slice ub.la ub.ll ub.lc):=c2
  replace c3:w3.cell? ⟨xb,xo+4+3,none⟩=some (.slice ub.ka ub.kl ub.kc):=c3
  have HU:=hQ hu
  clear hu
  obtain ⟨n3,hn3⟩:∃ n,(ps ++ [(ldR ls 0,(⟨#[105,102]⟩:ByteArray))] ++ Qaf a).length=n:=⟨_,rfl⟩
  have HQ3:=hQ hn3
  clear hn3
  have HM3:=hQ (show n3+1≤1000000 from by have h:=HBD.out;rw [←HQ3.out];rw [HEQ.out] at h;(try simp only [xB,xD,xG] at h ⊢);omega)
  have HL3:=hQ (show (ps ++ [(ldR ls 0,(⟨#[105,102]⟩:ByteArray))] ++ Qaf a).length+1≤1000000 from by have h:=HBD.out;rw [HEQ.out] at h;(try simp only [xB,xD,xG] at h ⊢);omega)
  obtain ⟨n4,hn4⟩:∃ n,(ps ++ [(ldR ls 0,(⟨#[105,102]⟩:ByteArray))] ++ Qaf a ++ [(ldR ls 1,(⟨#[116,104,101,110]⟩:ByteArray))]).length=n:=⟨_,rfl⟩
  have HQ4:=hQ hn4
  clear hn4
  have HM4:=hQ (show n4+(Qaf b).length≤1000000 from by have h:=HBD.out;rw [←HQ4.out];rw [HEQ.out] at h;(try simp only [xB,xD,xG] at h ⊢);omega)
  have HL4:=hQ (show (ps ++ [(ldR ls 0,(⟨#[105,102]⟩:ByteArray))] ++ Qaf a ++ [(ldR ls 1,(⟨#[116,104,101,110]⟩:ByteArray))]).length+(Qaf b).length≤1000000 from by have h:=HBD.out;rw [HEQ.out] at h;(try simp only [xB,xD,xG] at h ⊢);omega)
  go_region_held3 (fun w'=>w'.cell? ⟨w.heap.size,0,none⟩=some (.int .i64 19)∧w'.cell? ⟨w.heap.size,1,none⟩=some (.string x)∧w'.cell? ⟨w.heap.size,2,none⟩=some (.slice vla ls.length vlc)∧w'.cell? ⟨w.heap.size,3,none⟩=some (.slice (some ⟨xb,xo,none⟩) 3 vkc)∧w'.cell? ⟨xb,xo+4,none⟩=some (.int .i64 ub.kind)∧w'.cell? ⟨xb,xo+4+1,none⟩=some (.string ub.text)∧w'.cell? ⟨xb,xo+4+2,none⟩=some (.slice ub.la ub.ll ub.lc)∧w'.cell? ⟨xb,xo+4+3,none⟩=some (.slice ub.ka ub.kl ub.kc)) (first | with_reducible exact ⟨k0,k1,k2,k3,c0,c1,c2,c3⟩ | go_keep) (first
   | (go_at_call 239;((with_reducible refine (Qaw _ (Tr.mk 19 x ls [a,b,c]) ⟨19,x,vla,ls.length,vlc,some ⟨xb,xo,none⟩,3,vkc⟩ 1 1 rfl _ HS3.out.drew.tree (by decide)).mono ?_);rintro e w4 ⟨rfl,hb⟩;have HS4:=hQ (HS3.out.drew.below hb);clear k0 k1 k2 k3;obtain ⟨k0,k1,k2,k3⟩:=HS4.out.c4;have hkb:∀ k,k<B→w4.heap[k]? = (w3).heap[k]?:=fun k hk=>hb.block k (xE hk HS3.out.drew.le);have d0:w4.cell? ⟨xb,xo+4,none⟩=some (.int .i64 ub.kind):=(xJ (w:=w3) (a:=⟨xb,xo+4,none⟩) (hkb xb HXB.out)).trans c0;have d1:w4.cell? ⟨xb,xo+4+1,none⟩=some (.string ub.text):=(xJ (w:=w3) (a:=⟨xb,xo+4+1,none⟩) (hkb xb HXB.out)).trans c1;have d2:w4.cell? ⟨xb,xo+4+2,none⟩=some (.slice ub.la ub.ll ub.lc):=(xJ (w:=w3) (a:=⟨xb,xo+4+2,none⟩) (hkb xb HXB.out)).trans c2;have d3:w4.cell? ⟨xb,xo+4+3,none⟩=some (.slice ub.ka ub.kl ub.kc):=(xJ (w:=w3) (a:=⟨xb,xo+4+3,none⟩) (hkb xb HXB.out)).trans c3;have HU4:=hQ (TrAt.move (w:=w3) (w':=w4) (S':=fun k=>k<B) (fun _ h=>h) (fun k hk _=>hkb k hk) _ _ HU.out);clear c0 c1 c2 c3 hkb;have c0:=d0;have c1:=d1;have c2:=d2;have c3:=d3;clear d0 d1 d2 d3;clear hb))
   | (refine step_append_lies _ (by rfl) _ _ _ (by rfl) B 211 ip _ 2 32 Tryz.underlying208 hip pz0 pz1 pz2 rfl (by decide) _ n3 (Qan (ps ++ [(ldR ls 0,(⟨#[105,102]⟩:ByteArray))] ++ Qaf a)) (by rfl) ((HS4.out.alloc _).rowN HQ3.out) ⟨w4.heap.size,0,none⟩ 1 1 (Qan [(ldR ls 1,(⟨#[116,104,101,110]⟩:ByteArray))]) (by rfl) (by rfl) (xM (cs:=#[.string (ldR ls 1),.string ⟨#[116,104,101,110]⟩]) (t:=211) (fr:=(0,0)) (xH w4 _)) (Qas _) (by decide) (by unfold maxLen;have:=HM3.out;omega) (by have:=HM3.out;omega) (HS4.out.alloc _).le _ (by rfl) ?_;intro g cw5 w5 hown hgr hat hlt;have HS5:=hQ ((HS4.out.alloc _).appN HQ3.out (qs:=[(ldR ls 1,(⟨#[116,104,101,110]⟩:ByteArray))]) rfl hown hgr hat (xA _));clear k0 k1 k2 k3;obtain ⟨k0,k1,k2,k3⟩:=HS5.out.c4;have hkb:∀ k,k<B→w5.heap[k]? = (w4).heap[k]?:=fun k hk=>((HS4.out.alloc _).keepB hgr k hk).trans (Below.heap_alloc _ _ k (xE hk HS4.out.le));have d0:w5.cell? ⟨xb,xo+4,none⟩=some (.int .i64 ub.kind):=(xJ (w:=w4) (a:=⟨xb,xo+4,none⟩) (hkb xb HXB.out)).trans c0;have d1:w5.cell? ⟨xb,xo+4+1,none⟩=some (.string ub.text):=(xJ (w:=w4) (a:=⟨xb,xo+4+1,none⟩) (hkb xb HXB.out)).trans c1;have d2:w5.cell? ⟨xb,xo+4+2,none⟩=some (.slice ub.la ub.ll ub.lc):=(xJ (w:=w4) (a:=⟨xb,xo+4+2,none⟩) (hkb xb HXB.out)).trans c2;have d3:w5.cell? ⟨xb,xo+4+3,none⟩=some (.slice ub.ka ub.kl ub.kc):=(xJ (w:=w4) (a:=⟨xb,xo+4+3,none⟩) (hkb xb HXB.out)).trans c3;have HU5:=hQ (TrAt.move (w:=w4) (w':=w5) (S':=fun k=>k<B) (fun _ h=>h) (fun k hk _=>hkb k hk) _ _ HU4.out);clear c0 c1 c2 c3 hkb;have c0:=d0;have c1:=d1;have c2:=d2;have c3:=d3;clear d0 d1 d2 d3;clear hown hgr hat hlt)
   | (go_at_call 214;refine (HIH.out B _ (ps ++ [(ldR ls 0,(⟨#[105,102]⟩:ByteArray))] ++ Qaf a ++ [(ldR ls 1,(⟨#[116,104,101,110]⟩:ByteArray))]) b ub _ HNb.out HU5.out HSHb.out HZb.out HS5.out.row HS5.out.le HL4.out).mono ?_;rintro e w6 ⟨lw6,rfl,hr,hg,ho⟩;have HS6:=hQ (HS5.out.call hr hg ho);clear k0 k1 k2 k3;obtain ⟨k0,k1,k2,k3⟩:=HS6.out.c4;have hkb:∀ k,k<B→w6.heap[k]? = (w5).heap[k]?:=fun k hk=>HS5.out.keepB hg k hk;have d0:w6.cell? ⟨xb,xo+4,none⟩=some (.int .i64 ub.kind):=(xJ (w:=w5) (a:=⟨xb,xo+4,none⟩) (hkb xb HXB.out)).trans c0;have d1:w6.cell? ⟨xb,xo+4+1,none⟩=some (.string ub.text):=(xJ (w:=w5) (a:=⟨xb,xo+4+1,none⟩) (hkb xb HXB.out)).trans c1;have d2:w6.cell? ⟨xb,xo+4+2,none⟩=some (.slice ub.la ub.ll ub.lc):=(xJ (w:=w5) (a:=⟨xb,xo+4+2,none⟩) (hkb xb HXB.out)).trans c2;have d3:w6.cell? ⟨xb,xo+4+3,none⟩=some (.slice ub.ka ub.kl ub.kc):=(xJ (w:=w5) (a:=⟨xb,xo+4+3,none⟩) (hkb xb HXB.out)).trans c3;have HU6:=hQ (TrAt.move (w:=w5) (w':=w6) (S':=fun k=>k<B) (fun _ h=>h) (fun k hk _=>hkb k hk) _ _ HU5.out);clear c0 c1 c2 c3 hkb;have c0:=d0;have c1:=d1;have c2:=d2;have c3:=d3;clear d0 d1 d2 d3;clear hr hg ho)
   | fail)
  all_goals
   clear c0 c1 c2 c3
   go_wp2_with fail
   obtain ⟨uc,c0,c1,c2,c3,hu⟩:=HS6.out.tree.at rfl (show (Tr.mk 19 x ls [a,b,c]).kids[2]? = some c from rfl)
   replace c0:w6.cell? ⟨xb,xo+8,none⟩=some (.int .i64 uc.kind):=c0
   replace c1:w6.cell? ⟨xb,xo+8+1,none⟩=some (.string uc.text):=c1
   replace c2:w6.cell? ⟨xb,xo+8+2,none⟩=some (.slice uc.la uc.ll uc.lc):=c2
   replace c3:w6.cell? ⟨xb,xo+8+3,none⟩=some (.slice uc.ka uc.kl uc.kc):=c3
   have HU:=hQ hu
   clear hu
   obtain ⟨n5,hn5⟩:∃ n,(ps ++ [(ldR ls 0,(⟨#[105,102]⟩:ByteArray))] ++ Qaf a ++ [(ldR ls 1,(⟨#[116,104,101,110]⟩:ByteArray))] ++ Qaf b).length=n:=⟨_,rfl⟩
   have HQ5:=hQ hn5
   clear hn5
   have HM5:=hQ (show n5+1≤1000000 from by have h:=HBD.out;rw [←HQ5.out];rw [HEQ.out] at h;(try simp only [xB,xD,xG] at h ⊢);omega)
   have HL5:=hQ (show (ps ++ [(ldR ls 0,(⟨#[105,102]⟩:ByteArray))] ++ Qaf a ++ [(ldR ls 1,(⟨#[116,104,101,110]⟩:ByteArray))] ++ Qaf b).length+1≤1000000 from by have h:=HBD.out;rw [HEQ.out] at h;(try simp only [xB,xD,xG] at h ⊢);omega)
   obtain ⟨n6,hn6⟩:∃ n,(ps ++ [(ldR ls 0,(⟨#[105,102]⟩:ByteArray))] ++ Qaf a ++ [(ldR ls 1,(⟨#[116,104,101,110]⟩:ByteArray))] ++ Qaf b ++ [(ldR ls 2,(⟨#[101,108,115,101]⟩:ByteArray))]).length=n:=⟨_,rfl⟩
   have HQ6:=hQ hn6
   clear hn6
   have HM6:=hQ (show n6+(Qaf c).length≤1000000 from by have h:=HBD.out;rw [←HQ6.out];rw [HEQ.out] at h;(try simp only [xB,xD,xG] at h ⊢);omega)
   have HL6:=hQ (show (ps ++ [(ldR ls 0,(⟨#[105,102]⟩:ByteArray))] ++ Qaf a ++ [(ldR ls 1,(⟨#[116,104,101,110]⟩:ByteArray))] ++ Qaf b ++ [(ldR ls 2,(⟨#[101,108,115,101]⟩:ByteArray))]).length+(Qaf c).length≤1000000 from by have h:=HBD.out;rw [HEQ.out] at h;(try simp only [xB,xD,xG] at h ⊢);omega)
   go_region_held3 (fun w'=>w'.cell? ⟨w.heap.size,0,none⟩=some (.int .i64 19)∧w'.cell? ⟨w.heap.size,1,none⟩=some (.string x)∧w'.cell? ⟨w.heap.size,2,none⟩=some (.slice vla ls.length vlc)∧w'.cell? ⟨w.heap.size,3,none⟩=some (.slice (some ⟨xb,xo,none⟩) 3 vkc)∧w'.cell? ⟨xb,xo+8,none⟩=some (.int .i64 uc.kind)∧w'.cell? ⟨xb,xo+8+1,none⟩=some (.string uc.text)∧w'.cell? ⟨xb,xo+8+2,none⟩=some (.slice uc.la uc.ll uc.lc)∧w'.cell? ⟨xb,xo+8+3,none⟩=some (.slice uc.ka uc.kl uc.kc)) (first | with_reducible exact ⟨k0,k1,k2,k3,c0,c1,c2,c3⟩ | go_keep) (first
    | (go_at_call 239;((with_reducible refine (Qaw _ (Tr.mk 19 x ls [a,b,c]) ⟨19,x,vla,ls.length,vlc,some ⟨xb,xo,none⟩,3,vkc⟩ 2 2 rfl _ HS6.out.drew.tree (by decide)).mono ?_);rintro e w7 ⟨rfl,hb⟩;have HS7:=hQ (HS6.out.drew.below hb);clear k0 k1 k2 k3;obtain ⟨k0,k1,k2,k3⟩:=HS7.out.c4;have hkb:∀ k,k<B→w7.heap[k]? = (w6).heap[k]?:=fun k hk=>hb.block k (xE hk HS6.out.drew.le);have d0:w7.cell? ⟨xb,xo+8,none⟩=some (.int .i64 uc.kind):=(xJ (w:=w6) (a:=⟨xb,xo+8,none⟩) (hkb xb HXB.out)).trans c0;have d1:w7.cell? ⟨xb,xo+8+1,none⟩=some (.string uc.text):=(xJ (w:=w6) (a:=⟨xb,xo+8+1,none⟩) (hkb xb HXB.out)).trans c1;have d2:w7.cell? ⟨xb,xo+8+2,none⟩=some (.slice uc.la uc.ll uc.lc):=(xJ (w:=w6) (a:=⟨xb,xo+8+2,none⟩) (hkb xb HXB.out)).trans c2;have d3:w7.cell? ⟨xb,xo+8+3,none⟩=some (.slice uc.ka uc.kl uc.kc):=(xJ (w:=w6) (a:=⟨xb,xo+8+3,none⟩) (hkb xb HXB.out)).trans c3;have HU7:=hQ (TrAt.move (w:=w6) (w':=w7) (S':=fun k=>k<B) (fun _ h=>h) (fun k hk _=>hkb k hk) _ _ HU.out);clear c0 c1 c2 c3 hkb;have c0:=d0;have c1:=d1;have c2:=d2;have c3:=d3;clear d0 d1 d2 d3;clear hb))
    | (refine step_append_lies _ (by rfl) _ _ _ (by rfl) B 211 ip _ 2 32 Tryz.underlying208 hip pz0 pz1 pz2 rfl (by decide) _ n5 (Qan (ps ++ [(ldR ls 0,(⟨#[105,102]⟩:ByteArray))] ++ Qaf a ++ [(ldR ls 1,(⟨#[116,104,101,110]⟩:ByteArray))] ++ Qaf b)) (by rfl) ((HS7.out.alloc _).rowN HQ5.out) ⟨w7.heap.size,0,none⟩ 1 1 (Qan [(ldR ls 2,(⟨#[101,108,115,101]⟩:ByteArray))]) (by rfl) (by rfl) (xM (cs:=#[.string (ldR ls 2),.string ⟨#[101,108,115,101]⟩]) (t:=211) (fr:=(0,0)) (xH w7 _)) (Qas _) (by decide) (by unfold maxLen;have:=HM5.out;omega) (by have:=HM5.out;omega) (HS7.out.alloc _).le _ (by rfl) ?_;intro g cw8 w8 hown hgr hat hlt;have HS8:=hQ ((HS7.out.alloc _).appN HQ5.out (qs:=[(ldR ls 2,(⟨#[101,108,115,101]⟩:ByteArray))]) rfl hown hgr hat (xA _));clear k0 k1 k2 k3;obtain ⟨k0,k1,k2,k3⟩:=HS8.out.c4;have hkb:∀ k,k<B→w8.heap[k]? = (w7).heap[k]?:=fun k hk=>((HS7.out.alloc _).keepB hgr k hk).trans (Below.heap_alloc _ _ k (xE hk HS7.out.le));have d0:w8.cell? ⟨xb,xo+8,none⟩=some (.int .i64 uc.kind):=(xJ (w:=w7) (a:=⟨xb,xo+8,none⟩) (hkb xb HXB.out)).trans c0;have d1:w8.cell? ⟨xb,xo+8+1,none⟩=some (.string uc.text):=(xJ (w:=w7) (a:=⟨xb,xo+8+1,none⟩) (hkb xb HXB.out)).trans c1;have d2:w8.cell? ⟨xb,xo+8+2,none⟩=some (.slice uc.la uc.ll uc.lc):=(xJ (w:=w7) (a:=⟨xb,xo+8+2,none⟩) (hkb xb HXB.out)).trans c2;have d3:w8.cell? ⟨xb,xo+8+3,none⟩=some (.slice uc.ka uc.kl uc.kc):=(xJ (w:=w7) (a:=⟨xb,xo+8+3,none⟩) (hkb xb HXB.out)).trans c3;have HU8:=hQ (TrAt.move (w:=w7) (w':=w8) (S':=fun k=>k<B) (fun _ h=>h) (fun k hk _=>hkb k hk) _ _ HU7.out);clear c0 c1 c2 c3 hkb;have c0:=d0;have c1:=d1;have c2:=d2;have c3:=d3;clear d0 d1 d2 d3;clear hown hgr hat hlt)
    | (go_at_call 214;refine (HIH.out B _ (ps ++ [(ldR ls 0,(⟨#[105,102]⟩:ByteArray))] ++ Qaf a ++ [(ldR ls 1,(⟨#[116,104,101,110]⟩:ByteArray))] ++ Qaf b ++ [(ldR ls 2,(⟨#[101,108,115,101]⟩:ByteArray))]) c uc _ HNc.out HU8.out HSHc.out HZc.out HS8.out.row HS8.out.le HL6.out).mono ?_;rintro e w9 ⟨lw9,rfl,hr,hg,ho⟩;have HS9:=hQ (HS8.out.call hr hg ho);clear k0 k1 k2 k3;obtain ⟨k0,k1,k2,k3⟩:=HS9.out.c4;have hkb:∀ k,k<B→w9.heap[k]? = (w8).heap[k]?:=fun k hk=>HS8.out.keepB hg k hk;have d0:w9.cell? ⟨xb,xo+8,none⟩=some (.int .i64 uc.kind):=(xJ (w:=w8) (a:=⟨xb,xo+8,none⟩) (hkb xb HXB.out)).trans c0;have d1:w9.cell? ⟨xb,xo+8+1,none⟩=some (.string uc.text):=(xJ (w:=w8) (a:=⟨xb,xo+8+1,none⟩) (hkb xb HXB.out)).trans c1;have d2:w9.cell? ⟨xb,xo+8+2,none⟩=some (.slice uc.la uc.ll uc.lc):=(xJ (w:=w8) (a:=⟨xb,xo+8+2,none⟩) (hkb xb HXB.out)).trans c2;have d3:w9.cell? ⟨xb,xo+8+3,none⟩=some (.slice uc.ka uc.kl uc.kc):=(xJ (w:=w8) (a:=⟨xb,xo+8+3,none⟩) (hkb xb HXB.out)).trans c3;have HU9:=hQ (TrAt.move (w:=w8) (w':=w9) (S':=fun k=>k<B) (fun _ h=>h) (fun k hk _=>hkb k hk) _ _ HU8.out);clear c0 c1 c2 c3 hkb;have c0:=d0;have c1:=d1;have c2:=d2;have c3:=d3;clear d0 d1 d2 d3;clear hr hg ho)
    | fail)
   all_goals
    clear c0 c1 c2 c3
    go_wp2
    go_ret
    exact HS9.out.post (by rw [HEQ.out];first | done | (simp only [xT,xV,xU];done) | (simp only [xT,xV,xU];rfl) | (simp;done)) rfl
theorem Qwe {N:Nat} (ih:PcC N) (B:Nat) (l:Value) (ps:List Qbi) (x:ByteArray) (ls:List ByteArray) (a b:Tr) (vla vka:Option Addr) (vlc vkc:Nat) (w:World) (hN:SizeOf.sizeOf (Tr.mk 20 x ls [a,b])≤N+1) (ht:TrAt (fun k=>k<B) w (Tr.mk 20 x ls [a,b]) ⟨20,x,vla,ls.length,vlc,vka,2,vkc⟩)
  (hsa:Qao a=true) (hsb:Qao b=true) (hz:Qak (Tr.mk 20 x ls [a,b])≤1000) (hl:PRow w B l ps) (hB:B≤w.heap.size) (hb:ps.length+(Qaf (Tr.mk 20 x ls [a,b])).length≤1000000) :
  Calls Tryz.prog 214 #[l,.agg #[.int .i64 20,.string x,.slice vla ls.length vlc,.slice vka 2 vkc]] w (Qdy B ps (Qaf (Tr.mk 20 x ls [a,b])) l w):=by
 obtain ⟨xb,xo,hka⟩:∃ b off,vka=some ⟨b,off,none⟩:=ht.addr.resolve_left (by show (2:Nat)≠0;decide)
 subst hka
 have HIH:=hQ ih
 have HBD:=hQ hb
 have HEQ:=hQ (Qzx x ls a b)
 have HNa:=hQ (show SizeOf.sizeOf a≤N from by have:=Qay (t:=Tr.mk 20 x ls [a,b]) (j:=0) (k:=a) rfl;omega)
 have HZa:=hQ (show Qak a≤1000 from by have:=Qbc (t:=Tr.mk 20 x ls [a,b]) (j:=0) (k:=a) rfl;omega)
 have HSHa:=hQ hsa
 have HNb:=hQ (show SizeOf.sizeOf b≤N from by have:=Qay (t:=Tr.mk 20 x ls [a,b]) (j:=1) (k:=b) rfl;omega)
 have HZb:=hQ (show Qak b≤1000 from by have:=Qbc (t:=Tr.mk 20 x ls [a,b]) (j:=1) (k:=b) rfl;omega)
 have HSHb:=hQ hsb
 have HXB:=hQ (show xb<B from by obtain ⟨_,b1,o1,hA,hS,_⟩:=ht.kid (j:=0) (k:=a) rfl;injection hA with e1;injection e1 with e1 _ _;rw [e1];exact hS)
 have HST:=hQ (PSt.start hl ht hB)
 obtain ⟨ip,hip,pz0,pz1,pz2⟩:=info_parts Qbd
 clear ih hN ht hz hl hB hb hsa hsb
 go_enter Tryz.func214,Tryz.ntmps214
 go_wp2_with fail
 generalize hW0:w.alloc (.cells #[.int .i64 20,.string x,.slice vla ls.length vlc,.slice (some ⟨xb,xo,none⟩) 2 vkc] 29)=W0 at ⊢
 have HS0:=hQ (show PSt B l w (Tr.mk 20 x ls [a,b]) ⟨20,x,vla,ls.length,vlc,some ⟨xb,xo,none⟩,2,vkc⟩ l ps W0 from hW0 ▸ HST.out)
 clear HST hW0
 obtain ⟨k0,k1,k2,k3⟩:=HS0.out.c4
 obtain ⟨n1,hn1⟩:∃ n,(ps).length=n:=⟨_,rfl⟩
 have HQ1:=hQ hn1
 clear hn1
 have HM1:=hQ (show n1+(3+(Qaf a).length)≤1000000 from by have h:=HBD.out;rw [←HQ1.out];rw [HEQ.out] at h;(try simp only [xB,xD,xG] at h ⊢);omega)
 have HL1:=hQ (show (ps).length+(3+(Qaf a).length)≤1000000 from by have h:=HBD.out;rw [HEQ.out] at h;(try simp only [xB,xD,xG] at h ⊢);omega)
 go_region_held3 (fun w'=>w'.cell? ⟨w.heap.size,0,none⟩=some (.int .i64 20)∧w'.cell? ⟨w.heap.size,1,none⟩=some (.string x)∧w'.cell? ⟨w.heap.size,2,none⟩=some (.slice vla ls.length vlc)∧w'.cell? ⟨w.heap.size,3,none⟩=some (.slice (some ⟨xb,xo,none⟩) 2 vkc)) (first | with_reducible exact ⟨k0,k1,k2,k3⟩ | go_keep) (first
  | (go_at_call 239;((with_reducible refine (Qaw _ (Tr.mk 20 x ls [a,b]) ⟨20,x,vla,ls.length,vlc,some ⟨xb,xo,none⟩,2,vkc⟩ 0 0 rfl _ HS0.out.drew.tree (by decide)).mono ?_);rintro e w1 ⟨rfl,hb⟩;have HS1:=hQ (HS0.out.drew.below hb);clear k0 k1 k2 k3;obtain ⟨k0,k1,k2,k3⟩:=HS1.out.c4;clear hb))
  | (go_at_call 239;((with_reducible refine (Qaw _ (Tr.mk 20 x ls [a,b]) ⟨20,x,vla,ls.length,vlc,some ⟨xb,xo,none⟩,2,vkc⟩ 1 1 rfl _ HS1.out.tree (by decide)).mono ?_);rintro e w2 ⟨rfl,hb⟩;have HS2:=hQ (HS1.out.below hb);clear k0 k1 k2 k3;obtain ⟨k0,k1,k2,k3⟩:=HS2.out.c4;clear hb))
  | (go_at_call 239;((with_reducible refine (Qaw _ (Tr.mk 20 x ls [a,b]) ⟨20,x,vla,ls.length,vlc,some ⟨xb,xo,none⟩,2,vkc⟩ 2 2 rfl _ HS2.out.tree (by decide)).mono ?_);rintro e w3 ⟨rfl,hb⟩;have HS3:=hQ (HS2.out.below hb);clear k0 k1 k2 k3;obtain ⟨k0,k1,k2,k3⟩:=HS3.out.c4;clear hb))
  | (refine step_append_lies _ (by rfl) _ _ _ (by rfl) B 211 ip _ 2 32 Tryz.underlying208 hip pz0 pz1 pz2 rfl (by decide) _ n1 (Qan (ps)) (by rfl) ((HS3.out.alloc _).rowN HQ1.out) ⟨w3.heap.size,0,none⟩ 3 3 (Qan [(ldR ls 0,(⟨#[108,101,116]⟩:ByteArray)),(ldR ls 1,(x:ByteArray)),(ldR ls 2,(⟨#[61]⟩:ByteArray))]) (by rfl) (by rfl) (xM (cs:=#[.string (ldR ls 0),.string ⟨#[108,101,116]⟩,.string (ldR ls 1),.string x,.string (ldR ls 2),.string ⟨#[61]⟩]) (t:=211) (fr:=(0,0)) (xH w3 _)) (Qas _) (by decide) (by unfold maxLen;have:=HM1.out;omega) (by have:=HM1.out;omega) (HS3.out.alloc _).le _ (by rfl) ?_;intro g cw4 w4 hown hgr hat hlt;have HS4:=hQ ((HS3.out.alloc _).appN HQ1.out (qs:=[(ldR ls 0,(⟨#[108,101,116]⟩:ByteArray)),(ldR ls 1,(x:ByteArray)),(ldR ls 2,(⟨#[61]⟩:ByteArray))]) rfl hown hgr hat (xA _));clear k0 k1 k2 k3;obtain ⟨k0,k1,k2,k3⟩:=HS4.out.c4;clear hown hgr hat hlt)
  | fail)
 all_goals
  go_wp2_with fail
  obtain ⟨ua,c0,c1,c2,c3,hu⟩:=HS4.out.tree.at rfl (show (Tr.mk 20 x ls [a,b]).kids[0]? = some a from rfl)
  replace c0:w4.cell? ⟨xb,xo,none⟩=some (.int .i64 ua.kind):=c0
  replace c1:w4.cell? ⟨xb,xo+1,none⟩=some (.string ua.text):=c1
  replace c2:w4.cell? ⟨xb,xo+2,none⟩=some (.slice ua.la ua.ll ua.lc):=c2
  replace c3:w4.cell? ⟨xb,xo+3,none⟩=some (.slice ua.ka ua.kl ua.kc):=c3
  have HU:=hQ hu
  clear hu
  obtain ⟨n2,hn2⟩:∃ n,(ps ++ [(ldR ls 0,(⟨#[108,101,116]⟩:ByteArray)),(ldR ls 1,(x:ByteArray)),(ldR ls 2,(⟨#[61]⟩:ByteArray))]).length=n:=⟨_,rfl⟩
  have HQ2:=hQ hn2
  clear hn2
  have HM2:=hQ (show n2+(Qaf a).length≤1000000 from by have h:=HBD.out;rw [←HQ2.out];rw [HEQ.out] at h;(try simp only [xB,xD,xG] at h ⊢);omega)
  have HL2:=hQ (show (ps ++ [(ldR ls 0,(⟨#[108,101,116]⟩:ByteArray)),(ldR ls 1,(x:ByteArray)),(ldR ls 2,(⟨#[61]⟩:ByteArray))]).length+(Qaf a).length≤1000000 from by have h:=HBD.out;rw [HEQ.out] at h;(try simp only [xB,xD,xG] at h ⊢);omega)
  obtain ⟨n3,hn3⟩:∃ n,(ps ++ [(ldR ls 0,(⟨#[108,101,116]⟩:ByteArray)),(ldR ls 1,(x:ByteArray)),(ldR ls 2,(⟨#[61]⟩:ByteArray))] ++ Qaf a).length=n:=⟨_,rfl⟩
  have HQ3:=hQ hn3
  clear hn3
  have HM3:=hQ (show n3+1≤1000000 from by have h:=HBD.out;rw [←HQ3.out];rw [HEQ.out] at h;(try simp only [xB,xD,xG] at h ⊢);omega)
  have HL3:=hQ (show (ps ++ [(ldR ls 0,(⟨#[108,101,116]⟩:ByteArray)),(ldR ls 1,(x:ByteArray)),(ldR ls 2,(⟨#[61]⟩:ByteArray))] ++ Qaf a).length+1≤1000000 from by have h:=HBD.out;rw [HEQ.out] at h;(try simp only [xB,xD,xG] at h ⊢);omega)
  go_region_held3 (fun w'=>w'.cell? ⟨w.heap.size,0,none⟩=some (.int .i64 20)∧w'.cell? ⟨w.heap.size,1,none⟩=some (.string x)∧w'.cell? ⟨w.heap.size,2,none⟩=some (.slice vla ls.length vlc)∧w'.cell? ⟨w.heap.size,3,none⟩=some (.slice (some ⟨xb,xo,none⟩) 2 vkc)∧w'.cell? ⟨xb,xo,none⟩=some (.int .i64 ua.kind)∧w'.cell? ⟨xb,xo+1,none⟩=some (.string ua.text)∧w'.cell? ⟨xb,xo+2,none⟩=some (.slice ua.la ua.ll ua.lc)∧w'.cell? ⟨xb,xo+3,none⟩=some (.slice ua.ka ua.kl ua.kc)) (first | with_reducible exact ⟨k0,k1,k2,k3,c0,c1,c2,c3⟩ | go_keep) (first
   | (go_at_call 214;refine (HIH.out B _ (ps ++ [(ldR ls 0,(⟨#[108,101,116]⟩:ByteArray)),(ldR ls 1,(x:ByteArray)),(ldR ls 2,(⟨#[61]⟩:ByteArray))]) a ua _ HNa.out (HU.out.keep ((xC _ _).drew)) HSHa.out HZa.out HS4.out.drew.row HS4.out.drew.le HL2.out).mono ?_;rintro e w5 ⟨lw5,rfl,hr,hg,ho⟩;have HS5:=hQ (HS4.out.drew.call hr hg ho);clear k0 k1 k2 k3;obtain ⟨k0,k1,k2,k3⟩:=HS5.out.c4;have hkb:∀ k,k<B→w5.heap[k]? = (w4).heap[k]?:=fun k hk=>HS4.out.drew.keepB hg k hk;have d0:w5.cell? ⟨xb,xo,none⟩=some (.int .i64 ua.kind):=(xJ (w:=w4) (a:=⟨xb,xo,none⟩) (hkb xb HXB.out)).trans c0;have d1:w5.cell? ⟨xb,xo+1,none⟩=some (.string ua.text):=(xJ (w:=w4) (a:=⟨xb,xo+1,none⟩) (hkb xb HXB.out)).trans c1;have d2:w5.cell? ⟨xb,xo+2,none⟩=some (.slice ua.la ua.ll ua.lc):=(xJ (w:=w4) (a:=⟨xb,xo+2,none⟩) (hkb xb HXB.out)).trans c2;have d3:w5.cell? ⟨xb,xo+3,none⟩=some (.slice ua.ka ua.kl ua.kc):=(xJ (w:=w4) (a:=⟨xb,xo+3,none⟩) (hkb xb HXB.out)).trans c3;have HU1:=hQ (TrAt.move (w:=w4) (w':=w5) (S':=fun k=>k<B) (fun _ h=>h) (fun k hk _=>hkb k hk) _ _ HU.out);clear c0 c1 c2 c3 hkb;have c0:=d0;have c1:=d1;have c2:=d2;have c3:=d3;clear d0 d1 d2 d3;clear hr hg ho)
   | (go_at_call 239;((with_reducible refine (Qaw _ (Tr.mk 20 x ls [a,b]) ⟨20,x,vla,ls.length,vlc,some ⟨xb,xo,none⟩,2,vkc⟩ 3 3 rfl _ HS5.out.tree (by decide)).mono ?_);rintro e w6 ⟨rfl,hb⟩;have HS6:=hQ (HS5.out.below hb);clear k0 k1 k2 k3;obtain ⟨k0,k1,k2,k3⟩:=HS6.out.c4;have hkb:∀ k,k<B→w6.heap[k]? = (w5).heap[k]?:=fun k hk=>hb.block k (xE hk HS5.out.le);have d0:w6.cell? ⟨xb,xo,none⟩=some (.int .i64 ua.kind):=(xJ (w:=w5) (a:=⟨xb,xo,none⟩) (hkb xb HXB.out)).trans c0;have d1:w6.cell? ⟨xb,xo+1,none⟩=some (.string ua.text):=(xJ (w:=w5) (a:=⟨xb,xo+1,none⟩) (hkb xb HXB.out)).trans c1;have d2:w6.cell? ⟨xb,xo+2,none⟩=some (.slice ua.la ua.ll ua.lc):=(xJ (w:=w5) (a:=⟨xb,xo+2,none⟩) (hkb xb HXB.out)).trans c2;have d3:w6.cell? ⟨xb,xo+3,none⟩=some (.slice ua.ka ua.kl ua.kc):=(xJ (w:=w5) (a:=⟨xb,xo+3,none⟩) (hkb xb HXB.out)).trans c3;have HU2:=hQ (TrAt.move (w:=w5) (w':=w6) (S':=fun k=>k<B) (fun _ h=>h) (fun k hk _=>hkb k hk) _ _ HU1.out);clear c0 c1 c2 c3 hkb;have c0:=d0;have c1:=d1;have c2:=d2;have c3:=d3;clear d0 d1 d2 d3;clear hb))
   | (refine step_append_lies _ (by rfl) _ _ _ (by rfl) B 211 ip _ 2 32 Tryz.underlying208 hip pz0 pz1 pz2 rfl (by decide) _ n3 (Qan (ps ++ [(ldR ls 0,(⟨#[108,101,116]⟩:ByteArray)),(ldR ls 1,(x:ByteArray)),(ldR ls 2,(⟨#[61]⟩:ByteArray))] ++ Qaf a)) (by rfl) ((HS6.out.alloc _).rowN HQ3.out) ⟨w6.heap.size,0,none⟩ 1 1 (Qan [(ldR ls 3,(⟨#[105,110]⟩:ByteArray))]) (by rfl) (by rfl) (xM (cs:=#[.string (ldR ls 3),.string ⟨#[105,110]⟩]) (t:=211) (fr:=(0,0)) (xH w6 _)) (Qas _) (by decide) (by unfold maxLen;have:=HM3.out;omega) (by have:=HM3.out;omega) (HS6.out.alloc _).le _ (by rfl) ?_;intro g cw7 w7 hown hgr hat hlt;have HS7:=hQ ((HS6.out.alloc _).appN HQ3.out (qs:=[(ldR ls 3,(⟨#[105,110]⟩:ByteArray))]) rfl hown hgr hat (xA _));clear k0 k1 k2 k3;obtain ⟨k0,k1,k2,k3⟩:=HS7.out.c4;have hkb:∀ k,k<B→w7.heap[k]? = (w6).heap[k]?:=fun k hk=>((HS6.out.alloc _).keepB hgr k hk).trans (Below.heap_alloc _ _ k (xE hk HS6.out.le));have d0:w7.cell? ⟨xb,xo,none⟩=some (.int .i64 ua.kind):=(xJ (w:=w6) (a:=⟨xb,xo,none⟩) (hkb xb HXB.out)).trans c0;have d1:w7.cell? ⟨xb,xo+1,none⟩=some (.string ua.text):=(xJ (w:=w6) (a:=⟨xb,xo+1,none⟩) (hkb xb HXB.out)).trans c1;have d2:w7.cell? ⟨xb,xo+2,none⟩=some (.slice ua.la ua.ll ua.lc):=(xJ (w:=w6) (a:=⟨xb,xo+2,none⟩) (hkb xb HXB.out)).trans c2;have d3:w7.cell? ⟨xb,xo+3,none⟩=some (.slice ua.ka ua.kl ua.kc):=(xJ (w:=w6) (a:=⟨xb,xo+3,none⟩) (hkb xb HXB.out)).trans c3;have HU3:=hQ (TrAt.move (w:=w6) (w':=w7) (S':=fun k=>k<B) (fun _ h=>h) (fun k hk _=>hkb k hk) _ _ HU2.out);clear c0 c1 c2 c3 hkb;have c0:=d0;have c1:=d1;have c2:=d2;have c3:=d3;clear d0 d1 d2 d3;clear hown hgr hat hlt)
   | fail)
  all_goals
   clear c0 c1 c2 c3
   obtain ⟨ub,c0,c1,c2,c3,hu⟩:=HS7.out.tree.at rfl (show (Tr.mk 20 x ls [a,b]).kids[1]? = some b from rfl)
   replace c0:w7.cell? ⟨xb,xo+4,none⟩=some (.int .i64 ub.kind):=c0
   replace c1:w7.cell? ⟨xb,xo+4+1,none⟩=some (.string ub.text):=c1
   replace c2:w7.cell? ⟨xb,xo+4+2,none⟩=some (.slice ub.la ub.ll ub.lc):=c2
   replace c3:w7.cell? ⟨xb,xo+4+3,none⟩=some (.slice ub.ka ub.kl ub.kc):=c3
   have HU:=hQ hu
   clear hu
   obtain ⟨n4,hn4⟩:∃ n,(ps ++ [(ldR ls 0,(⟨#[108,101,116]⟩:ByteArray)),(ldR ls 1,(x:ByteArray)),(ldR ls 2,(⟨#[61]⟩:ByteArray))] ++ Qaf a ++ [(ldR ls 3,(⟨#[105,110]⟩:ByteArray))]).length=n:=⟨_,rfl⟩
   have HQ4:=hQ hn4
   clear hn4
   have HM4:=hQ (show n4+(Qaf b).length≤1000000 from by have h:=HBD.out;rw [←HQ4.out];rw [HEQ.out] at h;(try simp only [xB,xD,xG] at h ⊢);omega)
   have HL4:=hQ (show (ps ++ [(ldR ls 0,(⟨#[108,101,116]⟩:ByteArray)),(ldR ls 1,(x:ByteArray)),(ldR ls 2,(⟨#[61]⟩:ByteArray))] ++ Qaf a ++ [(ldR ls 3,(⟨#[105,110]⟩:ByteArray))]).length+(Qaf b).length≤1000000 from by have h:=HBD.out;rw [HEQ.out] at h;(try simp only [xB,xD,xG] at h ⊢);omega)
   go_wp2_with (go_at_call 214;refine (HIH.out B _ (ps ++ [(ldR ls 0,(⟨#[108,101,116]⟩:ByteArray)),(ldR ls 1,(x:ByteArray)),(ldR ls 2,(⟨#[61]⟩:ByteArray))] ++ Qaf a ++ [(ldR ls 3,(⟨#[105,110]⟩:ByteArray))]) b ub _ HNb.out HU.out HSHb.out HZb.out HS7.out.row HS7.out.le HL4.out).mono ?_;rintro e w8 ⟨lw8,rfl,hr,hg,ho⟩;have HS8:=hQ (HS7.out.call hr hg ho);clear k0 k1 k2 k3;obtain ⟨k0,k1,k2,k3⟩:=HS8.out.c4;clear c0 c1 c2 c3;clear hr hg ho)
   go_ret
   exact HS8.out.post (by rw [HEQ.out];first | done | (simp only [xT,xV,xU];done) | (simp only [xT,xV,xU];rfl) | (simp;done)) rfl
theorem Qwf {N:Nat} (ih:PcC N) (B:Nat) (l:Value) (ps:List Qbi) (x:ByteArray) (ls:List ByteArray) (a b:Tr) (vla vka:Option Addr) (vlc vkc:Nat) (w:World) (hN:SizeOf.sizeOf (Tr.mk 21 x ls [a,b])≤N+1) (ht:TrAt (fun k=>k<B) w (Tr.mk 21 x ls [a,b]) ⟨21,x,vla,ls.length,vlc,vka,2,vkc⟩)
  (hsa:Qao a=true) (hsb:Qao b=true) (hz:Qak (Tr.mk 21 x ls [a,b])≤1000) (hl:PRow w B l ps) (hB:B≤w.heap.size) (hb:ps.length+(Qaf (Tr.mk 21 x ls [a,b])).length≤1000000) :
  Calls Tryz.prog 214 #[l,.agg #[.int .i64 21,.string x,.slice vla ls.length vlc,.slice vka 2 vkc]] w (Qdy B ps (Qaf (Tr.mk 21 x ls [a,b])) l w):=by
 obtain ⟨xb,xo,hka⟩:∃ b off,vka=some ⟨b,off,none⟩:=ht.addr.resolve_left (by show (2:Nat)≠0;decide)
 subst hka
 have HIH:=hQ ih
 have HBD:=hQ hb
 have HEQ:=hQ (Qzy x ls a b)
 have HNa:=hQ (show SizeOf.sizeOf a≤N from by have:=Qay (t:=Tr.mk 21 x ls [a,b]) (j:=0) (k:=a) rfl;omega)
 have HZa:=hQ (show Qak a≤1000 from by have:=Qbc (t:=Tr.mk 21 x ls [a,b]) (j:=0) (k:=a) rfl;omega)
 have HSHa:=hQ hsa
 have HNb:=hQ (show SizeOf.sizeOf b≤N from by have:=Qay (t:=Tr.mk 21 x ls [a,b]) (j:=1) (k:=b) rfl;omega)
 have HZb:=hQ (show Qak b≤1000 from by have:=Qbc (t:=Tr.mk 21 x ls [a,b]) (j:=1) (k:=b) rfl;omega)
 have HSHb:=hQ hsb
 have HXB:=hQ (show xb<B from by obtain ⟨_,b1,o1,hA,hS,_⟩:=ht.kid (j:=0) (k:=a) rfl;injection hA with e1;injection e1 with e1 _ _;rw [e1];exact hS)
 have HST:=hQ (PSt.start hl ht hB)
 obtain ⟨ip,hip,pz0,pz1,pz2⟩:=info_parts Qbd
 clear ih hN ht hz hl hB hb hsa hsb
 go_enter Tryz.func214,Tryz.ntmps214
 go_wp2_with fail
 generalize hW0:w.alloc (.cells #[.int .i64 21,.string x,.slice vla ls.length vlc,.slice (some ⟨xb,xo,none⟩) 2 vkc] 29)=W0 at ⊢
 have HS0:=hQ (show PSt B l w (Tr.mk 21 x ls [a,b]) ⟨21,x,vla,ls.length,vlc,some ⟨xb,xo,none⟩,2,vkc⟩ l ps W0 from hW0 ▸ HST.out)
 clear HST hW0
 obtain ⟨k0,k1,k2,k3⟩:=HS0.out.c4
 obtain ⟨ua,c0,c1,c2,c3,hu⟩:=HS0.out.tree.at rfl (show (Tr.mk 21 x ls [a,b]).kids[0]? = some a from rfl)
 replace c0:W0.cell? ⟨xb,xo,none⟩=some (.int .i64 ua.kind):=c0
 replace c1:W0.cell? ⟨xb,xo+1,none⟩=some (.string ua.text):=c1
 replace c2:W0.cell? ⟨xb,xo+2,none⟩=some (.slice ua.la ua.ll ua.lc):=c2
 replace c3:W0.cell? ⟨xb,xo+3,none⟩=some (.slice ua.ka ua.kl ua.kc):=c3
 have HU:=hQ hu
 clear hu
 obtain ⟨n1,hn1⟩:∃ n,(ps).length=n:=⟨_,rfl⟩
 have HQ1:=hQ hn1
 clear hn1
 have HM1:=hQ (show n1+(Qaf a).length≤1000000 from by have h:=HBD.out;rw [←HQ1.out];rw [HEQ.out] at h;(try simp only [xB,xD,xG] at h ⊢);omega)
 have HL1:=hQ (show (ps).length+(Qaf a).length≤1000000 from by have h:=HBD.out;rw [HEQ.out] at h;(try simp only [xB,xD,xG] at h ⊢);omega)
 obtain ⟨n2,hn2⟩:∃ n,(ps ++ Qaf a).length=n:=⟨_,rfl⟩
 have HQ2:=hQ hn2
 clear hn2
 have HM2:=hQ (show n2+1≤1000000 from by have h:=HBD.out;rw [←HQ2.out];rw [HEQ.out] at h;(try simp only [xB,xD,xG] at h ⊢);omega)
 have HL2:=hQ (show (ps ++ Qaf a).length+1≤1000000 from by have h:=HBD.out;rw [HEQ.out] at h;(try simp only [xB,xD,xG] at h ⊢);omega)
 go_region_held3 (fun w'=>w'.cell? ⟨w.heap.size,0,none⟩=some (.int .i64 21)∧w'.cell? ⟨w.heap.size,1,none⟩=some (.string x)∧w'.cell? ⟨w.heap.size,2,none⟩=some (.slice vla ls.length vlc)∧w'.cell? ⟨w.heap.size,3,none⟩=some (.slice (some ⟨xb,xo,none⟩) 2 vkc)∧w'.cell? ⟨xb,xo,none⟩=some (.int .i64 ua.kind)∧w'.cell? ⟨xb,xo+1,none⟩=some (.string ua.text)∧w'.cell? ⟨xb,xo+2,none⟩=some (.slice ua.la ua.ll ua.lc)∧w'.cell? ⟨xb,xo+3,none⟩=some (.slice ua.ka ua.kl ua.kc)) (first | with_reducible exact ⟨k0,k1,k2,k3,c0,c1,c2,c3⟩ | go_keep) (first
  | (go_at_call 214;refine (HIH.out B _ (ps) a ua _ HNa.out (HU.out.keep ((xC _ _).drew)) HSHa.out HZa.out HS0.out.drew.row HS0.out.drew.le HL1.out).mono ?_;rintro e w1 ⟨lw1,rfl,hr,hg,ho⟩;have HS1:=hQ (HS0.out.drew.call hr hg ho);clear k0 k1 k2 k3;obtain ⟨k0,k1,k2,k3⟩:=HS1.out.c4;have hkb:∀ k,k<B→w1.heap[k]? = (W0).heap[k]?:=fun k hk=>HS0.out.drew.keepB hg k hk;have d0:w1.cell? ⟨xb,xo,none⟩=some (.int .i64 ua.kind):=(xJ (w:=W0) (a:=⟨xb,xo,none⟩) (hkb xb HXB.out)).trans c0;have d1:w1.cell? ⟨xb,xo+1,none⟩=some (.string ua.text):=(xJ (w:=W0) (a:=⟨xb,xo+1,none⟩) (hkb xb HXB.out)).trans c1;have d2:w1.cell? ⟨xb,xo+2,none⟩=some (.slice ua.la ua.ll ua.lc):=(xJ (w:=W0) (a:=⟨xb,xo+2,none⟩) (hkb xb HXB.out)).trans c2;have d3:w1.cell? ⟨xb,xo+3,none⟩=some (.slice ua.ka ua.kl ua.kc):=(xJ (w:=W0) (a:=⟨xb,xo+3,none⟩) (hkb xb HXB.out)).trans c3;have HU1:=hQ (TrAt.move (w:=W0) (w':=w1) (S':=fun k=>k<B) (fun _ h=>h) (fun k hk _=>hkb k hk) _ _ HU.out);clear c0 c1 c2 c3 hkb;have c0:=d0;have c1:=d1;have c2:=d2;have c3:=d3;clear d0 d1 d2 d3;clear hr hg ho)
  | (go_at_call 239;((with_reducible refine (Qaw _ (Tr.mk 21 x ls [a,b]) ⟨21,x,vla,ls.length,vlc,some ⟨xb,xo,none⟩,2,vkc⟩ 0 0 rfl _ HS1.out.tree (by decide)).mono ?_);rintro e w2 ⟨rfl,hb⟩;have HS2:=hQ (HS1.out.below hb);clear k0 k1 k2 k3;obtain ⟨k0,k1,k2,k3⟩:=HS2.out.c4;have hkb:∀ k,k<B→w2.heap[k]? = (w1).heap[k]?:=fun k hk=>hb.block k (xE hk HS1.out.le);have d0:w2.cell? ⟨xb,xo,none⟩=some (.int .i64 ua.kind):=(xJ (w:=w1) (a:=⟨xb,xo,none⟩) (hkb xb HXB.out)).trans c0;have d1:w2.cell? ⟨xb,xo+1,none⟩=some (.string ua.text):=(xJ (w:=w1) (a:=⟨xb,xo+1,none⟩) (hkb xb HXB.out)).trans c1;have d2:w2.cell? ⟨xb,xo+2,none⟩=some (.slice ua.la ua.ll ua.lc):=(xJ (w:=w1) (a:=⟨xb,xo+2,none⟩) (hkb xb HXB.out)).trans c2;have d3:w2.cell? ⟨xb,xo+3,none⟩=some (.slice ua.ka ua.kl ua.kc):=(xJ (w:=w1) (a:=⟨xb,xo+3,none⟩) (hkb xb HXB.out)).trans c3;have HU2:=hQ (TrAt.move (w:=w1) (w':=w2) (S':=fun k=>k<B) (fun _ h=>h) (fun k hk _=>hkb k hk) _ _ HU1.out);clear c0 c1 c2 c3 hkb;have c0:=d0;have c1:=d1;have c2:=d2;have c3:=d3;clear d0 d1 d2 d3;clear hb))
  | (refine step_append_lies _ (by rfl) _ _ _ (by rfl) B 211 ip _ 2 32 Tryz.underlying208 hip pz0 pz1 pz2 rfl (by decide) _ n2 (Qan (ps ++ Qaf a)) (by rfl) ((HS2.out.alloc _).rowN HQ2.out) ⟨w2.heap.size,0,none⟩ 1 1 (Qan [(ldR ls 0,(x:ByteArray))]) (by rfl) (by rfl) (xM (cs:=#[.string (ldR ls 0),.string x]) (t:=211) (fr:=(0,0)) (xH w2 _)) (Qas _) (by decide) (by unfold maxLen;have:=HM2.out;omega) (by have:=HM2.out;omega) (HS2.out.alloc _).le _ (by rfl) ?_;intro g cw3 w3 hown hgr hat hlt;have HS3:=hQ ((HS2.out.alloc _).appN HQ2.out (qs:=[(ldR ls 0,(x:ByteArray))]) rfl hown hgr hat (xA _));clear k0 k1 k2 k3;obtain ⟨k0,k1,k2,k3⟩:=HS3.out.c4;have hkb:∀ k,k<B→w3.heap[k]? = (w2).heap[k]?:=fun k hk=>((HS2.out.alloc _).keepB hgr k hk).trans (Below.heap_alloc _ _ k (xE hk HS2.out.le));have d0:w3.cell? ⟨xb,xo,none⟩=some (.int .i64 ua.kind):=(xJ (w:=w2) (a:=⟨xb,xo,none⟩) (hkb xb HXB.out)).trans c0;have d1:w3.cell? ⟨xb,xo+1,none⟩=some (.string ua.text):=(xJ (w:=w2) (a:=⟨xb,xo+1,none⟩) (hkb xb HXB.out)).trans c1;have d2:w3.cell? ⟨xb,xo+2,none⟩=some (.slice ua.la ua.ll ua.lc):=(xJ (w:=w2) (a:=⟨xb,xo+2,none⟩) (hkb xb HXB.out)).trans c2;have d3:w3.cell? ⟨xb,xo+3,none⟩=some (.slice ua.ka ua.kl ua.kc):=(xJ (w:=w2) (a:=⟨xb,xo+3,none⟩) (hkb xb HXB.out)).trans c3;have HU3:=hQ (TrAt.move (w:=w2) (w':=w3) (S':=fun k=>k<B) (fun _ h=>h) (fun k hk _=>hkb k hk) _ _ HU2.out);clear c0 c1 c2 c3 hkb;have c0:=d0;have c1:=d1;have c2:=d2;have c3:=d3;clear d0 d1 d2 d3;clear hown hgr hat hlt)
  | fail)
 all_goals
  clear c0 c1 c2 c3
  obtain ⟨ub,c0,c1,c2,c3,hu⟩:=HS3.out.tree.at rfl (show (Tr.mk 21 x ls [a,b]).kids[1]? = some b from rfl)
  replace c0:w3.cell? ⟨xb,xo+4,none⟩=some (.int .i64 ub.kind):=c0
  replace c1:w3.cell? ⟨xb,xo+4+1,none⟩=some (.string ub.text):=c1
  replace c2:w3.cell? ⟨xb,xo+4+2,none⟩=some (.slice ub.la ub.ll ub.lc):=c2
  replace c3:w3.cell? ⟨xb,xo+4+3,none⟩=some (.slice ub.ka ub.kl ub.kc):=c3
  have HU:=hQ hu
  clear hu
  obtain ⟨n3,hn3⟩:∃ n,(ps ++ Qaf a ++ [(ldR ls 0,(x:ByteArray))]).length=n:=⟨_,rfl⟩
  have HQ3:=hQ hn3
  clear hn3
  have HM3:=hQ (show n3+(Qaf b).length≤1000000 from by have h:=HBD.out;rw [←HQ3.out];rw [HEQ.out] at h;(try simp only [xB,xD,xG] at h ⊢);omega)
  have HL3:=hQ (show (ps ++ Qaf a ++ [(ldR ls 0,(x:ByteArray))]).length+(Qaf b).length≤1000000 from by have h:=HBD.out;rw [HEQ.out] at h;(try simp only [xB,xD,xG] at h ⊢);omega)
  go_wp2_with (go_at_call 214;refine (HIH.out B _ (ps ++ Qaf a ++ [(ldR ls 0,(x:ByteArray))]) b ub _ HNb.out HU.out HSHb.out HZb.out HS3.out.row HS3.out.le HL3.out).mono ?_;rintro e w4 ⟨lw4,rfl,hr,hg,ho⟩;have HS4:=hQ (HS3.out.call hr hg ho);clear k0 k1 k2 k3;obtain ⟨k0,k1,k2,k3⟩:=HS4.out.c4;clear c0 c1 c2 c3;clear hr hg ho)
  go_ret
  exact HS4.out.post (by rw [HEQ.out];first | done | (simp only [xT,xV,xU];done) | (simp only [xT,xV,xU];rfl) | (simp;done)) rfl
end Go.Proofs.YtjidpkcjpgdafaaGreat
