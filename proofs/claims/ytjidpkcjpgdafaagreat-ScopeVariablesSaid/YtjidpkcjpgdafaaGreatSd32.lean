/- Part 32 -/
import Derived.Test.YtjidpkcjpgdafaaGreatSd30
import Derived.IntWalk
set_option maxRecDepth 100000
set_option maxHeartbeats 4000000
namespace Go.Proofs.YtjidpkcjpgdafaaGreat
open Go.RowKit
theorem Qz2 {N:Nat} (ih:PcC N) (B:Nat) (l:Value) (ps:List Qbi) (x:ByteArray) (ls:List ByteArray) (a:Tr) (vla vka:Option Addr) (vlc vkc:Nat) (w:World) (hN:SizeOf.sizeOf (Tr.mk 3 x ls [a])≤N+1) (ht:TrAt (fun k=>k<B) w (Tr.mk 3 x ls [a]) ⟨3,x,vla,ls.length,vlc,vka,1,vkc⟩)
  (hsa:Qao a=true) (hz:Qak (Tr.mk 3 x ls [a])≤1000) (hl:PRow w B l ps) (hB:B≤w.heap.size) (hb:ps.length+(Qaf (Tr.mk 3 x ls [a])).length≤1000000) :
  Calls Tryz.prog 214 #[l,.agg #[.int .i64 3,.string x,.slice vla ls.length vlc,.slice vka 1 vkc]] w (Qdy B ps (Qaf (Tr.mk 3 x ls [a])) l w):=by
 obtain ⟨xb,xo,hka⟩:∃ b off,vka=some ⟨b,off,none⟩:=ht.addr.resolve_left (by show (1:Nat)≠0;decide)
 subst hka
 have HIH:=hQ ih
 have HBD:=hQ hb
 have HEQ:=hQ (Zdb x ls a)
 have HNa:=hQ (show SizeOf.sizeOf a≤N from by have:=Qay (t:=Tr.mk 3 x ls [a]) (j:=0) (k:=a) rfl;omega)
 have HZa:=hQ (show Qak a≤1000 from by have:=Qbc (t:=Tr.mk 3 x ls [a]) (j:=0) (k:=a) rfl;omega)
 have HSHa:=hQ hsa
 have HXB:=hQ (show xb<B from by obtain ⟨_,b1,o1,hA,hS,_⟩:=ht.kid (j:=0) (k:=a) rfl;injection hA with e1;injection e1 with e1 _ _;rw [e1];exact hS)
 have HST:=hQ (PSt.start hl ht hB)
 obtain ⟨ip,hip,pz0,pz1,pz2⟩:=info_parts Qbd
 clear ih hN ht hz hl hB hb hsa
 go_enter Tryz.func214,Tryz.ntmps214
 go_wp2_with fail
 generalize hW0:w.alloc (.cells #[.int .i64 3,.string x,.slice vla ls.length vlc,.slice (some ⟨xb,xo,none⟩) 1 vkc] 29)=W0 at ⊢
 have HS0:=hQ (show PSt B l w (Tr.mk 3 x ls [a]) ⟨3,x,vla,ls.length,vlc,some ⟨xb,xo,none⟩,1,vkc⟩ l ps W0 from hW0 ▸ HST.out)
 clear HST hW0
 obtain ⟨k0,k1,k2,k3⟩:=HS0.out.c4
 obtain ⟨n1,hn1⟩:∃ n,(ps).length=n:=⟨_,rfl⟩
 have HQ1:=hQ hn1
 clear hn1
 have HM1:=hQ (show n1+(3+(Qaf a).length)≤1000000 from by have h:=HBD.out;rw [←HQ1.out];rw [HEQ.out] at h;(try simp only [xB,xD,xG] at h ⊢);omega)
 have HL1:=hQ (show (ps).length+(3+(Qaf a).length)≤1000000 from by have h:=HBD.out;rw [HEQ.out] at h;(try simp only [xB,xD,xG] at h ⊢);omega)
 go_region_held3 (fun w'=>w'.cell? ⟨w.heap.size,0,none⟩=some (.int .i64 3)∧w'.cell? ⟨w.heap.size,1,none⟩=some (.string x)∧w'.cell? ⟨w.heap.size,2,none⟩=some (.slice vla ls.length vlc)∧w'.cell? ⟨w.heap.size,3,none⟩=some (.slice (some ⟨xb,xo,none⟩) 1 vkc)) (first | with_reducible exact ⟨k0,k1,k2,k3⟩ | go_keep) (first
  | (go_at_call 239;((with_reducible refine (Qaw _ (Tr.mk 3 x ls [a]) ⟨3,x,vla,ls.length,vlc,some ⟨xb,xo,none⟩,1,vkc⟩ 0 0 rfl _ HS0.out.drew.tree (by decide)).mono ?_);rintro e w1 ⟨rfl,hb⟩;have HS1:=hQ (HS0.out.drew.below hb);clear k0 k1 k2 k3;obtain ⟨k0,k1,k2,k3⟩:=HS1.out.c4;clear hb))
  | (go_at_call 239;((with_reducible refine (Qaw _ (Tr.mk 3 x ls [a]) ⟨3,x,vla,ls.length,vlc,some ⟨xb,xo,none⟩,1,vkc⟩ 1 1 rfl _ HS1.out.tree (by decide)).mono ?_);rintro e w2 ⟨rfl,hb⟩;have HS2:=hQ (HS1.out.below hb);clear k0 k1 k2 k3;obtain ⟨k0,k1,k2,k3⟩:=HS2.out.c4;clear hb))
  | (go_at_call 239;((with_reducible refine (Qaw _ (Tr.mk 3 x ls [a]) ⟨3,x,vla,ls.length,vlc,some ⟨xb,xo,none⟩,1,vkc⟩ 2 2 rfl _ HS2.out.tree (by decide)).mono ?_);rintro e w3 ⟨rfl,hb⟩;have HS3:=hQ (HS2.out.below hb);clear k0 k1 k2 k3;obtain ⟨k0,k1,k2,k3⟩:=HS3.out.c4;clear hb))
  | (refine step_append_lies _ (by rfl) _ _ _ (by rfl) B 211 ip _ 2 32 Tryz.underlying208 hip pz0 pz1 pz2 rfl (by decide) _ n1 (Qan (ps)) (by rfl) ((HS3.out.alloc _).rowN HQ1.out) ⟨w3.heap.size,0,none⟩ 3 3 (Qan [(ldR ls 0,(⟨#[116,121,112,101]⟩:ByteArray)),(ldR ls 1,(x:ByteArray)),(ldR ls 2,(⟨#[61]⟩:ByteArray))]) (by rfl) (by rfl) (xM (cs:=#[.string (ldR ls 0),.string ⟨#[116,121,112,101]⟩,.string (ldR ls 1),.string x,.string (ldR ls 2),.string ⟨#[61]⟩]) (t:=211) (fr:=(0,0)) (xH w3 _)) (Qas _) (by decide) (by unfold maxLen;have:=HM1.out;omega) (by have:=HM1.out;omega) (HS3.out.alloc _).le _ (by rfl) ?_;intro g cw4 w4 hown hgr hat hlt;have HS4:=hQ ((HS3.out.alloc _).appN HQ1.out (qs:=[(ldR ls 0,(⟨#[116,121,112,101]⟩:ByteArray)),(ldR ls 1,(x:ByteArray)),(ldR ls 2,(⟨#[61]⟩:ByteArray))]) rfl hown hgr hat (xA _));clear k0 k1 k2 k3;obtain ⟨k0,k1,k2,k3⟩:=HS4.out.c4;clear hown hgr hat hlt)
  | fail)
 all_goals
  obtain ⟨ua,c0,c1,c2,c3,hu⟩:=HS4.out.tree.at rfl (show (Tr.mk 3 x ls [a]).kids[0]? = some a from rfl)
  replace c0:w4.cell? ⟨xb,xo,none⟩=some (.int .i64 ua.kind):=c0
  replace c1:w4.cell? ⟨xb,xo+1,none⟩=some (.string ua.text):=c1
  replace c2:w4.cell? ⟨xb,xo+2,none⟩=some (.slice ua.la ua.ll ua.lc):=c2
  replace c3:w4.cell? ⟨xb,xo+3,none⟩=some (.slice ua.ka ua.kl ua.kc):=c3
  have HU:=hQ hu
  clear hu
  obtain ⟨n2,hn2⟩:∃ n,(ps ++ [(ldR ls 0,(⟨#[116,121,112,101]⟩:ByteArray)),(ldR ls 1,(x:ByteArray)),(ldR ls 2,(⟨#[61]⟩:ByteArray))]).length=n:=⟨_,rfl⟩
  have HQ2:=hQ hn2
  clear hn2
  have HM2:=hQ (show n2+(Qaf a).length≤1000000 from by have h:=HBD.out;rw [←HQ2.out];rw [HEQ.out] at h;(try simp only [xB,xD,xG] at h ⊢);omega)
  have HL2:=hQ (show (ps ++ [(ldR ls 0,(⟨#[116,121,112,101]⟩:ByteArray)),(ldR ls 1,(x:ByteArray)),(ldR ls 2,(⟨#[61]⟩:ByteArray))]).length+(Qaf a).length≤1000000 from by have h:=HBD.out;rw [HEQ.out] at h;(try simp only [xB,xD,xG] at h ⊢);omega)
  go_wp2_with (go_at_call 214;refine (HIH.out B _ (ps ++ [(ldR ls 0,(⟨#[116,121,112,101]⟩:ByteArray)),(ldR ls 1,(x:ByteArray)),(ldR ls 2,(⟨#[61]⟩:ByteArray))]) a ua _ HNa.out HU.out HSHa.out HZa.out HS4.out.row HS4.out.le HL2.out).mono ?_;rintro e w5 ⟨lw5,rfl,hr,hg,ho⟩;have HS5:=hQ (HS4.out.call hr hg ho);clear k0 k1 k2 k3;obtain ⟨k0,k1,k2,k3⟩:=HS5.out.c4;clear c0 c1 c2 c3;clear hr hg ho)
  go_ret
  exact HS5.out.post (by rw [HEQ.out];first | done | (simp only [xT,xV,xU];done) | (simp only [xT,xV,xU];rfl) | (simp;done)) rfl
theorem Qz3 {N:Nat} (ih:PcC N) (B:Nat) (l:Value) (ps:List Qbi) (x:ByteArray) (ls:List ByteArray) (a:Tr) (vla vka:Option Addr) (vlc vkc:Nat) (w:World) (hN:SizeOf.sizeOf (Tr.mk 4 x ls [a])≤N+1) (ht:TrAt (fun k=>k<B) w (Tr.mk 4 x ls [a]) ⟨4,x,vla,ls.length,vlc,vka,1,vkc⟩)
  (hsa:Qao a=true) (hz:Qak (Tr.mk 4 x ls [a])≤1000) (hl:PRow w B l ps) (hB:B≤w.heap.size) (hb:ps.length+(Qaf (Tr.mk 4 x ls [a])).length≤1000000) :
  Calls Tryz.prog 214 #[l,.agg #[.int .i64 4,.string x,.slice vla ls.length vlc,.slice vka 1 vkc]] w (Qdy B ps (Qaf (Tr.mk 4 x ls [a])) l w):=by
 obtain ⟨xb,xo,hka⟩:∃ b off,vka=some ⟨b,off,none⟩:=ht.addr.resolve_left (by show (1:Nat)≠0;decide)
 subst hka
 have HIH:=hQ ih
 have HBD:=hQ hb
 have HEQ:=hQ (Zdc x ls a)
 have HNa:=hQ (show SizeOf.sizeOf a≤N from by have:=Qay (t:=Tr.mk 4 x ls [a]) (j:=0) (k:=a) rfl;omega)
 have HZa:=hQ (show Qak a≤1000 from by have:=Qbc (t:=Tr.mk 4 x ls [a]) (j:=0) (k:=a) rfl;omega)
 have HSHa:=hQ hsa
 have HXB:=hQ (show xb<B from by obtain ⟨_,b1,o1,hA,hS,_⟩:=ht.kid (j:=0) (k:=a) rfl;injection hA with e1;injection e1 with e1 _ _;rw [e1];exact hS)
 have HST:=hQ (PSt.start hl ht hB)
 obtain ⟨ip,hip,pz0,pz1,pz2⟩:=info_parts Qbd
 clear ih hN ht hz hl hB hb hsa
 go_enter Tryz.func214,Tryz.ntmps214
 go_wp2_with fail
 generalize hW0:w.alloc (.cells #[.int .i64 4,.string x,.slice vla ls.length vlc,.slice (some ⟨xb,xo,none⟩) 1 vkc] 29)=W0 at ⊢
 have HS0:=hQ (show PSt B l w (Tr.mk 4 x ls [a]) ⟨4,x,vla,ls.length,vlc,some ⟨xb,xo,none⟩,1,vkc⟩ l ps W0 from hW0 ▸ HST.out)
 clear HST hW0
 obtain ⟨k0,k1,k2,k3⟩:=HS0.out.c4
 obtain ⟨n1,hn1⟩:∃ n,(ps).length=n:=⟨_,rfl⟩
 have HQ1:=hQ hn1
 clear hn1
 have HM1:=hQ (show n1+(2+(Qaf a).length)≤1000000 from by have h:=HBD.out;rw [←HQ1.out];rw [HEQ.out] at h;(try simp only [xB,xD,xG] at h ⊢);omega)
 have HL1:=hQ (show (ps).length+(2+(Qaf a).length)≤1000000 from by have h:=HBD.out;rw [HEQ.out] at h;(try simp only [xB,xD,xG] at h ⊢);omega)
 go_region_held3 (fun w'=>w'.cell? ⟨w.heap.size,0,none⟩=some (.int .i64 4)∧w'.cell? ⟨w.heap.size,1,none⟩=some (.string x)∧w'.cell? ⟨w.heap.size,2,none⟩=some (.slice vla ls.length vlc)∧w'.cell? ⟨w.heap.size,3,none⟩=some (.slice (some ⟨xb,xo,none⟩) 1 vkc)) (first | with_reducible exact ⟨k0,k1,k2,k3⟩ | go_keep) (first
  | (go_at_call 239;((with_reducible refine (Qaw _ (Tr.mk 4 x ls [a]) ⟨4,x,vla,ls.length,vlc,some ⟨xb,xo,none⟩,1,vkc⟩ 0 0 rfl _ HS0.out.drew.tree (by decide)).mono ?_);rintro e w1 ⟨rfl,hb⟩;have HS1:=hQ (HS0.out.drew.below hb);clear k0 k1 k2 k3;obtain ⟨k0,k1,k2,k3⟩:=HS1.out.c4;clear hb))
  | (go_at_call 239;((with_reducible refine (Qaw _ (Tr.mk 4 x ls [a]) ⟨4,x,vla,ls.length,vlc,some ⟨xb,xo,none⟩,1,vkc⟩ 1 1 rfl _ HS1.out.tree (by decide)).mono ?_);rintro e w2 ⟨rfl,hb⟩;have HS2:=hQ (HS1.out.below hb);clear k0 k1 k2 k3;obtain ⟨k0,k1,k2,k3⟩:=HS2.out.c4;clear hb))
  | (refine step_append_lies _ (by rfl) _ _ _ (by rfl) B 211 ip _ 2 32 Tryz.underlying208 hip pz0 pz1 pz2 rfl (by decide) _ n1 (Qan (ps)) (by rfl) ((HS2.out.alloc _).rowN HQ1.out) ⟨w2.heap.size,0,none⟩ 2 2 (Qan [(ldR ls 0,(x:ByteArray)),(ldR ls 1,(⟨#[58]⟩:ByteArray))]) (by rfl) (by rfl) (xM (cs:=#[.string (ldR ls 0),.string x,.string (ldR ls 1),.string ⟨#[58]⟩]) (t:=211) (fr:=(0,0)) (xH w2 _)) (Qas _) (by decide) (by unfold maxLen;have:=HM1.out;omega) (by have:=HM1.out;omega) (HS2.out.alloc _).le _ (by rfl) ?_;intro g cw3 w3 hown hgr hat hlt;have HS3:=hQ ((HS2.out.alloc _).appN HQ1.out (qs:=[(ldR ls 0,(x:ByteArray)),(ldR ls 1,(⟨#[58]⟩:ByteArray))]) rfl hown hgr hat (xA _));clear k0 k1 k2 k3;obtain ⟨k0,k1,k2,k3⟩:=HS3.out.c4;clear hown hgr hat hlt)
  | fail)
 all_goals
  obtain ⟨ua,c0,c1,c2,c3,hu⟩:=HS3.out.tree.at rfl (show (Tr.mk 4 x ls [a]).kids[0]? = some a from rfl)
  replace c0:w3.cell? ⟨xb,xo,none⟩=some (.int .i64 ua.kind):=c0
  replace c1:w3.cell? ⟨xb,xo+1,none⟩=some (.string ua.text):=c1
  replace c2:w3.cell? ⟨xb,xo+2,none⟩=some (.slice ua.la ua.ll ua.lc):=c2
  replace c3:w3.cell? ⟨xb,xo+3,none⟩=some (.slice ua.ka ua.kl ua.kc):=c3
  have HU:=hQ hu
  clear hu
  obtain ⟨n2,hn2⟩:∃ n,(ps ++ [(ldR ls 0,(x:ByteArray)),(ldR ls 1,(⟨#[58]⟩:ByteArray))]).length=n:=⟨_,rfl⟩
  have HQ2:=hQ hn2
  clear hn2
  have HM2:=hQ (show n2+(Qaf a).length≤1000000 from by have h:=HBD.out;rw [←HQ2.out];rw [HEQ.out] at h;(try simp only [xB,xD,xG] at h ⊢);omega)
  have HL2:=hQ (show (ps ++ [(ldR ls 0,(x:ByteArray)),(ldR ls 1,(⟨#[58]⟩:ByteArray))]).length+(Qaf a).length≤1000000 from by have h:=HBD.out;rw [HEQ.out] at h;(try simp only [xB,xD,xG] at h ⊢);omega)
  go_wp2_with (go_at_call 214;refine (HIH.out B _ (ps ++ [(ldR ls 0,(x:ByteArray)),(ldR ls 1,(⟨#[58]⟩:ByteArray))]) a ua _ HNa.out HU.out HSHa.out HZa.out HS3.out.row HS3.out.le HL2.out).mono ?_;rintro e w4 ⟨lw4,rfl,hr,hg,ho⟩;have HS4:=hQ (HS3.out.call hr hg ho);clear k0 k1 k2 k3;obtain ⟨k0,k1,k2,k3⟩:=HS4.out.c4;clear c0 c1 c2 c3;clear hr hg ho)
  go_ret
  exact HS4.out.post (by rw [HEQ.out];first | done | (simp only [xT,xV,xU];done) | (simp only [xT,xV,xU];rfl) | (simp;done)) rfl
theorem Qz4 {N:Nat} (ih:PcC N) (B:Nat) (l:Value) (ps:List Qbi) (x:ByteArray) (ls:List ByteArray) (a:Tr) (vla vka:Option Addr) (vlc vkc:Nat) (w:World) (hN:SizeOf.sizeOf (Tr.mk 8 x ls [a])≤N+1) (ht:TrAt (fun k=>k<B) w (Tr.mk 8 x ls [a]) ⟨8,x,vla,ls.length,vlc,vka,1,vkc⟩)
  (hsa:Qao a=true) (hz:Qak (Tr.mk 8 x ls [a])≤1000) (hl:PRow w B l ps) (hB:B≤w.heap.size) (hb:ps.length+(Qaf (Tr.mk 8 x ls [a])).length≤1000000) :
  Calls Tryz.prog 214 #[l,.agg #[.int .i64 8,.string x,.slice vla ls.length vlc,.slice vka 1 vkc]] w (Qdy B ps (Qaf (Tr.mk 8 x ls [a])) l w):=by
 obtain ⟨xb,xo,hka⟩:∃ b off,vka=some ⟨b,off,none⟩:=ht.addr.resolve_left (by show (1:Nat)≠0;decide)
 subst hka
 have HIH:=hQ ih
 have HBD:=hQ hb
 have HEQ:=hQ (Zdd x ls a)
 have HNa:=hQ (show SizeOf.sizeOf a≤N from by have:=Qay (t:=Tr.mk 8 x ls [a]) (j:=0) (k:=a) rfl;omega)
 have HZa:=hQ (show Qak a≤1000 from by have:=Qbc (t:=Tr.mk 8 x ls [a]) (j:=0) (k:=a) rfl;omega)
 have HSHa:=hQ hsa
 have HXB:=hQ (show xb<B from by obtain ⟨_,b1,o1,hA,hS,_⟩:=ht.kid (j:=0) (k:=a) rfl;injection hA with e1;injection e1 with e1 _ _;rw [e1];exact hS)
 have HST:=hQ (PSt.start hl ht hB)
 obtain ⟨ip,hip,pz0,pz1,pz2⟩:=info_parts Qbd
 clear ih hN ht hz hl hB hb hsa
 go_enter Tryz.func214,Tryz.ntmps214
 go_wp2_with fail
 generalize hW0:w.alloc (.cells #[.int .i64 8,.string x,.slice vla ls.length vlc,.slice (some ⟨xb,xo,none⟩) 1 vkc] 29)=W0 at ⊢
 have HS0:=hQ (show PSt B l w (Tr.mk 8 x ls [a]) ⟨8,x,vla,ls.length,vlc,some ⟨xb,xo,none⟩,1,vkc⟩ l ps W0 from hW0 ▸ HST.out)
 clear HST hW0
 obtain ⟨k0,k1,k2,k3⟩:=HS0.out.c4
 obtain ⟨n1,hn1⟩:∃ n,(ps).length=n:=⟨_,rfl⟩
 have HQ1:=hQ hn1
 clear hn1
 have HM1:=hQ (show n1+1≤1000000 from by have h:=HBD.out;rw [←HQ1.out];rw [HEQ.out] at h;(try simp only [xB,xD,xG] at h ⊢);omega)
 have HL1:=hQ (show (ps).length+1≤1000000 from by have h:=HBD.out;rw [HEQ.out] at h;(try simp only [xB,xD,xG] at h ⊢);omega)
 go_wp2_with (first
  | (go_at_call 239;((with_reducible refine (Qaw _ (Tr.mk 8 x ls [a]) ⟨8,x,vla,ls.length,vlc,some ⟨xb,xo,none⟩,1,vkc⟩ 0 0 rfl _ HS0.out.tree (by decide)).mono ?_);rintro e w1 ⟨rfl,hb⟩;have HS1:=hQ (HS0.out.below hb);clear k0 k1 k2 k3;obtain ⟨k0,k1,k2,k3⟩:=HS1.out.c4;clear hb))
  | (at_builtin;refine wpList_append_lies _ (by rfl) _ _ 208 (by rfl) B 211 ip _ 2 32 Tryz.underlying208 hip pz0 pz1 pz2 rfl (by decide) _ n1 (Qan (ps)) (by rfl) ((HS1.out.alloc _).rowN HQ1.out) ⟨w1.heap.size,0,none⟩ 1 1 (Qan [(ldR ls 0,(⟨#[91]⟩:ByteArray))]) (by rfl) (by rfl) (xM (cs:=#[.string (ldR ls 0),.string ⟨#[91]⟩]) (t:=211) (fr:=(0,0)) (xH w1 _)) (Qas _) (by decide) (by unfold maxLen;have:=HM1.out;omega) (by have:=HM1.out;omega) (HS1.out.alloc _).le _ (by rfl) ?_;intro g cw2 w2 hown hgr hat hlt;have HS2:=hQ ((HS1.out.alloc _).appN HQ1.out (qs:=[(ldR ls 0,(⟨#[91]⟩:ByteArray))]) rfl hown hgr hat (xA _));clear k0 k1 k2 k3;obtain ⟨k0,k1,k2,k3⟩:=HS2.out.c4;clear hown hgr hat hlt))
 obtain ⟨ua,c0,c1,c2,c3,hu⟩:=HS2.out.tree.at rfl (show (Tr.mk 8 x ls [a]).kids[0]? = some a from rfl)
 replace c0:w2.cell? ⟨xb,xo,none⟩=some (.int .i64 ua.kind):=c0
 replace c1:w2.cell? ⟨xb,xo+1,none⟩=some (.string ua.text):=c1
 replace c2:w2.cell? ⟨xb,xo+2,none⟩=some (.slice ua.la ua.ll ua.lc):=c2
 replace c3:w2.cell? ⟨xb,xo+3,none⟩=some (.slice ua.ka ua.kl ua.kc):=c3
 have HU:=hQ hu
 clear hu
 obtain ⟨n2,hn2⟩:∃ n,(ps ++ [(ldR ls 0,(⟨#[91]⟩:ByteArray))]).length=n:=⟨_,rfl⟩
 have HQ2:=hQ hn2
 clear hn2
 have HM2:=hQ (show n2+(Qaf a).length≤1000000 from by have h:=HBD.out;rw [←HQ2.out];rw [HEQ.out] at h;(try simp only [xB,xD,xG] at h ⊢);omega)
 have HL2:=hQ (show (ps ++ [(ldR ls 0,(⟨#[91]⟩:ByteArray))]).length+(Qaf a).length≤1000000 from by have h:=HBD.out;rw [HEQ.out] at h;(try simp only [xB,xD,xG] at h ⊢);omega)
 obtain ⟨n3,hn3⟩:∃ n,(ps ++ [(ldR ls 0,(⟨#[91]⟩:ByteArray))] ++ Qaf a).length=n:=⟨_,rfl⟩
 have HQ3:=hQ hn3
 clear hn3
 have HM3:=hQ (show n3+1≤1000000 from by have h:=HBD.out;rw [←HQ3.out];rw [HEQ.out] at h;(try simp only [xB,xD,xG] at h ⊢);omega)
 have HL3:=hQ (show (ps ++ [(ldR ls 0,(⟨#[91]⟩:ByteArray))] ++ Qaf a).length+1≤1000000 from by have h:=HBD.out;rw [HEQ.out] at h;(try simp only [xB,xD,xG] at h ⊢);omega)
 go_region_held3 (fun w'=>w'.cell? ⟨w.heap.size,0,none⟩=some (.int .i64 8)∧w'.cell? ⟨w.heap.size,1,none⟩=some (.string x)∧w'.cell? ⟨w.heap.size,2,none⟩=some (.slice vla ls.length vlc)∧w'.cell? ⟨w.heap.size,3,none⟩=some (.slice (some ⟨xb,xo,none⟩) 1 vkc)∧w'.cell? ⟨xb,xo,none⟩=some (.int .i64 ua.kind)∧w'.cell? ⟨xb,xo+1,none⟩=some (.string ua.text)∧w'.cell? ⟨xb,xo+2,none⟩=some (.slice ua.la ua.ll ua.lc)∧w'.cell? ⟨xb,xo+3,none⟩=some (.slice ua.ka ua.kl ua.kc)) (first | with_reducible exact ⟨k0,k1,k2,k3,c0,c1,c2,c3⟩ | go_keep) (first
  | (go_at_call 214;refine (HIH.out B _ (ps ++ [(ldR ls 0,(⟨#[91]⟩:ByteArray))]) a ua _ HNa.out (HU.out.keep ((xC _ _).drew)) HSHa.out HZa.out HS2.out.drew.row HS2.out.drew.le HL2.out).mono ?_;rintro e w3 ⟨lw3,rfl,hr,hg,ho⟩;have HS3:=hQ (HS2.out.drew.call hr hg ho);clear k0 k1 k2 k3;obtain ⟨k0,k1,k2,k3⟩:=HS3.out.c4;have hkb:∀ k,k<B→w3.heap[k]? = (w2).heap[k]?:=fun k hk=>HS2.out.drew.keepB hg k hk;have d0:w3.cell? ⟨xb,xo,none⟩=some (.int .i64 ua.kind):=(xJ (w:=w2) (a:=⟨xb,xo,none⟩) (hkb xb HXB.out)).trans c0;have d1:w3.cell? ⟨xb,xo+1,none⟩=some (.string ua.text):=(xJ (w:=w2) (a:=⟨xb,xo+1,none⟩) (hkb xb HXB.out)).trans c1;have d2:w3.cell? ⟨xb,xo+2,none⟩=some (.slice ua.la ua.ll ua.lc):=(xJ (w:=w2) (a:=⟨xb,xo+2,none⟩) (hkb xb HXB.out)).trans c2;have d3:w3.cell? ⟨xb,xo+3,none⟩=some (.slice ua.ka ua.kl ua.kc):=(xJ (w:=w2) (a:=⟨xb,xo+3,none⟩) (hkb xb HXB.out)).trans c3;have HU1:=hQ (TrAt.move (w:=w2) (w':=w3) (S':=fun k=>k<B) (fun _ h=>h) (fun k hk _=>hkb k hk) _ _ HU.out);clear c0 c1 c2 c3 hkb;have c0:=d0;have c1:=d1;have c2:=d2;have c3:=d3;clear d0 d1 d2 d3;clear hr hg ho)
  | (go_at_call 239;((with_reducible refine (Qaw _ (Tr.mk 8 x ls [a]) ⟨8,x,vla,ls.length,vlc,some ⟨xb,xo,none⟩,1,vkc⟩ 1 1 rfl _ HS3.out.tree (by decide)).mono ?_);rintro e w4 ⟨rfl,hb⟩;have HS4:=hQ (HS3.out.below hb);clear k0 k1 k2 k3;obtain ⟨k0,k1,k2,k3⟩:=HS4.out.c4;have hkb:∀ k,k<B→w4.heap[k]? = (w3).heap[k]?:=fun k hk=>hb.block k (xE hk HS3.out.le);have d0:w4.cell? ⟨xb,xo,none⟩=some (.int .i64 ua.kind):=(xJ (w:=w3) (a:=⟨xb,xo,none⟩) (hkb xb HXB.out)).trans c0;have d1:w4.cell? ⟨xb,xo+1,none⟩=some (.string ua.text):=(xJ (w:=w3) (a:=⟨xb,xo+1,none⟩) (hkb xb HXB.out)).trans c1;have d2:w4.cell? ⟨xb,xo+2,none⟩=some (.slice ua.la ua.ll ua.lc):=(xJ (w:=w3) (a:=⟨xb,xo+2,none⟩) (hkb xb HXB.out)).trans c2;have d3:w4.cell? ⟨xb,xo+3,none⟩=some (.slice ua.ka ua.kl ua.kc):=(xJ (w:=w3) (a:=⟨xb,xo+3,none⟩) (hkb xb HXB.out)).trans c3;have HU2:=hQ (TrAt.move (w:=w3) (w':=w4) (S':=fun k=>k<B) (fun _ h=>h) (fun k hk _=>hkb k hk) _ _ HU1.out);clear c0 c1 c2 c3 hkb;have c0:=d0;have c1:=d1;have c2:=d2;have c3:=d3;clear d0 d1 d2 d3;clear hb))
  | (refine step_append_lies _ (by rfl) _ _ _ (by rfl) B 211 ip _ 2 32 Tryz.underlying208 hip pz0 pz1 pz2 rfl (by decide) _ n3 (Qan (ps ++ [(ldR ls 0,(⟨#[91]⟩:ByteArray))] ++ Qaf a)) (by rfl) ((HS4.out.alloc _).rowN HQ3.out) ⟨w4.heap.size,0,none⟩ 1 1 (Qan [(ldR ls 1,(⟨#[93]⟩:ByteArray))]) (by rfl) (by rfl) (xM (cs:=#[.string (ldR ls 1),.string ⟨#[93]⟩]) (t:=211) (fr:=(0,0)) (xH w4 _)) (Qas _) (by decide) (by unfold maxLen;have:=HM3.out;omega) (by have:=HM3.out;omega) (HS4.out.alloc _).le _ (by rfl) ?_;intro g cw5 w5 hown hgr hat hlt;have HS5:=hQ ((HS4.out.alloc _).appN HQ3.out (qs:=[(ldR ls 1,(⟨#[93]⟩:ByteArray))]) rfl hown hgr hat (xA _));clear k0 k1 k2 k3;obtain ⟨k0,k1,k2,k3⟩:=HS5.out.c4;have hkb:∀ k,k<B→w5.heap[k]? = (w4).heap[k]?:=fun k hk=>((HS4.out.alloc _).keepB hgr k hk).trans (Below.heap_alloc _ _ k (xE hk HS4.out.le));have d0:w5.cell? ⟨xb,xo,none⟩=some (.int .i64 ua.kind):=(xJ (w:=w4) (a:=⟨xb,xo,none⟩) (hkb xb HXB.out)).trans c0;have d1:w5.cell? ⟨xb,xo+1,none⟩=some (.string ua.text):=(xJ (w:=w4) (a:=⟨xb,xo+1,none⟩) (hkb xb HXB.out)).trans c1;have d2:w5.cell? ⟨xb,xo+2,none⟩=some (.slice ua.la ua.ll ua.lc):=(xJ (w:=w4) (a:=⟨xb,xo+2,none⟩) (hkb xb HXB.out)).trans c2;have d3:w5.cell? ⟨xb,xo+3,none⟩=some (.slice ua.ka ua.kl ua.kc):=(xJ (w:=w4) (a:=⟨xb,xo+3,none⟩) (hkb xb HXB.out)).trans c3;have HU3:=hQ (TrAt.move (w:=w4) (w':=w5) (S':=fun k=>k<B) (fun _ h=>h) (fun k hk _=>hkb k hk) _ _ HU2.out);clear c0 c1 c2 c3 hkb;have c0:=d0;have c1:=d1;have c2:=d2;have c3:=d3;clear d0 d1 d2 d3;clear hown hgr hat hlt)
  | fail)
 all_goals
  clear c0 c1 c2 c3
  go_wp2
  go_ret
  exact HS5.out.post (by rw [HEQ.out];first | done | (simp only [xT,xV,xU];done) | (simp only [xT,xV,xU];rfl) | (simp;done)) rfl
theorem Qv3 {N:Nat} (ih:PcC N) (B:Nat) (l:Value) (ps:List Qbi) (x:ByteArray) (ls:List ByteArray) (a:Tr) (vla vka:Option Addr) (vlc vkc:Nat) (w:World) (hN:SizeOf.sizeOf (Tr.mk 22 x ls [a])≤N+1) (ht:TrAt (fun k=>k<B) w (Tr.mk 22 x ls [a]) ⟨22,x,vla,ls.length,vlc,vka,1,vkc⟩)
  (hsa:Qao a=true) (hz:Qak (Tr.mk 22 x ls [a])≤1000) (hl:PRow w B l ps) (hB:B≤w.heap.size) (hb:ps.length+(Qaf (Tr.mk 22 x ls [a])).length≤1000000) :
  Calls Tryz.prog 214 #[l,.agg #[.int .i64 22,.string x,.slice vla ls.length vlc,.slice vka 1 vkc]] w (Qdy B ps (Qaf (Tr.mk 22 x ls [a])) l w):=by
 obtain ⟨xb,xo,hka⟩:∃ b off,vka=some ⟨b,off,none⟩:=ht.addr.resolve_left (by show (1:Nat)≠0;decide)
 subst hka
 have HIH:=hQ ih
 have HBD:=hQ hb
 have HEQ:=hQ (Qzz x ls a)
 have HNa:=hQ (show SizeOf.sizeOf a≤N from by have:=Qay (t:=Tr.mk 22 x ls [a]) (j:=0) (k:=a) rfl;omega)
 have HZa:=hQ (show Qak a≤1000 from by have:=Qbc (t:=Tr.mk 22 x ls [a]) (j:=0) (k:=a) rfl;omega)
 have HSHa:=hQ hsa
 have HXB:=hQ (show xb<B from by obtain ⟨_,b1,o1,hA,hS,_⟩:=ht.kid (j:=0) (k:=a) rfl;injection hA with e1;injection e1 with e1 _ _;rw [e1];exact hS)
 have HST:=hQ (PSt.start hl ht hB)
 obtain ⟨ip,hip,pz0,pz1,pz2⟩:=info_parts Qbd
 clear ih hN ht hz hl hB hb hsa
 go_enter Tryz.func214,Tryz.ntmps214
 go_wp2_with fail
 generalize hW0:w.alloc (.cells #[.int .i64 22,.string x,.slice vla ls.length vlc,.slice (some ⟨xb,xo,none⟩) 1 vkc] 29)=W0 at ⊢
 have HS0:=hQ (show PSt B l w (Tr.mk 22 x ls [a]) ⟨22,x,vla,ls.length,vlc,some ⟨xb,xo,none⟩,1,vkc⟩ l ps W0 from hW0 ▸ HST.out)
 clear HST hW0
 obtain ⟨k0,k1,k2,k3⟩:=HS0.out.c4
 obtain ⟨n1,hn1⟩:∃ n,(ps).length=n:=⟨_,rfl⟩
 have HQ1:=hQ hn1
 clear hn1
 have HM1:=hQ (show n1+1≤1000000 from by have h:=HBD.out;rw [←HQ1.out];rw [HEQ.out] at h;(try simp only [xB,xD,xG] at h ⊢);omega)
 have HL1:=hQ (show (ps).length+1≤1000000 from by have h:=HBD.out;rw [HEQ.out] at h;(try simp only [xB,xD,xG] at h ⊢);omega)
 go_wp2_with (first
  | (go_at_call 239;((with_reducible refine (Qaw _ (Tr.mk 22 x ls [a]) ⟨22,x,vla,ls.length,vlc,some ⟨xb,xo,none⟩,1,vkc⟩ 0 0 rfl _ HS0.out.tree (by decide)).mono ?_);rintro e w1 ⟨rfl,hb⟩;have HS1:=hQ (HS0.out.below hb);clear k0 k1 k2 k3;obtain ⟨k0,k1,k2,k3⟩:=HS1.out.c4;clear hb))
  | (at_builtin;refine wpList_append_lies _ (by rfl) _ _ 208 (by rfl) B 211 ip _ 2 32 Tryz.underlying208 hip pz0 pz1 pz2 rfl (by decide) _ n1 (Qan (ps)) (by rfl) ((HS1.out.alloc _).rowN HQ1.out) ⟨w1.heap.size,0,none⟩ 1 1 (Qan [(ldR ls 0,(⟨#[40]⟩:ByteArray))]) (by rfl) (by rfl) (xM (cs:=#[.string (ldR ls 0),.string ⟨#[40]⟩]) (t:=211) (fr:=(0,0)) (xH w1 _)) (Qas _) (by decide) (by unfold maxLen;have:=HM1.out;omega) (by have:=HM1.out;omega) (HS1.out.alloc _).le _ (by rfl) ?_;intro g cw2 w2 hown hgr hat hlt;have HS2:=hQ ((HS1.out.alloc _).appN HQ1.out (qs:=[(ldR ls 0,(⟨#[40]⟩:ByteArray))]) rfl hown hgr hat (xA _));clear k0 k1 k2 k3;obtain ⟨k0,k1,k2,k3⟩:=HS2.out.c4;clear hown hgr hat hlt))
 obtain ⟨ua,c0,c1,c2,c3,hu⟩:=HS2.out.tree.at rfl (show (Tr.mk 22 x ls [a]).kids[0]? = some a from rfl)
 replace c0:w2.cell? ⟨xb,xo,none⟩=some (.int .i64 ua.kind):=c0
 replace c1:w2.cell? ⟨xb,xo+1,none⟩=some (.string ua.text):=c1
 replace c2:w2.cell? ⟨xb,xo+2,none⟩=some (.slice ua.la ua.ll ua.lc):=c2
 replace c3:w2.cell? ⟨xb,xo+3,none⟩=some (.slice ua.ka ua.kl ua.kc):=c3
 have HU:=hQ hu
 clear hu
 obtain ⟨n2,hn2⟩:∃ n,(ps ++ [(ldR ls 0,(⟨#[40]⟩:ByteArray))]).length=n:=⟨_,rfl⟩
 have HQ2:=hQ hn2
 clear hn2
 have HM2:=hQ (show n2+(Qaf a).length≤1000000 from by have h:=HBD.out;rw [←HQ2.out];rw [HEQ.out] at h;(try simp only [xB,xD,xG] at h ⊢);omega)
 have HL2:=hQ (show (ps ++ [(ldR ls 0,(⟨#[40]⟩:ByteArray))]).length+(Qaf a).length≤1000000 from by have h:=HBD.out;rw [HEQ.out] at h;(try simp only [xB,xD,xG] at h ⊢);omega)
 obtain ⟨n3,hn3⟩:∃ n,(ps ++ [(ldR ls 0,(⟨#[40]⟩:ByteArray))] ++ Qaf a).length=n:=⟨_,rfl⟩
 have HQ3:=hQ hn3
 clear hn3
 have HM3:=hQ (show n3+1≤1000000 from by have h:=HBD.out;rw [←HQ3.out];rw [HEQ.out] at h;(try simp only [xB,xD,xG] at h ⊢);omega)
 have HL3:=hQ (show (ps ++ [(ldR ls 0,(⟨#[40]⟩:ByteArray))] ++ Qaf a).length+1≤1000000 from by have h:=HBD.out;rw [HEQ.out] at h;(try simp only [xB,xD,xG] at h ⊢);omega)
 go_region_held3 (fun w'=>w'.cell? ⟨w.heap.size,0,none⟩=some (.int .i64 22)∧w'.cell? ⟨w.heap.size,1,none⟩=some (.string x)∧w'.cell? ⟨w.heap.size,2,none⟩=some (.slice vla ls.length vlc)∧w'.cell? ⟨w.heap.size,3,none⟩=some (.slice (some ⟨xb,xo,none⟩) 1 vkc)∧w'.cell? ⟨xb,xo,none⟩=some (.int .i64 ua.kind)∧w'.cell? ⟨xb,xo+1,none⟩=some (.string ua.text)∧w'.cell? ⟨xb,xo+2,none⟩=some (.slice ua.la ua.ll ua.lc)∧w'.cell? ⟨xb,xo+3,none⟩=some (.slice ua.ka ua.kl ua.kc)) (first | with_reducible exact ⟨k0,k1,k2,k3,c0,c1,c2,c3⟩ | go_keep) (first
  | (go_at_call 214;refine (HIH.out B _ (ps ++ [(ldR ls 0,(⟨#[40]⟩:ByteArray))]) a ua _ HNa.out (HU.out.keep ((xC _ _).drew)) HSHa.out HZa.out HS2.out.drew.row HS2.out.drew.le HL2.out).mono ?_;rintro e w3 ⟨lw3,rfl,hr,hg,ho⟩;have HS3:=hQ (HS2.out.drew.call hr hg ho);clear k0 k1 k2 k3;obtain ⟨k0,k1,k2,k3⟩:=HS3.out.c4;have hkb:∀ k,k<B→w3.heap[k]? = (w2).heap[k]?:=fun k hk=>HS2.out.drew.keepB hg k hk;have d0:w3.cell? ⟨xb,xo,none⟩=some (.int .i64 ua.kind):=(xJ (w:=w2) (a:=⟨xb,xo,none⟩) (hkb xb HXB.out)).trans c0;have d1:w3.cell? ⟨xb,xo+1,none⟩=some (.string ua.text):=(xJ (w:=w2) (a:=⟨xb,xo+1,none⟩) (hkb xb HXB.out)).trans c1;have d2:w3.cell? ⟨xb,xo+2,none⟩=some (.slice ua.la ua.ll ua.lc):=(xJ (w:=w2) (a:=⟨xb,xo+2,none⟩) (hkb xb HXB.out)).trans c2;have d3:w3.cell? ⟨xb,xo+3,none⟩=some (.slice ua.ka ua.kl ua.kc):=(xJ (w:=w2) (a:=⟨xb,xo+3,none⟩) (hkb xb HXB.out)).trans c3;have HU1:=hQ (TrAt.move (w:=w2) (w':=w3) (S':=fun k=>k<B) (fun _ h=>h) (fun k hk _=>hkb k hk) _ _ HU.out);clear c0 c1 c2 c3 hkb;have c0:=d0;have c1:=d1;have c2:=d2;have c3:=d3;clear d0 d1 d2 d3;clear hr hg ho)
  | (go_at_call 239;((with_reducible refine (Qaw _ (Tr.mk 22 x ls [a]) ⟨22,x,vla,ls.length,vlc,some ⟨xb,xo,none⟩,1,vkc⟩ 1 1 rfl _ HS3.out.tree (by decide)).mono ?_);rintro e w4 ⟨rfl,hb⟩;have HS4:=hQ (HS3.out.below hb);clear k0 k1 k2 k3;obtain ⟨k0,k1,k2,k3⟩:=HS4.out.c4;have hkb:∀ k,k<B→w4.heap[k]? = (w3).heap[k]?:=fun k hk=>hb.block k (xE hk HS3.out.le);have d0:w4.cell? ⟨xb,xo,none⟩=some (.int .i64 ua.kind):=(xJ (w:=w3) (a:=⟨xb,xo,none⟩) (hkb xb HXB.out)).trans c0;have d1:w4.cell? ⟨xb,xo+1,none⟩=some (.string ua.text):=(xJ (w:=w3) (a:=⟨xb,xo+1,none⟩) (hkb xb HXB.out)).trans c1;have d2:w4.cell? ⟨xb,xo+2,none⟩=some (.slice ua.la ua.ll ua.lc):=(xJ (w:=w3) (a:=⟨xb,xo+2,none⟩) (hkb xb HXB.out)).trans c2;have d3:w4.cell? ⟨xb,xo+3,none⟩=some (.slice ua.ka ua.kl ua.kc):=(xJ (w:=w3) (a:=⟨xb,xo+3,none⟩) (hkb xb HXB.out)).trans c3;have HU2:=hQ (TrAt.move (w:=w3) (w':=w4) (S':=fun k=>k<B) (fun _ h=>h) (fun k hk _=>hkb k hk) _ _ HU1.out);clear c0 c1 c2 c3 hkb;have c0:=d0;have c1:=d1;have c2:=d2;have c3:=d3;clear d0 d1 d2 d3;clear hb))
  | (refine step_append_lies _ (by rfl) _ _ _ (by rfl) B 211 ip _ 2 32 Tryz.underlying208 hip pz0 pz1 pz2 rfl (by decide) _ n3 (Qan (ps ++ [(ldR ls 0,(⟨#[40]⟩:ByteArray))] ++ Qaf a)) (by rfl) ((HS4.out.alloc _).rowN HQ3.out) ⟨w4.heap.size,0,none⟩ 1 1 (Qan [(ldR ls 1,(⟨#[41]⟩:ByteArray))]) (by rfl) (by rfl) (xM (cs:=#[.string (ldR ls 1),.string ⟨#[41]⟩]) (t:=211) (fr:=(0,0)) (xH w4 _)) (Qas _) (by decide) (by unfold maxLen;have:=HM3.out;omega) (by have:=HM3.out;omega) (HS4.out.alloc _).le _ (by rfl) ?_;intro g cw5 w5 hown hgr hat hlt;have HS5:=hQ ((HS4.out.alloc _).appN HQ3.out (qs:=[(ldR ls 1,(⟨#[41]⟩:ByteArray))]) rfl hown hgr hat (xA _));clear k0 k1 k2 k3;obtain ⟨k0,k1,k2,k3⟩:=HS5.out.c4;have hkb:∀ k,k<B→w5.heap[k]? = (w4).heap[k]?:=fun k hk=>((HS4.out.alloc _).keepB hgr k hk).trans (Below.heap_alloc _ _ k (xE hk HS4.out.le));have d0:w5.cell? ⟨xb,xo,none⟩=some (.int .i64 ua.kind):=(xJ (w:=w4) (a:=⟨xb,xo,none⟩) (hkb xb HXB.out)).trans c0;have d1:w5.cell? ⟨xb,xo+1,none⟩=some (.string ua.text):=(xJ (w:=w4) (a:=⟨xb,xo+1,none⟩) (hkb xb HXB.out)).trans c1;have d2:w5.cell? ⟨xb,xo+2,none⟩=some (.slice ua.la ua.ll ua.lc):=(xJ (w:=w4) (a:=⟨xb,xo+2,none⟩) (hkb xb HXB.out)).trans c2;have d3:w5.cell? ⟨xb,xo+3,none⟩=some (.slice ua.ka ua.kl ua.kc):=(xJ (w:=w4) (a:=⟨xb,xo+3,none⟩) (hkb xb HXB.out)).trans c3;have HU3:=hQ (TrAt.move (w:=w4) (w':=w5) (S':=fun k=>k<B) (fun _ h=>h) (fun k hk _=>hkb k hk) _ _ HU2.out);clear c0 c1 c2 c3 hkb;have c0:=d0;have c1:=d1;have c2:=d2;have c3:=d3;clear d0 d1 d2 d3;clear hown hgr hat hlt)
  | fail)
 all_goals
  clear c0 c1 c2 c3
  go_wp2
  go_ret
  exact HS5.out.post (by rw [HEQ.out];first | done | (simp only [xT,xV,xU];done) | (simp only [xT,xV,xU];rfl) | (simp;done)) rfl
theorem Qv4 {N:Nat} (ih:PcC N) (B:Nat) (l:Value) (ps:List Qbi) (x:ByteArray) (ls:List ByteArray) (a:Tr) (vla vka:Option Addr) (vlc vkc:Nat) (w:World) (hN:SizeOf.sizeOf (Tr.mk 17 x ls [a])≤N+1) (ht:TrAt (fun k=>k<B) w (Tr.mk 17 x ls [a]) ⟨17,x,vla,ls.length,vlc,vka,1,vkc⟩)
  (hsa:Qao a=true) (hz:Qak (Tr.mk 17 x ls [a])≤1000) (hl:PRow w B l ps) (hB:B≤w.heap.size) (hb:ps.length+(Qaf (Tr.mk 17 x ls [a])).length≤1000000) :
  Calls Tryz.prog 214 #[l,.agg #[.int .i64 17,.string x,.slice vla ls.length vlc,.slice vka 1 vkc]] w (Qdy B ps (Qaf (Tr.mk 17 x ls [a])) l w):=by
 obtain ⟨xb,xo,hka⟩:∃ b off,vka=some ⟨b,off,none⟩:=ht.addr.resolve_left (by show (1:Nat)≠0;decide)
 subst hka
 have HIH:=hQ ih
 have HBD:=hQ hb
 have HEQ:=hQ (Qqx x ls a)
 have HNa:=hQ (show SizeOf.sizeOf a≤N from by have:=Qay (t:=Tr.mk 17 x ls [a]) (j:=0) (k:=a) rfl;omega)
 have HZa:=hQ (show Qak a≤1000 from by have:=Qbc (t:=Tr.mk 17 x ls [a]) (j:=0) (k:=a) rfl;omega)
 have HSHa:=hQ hsa
 have HXB:=hQ (show xb<B from by obtain ⟨_,b1,o1,hA,hS,_⟩:=ht.kid (j:=0) (k:=a) rfl;injection hA with e1;injection e1 with e1 _ _;rw [e1];exact hS)
 have HST:=hQ (PSt.start hl ht hB)
 obtain ⟨ip,hip,pz0,pz1,pz2⟩:=info_parts Qbd
 have HT17:=hQ ht
 obtain ⟨ua,c0,c1,c2,c3,hu⟩:=ht.at rfl (show (Tr.mk 17 x ls [a]).kids[0]? = some a from rfl)
 replace c0:w.cell? ⟨xb,xo,none⟩=some (.int .i64 ua.kind):=c0
 replace c1:w.cell? ⟨xb,xo+1,none⟩=some (.string ua.text):=c1
 replace c2:w.cell? ⟨xb,xo+2,none⟩=some (.slice ua.la ua.ll ua.lc):=c2
 replace c3:w.cell? ⟨xb,xo+3,none⟩=some (.slice ua.ka ua.kl ua.kc):=c3
 have HU:=hQ (hu.keep ((xC _ _).alloc (xA _) (trO ⟨17,x,vla,ls.length,vlc,some ⟨xb,xo,none⟩,1,vkc⟩)))
 have cbl:=xK _ _ c0
 have HL1:=hQ (show ps.length+(Qaf a).length≤1000000 from by rw [Qqx] at hb;exact hb)
 clear hu
 clear ih hN ht hz hl hB hb hsa
 go_enter Tryz.func214,Tryz.ntmps214
 go_wp2_with (go_at_call 214;refine (HIH.out B _ ps a ua _ HNa.out HU.out HSHa.out HZa.out HST.out.row HST.out.le HL1.out).mono ?_;rintro e w1 ⟨l1,rfl,hr,hg,ho⟩;have HS1:=hQ (HST.out.call hr hg ho);clear hr hg ho c0 c1 c2 c3)
 go_ret
 exact HS1.out.post (by rw [HEQ.out];first | done | (simp only [xT,xV,xU];done) | (simp only [xT,xV,xU];rfl) | (simp;done)) rfl
theorem Qv5 {N:Nat} (ih:PcC N) (B:Nat) (l:Value) (ps:List Qbi) (x:ByteArray) (ls:List ByteArray) (ks:List Tr) (vla vka:Option Addr) (vlc vkc:Nat) (w:World) (hN:SizeOf.sizeOf (Tr.mk 16 x ls ks)≤N+1) (ht:TrAt (fun k=>k<B) w (Tr.mk 16 x ls ks) ⟨16,x,vla,ls.length,vlc,vka,ks.length,vkc⟩)
  (hsh:∀ (j:Nat) (k:Tr),ks[j]? = some k→Qao k=true) (hz:Qak (Tr.mk 16 x ls ks)≤1000) (hl:PRow w B l ps) (hB:B≤w.heap.size) (hb:ps.length+(Qaf (Tr.mk 16 x ls ks)).length≤1000000) :
  Calls Tryz.prog 214 #[l,.agg #[.int .i64 16,.string x,.slice vla ls.length vlc,.slice vka ks.length vkc]] w (Qdy B ps (Qaf (Tr.mk 16 x ls ks)) l w):=by
 have HIH:=hQ ih
 have HBD:=hQ hb
 have HEQ:=hQ (show Qaf (Tr.mk 16 x ls ks) = [(ldR ls 0,x),(ldR ls 1,⟨#[40]⟩)] ++ (Qf0 ls 3 (List.take ks.length ks) ++ [(ldR ls 2,⟨#[41]⟩)]) from by rw [List.take_length];exact Qzu x ls ks)
 have HSH:=hQ hsh
 have HNN:=hQ hN
 have HZZ:=hQ hz
 have HST:=hQ (PSt.start hl ht hB)
 obtain ⟨ip,hip,pz0,pz1,pz2⟩:=info_parts Qbd
 clear ih hN ht hz hl hB hb hsh
 go_enter Tryz.func214,Tryz.ntmps214
 go_wp2_with fail
 generalize hW0:w.alloc (.cells #[.int .i64 16,.string x,.slice vla ls.length vlc,.slice vka ks.length vkc] 29)=W0 at ⊢
 have HS0:=hQ (show PSt B l w (Tr.mk 16 x ls ks) ⟨16,x,vla,ls.length,vlc,vka,ks.length,vkc⟩ l ps W0 from hW0 ▸ HST.out)
 clear HST hW0
 obtain ⟨k0,k1,k2,k3⟩:=HS0.out.c4
 obtain ⟨n1,hn1⟩:∃ n,(ps).length=n:=⟨_,rfl⟩
 have HQ1:=hQ hn1
 clear hn1
 have HM1:=hQ (show n1+(2+(Qf0 ls 3 (List.take ks.length ks)).length)≤1000000 from by have h:=HBD.out;rw [←HQ1.out];rw [HEQ.out] at h;(try simp only [xB,xD,xG] at h ⊢);omega)
 have HL1:=hQ (show (ps).length+(2+(Qf0 ls 3 (List.take ks.length ks)).length)≤1000000 from by have h:=HBD.out;rw [HEQ.out] at h;(try simp only [xB,xD,xG] at h ⊢);omega)
 go_region_held3 (fun w'=>w'.cell? ⟨w.heap.size,0,none⟩=some (.int .i64 16)∧w'.cell? ⟨w.heap.size,1,none⟩=some (.string x)∧w'.cell? ⟨w.heap.size,2,none⟩=some (.slice vla ls.length vlc)∧w'.cell? ⟨w.heap.size,3,none⟩=some (.slice vka ks.length vkc)) (first | with_reducible exact ⟨k0,k1,k2,k3⟩ | go_keep) (first
  | (go_at_call 239;((with_reducible refine (Qaw _ (Tr.mk 16 x ls ks) ⟨16,x,vla,ls.length,vlc,vka,ks.length,vkc⟩ 0 0 rfl _ HS0.out.drew.tree (by decide)).mono ?_);rintro e w1 ⟨rfl,hb⟩;have HS1:=hQ (HS0.out.drew.below hb);clear k0 k1 k2 k3;obtain ⟨k0,k1,k2,k3⟩:=HS1.out.c4;clear hb))
  | (go_at_call 239;((with_reducible refine (Qaw _ (Tr.mk 16 x ls ks) ⟨16,x,vla,ls.length,vlc,vka,ks.length,vkc⟩ 1 1 rfl _ HS1.out.tree (by decide)).mono ?_);rintro e w2 ⟨rfl,hb⟩;have HS2:=hQ (HS1.out.below hb);clear k0 k1 k2 k3;obtain ⟨k0,k1,k2,k3⟩:=HS2.out.c4;clear hb))
  | (refine step_append_lies _ (by rfl) _ _ _ (by rfl) B 211 ip _ 2 32 Tryz.underlying208 hip pz0 pz1 pz2 rfl (by decide) _ n1 (Qan (ps)) (by rfl) ((HS2.out.alloc _).rowN HQ1.out) ⟨w2.heap.size,0,none⟩ 2 2 (Qan [(ldR ls 0,(x:ByteArray)),(ldR ls 1,(⟨#[40]⟩:ByteArray))]) (by rfl) (by rfl) (xM (cs:=#[.string (ldR ls 0),.string x,.string (ldR ls 1),.string ⟨#[40]⟩]) (t:=211) (fr:=(0,0)) (xH w2 _)) (Qas _) (by decide) (by unfold maxLen;have:=HM1.out;omega) (by have:=HM1.out;omega) (HS2.out.alloc _).le _ (by rfl) ?_;intro g cw3 w3 hown hgr hat hlt;have HS3:=hQ ((HS2.out.alloc _).appN HQ1.out (qs:=[(ldR ls 0,(x:ByteArray)),(ldR ls 1,(⟨#[40]⟩:ByteArray))]) rfl hown hgr hat (xA _));clear k0 k1 k2 k3;obtain ⟨k0,k1,k2,k3⟩:=HS3.out.c4;clear hown hgr hat hlt)
  | fail)
 all_goals
  go_wp2_with fail
  obtain ⟨n2,hn2⟩:∃ n,(ps ++ [(ldR ls 0,(x:ByteArray)),(ldR ls 1,(⟨#[40]⟩:ByteArray))]).length=n:=⟨_,rfl⟩
  have HQ2:=hQ hn2
  clear hn2
  have HM2:=hQ (show n2+(Qf0 ls 3 (List.take ks.length ks)).length≤1000000 from by have h:=HBD.out;rw [←HQ2.out];rw [HEQ.out] at h;(try simp only [xB,xD,xG] at h ⊢);omega)
  have HL2:=hQ (show (ps ++ [(ldR ls 0,(x:ByteArray)),(ldR ls 1,(⟨#[40]⟩:ByteArray))]).length+(Qf0 ls 3 (List.take ks.length ks)).length≤1000000 from by have h:=HBD.out;rw [HEQ.out] at h;(try simp only [xB,xD,xG] at h ⊢);omega)
  obtain ⟨n3,hn3⟩:∃ n,(ps ++ [(ldR ls 0,(x:ByteArray)),(ldR ls 1,(⟨#[40]⟩:ByteArray))] ++ Qf0 ls 3 (List.take ks.length ks)).length=n:=⟨_,rfl⟩
  have HQ3:=hQ hn3
  clear hn3
  have HM3:=hQ (show n3+1≤1000000 from by have h:=HBD.out;rw [←HQ3.out];rw [HEQ.out] at h;(try simp only [xB,xD,xG] at h ⊢);omega)
  have HL3:=hQ (show (ps ++ [(ldR ls 0,(x:ByteArray)),(ldR ls 1,(⟨#[40]⟩:ByteArray))] ++ Qf0 ls 3 (List.take ks.length ks)).length+1≤1000000 from by have h:=HBD.out;rw [HEQ.out] at h;(try simp only [xB,xD,xG] at h ⊢);omega)
  go_region_held3 (fun w'=>w'.cell? ⟨w.heap.size,0,none⟩=some (.int .i64 16)∧w'.cell? ⟨w.heap.size,1,none⟩=some (.string x)∧w'.cell? ⟨w.heap.size,2,none⟩=some (.slice vla ls.length vlc)∧w'.cell? ⟨w.heap.size,3,none⟩=some (.slice vka ks.length vkc)) (first | with_reducible exact ⟨k0,k1,k2,k3⟩ | go_keep) (first
   | (go_at_call 240;refine (Qpi HIH.out B _ (ps ++ [(ldR ls 0,(x:ByteArray)),(ldR ls 1,(⟨#[40]⟩:ByteArray))]) (Tr.mk 16 x ls ks) ⟨16,x,vla,ls.length,vlc,vka,ks.length,vkc⟩ ks.length 3 _ HNN.out HS3.out.drew.tree HZZ.out (xA _) (by decide) HSH.out HS3.out.drew.row HS3.out.drew.le HL2.out).mono ?_;rintro e w4 ⟨lw4,rfl,hr,hg,ho⟩;have HS4:=hQ (HS3.out.drew.call hr hg ho);clear hr hg ho k0 k1 k2 k3;obtain ⟨k0,k1,k2,k3⟩:=HS4.out.c4)
   | (go_at_call 239;((with_reducible refine (Qaw _ (Tr.mk 16 x ls ks) ⟨16,x,vla,ls.length,vlc,vka,ks.length,vkc⟩ 2 2 rfl _ HS4.out.tree (by decide)).mono ?_);rintro e w5 ⟨rfl,hb⟩;have HS5:=hQ (HS4.out.below hb);clear k0 k1 k2 k3;obtain ⟨k0,k1,k2,k3⟩:=HS5.out.c4;clear hb))
   | (refine step_append_lies _ (by rfl) _ _ _ (by rfl) B 211 ip _ 2 32 Tryz.underlying208 hip pz0 pz1 pz2 rfl (by decide) _ n3 (Qan (ps ++ [(ldR ls 0,(x:ByteArray)),(ldR ls 1,(⟨#[40]⟩:ByteArray))] ++ Qf0 ls 3 (List.take ks.length ks))) (by rfl) ((HS5.out.alloc _).rowN HQ3.out) ⟨w5.heap.size,0,none⟩ 1 1 (Qan [(ldR ls 2,(⟨#[41]⟩:ByteArray))]) (by rfl) (by rfl) (xM (cs:=#[.string (ldR ls 2),.string ⟨#[41]⟩]) (t:=211) (fr:=(0,0)) (xH w5 _)) (Qas _) (by decide) (by unfold maxLen;have:=HM3.out;omega) (by have:=HM3.out;omega) (HS5.out.alloc _).le _ (by rfl) ?_;intro g cw6 w6 hown hgr hat hlt;have HS6:=hQ ((HS5.out.alloc _).appN HQ3.out (qs:=[(ldR ls 2,(⟨#[41]⟩:ByteArray))]) rfl hown hgr hat (xA _));clear k0 k1 k2 k3;obtain ⟨k0,k1,k2,k3⟩:=HS6.out.c4;clear hown hgr hat hlt)
   | fail)
  all_goals
   go_wp2
   go_ret
   exact HS6.out.post (by rw [HEQ.out];first | done | (simp only [xT,xV,xU];done) | (simp only [xT,xV,xU];rfl) | (simp;done)) rfl
theorem Qv6 {N:Nat} (ih:PcC N) (B:Nat) (l:Value) (ps:List Qbi) (x:ByteArray) (ls:List ByteArray) (ks:List Tr) (vla vka:Option Addr) (vlc vkc:Nat) (w:World) (hN:SizeOf.sizeOf (Tr.mk 18 x ls ks)≤N+1) (ht:TrAt (fun k=>k<B) w (Tr.mk 18 x ls ks) ⟨18,x,vla,ls.length,vlc,vka,ks.length,vkc⟩)
  (hsh:∀ (j:Nat) (k:Tr),ks[j]? = some k→Qao k=true) (hz:Qak (Tr.mk 18 x ls ks)≤1000) (hl:PRow w B l ps) (hB:B≤w.heap.size) (hb:ps.length+(Qaf (Tr.mk 18 x ls ks)).length≤1000000) :
  Calls Tryz.prog 214 #[l,.agg #[.int .i64 18,.string x,.slice vla ls.length vlc,.slice vka ks.length vkc]] w (Qdy B ps (Qaf (Tr.mk 18 x ls ks)) l w):=by
 have HIH:=hQ ih
 have HBD:=hQ hb
 have HEQ:=hQ (show Qaf (Tr.mk 18 x ls ks) = [(ldR ls 0,⟨#[91]⟩)] ++ (Qf0 ls 2 (List.take ks.length ks) ++ [(ldR ls 1,⟨#[93]⟩)]) from by rw [List.take_length];exact Qzv x ls ks)
 have HSH:=hQ hsh
 have HNN:=hQ hN
 have HZZ:=hQ hz
 have HST:=hQ (PSt.start hl ht hB)
 obtain ⟨ip,hip,pz0,pz1,pz2⟩:=info_parts Qbd
 clear ih hN ht hz hl hB hb hsh
 go_enter Tryz.func214,Tryz.ntmps214
 go_wp2_with fail
 generalize hW0:w.alloc (.cells #[.int .i64 18,.string x,.slice vla ls.length vlc,.slice vka ks.length vkc] 29)=W0 at ⊢
 have HS0:=hQ (show PSt B l w (Tr.mk 18 x ls ks) ⟨18,x,vla,ls.length,vlc,vka,ks.length,vkc⟩ l ps W0 from hW0 ▸ HST.out)
 clear HST hW0
 obtain ⟨k0,k1,k2,k3⟩:=HS0.out.c4
 obtain ⟨n1,hn1⟩:∃ n,(ps).length=n:=⟨_,rfl⟩
 have HQ1:=hQ hn1
 clear hn1
 have HM1:=hQ (show n1+1≤1000000 from by have h:=HBD.out;rw [←HQ1.out];rw [HEQ.out] at h;(try simp only [xB,xD,xG] at h ⊢);omega)
 have HL1:=hQ (show (ps).length+1≤1000000 from by have h:=HBD.out;rw [HEQ.out] at h;(try simp only [xB,xD,xG] at h ⊢);omega)
 go_wp2_with (first
  | (go_at_call 239;((with_reducible refine (Qaw _ (Tr.mk 18 x ls ks) ⟨18,x,vla,ls.length,vlc,vka,ks.length,vkc⟩ 0 0 rfl _ HS0.out.tree (by decide)).mono ?_);rintro e w1 ⟨rfl,hb⟩;have HS1:=hQ (HS0.out.below hb);clear k0 k1 k2 k3;obtain ⟨k0,k1,k2,k3⟩:=HS1.out.c4;clear hb))
  | (at_builtin;refine wpList_append_lies _ (by rfl) _ _ 208 (by rfl) B 211 ip _ 2 32 Tryz.underlying208 hip pz0 pz1 pz2 rfl (by decide) _ n1 (Qan (ps)) (by rfl) ((HS1.out.alloc _).rowN HQ1.out) ⟨w1.heap.size,0,none⟩ 1 1 (Qan [(ldR ls 0,(⟨#[91]⟩:ByteArray))]) (by rfl) (by rfl) (xM (cs:=#[.string (ldR ls 0),.string ⟨#[91]⟩]) (t:=211) (fr:=(0,0)) (xH w1 _)) (Qas _) (by decide) (by unfold maxLen;have:=HM1.out;omega) (by have:=HM1.out;omega) (HS1.out.alloc _).le _ (by rfl) ?_;intro g cw2 w2 hown hgr hat hlt;have HS2:=hQ ((HS1.out.alloc _).appN HQ1.out (qs:=[(ldR ls 0,(⟨#[91]⟩:ByteArray))]) rfl hown hgr hat (xA _));clear k0 k1 k2 k3;obtain ⟨k0,k1,k2,k3⟩:=HS2.out.c4;clear hown hgr hat hlt))
 obtain ⟨n2,hn2⟩:∃ n,(ps ++ [(ldR ls 0,(⟨#[91]⟩:ByteArray))]).length=n:=⟨_,rfl⟩
 have HQ2:=hQ hn2
 clear hn2
 have HM2:=hQ (show n2+(Qf0 ls 2 (List.take ks.length ks)).length≤1000000 from by have h:=HBD.out;rw [←HQ2.out];rw [HEQ.out] at h;(try simp only [xB,xD,xG] at h ⊢);omega)
 have HL2:=hQ (show (ps ++ [(ldR ls 0,(⟨#[91]⟩:ByteArray))]).length+(Qf0 ls 2 (List.take ks.length ks)).length≤1000000 from by have h:=HBD.out;rw [HEQ.out] at h;(try simp only [xB,xD,xG] at h ⊢);omega)
 obtain ⟨n3,hn3⟩:∃ n,(ps ++ [(ldR ls 0,(⟨#[91]⟩:ByteArray))] ++ Qf0 ls 2 (List.take ks.length ks)).length=n:=⟨_,rfl⟩
 have HQ3:=hQ hn3
 clear hn3
 have HM3:=hQ (show n3+1≤1000000 from by have h:=HBD.out;rw [←HQ3.out];rw [HEQ.out] at h;(try simp only [xB,xD,xG] at h ⊢);omega)
 have HL3:=hQ (show (ps ++ [(ldR ls 0,(⟨#[91]⟩:ByteArray))] ++ Qf0 ls 2 (List.take ks.length ks)).length+1≤1000000 from by have h:=HBD.out;rw [HEQ.out] at h;(try simp only [xB,xD,xG] at h ⊢);omega)
 go_region_held3 (fun w'=>w'.cell? ⟨w.heap.size,0,none⟩=some (.int .i64 18)∧w'.cell? ⟨w.heap.size,1,none⟩=some (.string x)∧w'.cell? ⟨w.heap.size,2,none⟩=some (.slice vla ls.length vlc)∧w'.cell? ⟨w.heap.size,3,none⟩=some (.slice vka ks.length vkc)) (first | with_reducible exact ⟨k0,k1,k2,k3⟩ | go_keep) (first
  | (go_at_call 240;refine (Qpi HIH.out B _ (ps ++ [(ldR ls 0,(⟨#[91]⟩:ByteArray))]) (Tr.mk 18 x ls ks) ⟨18,x,vla,ls.length,vlc,vka,ks.length,vkc⟩ ks.length 2 _ HNN.out HS2.out.drew.tree HZZ.out (xA _) (by decide) HSH.out HS2.out.drew.row HS2.out.drew.le HL2.out).mono ?_;rintro e w3 ⟨lw3,rfl,hr,hg,ho⟩;have HS3:=hQ (HS2.out.drew.call hr hg ho);clear hr hg ho k0 k1 k2 k3;obtain ⟨k0,k1,k2,k3⟩:=HS3.out.c4)
  | (go_at_call 239;((with_reducible refine (Qaw _ (Tr.mk 18 x ls ks) ⟨18,x,vla,ls.length,vlc,vka,ks.length,vkc⟩ 1 1 rfl _ HS3.out.tree (by decide)).mono ?_);rintro e w4 ⟨rfl,hb⟩;have HS4:=hQ (HS3.out.below hb);clear k0 k1 k2 k3;obtain ⟨k0,k1,k2,k3⟩:=HS4.out.c4;clear hb))
  | (refine step_append_lies _ (by rfl) _ _ _ (by rfl) B 211 ip _ 2 32 Tryz.underlying208 hip pz0 pz1 pz2 rfl (by decide) _ n3 (Qan (ps ++ [(ldR ls 0,(⟨#[91]⟩:ByteArray))] ++ Qf0 ls 2 (List.take ks.length ks))) (by rfl) ((HS4.out.alloc _).rowN HQ3.out) ⟨w4.heap.size,0,none⟩ 1 1 (Qan [(ldR ls 1,(⟨#[93]⟩:ByteArray))]) (by rfl) (by rfl) (xM (cs:=#[.string (ldR ls 1),.string ⟨#[93]⟩]) (t:=211) (fr:=(0,0)) (xH w4 _)) (Qas _) (by decide) (by unfold maxLen;have:=HM3.out;omega) (by have:=HM3.out;omega) (HS4.out.alloc _).le _ (by rfl) ?_;intro g cw5 w5 hown hgr hat hlt;have HS5:=hQ ((HS4.out.alloc _).appN HQ3.out (qs:=[(ldR ls 1,(⟨#[93]⟩:ByteArray))]) rfl hown hgr hat (xA _));clear k0 k1 k2 k3;obtain ⟨k0,k1,k2,k3⟩:=HS5.out.c4;clear hown hgr hat hlt)
  | fail)
 all_goals
  go_wp2
  go_ret
  exact HS5.out.post (by rw [HEQ.out];first | done | (simp only [xT,xV,xU];done) | (simp only [xT,xV,xU];rfl) | (simp;done)) rfl
end Go.Proofs.YtjidpkcjpgdafaaGreat
