/- Part 32 -/
import Derived.Test.YtfjpemdejoejbaaGreatSg29
import Derived.IntWalk
set_option maxRecDepth 100000
set_option maxHeartbeats 4000000
namespace Go.Proofs.YtfjpemdejoejbaaGreat
open Go.RowKit
theorem Zaw {N:Nat} (ih:PcC N) (B:Nat) (l:Value) (ps:List Qbl) (x:ByteArray) (ls:List ByteArray) (vla vka:Option Addr) (vlc vkc:Nat) (w:World) (_hN:SizeOf.sizeOf (Tr.mk 5 x ls [])≤N+1) (ht:TrAt (fun k=>k<B) w (Tr.mk 5 x ls []) ⟨5,x,vla,ls.length,vlc,vka,0,vkc⟩)
  (_hz:Qak (Tr.mk 5 x ls [])≤1000) (hl:PRow w B l ps) (hB:B≤w.heap.size) (hb:ps.length+(Qaf (Tr.mk 5 x ls [])).length≤1000000) :
  Calls Tryz.prog 144 #[l,.agg #[.int .i64 5,.string x,.slice vla ls.length vlc,.slice vka 0 vkc]] w (Qdy B ps (Qaf (Tr.mk 5 x ls [])) l w):=by
 have HIH:=hQ ih;have HBD:=hQ hb;have HEQ:=hQ (Qfq x ls 5 ⟨#[73,110,116]⟩ rfl);have HST:=hQ (PSt.start hl ht hB);obtain ⟨ip,hip,pz0,pz1,pz2⟩:=info_parts Qbf;clear ih ht hl hB hb 
 go_enter Tryz.func144,Tryz.ntmps144
 go_wp2_with fail
 generalize hW0:w.alloc (.cells #[.int .i64 5,.string x,.slice vla ls.length vlc,.slice vka 0 vkc] 25)=W0 at ⊢
 have HS0:=hQ (show PSt B l w (Tr.mk 5 x ls []) ⟨5,x,vla,ls.length,vlc,vka,0,vkc⟩ l ps W0 from hW0 ▸ HST.out);clear HST hW0;obtain ⟨k0,k1,k2,k3⟩:=HS0.out.c4;obtain ⟨n1,hn1⟩:∃ n,(ps).length=n:=⟨_,rfl⟩;have HQ1:=hQ hn1;clear hn1;have HM1:=hQ (show n1+1≤1000000 from by have h:=HBD.out;rw [←HQ1.out];rw [HEQ.out] at h;(try simp only [xD,xG] at h ⊢);omega);have HL1:=hQ (show (ps).length+1≤1000000 from by have h:=HBD.out;rw [HEQ.out] at h;(try simp only [xD,xG] at h ⊢);omega)
 go_wp2_with (first
  | (go_at_call 168;((with_reducible refine (Qaw _ (Tr.mk 5 x ls []) ⟨5,x,vla,ls.length,vlc,vka,0,vkc⟩ 0 0 rfl _ HS0.out.tree (by decide)).mono ?_);rintro e w1 ⟨rfl,hb⟩;have HS1:=hQ (HS0.out.below hb);clear k0 k1 k2 k3;obtain ⟨k0,k1,k2,k3⟩:=HS1.out.c4;clear hb))
  | (at_builtin;refine wpList_append_lies _ (by rfl) _ _ 145 (by rfl) B 148 ip _ 2 32 Tryz.underlying145 hip pz0 pz1 pz2 rfl (by decide) _ n1 (Qam (ps)) (by rfl) ((HS1.out.alloc _).rowN HQ1.out) ⟨w1.heap.size,0,none⟩ 1 1 (Qam [(ldR ls 0,(⟨#[73,110,116]⟩:ByteArray))]) (by rfl) (by rfl) (xM (cs:=#[.string (ldR ls 0),.string ⟨#[73,110,116]⟩]) (t:=148) (fr:=(0,0)) (xH w1 _)) (Qat _) (by decide) (by unfold maxLen;have:=HM1.out;omega) (by have:=HM1.out;omega) (HS1.out.alloc _).le _ (by rfl) ?_;intro g cw2 w2 hown hgr hat hlt;have HS2:=hQ ((HS1.out.alloc _).appN HQ1.out (qs:=[(ldR ls 0,(⟨#[73,110,116]⟩:ByteArray))]) rfl hown hgr hat (xA _));clear k0 k1 k2 k3;obtain ⟨k0,k1,k2,k3⟩:=HS2.out.c4;clear hown hgr hat hlt))
 go_ret
 exact HS2.out.post (by rw [HEQ.out];first | done | (simp only [xT,xV,xU];done) | (simp only [xT,xV,xU];rfl) | (simp;done)) rfl
theorem Zax {N:Nat} (ih:PcC N) (B:Nat) (l:Value) (ps:List Qbl) (x:ByteArray) (ls:List ByteArray) (vla vka:Option Addr) (vlc vkc:Nat) (w:World) (_hN:SizeOf.sizeOf (Tr.mk 6 x ls [])≤N+1) (ht:TrAt (fun k=>k<B) w (Tr.mk 6 x ls []) ⟨6,x,vla,ls.length,vlc,vka,0,vkc⟩)
  (_hz:Qak (Tr.mk 6 x ls [])≤1000) (hl:PRow w B l ps) (hB:B≤w.heap.size) (hb:ps.length+(Qaf (Tr.mk 6 x ls [])).length≤1000000) :
  Calls Tryz.prog 144 #[l,.agg #[.int .i64 6,.string x,.slice vla ls.length vlc,.slice vka 0 vkc]] w (Qdy B ps (Qaf (Tr.mk 6 x ls [])) l w):=by
 have HIH:=hQ ih;have HBD:=hQ hb;have HEQ:=hQ (Qfq x ls 6 ⟨#[84,101,120,116]⟩ rfl);have HST:=hQ (PSt.start hl ht hB);obtain ⟨ip,hip,pz0,pz1,pz2⟩:=info_parts Qbf;clear ih ht hl hB hb 
 go_enter Tryz.func144,Tryz.ntmps144
 go_wp2_with fail
 generalize hW0:w.alloc (.cells #[.int .i64 6,.string x,.slice vla ls.length vlc,.slice vka 0 vkc] 25)=W0 at ⊢
 have HS0:=hQ (show PSt B l w (Tr.mk 6 x ls []) ⟨6,x,vla,ls.length,vlc,vka,0,vkc⟩ l ps W0 from hW0 ▸ HST.out);clear HST hW0;obtain ⟨k0,k1,k2,k3⟩:=HS0.out.c4;obtain ⟨n1,hn1⟩:∃ n,(ps).length=n:=⟨_,rfl⟩;have HQ1:=hQ hn1;clear hn1;have HM1:=hQ (show n1+1≤1000000 from by have h:=HBD.out;rw [←HQ1.out];rw [HEQ.out] at h;(try simp only [xD,xG] at h ⊢);omega);have HL1:=hQ (show (ps).length+1≤1000000 from by have h:=HBD.out;rw [HEQ.out] at h;(try simp only [xD,xG] at h ⊢);omega)
 go_wp2_with (first
  | (go_at_call 168;((with_reducible refine (Qaw _ (Tr.mk 6 x ls []) ⟨6,x,vla,ls.length,vlc,vka,0,vkc⟩ 0 0 rfl _ HS0.out.tree (by decide)).mono ?_);rintro e w1 ⟨rfl,hb⟩;have HS1:=hQ (HS0.out.below hb);clear k0 k1 k2 k3;obtain ⟨k0,k1,k2,k3⟩:=HS1.out.c4;clear hb))
  | (at_builtin;refine wpList_append_lies _ (by rfl) _ _ 145 (by rfl) B 148 ip _ 2 32 Tryz.underlying145 hip pz0 pz1 pz2 rfl (by decide) _ n1 (Qam (ps)) (by rfl) ((HS1.out.alloc _).rowN HQ1.out) ⟨w1.heap.size,0,none⟩ 1 1 (Qam [(ldR ls 0,(⟨#[84,101,120,116]⟩:ByteArray))]) (by rfl) (by rfl) (xM (cs:=#[.string (ldR ls 0),.string ⟨#[84,101,120,116]⟩]) (t:=148) (fr:=(0,0)) (xH w1 _)) (Qat _) (by decide) (by unfold maxLen;have:=HM1.out;omega) (by have:=HM1.out;omega) (HS1.out.alloc _).le _ (by rfl) ?_;intro g cw2 w2 hown hgr hat hlt;have HS2:=hQ ((HS1.out.alloc _).appN HQ1.out (qs:=[(ldR ls 0,(⟨#[84,101,120,116]⟩:ByteArray))]) rfl hown hgr hat (xA _));clear k0 k1 k2 k3;obtain ⟨k0,k1,k2,k3⟩:=HS2.out.c4;clear hown hgr hat hlt))
 go_ret
 exact HS2.out.post (by rw [HEQ.out];first | done | (simp only [xT,xV,xU];done) | (simp only [xT,xV,xU];rfl) | (simp;done)) rfl
theorem Zay {N:Nat} (ih:PcC N) (B:Nat) (l:Value) (ps:List Qbl) (x:ByteArray) (ls:List ByteArray) (vla vka:Option Addr) (vlc vkc:Nat) (w:World) (_hN:SizeOf.sizeOf (Tr.mk 7 x ls [])≤N+1) (ht:TrAt (fun k=>k<B) w (Tr.mk 7 x ls []) ⟨7,x,vla,ls.length,vlc,vka,0,vkc⟩)
  (_hz:Qak (Tr.mk 7 x ls [])≤1000) (hl:PRow w B l ps) (hB:B≤w.heap.size) (hb:ps.length+(Qaf (Tr.mk 7 x ls [])).length≤1000000) :
  Calls Tryz.prog 144 #[l,.agg #[.int .i64 7,.string x,.slice vla ls.length vlc,.slice vka 0 vkc]] w (Qdy B ps (Qaf (Tr.mk 7 x ls [])) l w):=by
 have HIH:=hQ ih;have HBD:=hQ hb;have HEQ:=hQ (Qfq x ls 7 ⟨#[66,111,111,108]⟩ rfl);have HST:=hQ (PSt.start hl ht hB);obtain ⟨ip,hip,pz0,pz1,pz2⟩:=info_parts Qbf;clear ih ht hl hB hb 
 go_enter Tryz.func144,Tryz.ntmps144
 go_wp2_with fail
 generalize hW0:w.alloc (.cells #[.int .i64 7,.string x,.slice vla ls.length vlc,.slice vka 0 vkc] 25)=W0 at ⊢
 have HS0:=hQ (show PSt B l w (Tr.mk 7 x ls []) ⟨7,x,vla,ls.length,vlc,vka,0,vkc⟩ l ps W0 from hW0 ▸ HST.out);clear HST hW0;obtain ⟨k0,k1,k2,k3⟩:=HS0.out.c4;obtain ⟨n1,hn1⟩:∃ n,(ps).length=n:=⟨_,rfl⟩;have HQ1:=hQ hn1;clear hn1;have HM1:=hQ (show n1+1≤1000000 from by have h:=HBD.out;rw [←HQ1.out];rw [HEQ.out] at h;(try simp only [xD,xG] at h ⊢);omega);have HL1:=hQ (show (ps).length+1≤1000000 from by have h:=HBD.out;rw [HEQ.out] at h;(try simp only [xD,xG] at h ⊢);omega)
 go_wp2_with (first
  | (go_at_call 168;((with_reducible refine (Qaw _ (Tr.mk 7 x ls []) ⟨7,x,vla,ls.length,vlc,vka,0,vkc⟩ 0 0 rfl _ HS0.out.tree (by decide)).mono ?_);rintro e w1 ⟨rfl,hb⟩;have HS1:=hQ (HS0.out.below hb);clear k0 k1 k2 k3;obtain ⟨k0,k1,k2,k3⟩:=HS1.out.c4;clear hb))
  | (at_builtin;refine wpList_append_lies _ (by rfl) _ _ 145 (by rfl) B 148 ip _ 2 32 Tryz.underlying145 hip pz0 pz1 pz2 rfl (by decide) _ n1 (Qam (ps)) (by rfl) ((HS1.out.alloc _).rowN HQ1.out) ⟨w1.heap.size,0,none⟩ 1 1 (Qam [(ldR ls 0,(⟨#[66,111,111,108]⟩:ByteArray))]) (by rfl) (by rfl) (xM (cs:=#[.string (ldR ls 0),.string ⟨#[66,111,111,108]⟩]) (t:=148) (fr:=(0,0)) (xH w1 _)) (Qat _) (by decide) (by unfold maxLen;have:=HM1.out;omega) (by have:=HM1.out;omega) (HS1.out.alloc _).le _ (by rfl) ?_;intro g cw2 w2 hown hgr hat hlt;have HS2:=hQ ((HS1.out.alloc _).appN HQ1.out (qs:=[(ldR ls 0,(⟨#[66,111,111,108]⟩:ByteArray))]) rfl hown hgr hat (xA _));clear k0 k1 k2 k3;obtain ⟨k0,k1,k2,k3⟩:=HS2.out.c4;clear hown hgr hat hlt))
 go_ret
 exact HS2.out.post (by rw [HEQ.out];first | done | (simp only [xT,xV,xU];done) | (simp only [xT,xV,xU];rfl) | (simp;done)) rfl
theorem Qwz {N:Nat} (ih:PcC N) (B:Nat) (l:Value) (ps:List Qbl) (x:ByteArray) (ls:List ByteArray) (vla vka:Option Addr) (vlc vkc:Nat) (w:World) (_hN:SizeOf.sizeOf (Tr.mk 13 x ls [])≤N+1) (ht:TrAt (fun k=>k<B) w (Tr.mk 13 x ls []) ⟨13,x,vla,ls.length,vlc,vka,0,vkc⟩)
  (_hz:Qak (Tr.mk 13 x ls [])≤1000) (hl:PRow w B l ps) (hB:B≤w.heap.size) (hb:ps.length+(Qaf (Tr.mk 13 x ls [])).length≤1000000) :
  Calls Tryz.prog 144 #[l,.agg #[.int .i64 13,.string x,.slice vla ls.length vlc,.slice vka 0 vkc]] w (Qdy B ps (Qaf (Tr.mk 13 x ls [])) l w):=by
 have HIH:=hQ ih;have HBD:=hQ hb;have HEQ:=hQ (Qfq x ls 13 ⟨#[116,114,117,101]⟩ rfl);have HST:=hQ (PSt.start hl ht hB);obtain ⟨ip,hip,pz0,pz1,pz2⟩:=info_parts Qbf;clear ih ht hl hB hb 
 go_enter Tryz.func144,Tryz.ntmps144
 go_wp2_with fail
 generalize hW0:w.alloc (.cells #[.int .i64 13,.string x,.slice vla ls.length vlc,.slice vka 0 vkc] 25)=W0 at ⊢
 have HS0:=hQ (show PSt B l w (Tr.mk 13 x ls []) ⟨13,x,vla,ls.length,vlc,vka,0,vkc⟩ l ps W0 from hW0 ▸ HST.out);clear HST hW0;obtain ⟨k0,k1,k2,k3⟩:=HS0.out.c4;obtain ⟨n1,hn1⟩:∃ n,(ps).length=n:=⟨_,rfl⟩;have HQ1:=hQ hn1;clear hn1;have HM1:=hQ (show n1+1≤1000000 from by have h:=HBD.out;rw [←HQ1.out];rw [HEQ.out] at h;(try simp only [xD,xG] at h ⊢);omega);have HL1:=hQ (show (ps).length+1≤1000000 from by have h:=HBD.out;rw [HEQ.out] at h;(try simp only [xD,xG] at h ⊢);omega)
 go_wp2_with (first
  | (go_at_call 168;((with_reducible refine (Qaw _ (Tr.mk 13 x ls []) ⟨13,x,vla,ls.length,vlc,vka,0,vkc⟩ 0 0 rfl _ HS0.out.tree (by decide)).mono ?_);rintro e w1 ⟨rfl,hb⟩;have HS1:=hQ (HS0.out.below hb);clear k0 k1 k2 k3;obtain ⟨k0,k1,k2,k3⟩:=HS1.out.c4;clear hb))
  | (at_builtin;refine wpList_append_lies _ (by rfl) _ _ 145 (by rfl) B 148 ip _ 2 32 Tryz.underlying145 hip pz0 pz1 pz2 rfl (by decide) _ n1 (Qam (ps)) (by rfl) ((HS1.out.alloc _).rowN HQ1.out) ⟨w1.heap.size,0,none⟩ 1 1 (Qam [(ldR ls 0,(⟨#[116,114,117,101]⟩:ByteArray))]) (by rfl) (by rfl) (xM (cs:=#[.string (ldR ls 0),.string ⟨#[116,114,117,101]⟩]) (t:=148) (fr:=(0,0)) (xH w1 _)) (Qat _) (by decide) (by unfold maxLen;have:=HM1.out;omega) (by have:=HM1.out;omega) (HS1.out.alloc _).le _ (by rfl) ?_;intro g cw2 w2 hown hgr hat hlt;have HS2:=hQ ((HS1.out.alloc _).appN HQ1.out (qs:=[(ldR ls 0,(⟨#[116,114,117,101]⟩:ByteArray))]) rfl hown hgr hat (xA _));clear k0 k1 k2 k3;obtain ⟨k0,k1,k2,k3⟩:=HS2.out.c4;clear hown hgr hat hlt))
 go_ret
 exact HS2.out.post (by rw [HEQ.out];first | done | (simp only [xT,xV,xU];done) | (simp only [xT,xV,xU];rfl) | (simp;done)) rfl
theorem Qw0 {N:Nat} (ih:PcC N) (B:Nat) (l:Value) (ps:List Qbl) (x:ByteArray) (ls:List ByteArray) (vla vka:Option Addr) (vlc vkc:Nat) (w:World) (_hN:SizeOf.sizeOf (Tr.mk 14 x ls [])≤N+1) (ht:TrAt (fun k=>k<B) w (Tr.mk 14 x ls []) ⟨14,x,vla,ls.length,vlc,vka,0,vkc⟩)
  (_hz:Qak (Tr.mk 14 x ls [])≤1000) (hl:PRow w B l ps) (hB:B≤w.heap.size) (hb:ps.length+(Qaf (Tr.mk 14 x ls [])).length≤1000000) :
  Calls Tryz.prog 144 #[l,.agg #[.int .i64 14,.string x,.slice vla ls.length vlc,.slice vka 0 vkc]] w (Qdy B ps (Qaf (Tr.mk 14 x ls [])) l w):=by
 have HIH:=hQ ih;have HBD:=hQ hb;have HEQ:=hQ (Qfq x ls 14 ⟨#[102,97,108,115,101]⟩ rfl);have HST:=hQ (PSt.start hl ht hB);obtain ⟨ip,hip,pz0,pz1,pz2⟩:=info_parts Qbf;clear ih ht hl hB hb 
 go_enter Tryz.func144,Tryz.ntmps144
 go_wp2_with fail
 generalize hW0:w.alloc (.cells #[.int .i64 14,.string x,.slice vla ls.length vlc,.slice vka 0 vkc] 25)=W0 at ⊢
 have HS0:=hQ (show PSt B l w (Tr.mk 14 x ls []) ⟨14,x,vla,ls.length,vlc,vka,0,vkc⟩ l ps W0 from hW0 ▸ HST.out);clear HST hW0;obtain ⟨k0,k1,k2,k3⟩:=HS0.out.c4;obtain ⟨n1,hn1⟩:∃ n,(ps).length=n:=⟨_,rfl⟩;have HQ1:=hQ hn1;clear hn1;have HM1:=hQ (show n1+1≤1000000 from by have h:=HBD.out;rw [←HQ1.out];rw [HEQ.out] at h;(try simp only [xD,xG] at h ⊢);omega);have HL1:=hQ (show (ps).length+1≤1000000 from by have h:=HBD.out;rw [HEQ.out] at h;(try simp only [xD,xG] at h ⊢);omega)
 go_wp2_with (first
  | (go_at_call 168;((with_reducible refine (Qaw _ (Tr.mk 14 x ls []) ⟨14,x,vla,ls.length,vlc,vka,0,vkc⟩ 0 0 rfl _ HS0.out.tree (by decide)).mono ?_);rintro e w1 ⟨rfl,hb⟩;have HS1:=hQ (HS0.out.below hb);clear k0 k1 k2 k3;obtain ⟨k0,k1,k2,k3⟩:=HS1.out.c4;clear hb))
  | (at_builtin;refine wpList_append_lies _ (by rfl) _ _ 145 (by rfl) B 148 ip _ 2 32 Tryz.underlying145 hip pz0 pz1 pz2 rfl (by decide) _ n1 (Qam (ps)) (by rfl) ((HS1.out.alloc _).rowN HQ1.out) ⟨w1.heap.size,0,none⟩ 1 1 (Qam [(ldR ls 0,(⟨#[102,97,108,115,101]⟩:ByteArray))]) (by rfl) (by rfl) (xM (cs:=#[.string (ldR ls 0),.string ⟨#[102,97,108,115,101]⟩]) (t:=148) (fr:=(0,0)) (xH w1 _)) (Qat _) (by decide) (by unfold maxLen;have:=HM1.out;omega) (by have:=HM1.out;omega) (HS1.out.alloc _).le _ (by rfl) ?_;intro g cw2 w2 hown hgr hat hlt;have HS2:=hQ ((HS1.out.alloc _).appN HQ1.out (qs:=[(ldR ls 0,(⟨#[102,97,108,115,101]⟩:ByteArray))]) rfl hown hgr hat (xA _));clear k0 k1 k2 k3;obtain ⟨k0,k1,k2,k3⟩:=HS2.out.c4;clear hown hgr hat hlt))
 go_ret
 exact HS2.out.post (by rw [HEQ.out];first | done | (simp only [xT,xV,xU];done) | (simp only [xT,xV,xU];rfl) | (simp;done)) rfl
theorem Qw1 {N:Nat} (ih:PcC N) (B:Nat) (l:Value) (ps:List Qbl) (x:ByteArray) (ls:List ByteArray) (vla vka:Option Addr) (vlc vkc:Nat) (w:World) (_hN:SizeOf.sizeOf (Tr.mk 15 x ls [])≤N+1) (ht:TrAt (fun k=>k<B) w (Tr.mk 15 x ls []) ⟨15,x,vla,ls.length,vlc,vka,0,vkc⟩)
  (_hz:Qak (Tr.mk 15 x ls [])≤1000) (hl:PRow w B l ps) (hB:B≤w.heap.size) (hb:ps.length+(Qaf (Tr.mk 15 x ls [])).length≤1000000) :
  Calls Tryz.prog 144 #[l,.agg #[.int .i64 15,.string x,.slice vla ls.length vlc,.slice vka 0 vkc]] w (Qdy B ps (Qaf (Tr.mk 15 x ls [])) l w):=by
 have HIH:=hQ ih;have HBD:=hQ hb;have HEQ:=hQ (Qfq x ls 15 ⟨#[63]⟩ rfl);have HST:=hQ (PSt.start hl ht hB);obtain ⟨ip,hip,pz0,pz1,pz2⟩:=info_parts Qbf;clear ih ht hl hB hb 
 go_enter Tryz.func144,Tryz.ntmps144
 go_wp2_with fail
 generalize hW0:w.alloc (.cells #[.int .i64 15,.string x,.slice vla ls.length vlc,.slice vka 0 vkc] 25)=W0 at ⊢
 have HS0:=hQ (show PSt B l w (Tr.mk 15 x ls []) ⟨15,x,vla,ls.length,vlc,vka,0,vkc⟩ l ps W0 from hW0 ▸ HST.out);clear HST hW0;obtain ⟨k0,k1,k2,k3⟩:=HS0.out.c4;obtain ⟨n1,hn1⟩:∃ n,(ps).length=n:=⟨_,rfl⟩;have HQ1:=hQ hn1;clear hn1;have HM1:=hQ (show n1+1≤1000000 from by have h:=HBD.out;rw [←HQ1.out];rw [HEQ.out] at h;(try simp only [xD,xG] at h ⊢);omega);have HL1:=hQ (show (ps).length+1≤1000000 from by have h:=HBD.out;rw [HEQ.out] at h;(try simp only [xD,xG] at h ⊢);omega)
 go_wp2_with (first
  | (go_at_call 168;((with_reducible refine (Qaw _ (Tr.mk 15 x ls []) ⟨15,x,vla,ls.length,vlc,vka,0,vkc⟩ 0 0 rfl _ HS0.out.tree (by decide)).mono ?_);rintro e w1 ⟨rfl,hb⟩;have HS1:=hQ (HS0.out.below hb);clear k0 k1 k2 k3;obtain ⟨k0,k1,k2,k3⟩:=HS1.out.c4;clear hb))
  | (at_builtin;refine wpList_append_lies _ (by rfl) _ _ 145 (by rfl) B 148 ip _ 2 32 Tryz.underlying145 hip pz0 pz1 pz2 rfl (by decide) _ n1 (Qam (ps)) (by rfl) ((HS1.out.alloc _).rowN HQ1.out) ⟨w1.heap.size,0,none⟩ 1 1 (Qam [(ldR ls 0,(⟨#[63]⟩:ByteArray))]) (by rfl) (by rfl) (xM (cs:=#[.string (ldR ls 0),.string ⟨#[63]⟩]) (t:=148) (fr:=(0,0)) (xH w1 _)) (Qat _) (by decide) (by unfold maxLen;have:=HM1.out;omega) (by have:=HM1.out;omega) (HS1.out.alloc _).le _ (by rfl) ?_;intro g cw2 w2 hown hgr hat hlt;have HS2:=hQ ((HS1.out.alloc _).appN HQ1.out (qs:=[(ldR ls 0,(⟨#[63]⟩:ByteArray))]) rfl hown hgr hat (xA _));clear k0 k1 k2 k3;obtain ⟨k0,k1,k2,k3⟩:=HS2.out.c4;clear hown hgr hat hlt))
 go_ret
 exact HS2.out.post (by rw [HEQ.out];first | done | (simp only [xT,xV,xU];done) | (simp only [xT,xV,xU];rfl) | (simp;done)) rfl
theorem Zaz {N:Nat} (ih:PcC N) (B:Nat) (l:Value) (ps:List Qbl) (x:ByteArray) (ls:List ByteArray) (vla vka:Option Addr) (vlc vkc:Nat) (w:World) (_hN:SizeOf.sizeOf (Tr.mk 9 x ls [])≤N+1) (ht:TrAt (fun k=>k<B) w (Tr.mk 9 x ls []) ⟨9,x,vla,ls.length,vlc,vka,0,vkc⟩)
  (_hz:Qak (Tr.mk 9 x ls [])≤1000) (hl:PRow w B l ps) (hB:B≤w.heap.size) (hb:ps.length+(Qaf (Tr.mk 9 x ls [])).length≤1000000) :
  Calls Tryz.prog 144 #[l,.agg #[.int .i64 9,.string x,.slice vla ls.length vlc,.slice vka 0 vkc]] w (Qdy B ps (Qaf (Tr.mk 9 x ls [])) l w):=by
 have HIH:=hQ ih;have HBD:=hQ hb;have HEQ:=hQ (Qh0 x ls 9 (by decide));have HST:=hQ (PSt.start hl ht hB);obtain ⟨ip,hip,pz0,pz1,pz2⟩:=info_parts Qbf;clear ih ht hl hB hb 
 go_enter Tryz.func144,Tryz.ntmps144
 go_wp2_with fail
 generalize hW0:w.alloc (.cells #[.int .i64 9,.string x,.slice vla ls.length vlc,.slice vka 0 vkc] 25)=W0 at ⊢
 have HS0:=hQ (show PSt B l w (Tr.mk 9 x ls []) ⟨9,x,vla,ls.length,vlc,vka,0,vkc⟩ l ps W0 from hW0 ▸ HST.out);clear HST hW0;obtain ⟨k0,k1,k2,k3⟩:=HS0.out.c4;obtain ⟨n1,hn1⟩:∃ n,(ps).length=n:=⟨_,rfl⟩;have HQ1:=hQ hn1;clear hn1;have HM1:=hQ (show n1+1≤1000000 from by have h:=HBD.out;rw [←HQ1.out];rw [HEQ.out] at h;(try simp only [xD,xG] at h ⊢);omega);have HL1:=hQ (show (ps).length+1≤1000000 from by have h:=HBD.out;rw [HEQ.out] at h;(try simp only [xD,xG] at h ⊢);omega)
 go_region_held3 (fun w'=>w'.cell? ⟨w.heap.size,0,none⟩=some (.int .i64 9)∧w'.cell? ⟨w.heap.size,1,none⟩=some (.string x)∧w'.cell? ⟨w.heap.size,2,none⟩=some (.slice vla ls.length vlc)∧w'.cell? ⟨w.heap.size,3,none⟩=some (.slice vka 0 vkc)) (first | with_reducible exact ⟨k0,k1,k2,k3⟩ | go_keep) (first
  | (go_at_call 168;((with_reducible refine (Qaw _ (Tr.mk 9 x ls []) ⟨9,x,vla,ls.length,vlc,vka,0,vkc⟩ 0 0 rfl _ HS0.out.drew.tree (by decide)).mono ?_);rintro e w1 ⟨rfl,hb⟩;have HS1:=hQ (HS0.out.drew.below hb);clear k0 k1 k2 k3;obtain ⟨k0,k1,k2,k3⟩:=HS1.out.c4;clear hb))
  | (refine step_append_lies _ (by rfl) _ _ _ (by rfl) B 148 ip _ 2 32 Tryz.underlying145 hip pz0 pz1 pz2 rfl (by decide) _ n1 (Qam (ps)) (by rfl) ((HS1.out.alloc _).rowN HQ1.out) ⟨w1.heap.size,0,none⟩ 1 1 (Qam [(ldR ls 0,(x:ByteArray))]) (by rfl) (by rfl) (xM (cs:=#[.string (ldR ls 0),.string x]) (t:=148) (fr:=(0,0)) (xH w1 _)) (Qat _) (by decide) (by unfold maxLen;have:=HM1.out;omega) (by have:=HM1.out;omega) (HS1.out.alloc _).le _ (by rfl) ?_;intro g cw2 w2 hown hgr hat hlt;have HS2:=hQ ((HS1.out.alloc _).appN HQ1.out (qs:=[(ldR ls 0,(x:ByteArray))]) rfl hown hgr hat (xA _));clear k0 k1 k2 k3;obtain ⟨k0,k1,k2,k3⟩:=HS2.out.c4;clear hown hgr hat hlt)
  | fail)
 all_goals
  go_wp2
  go_ret
  exact HS2.out.post (by rw [HEQ.out];first | done | (simp only [xT,xV,xU];done) | (simp only [xT,xV,xU];rfl) | (simp;done)) rfl
theorem Qw2 {N:Nat} (ih:PcC N) (B:Nat) (l:Value) (ps:List Qbl) (x:ByteArray) (ls:List ByteArray) (vla vka:Option Addr) (vlc vkc:Nat) (w:World) (_hN:SizeOf.sizeOf (Tr.mk 10 x ls [])≤N+1) (ht:TrAt (fun k=>k<B) w (Tr.mk 10 x ls []) ⟨10,x,vla,ls.length,vlc,vka,0,vkc⟩)
  (_hz:Qak (Tr.mk 10 x ls [])≤1000) (hl:PRow w B l ps) (hB:B≤w.heap.size) (hb:ps.length+(Qaf (Tr.mk 10 x ls [])).length≤1000000) :
  Calls Tryz.prog 144 #[l,.agg #[.int .i64 10,.string x,.slice vla ls.length vlc,.slice vka 0 vkc]] w (Qdy B ps (Qaf (Tr.mk 10 x ls [])) l w):=by
 have HIH:=hQ ih;have HBD:=hQ hb;have HEQ:=hQ (Qh0 x ls 10 (by decide));have HST:=hQ (PSt.start hl ht hB);obtain ⟨ip,hip,pz0,pz1,pz2⟩:=info_parts Qbf;clear ih ht hl hB hb 
 go_enter Tryz.func144,Tryz.ntmps144
 go_wp2_with fail
 generalize hW0:w.alloc (.cells #[.int .i64 10,.string x,.slice vla ls.length vlc,.slice vka 0 vkc] 25)=W0 at ⊢
 have HS0:=hQ (show PSt B l w (Tr.mk 10 x ls []) ⟨10,x,vla,ls.length,vlc,vka,0,vkc⟩ l ps W0 from hW0 ▸ HST.out);clear HST hW0;obtain ⟨k0,k1,k2,k3⟩:=HS0.out.c4;obtain ⟨n1,hn1⟩:∃ n,(ps).length=n:=⟨_,rfl⟩;have HQ1:=hQ hn1;clear hn1;have HM1:=hQ (show n1+1≤1000000 from by have h:=HBD.out;rw [←HQ1.out];rw [HEQ.out] at h;(try simp only [xD,xG] at h ⊢);omega);have HL1:=hQ (show (ps).length+1≤1000000 from by have h:=HBD.out;rw [HEQ.out] at h;(try simp only [xD,xG] at h ⊢);omega)
 go_region_held3 (fun w'=>w'.cell? ⟨w.heap.size,0,none⟩=some (.int .i64 10)∧w'.cell? ⟨w.heap.size,1,none⟩=some (.string x)∧w'.cell? ⟨w.heap.size,2,none⟩=some (.slice vla ls.length vlc)∧w'.cell? ⟨w.heap.size,3,none⟩=some (.slice vka 0 vkc)) (first | with_reducible exact ⟨k0,k1,k2,k3⟩ | go_keep) (first
  | (go_at_call 168;((with_reducible refine (Qaw _ (Tr.mk 10 x ls []) ⟨10,x,vla,ls.length,vlc,vka,0,vkc⟩ 0 0 rfl _ HS0.out.drew.tree (by decide)).mono ?_);rintro e w1 ⟨rfl,hb⟩;have HS1:=hQ (HS0.out.drew.below hb);clear k0 k1 k2 k3;obtain ⟨k0,k1,k2,k3⟩:=HS1.out.c4;clear hb))
  | (refine step_append_lies _ (by rfl) _ _ _ (by rfl) B 148 ip _ 2 32 Tryz.underlying145 hip pz0 pz1 pz2 rfl (by decide) _ n1 (Qam (ps)) (by rfl) ((HS1.out.alloc _).rowN HQ1.out) ⟨w1.heap.size,0,none⟩ 1 1 (Qam [(ldR ls 0,(x:ByteArray))]) (by rfl) (by rfl) (xM (cs:=#[.string (ldR ls 0),.string x]) (t:=148) (fr:=(0,0)) (xH w1 _)) (Qat _) (by decide) (by unfold maxLen;have:=HM1.out;omega) (by have:=HM1.out;omega) (HS1.out.alloc _).le _ (by rfl) ?_;intro g cw2 w2 hown hgr hat hlt;have HS2:=hQ ((HS1.out.alloc _).appN HQ1.out (qs:=[(ldR ls 0,(x:ByteArray))]) rfl hown hgr hat (xA _));clear k0 k1 k2 k3;obtain ⟨k0,k1,k2,k3⟩:=HS2.out.c4;clear hown hgr hat hlt)
  | fail)
 all_goals
  go_wp2
  go_ret
  exact HS2.out.post (by rw [HEQ.out];first | done | (simp only [xT,xV,xU];done) | (simp only [xT,xV,xU];rfl) | (simp;done)) rfl
theorem Qw3 {N:Nat} (ih:PcC N) (B:Nat) (l:Value) (ps:List Qbl) (x:ByteArray) (ls:List ByteArray) (vla vka:Option Addr) (vlc vkc:Nat) (w:World) (_hN:SizeOf.sizeOf (Tr.mk 11 x ls [])≤N+1) (ht:TrAt (fun k=>k<B) w (Tr.mk 11 x ls []) ⟨11,x,vla,ls.length,vlc,vka,0,vkc⟩)
  (_hz:Qak (Tr.mk 11 x ls [])≤1000) (hl:PRow w B l ps) (hB:B≤w.heap.size) (hb:ps.length+(Qaf (Tr.mk 11 x ls [])).length≤1000000) :
  Calls Tryz.prog 144 #[l,.agg #[.int .i64 11,.string x,.slice vla ls.length vlc,.slice vka 0 vkc]] w (Qdy B ps (Qaf (Tr.mk 11 x ls [])) l w):=by
 have HIH:=hQ ih;have HBD:=hQ hb;have HEQ:=hQ (Qh0 x ls 11 (by decide));have HST:=hQ (PSt.start hl ht hB);obtain ⟨ip,hip,pz0,pz1,pz2⟩:=info_parts Qbf;clear ih ht hl hB hb 
 go_enter Tryz.func144,Tryz.ntmps144
 go_wp2_with fail
 generalize hW0:w.alloc (.cells #[.int .i64 11,.string x,.slice vla ls.length vlc,.slice vka 0 vkc] 25)=W0 at ⊢
 have HS0:=hQ (show PSt B l w (Tr.mk 11 x ls []) ⟨11,x,vla,ls.length,vlc,vka,0,vkc⟩ l ps W0 from hW0 ▸ HST.out);clear HST hW0;obtain ⟨k0,k1,k2,k3⟩:=HS0.out.c4;obtain ⟨n1,hn1⟩:∃ n,(ps).length=n:=⟨_,rfl⟩;have HQ1:=hQ hn1;clear hn1;have HM1:=hQ (show n1+1≤1000000 from by have h:=HBD.out;rw [←HQ1.out];rw [HEQ.out] at h;(try simp only [xD,xG] at h ⊢);omega);have HL1:=hQ (show (ps).length+1≤1000000 from by have h:=HBD.out;rw [HEQ.out] at h;(try simp only [xD,xG] at h ⊢);omega)
 go_region_held3 (fun w'=>w'.cell? ⟨w.heap.size,0,none⟩=some (.int .i64 11)∧w'.cell? ⟨w.heap.size,1,none⟩=some (.string x)∧w'.cell? ⟨w.heap.size,2,none⟩=some (.slice vla ls.length vlc)∧w'.cell? ⟨w.heap.size,3,none⟩=some (.slice vka 0 vkc)) (first | with_reducible exact ⟨k0,k1,k2,k3⟩ | go_keep) (first
  | (go_at_call 168;((with_reducible refine (Qaw _ (Tr.mk 11 x ls []) ⟨11,x,vla,ls.length,vlc,vka,0,vkc⟩ 0 0 rfl _ HS0.out.drew.tree (by decide)).mono ?_);rintro e w1 ⟨rfl,hb⟩;have HS1:=hQ (HS0.out.drew.below hb);clear k0 k1 k2 k3;obtain ⟨k0,k1,k2,k3⟩:=HS1.out.c4;clear hb))
  | (refine step_append_lies _ (by rfl) _ _ _ (by rfl) B 148 ip _ 2 32 Tryz.underlying145 hip pz0 pz1 pz2 rfl (by decide) _ n1 (Qam (ps)) (by rfl) ((HS1.out.alloc _).rowN HQ1.out) ⟨w1.heap.size,0,none⟩ 1 1 (Qam [(ldR ls 0,(x:ByteArray))]) (by rfl) (by rfl) (xM (cs:=#[.string (ldR ls 0),.string x]) (t:=148) (fr:=(0,0)) (xH w1 _)) (Qat _) (by decide) (by unfold maxLen;have:=HM1.out;omega) (by have:=HM1.out;omega) (HS1.out.alloc _).le _ (by rfl) ?_;intro g cw2 w2 hown hgr hat hlt;have HS2:=hQ ((HS1.out.alloc _).appN HQ1.out (qs:=[(ldR ls 0,(x:ByteArray))]) rfl hown hgr hat (xA _));clear k0 k1 k2 k3;obtain ⟨k0,k1,k2,k3⟩:=HS2.out.c4;clear hown hgr hat hlt)
  | fail)
 all_goals
  go_wp2
  go_ret
  exact HS2.out.post (by rw [HEQ.out];first | done | (simp only [xT,xV,xU];done) | (simp only [xT,xV,xU];rfl) | (simp;done)) rfl
theorem Qw4 {N:Nat} (ih:PcC N) (B:Nat) (l:Value) (ps:List Qbl) (x:ByteArray) (ls:List ByteArray) (vla vka:Option Addr) (vlc vkc:Nat) (w:World) (_hN:SizeOf.sizeOf (Tr.mk 12 x ls [])≤N+1) (ht:TrAt (fun k=>k<B) w (Tr.mk 12 x ls []) ⟨12,x,vla,ls.length,vlc,vka,0,vkc⟩)
  (_hz:Qak (Tr.mk 12 x ls [])≤1000) (hl:PRow w B l ps) (hB:B≤w.heap.size) (hb:ps.length+(Qaf (Tr.mk 12 x ls [])).length≤1000000) :
  Calls Tryz.prog 144 #[l,.agg #[.int .i64 12,.string x,.slice vla ls.length vlc,.slice vka 0 vkc]] w (Qdy B ps (Qaf (Tr.mk 12 x ls [])) l w):=by
 have HIH:=hQ ih;have HBD:=hQ hb;have HEQ:=hQ (Qh0 x ls 12 (by decide));have HST:=hQ (PSt.start hl ht hB);obtain ⟨ip,hip,pz0,pz1,pz2⟩:=info_parts Qbf;clear ih ht hl hB hb 
 go_enter Tryz.func144,Tryz.ntmps144
 go_wp2_with fail
 generalize hW0:w.alloc (.cells #[.int .i64 12,.string x,.slice vla ls.length vlc,.slice vka 0 vkc] 25)=W0 at ⊢
 have HS0:=hQ (show PSt B l w (Tr.mk 12 x ls []) ⟨12,x,vla,ls.length,vlc,vka,0,vkc⟩ l ps W0 from hW0 ▸ HST.out);clear HST hW0;obtain ⟨k0,k1,k2,k3⟩:=HS0.out.c4;obtain ⟨n1,hn1⟩:∃ n,(ps).length=n:=⟨_,rfl⟩;have HQ1:=hQ hn1;clear hn1;have HM1:=hQ (show n1+1≤1000000 from by have h:=HBD.out;rw [←HQ1.out];rw [HEQ.out] at h;(try simp only [xD,xG] at h ⊢);omega);have HL1:=hQ (show (ps).length+1≤1000000 from by have h:=HBD.out;rw [HEQ.out] at h;(try simp only [xD,xG] at h ⊢);omega)
 go_region_held3 (fun w'=>w'.cell? ⟨w.heap.size,0,none⟩=some (.int .i64 12)∧w'.cell? ⟨w.heap.size,1,none⟩=some (.string x)∧w'.cell? ⟨w.heap.size,2,none⟩=some (.slice vla ls.length vlc)∧w'.cell? ⟨w.heap.size,3,none⟩=some (.slice vka 0 vkc)) (first | with_reducible exact ⟨k0,k1,k2,k3⟩ | go_keep) (first
  | (go_at_call 168;((with_reducible refine (Qaw _ (Tr.mk 12 x ls []) ⟨12,x,vla,ls.length,vlc,vka,0,vkc⟩ 0 0 rfl _ HS0.out.drew.tree (by decide)).mono ?_);rintro e w1 ⟨rfl,hb⟩;have HS1:=hQ (HS0.out.drew.below hb);clear k0 k1 k2 k3;obtain ⟨k0,k1,k2,k3⟩:=HS1.out.c4;clear hb))
  | (refine step_append_lies _ (by rfl) _ _ _ (by rfl) B 148 ip _ 2 32 Tryz.underlying145 hip pz0 pz1 pz2 rfl (by decide) _ n1 (Qam (ps)) (by rfl) ((HS1.out.alloc _).rowN HQ1.out) ⟨w1.heap.size,0,none⟩ 1 1 (Qam [(ldR ls 0,(x:ByteArray))]) (by rfl) (by rfl) (xM (cs:=#[.string (ldR ls 0),.string x]) (t:=148) (fr:=(0,0)) (xH w1 _)) (Qat _) (by decide) (by unfold maxLen;have:=HM1.out;omega) (by have:=HM1.out;omega) (HS1.out.alloc _).le _ (by rfl) ?_;intro g cw2 w2 hown hgr hat hlt;have HS2:=hQ ((HS1.out.alloc _).appN HQ1.out (qs:=[(ldR ls 0,(x:ByteArray))]) rfl hown hgr hat (xA _));clear k0 k1 k2 k3;obtain ⟨k0,k1,k2,k3⟩:=HS2.out.c4;clear hown hgr hat hlt)
  | fail)
 all_goals
  go_wp2
  go_ret
  exact HS2.out.post (by rw [HEQ.out];first | done | (simp only [xT,xV,xU];done) | (simp only [xT,xV,xU];rfl) | (simp;done)) rfl
end Go.Proofs.YtfjpemdejoejbaaGreat
