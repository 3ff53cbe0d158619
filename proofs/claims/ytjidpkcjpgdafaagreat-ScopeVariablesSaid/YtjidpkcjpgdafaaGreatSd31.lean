/- Part 31 -/
import Derived.Test.YtjidpkcjpgdafaaGreatSd30
import Derived.IntWalk
set_option maxRecDepth 100000
set_option maxHeartbeats 4000000
namespace Go.Proofs.YtjidpkcjpgdafaaGreat
open Go.RowKit
theorem Qz0 {N:Nat} (ih:PcC N) (B:Nat) (l:Value) (ps:List Qbi) (x:ByteArray) (ls:List ByteArray) (ks:List Tr) (vla vka:Option Addr) (vlc vkc:Nat) (w:World) (hN:SizeOf.sizeOf (Tr.mk 1 x ls ks)≤N+1) (ht:TrAt (fun k=>k<B) w (Tr.mk 1 x ls ks) ⟨1,x,vla,ls.length,vlc,vka,ks.length,vkc⟩)
  (hsh:∀ (j:Nat) (k:Tr),ks[j]? = some k→Qao k=true) (hz:Qak (Tr.mk 1 x ls ks)≤1000) (hl:PRow w B l ps) (hB:B≤w.heap.size) (hb:ps.length+(Qaf (Tr.mk 1 x ls ks)).length≤1000000) :
  Calls Tryz.prog 214 #[l,.agg #[.int .i64 1,.string x,.slice vla ls.length vlc,.slice vka ks.length vkc]] w (Qdy B ps (Qaf (Tr.mk 1 x ls ks)) l w):=by
 have HIH:=hQ ih
 have HBD:=hQ hb
 have HEQ:=hQ (Zc9 x ls ks)
 have HSH:=hQ hsh
 have HNN:=hQ hN
 have HZZ:=hQ hz
 have HST:=hQ (PSt.start hl ht hB)
 obtain ⟨ip,hip,pz0,pz1,pz2⟩:=info_parts Qbd
 clear ih hN ht hz hl hB hb hsh
 go_enter Tryz.func214,Tryz.ntmps214
 go_wp2_with fail
 generalize hW0:w.alloc (.cells #[.int .i64 1,.string x,.slice vla ls.length vlc,.slice vka ks.length vkc] 29)=W0 at ⊢
 have HS0:=hQ (show PSt B l w (Tr.mk 1 x ls ks) ⟨1,x,vla,ls.length,vlc,vka,ks.length,vkc⟩ l ps W0 from hW0 ▸ HST.out)
 clear HST hW0
 obtain ⟨k0,k1,k2,k3⟩:=HS0.out.c4
 obtain ⟨n1,hn1⟩:∃ n,(ps).length=n:=⟨_,rfl⟩
 have HQ1:=hQ hn1
 clear hn1
 have HM1:=hQ (show n1+2≤1000000 from by have h:=HBD.out;rw [←HQ1.out];rw [HEQ.out] at h;(try simp only [xB,xD,xG] at h ⊢);omega)
 have HL1:=hQ (show (ps).length+2≤1000000 from by have h:=HBD.out;rw [HEQ.out] at h;(try simp only [xB,xD,xG] at h ⊢);omega)
 go_region_held3 (fun w'=>w'.cell? ⟨w.heap.size,0,none⟩=some (.int .i64 1)∧w'.cell? ⟨w.heap.size,1,none⟩=some (.string x)∧w'.cell? ⟨w.heap.size,2,none⟩=some (.slice vla ls.length vlc)∧w'.cell? ⟨w.heap.size,3,none⟩=some (.slice vka ks.length vkc)) (first | with_reducible exact ⟨k0,k1,k2,k3⟩ | go_keep) (first
  | (go_at_call 239;((with_reducible refine (Qaw _ (Tr.mk 1 x ls ks) ⟨1,x,vla,ls.length,vlc,vka,ks.length,vkc⟩ 0 0 rfl _ HS0.out.drew.tree (by decide)).mono ?_);rintro e w1 ⟨rfl,hb⟩;have HS1:=hQ (HS0.out.drew.below hb);clear k0 k1 k2 k3;obtain ⟨k0,k1,k2,k3⟩:=HS1.out.c4;clear hb))
  | (go_at_call 239;((with_reducible refine (Qaw _ (Tr.mk 1 x ls ks) ⟨1,x,vla,ls.length,vlc,vka,ks.length,vkc⟩ 1 1 rfl _ HS1.out.tree (by decide)).mono ?_);rintro e w2 ⟨rfl,hb⟩;have HS2:=hQ (HS1.out.below hb);clear k0 k1 k2 k3;obtain ⟨k0,k1,k2,k3⟩:=HS2.out.c4;clear hb))
  | (refine step_append_lies _ (by rfl) _ _ _ (by rfl) B 211 ip _ 2 32 Tryz.underlying208 hip pz0 pz1 pz2 rfl (by decide) _ n1 (Qan (ps)) (by rfl) ((HS2.out.alloc _).rowN HQ1.out) ⟨w2.heap.size,0,none⟩ 2 2 (Qan [(ldR ls 0,(⟨#[109,111,100,117,108,101]⟩:ByteArray)),(ldR ls 1,(x:ByteArray))]) (by rfl) (by rfl) (xM (cs:=#[.string (ldR ls 0),.string ⟨#[109,111,100,117,108,101]⟩,.string (ldR ls 1),.string x]) (t:=211) (fr:=(0,0)) (xH w2 _)) (Qas _) (by decide) (by unfold maxLen;have:=HM1.out;omega) (by have:=HM1.out;omega) (HS2.out.alloc _).le _ (by rfl) ?_;intro g cw3 w3 hown hgr hat hlt;have HS3:=hQ ((HS2.out.alloc _).appN HQ1.out (qs:=[(ldR ls 0,(⟨#[109,111,100,117,108,101]⟩:ByteArray)),(ldR ls 1,(x:ByteArray))]) rfl hown hgr hat (xA _));clear k0 k1 k2 k3;obtain ⟨k0,k1,k2,k3⟩:=HS3.out.c4;clear hown hgr hat hlt)
  | fail)
 all_goals
  go_wp2_with fail
  clear k0 k1 k2 k3
  go_loopw [0,6] (fun l' i wr=>ModAt B l w (Tr.mk 1 x ls ks) ⟨1,x,vla,ls.length,vlc,vka,ks.length,vkc⟩ (ps ++ [(ldR ls 0,(⟨#[109,111,100,117,108,101]⟩:ByteArray)),(ldR ls 1,(x:ByteArray))]) l' i wr) (fun _ i _=>ks.length-(intOf i).toNat)
  case atStart=>exact ⟨0,rfl,xZ _,by rw [show ((Tr.mk 1 x ls ks)).kids.take 0 = [] from rfl];simp only [List.map_nil,List.flatten_nil,List.append_nil];exact HS3.out⟩
  case round =>
   obtain ⟨j,rfl,hj,hst⟩:=hrel
   have HS6:=hQ hst
   have HJ:=hQ hj
   obtain ⟨k0,k1,k2,k3⟩:=HS6.out.c4
   clear hst
   by_cases hlt:j<ks.length
   ·obtain ⟨a,ha⟩:∃ a,ks[j]? = some a:=⟨_,xF hlt⟩
    obtain ⟨xb,xo,hka⟩:∃ b off,vka=some ⟨b,off,none⟩:=HS6.out.tree.addr.resolve_left (by show ks.length≠0;omega)
    subst hka
    obtain ⟨u,c0,c1,c2,c3,hu⟩:=HS6.out.tree.at rfl (show (Tr.mk 1 x ls ks).kids[j]? = some a from ha)
    have HU:=hQ hu
    have HNA:=hQ (show SizeOf.sizeOf a≤N from by have:=Qay (t:=Tr.mk 1 x ls ks) (j:=j) (k:=a) ha;have:=HNN.out;omega)
    have HZA:=hQ (show Qak a≤1000 from by have:=Qbc (t:=Tr.mk 1 x ls ks) (j:=j) (k:=a) ha;have:=HZZ.out;omega)
    have HSA:=hQ (HSH.out j a ha)
    have HTK:=hQ (show (List.map Qaf (List.take (j+1) (Tr.mk 1 x ls ks).kids)).flatten=(List.map Qaf (List.take j (Tr.mk 1 x ls ks).kids)).flatten ++ Qaf a from by rw [Qe7 (show (Tr.mk 1 x ls ks).kids[j]? = some a from ha),List.map_append,List.flatten_append,List.map_cons,List.map_nil,List.flatten_cons,List.flatten_nil,List.append_nil])
    have HBL:=hQ (show (ps ++ [(ldR ls 0,(⟨#[109,111,100,117,108,101]⟩:ByteArray)),(ldR ls 1,(x:ByteArray))] ++ (List.map Qaf (List.take j (Tr.mk 1 x ls ks).kids)).flatten).length+(Qaf a).length≤1000000 from by
     have h:=HBD.out
     rw [HEQ.out] at h
     have h2:(List.map Qaf (List.take (j+1) ks)).flatten.length≤(List.map Qaf ks).flatten.length:=by
      conv=>rhs;rw [←List.take_append_drop (j+1) ks,List.map_append,List.flatten_append,xB]
      omega
     have h3:=congrArg List.length HTK.out
     have h4:(List.map Qaf (List.take (j+1) (Tr.mk 1 x ls ks).kids)).flatten.length=(List.map Qaf (List.take (j+1) ks)).flatten.length:=rfl
     simp only [xB,xD,xG] at h h3 ⊢
     omega)
    have hkn:(j:Int)+1≤1000:=by have:=Qa5 ks;have h1:=Qa0 (Tr.mk 1 x ls ks);have h2:=HZZ.out;rw [h1] at h2;have h3:Qap (Tr.mk 1 x ls ks).kids=Qap ks:=rfl;omega
    have hj0:(0:Int)≤(j:Int):=by omega
    have hj1:(j:Int)<(ks.length:Int):=by omega
    clear ha hu
    go_wp2_with (go_at_call 214;refine (HIH.out B _ _ a u _ HNA.out HU.out HSA.out HZA.out HS6.out.row HS6.out.le HBL.out).mono ?_;rintro e w7 ⟨l7,rfl,hr,hg,ho⟩;have HS7:=hQ (HS6.out.call hr hg ho);clear hr hg ho k0 k1 k2 k3 c0 c1 c2 c3)
    go_roundw
    case measure=>simp [intOf];omega
    case rel=>exact ⟨j+1,by go_num,by show j+1≤ks.length;omega,by rw [HTK.out,←xT];exact HS7.out⟩
   ·have hje:j=ks.length:=by have:=HJ.out;have h:(Tr.mk 1 x ls ks).kids.length=ks.length:=rfl;omega
    subst hje
    have HS8:=hQ (show PSt B l w (Tr.mk 1 x ls ks) ⟨1,x,vla,ls.length,vlc,vka,ks.length,vkc⟩ u0 (ps ++ [(ldR ls 0,(⟨#[109,111,100,117,108,101]⟩:ByteArray)),(ldR ls 1,(x:ByteArray))] ++ (List.map Qaf ks).flatten) wr from by have h:=HS6.out;rw [show List.take ks.length (Tr.mk 1 x ls ks).kids=ks from List.take_length] at h;exact h)
    obtain ⟨n2,hn2⟩:∃ n,(ps ++ [(ldR ls 0,(⟨#[109,111,100,117,108,101]⟩:ByteArray)),(ldR ls 1,(x:ByteArray))] ++ (List.map Qaf ks).flatten).length=n:=⟨_,rfl⟩
    have HQ2:=hQ hn2
    clear hn2
    have HM2:=hQ (show n2+1≤1000000 from by have h:=HBD.out;rw [←HQ2.out];rw [HEQ.out] at h;(try simp only [xB,xD,xG] at h ⊢);omega)
    have HL2:=hQ (show (ps ++ [(ldR ls 0,(⟨#[109,111,100,117,108,101]⟩:ByteArray)),(ldR ls 1,(x:ByteArray))] ++ (List.map Qaf ks).flatten).length+1≤1000000 from by have h:=HBD.out;rw [HEQ.out] at h;(try simp only [xB,xD,xG] at h ⊢);omega)
    go_wp2_with (first
     | (go_at_call 239;((with_reducible refine (Qaw _ (Tr.mk 1 x ls ks) ⟨1,x,vla,ls.length,vlc,vka,ks.length,vkc⟩ 2 2 rfl _ HS8.out.tree (by decide)).mono ?_);rintro e w9 ⟨rfl,hb⟩;have HS9:=hQ (HS8.out.below hb);clear k0 k1 k2 k3;obtain ⟨k0,k1,k2,k3⟩:=HS9.out.c4;clear hb))
     | (at_builtin;refine wpList_append_lies _ (by rfl) _ _ 208 (by rfl) B 211 ip _ 2 32 Tryz.underlying208 hip pz0 pz1 pz2 rfl (by decide) _ n2 (Qan (ps ++ [(ldR ls 0,(⟨#[109,111,100,117,108,101]⟩:ByteArray)),(ldR ls 1,(x:ByteArray))] ++ (List.map Qaf ks).flatten)) (by rfl) ((HS9.out.alloc _).rowN HQ2.out) ⟨w9.heap.size,0,none⟩ 1 1 (Qan [(ldR ls 2,(⟨#[]⟩:ByteArray))]) (by rfl) (by rfl) (xM (cs:=#[.string (ldR ls 2),.string ⟨#[]⟩]) (t:=211) (fr:=(0,0)) (xH w9 _)) (Qas _) (by decide) (by unfold maxLen;have:=HM2.out;omega) (by have:=HM2.out;omega) (HS9.out.alloc _).le _ (by rfl) ?_;intro g cw10 w10 hown hgr hat hlt;have HS10:=hQ ((HS9.out.alloc _).appN HQ2.out (qs:=[(ldR ls 2,(⟨#[]⟩:ByteArray))]) rfl hown hgr hat (xA _));clear k0 k1 k2 k3;obtain ⟨k0,k1,k2,k3⟩:=HS10.out.c4;clear hown hgr hat hlt))
    go_ret
    exact HS10.out.post (by rw [HEQ.out];first | done | (simp only [xT,xV,xU];done) | (simp only [xT,xV,xU];rfl) | (simp;done)) rfl
theorem Qz1 {N:Nat} (ih:PcC N) (B:Nat) (l:Value) (ps:List Qbi) (x:ByteArray) (ls:List ByteArray) (qs:List Tr) (a b:Tr) (vla vka:Option Addr) (vlc vkc:Nat) (w:World) (hN:SizeOf.sizeOf (Tr.mk 2 x ls (qs ++ [a,b]))≤N+1) (ht:TrAt (fun k=>k<B) w (Tr.mk 2 x ls (qs ++ [a,b])) ⟨2,x,vla,ls.length,vlc,vka,(qs.length+2),vkc⟩)
  (hsa:Qao a=true) (hsb:Qao b=true) (hsq:∀ k∈qs,Qao k=true) (hz:Qak (Tr.mk 2 x ls (qs ++ [a,b]))≤1000) (hl:PRow w B l ps) (hB:B≤w.heap.size) (hb:ps.length+(Qaf (Tr.mk 2 x ls (qs ++ [a,b]))).length≤1000000) :
  Calls Tryz.prog 214 #[l,.agg #[.int .i64 2,.string x,.slice vla ls.length vlc,.slice vka (qs.length+2) vkc]] w (Qdy B ps (Qaf (Tr.mk 2 x ls (qs ++ [a,b]))) l w):=by
 obtain ⟨xb,xo,hka⟩:∃ b off,vka=some ⟨b,off,none⟩:=ht.addr.resolve_left (by show (qs ++ [a,b]).length≠0;simp)
 subst hka
 have HIH:=hQ ih
 have HBD:=hQ hb
 have HEQ:=hQ (show Qaf (Tr.mk 2 x ls (qs ++ [a,b])) = [(ldR ls 0,⟨#[100,101,102]⟩),(ldR ls 1,x),(ldR ls 2,⟨#[40]⟩)] ++ (Qf0 ls 6 (List.take qs.length (qs ++ [a,b])) ++ ([(ldR ls 3,⟨#[41]⟩),(ldR ls 4,⟨#[58]⟩)] ++ (Qaf a ++ ([(ldR ls 5,⟨#[61]⟩)] ++ Qaf b)))) from by rw [List.take_left];exact Zda x ls qs a b)
 have HNa:=hQ (show SizeOf.sizeOf a≤N from by have:=Qay (t:=Tr.mk 2 x ls (qs ++ [a,b])) (j:=qs.length) (k:=a) (by show (qs ++ [a,b])[qs.length]? = some a;simp);omega)
 have HZa:=hQ (show Qak a≤1000 from by have:=Qbc (t:=Tr.mk 2 x ls (qs ++ [a,b])) (j:=qs.length) (k:=a) (by show (qs ++ [a,b])[qs.length]? = some a;simp);omega)
 have HSHa:=hQ hsa
 have HNb:=hQ (show SizeOf.sizeOf b≤N from by have:=Qay (t:=Tr.mk 2 x ls (qs ++ [a,b])) (j:=(qs.length+1)) (k:=b) (by show (qs ++ [a,b])[(qs.length+1)]? = some b;simp);omega)
 have HZb:=hQ (show Qak b≤1000 from by have:=Qbc (t:=Tr.mk 2 x ls (qs ++ [a,b])) (j:=(qs.length+1)) (k:=b) (by show (qs ++ [a,b])[(qs.length+1)]? = some b;simp);omega)
 have HSHb:=hQ hsb
 have HXB:=hQ (show xb<B from by obtain ⟨_,b1,o1,hA,hS,_⟩:=ht.kid (j:=qs.length) (k:=a) (by show (qs ++ [a,b])[qs.length]? = some a;simp);injection hA with e1;injection e1 with e1 _ _;rw [e1];exact hS)
 have HNN:=hQ hN
 have HZZ:=hQ hz
 have HSH:=hQ (show ∀ (j:Nat) (k:Tr),(Tr.mk 2 x ls (qs ++ [a,b])).kids[j]? = some k→Qao k=true from fun j k hk=>by
  have h:=yA (show (qs ++ [a,b])[j]? = some k from hk)
  simp only [List.mem_append,List.mem_cons,List.not_mem_nil,or_false] at h
  rcases h with h | h | h
  ·exact hsq k h
  ·rw [h];exact hsa
  ·rw [h];exact hsb)
 have HMX:=hQ (show (qs.length:Int)+2≤1000 from by have h:=Qa5 (qs ++ [a,b]);have h1:=Qa0 (Tr.mk 2 x ls (qs ++ [a,b]));rw [h1] at hz;have h3:Qap (Tr.mk 2 x ls (qs ++ [a,b])).kids=Qap (qs ++ [a,b]):=rfl;simp only [xB,xD,xG] at h;omega)
 have hmx:=HMX.out
 have hm0:(0:Int)≤(qs.length:Int):=by omega
 have HST:=hQ (PSt.start hl ht hB)
 obtain ⟨ip,hip,pz0,pz1,pz2⟩:=info_parts Qbd
 clear ih hN ht hz hl hB hb hsa hsb hsq
 go_enter Tryz.func214,Tryz.ntmps214
 go_wp2_with fail
 generalize hW0:w.alloc (.cells #[.int .i64 2,.string x,.slice vla ls.length vlc,.slice (some ⟨xb,xo,none⟩) (qs.length+2) vkc] 29)=W0 at ⊢
 have HS0:=hQ (show PSt B l w (Tr.mk 2 x ls (qs ++ [a,b])) ⟨2,x,vla,ls.length,vlc,some ⟨xb,xo,none⟩,qs.length+2,vkc⟩ l ps W0 from hW0 ▸ HST.out)
 clear HST hW0
 obtain ⟨k0,k1,k2,k3⟩:=HS0.out.c4
 obtain ⟨n1,hn1⟩:∃ n,(ps).length=n:=⟨_,rfl⟩
 have HQ1:=hQ hn1
 clear hn1
 have HM1:=hQ (show n1+(3+(Qf0 ls 6 (List.take qs.length (qs ++ [a,b]))).length)≤1000000 from by have h:=HBD.out;rw [←HQ1.out];rw [HEQ.out] at h;(try simp only [xB,xD,xG] at h ⊢);omega)
 have HL1:=hQ (show (ps).length+(3+(Qf0 ls 6 (List.take qs.length (qs ++ [a,b]))).length)≤1000000 from by have h:=HBD.out;rw [HEQ.out] at h;(try simp only [xB,xD,xG] at h ⊢);omega)
 go_region_held3 (fun w'=>w'.cell? ⟨w.heap.size,0,none⟩=some (.int .i64 2)∧w'.cell? ⟨w.heap.size,1,none⟩=some (.string x)∧w'.cell? ⟨w.heap.size,2,none⟩=some (.slice vla ls.length vlc)∧w'.cell? ⟨w.heap.size,3,none⟩=some (.slice (some ⟨xb,xo,none⟩) (qs.length+2) vkc)) (first | with_reducible exact ⟨k0,k1,k2,k3⟩ | go_keep) (first
  | (go_at_call 239;((with_reducible refine (Qaw _ (Tr.mk 2 x ls (qs ++ [a,b])) ⟨2,x,vla,ls.length,vlc,some ⟨xb,xo,none⟩,qs.length+2,vkc⟩ 0 0 rfl _ HS0.out.drew.tree (by decide)).mono ?_);rintro e w1 ⟨rfl,hb⟩;have HS1:=hQ (HS0.out.drew.below hb);clear k0 k1 k2 k3;obtain ⟨k0,k1,k2,k3⟩:=HS1.out.c4;clear hb))
  | (go_at_call 239;((with_reducible refine (Qaw _ (Tr.mk 2 x ls (qs ++ [a,b])) ⟨2,x,vla,ls.length,vlc,some ⟨xb,xo,none⟩,qs.length+2,vkc⟩ 1 1 rfl _ HS1.out.tree (by decide)).mono ?_);rintro e w2 ⟨rfl,hb⟩;have HS2:=hQ (HS1.out.below hb);clear k0 k1 k2 k3;obtain ⟨k0,k1,k2,k3⟩:=HS2.out.c4;clear hb))
  | (go_at_call 239;((with_reducible refine (Qaw _ (Tr.mk 2 x ls (qs ++ [a,b])) ⟨2,x,vla,ls.length,vlc,some ⟨xb,xo,none⟩,qs.length+2,vkc⟩ 2 2 rfl _ HS2.out.tree (by decide)).mono ?_);rintro e w3 ⟨rfl,hb⟩;have HS3:=hQ (HS2.out.below hb);clear k0 k1 k2 k3;obtain ⟨k0,k1,k2,k3⟩:=HS3.out.c4;clear hb))
  | (refine step_append_lies _ (by rfl) _ _ _ (by rfl) B 211 ip _ 2 32 Tryz.underlying208 hip pz0 pz1 pz2 rfl (by decide) _ n1 (Qan (ps)) (by rfl) ((HS3.out.alloc _).rowN HQ1.out) ⟨w3.heap.size,0,none⟩ 3 3 (Qan [(ldR ls 0,(⟨#[100,101,102]⟩:ByteArray)),(ldR ls 1,(x:ByteArray)),(ldR ls 2,(⟨#[40]⟩:ByteArray))]) (by rfl) (by rfl) (xM (cs:=#[.string (ldR ls 0),.string ⟨#[100,101,102]⟩,.string (ldR ls 1),.string x,.string (ldR ls 2),.string ⟨#[40]⟩]) (t:=211) (fr:=(0,0)) (xH w3 _)) (Qas _) (by decide) (by unfold maxLen;have:=HM1.out;omega) (by have:=HM1.out;omega) (HS3.out.alloc _).le _ (by rfl) ?_;intro g cw4 w4 hown hgr hat hlt;have HS4:=hQ ((HS3.out.alloc _).appN HQ1.out (qs:=[(ldR ls 0,(⟨#[100,101,102]⟩:ByteArray)),(ldR ls 1,(x:ByteArray)),(ldR ls 2,(⟨#[40]⟩:ByteArray))]) rfl hown hgr hat (xA _));clear k0 k1 k2 k3;obtain ⟨k0,k1,k2,k3⟩:=HS4.out.c4;clear hown hgr hat hlt)
  | fail)
 all_goals
  obtain ⟨n2,hn2⟩:∃ n,(ps ++ [(ldR ls 0,(⟨#[100,101,102]⟩:ByteArray)),(ldR ls 1,(x:ByteArray)),(ldR ls 2,(⟨#[40]⟩:ByteArray))]).length=n:=⟨_,rfl⟩
  have HQ2:=hQ hn2
  clear hn2
  have HM2:=hQ (show n2+(Qf0 ls 6 (List.take qs.length (qs ++ [a,b]))).length≤1000000 from by have h:=HBD.out;rw [←HQ2.out];rw [HEQ.out] at h;(try simp only [xB,xD,xG] at h ⊢);omega)
  have HL2:=hQ (show (ps ++ [(ldR ls 0,(⟨#[100,101,102]⟩:ByteArray)),(ldR ls 1,(x:ByteArray)),(ldR ls 2,(⟨#[40]⟩:ByteArray))]).length+(Qf0 ls 6 (List.take qs.length (qs ++ [a,b]))).length≤1000000 from by have h:=HBD.out;rw [HEQ.out] at h;(try simp only [xB,xD,xG] at h ⊢);omega)
  go_wp2_with (go_at_call 240;refine (Qpi HIH.out B _ (ps ++ [(ldR ls 0,(⟨#[100,101,102]⟩:ByteArray)),(ldR ls 1,(x:ByteArray)),(ldR ls 2,(⟨#[40]⟩:ByteArray))]) (Tr.mk 2 x ls (qs ++ [a,b])) ⟨2,x,vla,ls.length,vlc,some ⟨xb,xo,none⟩,qs.length+2,vkc⟩ qs.length 6 _ HNN.out HS4.out.tree HZZ.out (by show qs.length≤(qs ++ [a,b]).length;simp) (by decide) HSH.out HS4.out.row HS4.out.le HL2.out).mono ?_;rintro e w5 ⟨lw5,rfl,hr,hg,ho⟩;have HS5:=hQ (HS4.out.call hr hg ho);clear hr hg ho k0 k1 k2 k3;obtain ⟨k0,k1,k2,k3⟩:=HS5.out.c4)
  obtain ⟨n3,hn3⟩:∃ n,(ps ++ [(ldR ls 0,(⟨#[100,101,102]⟩:ByteArray)),(ldR ls 1,(x:ByteArray)),(ldR ls 2,(⟨#[40]⟩:ByteArray))] ++ Qf0 ls 6 (List.take qs.length (qs ++ [a,b]))).length=n:=⟨_,rfl⟩
  have HQ3:=hQ hn3
  clear hn3
  have HM3:=hQ (show n3+(2+(Qaf a).length)≤1000000 from by have h:=HBD.out;rw [←HQ3.out];rw [HEQ.out] at h;(try simp only [xB,xD,xG] at h ⊢);omega)
  have HL3:=hQ (show (ps ++ [(ldR ls 0,(⟨#[100,101,102]⟩:ByteArray)),(ldR ls 1,(x:ByteArray)),(ldR ls 2,(⟨#[40]⟩:ByteArray))] ++ Qf0 ls 6 (List.take qs.length (qs ++ [a,b]))).length+(2+(Qaf a).length)≤1000000 from by have h:=HBD.out;rw [HEQ.out] at h;(try simp only [xB,xD,xG] at h ⊢);omega)
  go_region_held3 (fun w'=>w'.cell? ⟨w.heap.size,0,none⟩=some (.int .i64 2)∧w'.cell? ⟨w.heap.size,1,none⟩=some (.string x)∧w'.cell? ⟨w.heap.size,2,none⟩=some (.slice vla ls.length vlc)∧w'.cell? ⟨w.heap.size,3,none⟩=some (.slice (some ⟨xb,xo,none⟩) (qs.length+2) vkc)) (first | with_reducible exact ⟨k0,k1,k2,k3⟩ | go_keep) (first
   | (go_at_call 239;((with_reducible refine (Qaw _ (Tr.mk 2 x ls (qs ++ [a,b])) ⟨2,x,vla,ls.length,vlc,some ⟨xb,xo,none⟩,qs.length+2,vkc⟩ 3 3 rfl _ HS5.out.drew.tree (by decide)).mono ?_);rintro e w6 ⟨rfl,hb⟩;have HS6:=hQ (HS5.out.drew.below hb);clear k0 k1 k2 k3;obtain ⟨k0,k1,k2,k3⟩:=HS6.out.c4;clear hb))
   | (go_at_call 239;((with_reducible refine (Qaw _ (Tr.mk 2 x ls (qs ++ [a,b])) ⟨2,x,vla,ls.length,vlc,some ⟨xb,xo,none⟩,qs.length+2,vkc⟩ 4 4 rfl _ HS6.out.tree (by decide)).mono ?_);rintro e w7 ⟨rfl,hb⟩;have HS7:=hQ (HS6.out.below hb);clear k0 k1 k2 k3;obtain ⟨k0,k1,k2,k3⟩:=HS7.out.c4;clear hb))
   | (refine step_append_lies _ (by rfl) _ _ _ (by rfl) B 211 ip _ 2 32 Tryz.underlying208 hip pz0 pz1 pz2 rfl (by decide) _ n3 (Qan (ps ++ [(ldR ls 0,(⟨#[100,101,102]⟩:ByteArray)),(ldR ls 1,(x:ByteArray)),(ldR ls 2,(⟨#[40]⟩:ByteArray))] ++ Qf0 ls 6 (List.take qs.length (qs ++ [a,b])))) (by rfl) ((HS7.out.alloc _).rowN HQ3.out) ⟨w7.heap.size,0,none⟩ 2 2 (Qan [(ldR ls 3,(⟨#[41]⟩:ByteArray)),(ldR ls 4,(⟨#[58]⟩:ByteArray))]) (by rfl) (by rfl) (xM (cs:=#[.string (ldR ls 3),.string ⟨#[41]⟩,.string (ldR ls 4),.string ⟨#[58]⟩]) (t:=211) (fr:=(0,0)) (xH w7 _)) (Qas _) (by decide) (by unfold maxLen;have:=HM3.out;omega) (by have:=HM3.out;omega) (HS7.out.alloc _).le _ (by rfl) ?_;intro g cw8 w8 hown hgr hat hlt;have HS8:=hQ ((HS7.out.alloc _).appN HQ3.out (qs:=[(ldR ls 3,(⟨#[41]⟩:ByteArray)),(ldR ls 4,(⟨#[58]⟩:ByteArray))]) rfl hown hgr hat (xA _));clear k0 k1 k2 k3;obtain ⟨k0,k1,k2,k3⟩:=HS8.out.c4;clear hown hgr hat hlt)
   | fail)
  all_goals
   go_wp2_with fail
   have hw1:IntKind.i64.wrap ((qs.length:Int)+2-2)=(qs.length:Int):=by rw [show (qs.length:Int)+2-2=(qs.length:Int) from by omega];exact IntWalk.i64_in _ (by omega)
   have hw2:(qs.length:Int)<(qs.length:Int)+2:=by omega
   have hw5:IntKind.i64.wrap (qs.length:Int)=(qs.length:Int):=IntWalk.i64_in _ (by omega)
   have hw6:wrap64 (qs.length:Int)=(qs.length:Int):=by unfold wrap64;omega
   have hw3:(qs.length:Int)<((qs.length+2:Nat):Int):=by omega
   obtain ⟨ua,c0,c1,c2,c3,hu⟩:=HS8.out.tree.at rfl (show (Tr.mk 2 x ls (qs ++ [a,b])).kids[qs.length]? = some a from (show (qs ++ [a,b])[qs.length]? = some a from (by simp)))
   replace c0:w8.cell? ⟨xb,xo+qs.length*4,none⟩=some (.int .i64 ua.kind):=c0
   replace c1:w8.cell? ⟨xb,xo+qs.length*4+1,none⟩=some (.string ua.text):=c1
   replace c2:w8.cell? ⟨xb,xo+qs.length*4+2,none⟩=some (.slice ua.la ua.ll ua.lc):=c2
   replace c3:w8.cell? ⟨xb,xo+qs.length*4+3,none⟩=some (.slice ua.ka ua.kl ua.kc):=c3
   have HU:=hQ hu
   clear hu
   obtain ⟨n4,hn4⟩:∃ n,(ps ++ [(ldR ls 0,(⟨#[100,101,102]⟩:ByteArray)),(ldR ls 1,(x:ByteArray)),(ldR ls 2,(⟨#[40]⟩:ByteArray))] ++ Qf0 ls 6 (List.take qs.length (qs ++ [a,b])) ++ [(ldR ls 3,(⟨#[41]⟩:ByteArray)),(ldR ls 4,(⟨#[58]⟩:ByteArray))]).length=n:=⟨_,rfl⟩
   have HQ4:=hQ hn4
   clear hn4
   have HM4:=hQ (show n4+(Qaf a).length≤1000000 from by have h:=HBD.out;rw [←HQ4.out];rw [HEQ.out] at h;(try simp only [xB,xD,xG] at h ⊢);omega)
   have HL4:=hQ (show (ps ++ [(ldR ls 0,(⟨#[100,101,102]⟩:ByteArray)),(ldR ls 1,(x:ByteArray)),(ldR ls 2,(⟨#[40]⟩:ByteArray))] ++ Qf0 ls 6 (List.take qs.length (qs ++ [a,b])) ++ [(ldR ls 3,(⟨#[41]⟩:ByteArray)),(ldR ls 4,(⟨#[58]⟩:ByteArray))]).length+(Qaf a).length≤1000000 from by have h:=HBD.out;rw [HEQ.out] at h;(try simp only [xB,xD,xG] at h ⊢);omega)
   obtain ⟨n5,hn5⟩:∃ n,(ps ++ [(ldR ls 0,(⟨#[100,101,102]⟩:ByteArray)),(ldR ls 1,(x:ByteArray)),(ldR ls 2,(⟨#[40]⟩:ByteArray))] ++ Qf0 ls 6 (List.take qs.length (qs ++ [a,b])) ++ [(ldR ls 3,(⟨#[41]⟩:ByteArray)),(ldR ls 4,(⟨#[58]⟩:ByteArray))] ++ Qaf a).length=n:=⟨_,rfl⟩
   have HQ5:=hQ hn5
   clear hn5
   have HM5:=hQ (show n5+1≤1000000 from by have h:=HBD.out;rw [←HQ5.out];rw [HEQ.out] at h;(try simp only [xB,xD,xG] at h ⊢);omega)
   have HL5:=hQ (show (ps ++ [(ldR ls 0,(⟨#[100,101,102]⟩:ByteArray)),(ldR ls 1,(x:ByteArray)),(ldR ls 2,(⟨#[40]⟩:ByteArray))] ++ Qf0 ls 6 (List.take qs.length (qs ++ [a,b])) ++ [(ldR ls 3,(⟨#[41]⟩:ByteArray)),(ldR ls 4,(⟨#[58]⟩:ByteArray))] ++ Qaf a).length+1≤1000000 from by have h:=HBD.out;rw [HEQ.out] at h;(try simp only [xB,xD,xG] at h ⊢);omega)
   go_region_held3 (fun w'=>w'.cell? ⟨w.heap.size,0,none⟩=some (.int .i64 2)∧w'.cell? ⟨w.heap.size,1,none⟩=some (.string x)∧w'.cell? ⟨w.heap.size,2,none⟩=some (.slice vla ls.length vlc)∧w'.cell? ⟨w.heap.size,3,none⟩=some (.slice (some ⟨xb,xo,none⟩) (qs.length+2) vkc)∧w'.cell? ⟨xb,xo+qs.length*4,none⟩=some (.int .i64 ua.kind)∧w'.cell? ⟨xb,xo+qs.length*4+1,none⟩=some (.string ua.text)∧w'.cell? ⟨xb,xo+qs.length*4+2,none⟩=some (.slice ua.la ua.ll ua.lc)∧w'.cell? ⟨xb,xo+qs.length*4+3,none⟩=some (.slice ua.ka ua.kl ua.kc)) (first | with_reducible exact ⟨k0,k1,k2,k3,c0,c1,c2,c3⟩ | go_keep) (first
    | (go_at_call 214;refine (HIH.out B _ (ps ++ [(ldR ls 0,(⟨#[100,101,102]⟩:ByteArray)),(ldR ls 1,(x:ByteArray)),(ldR ls 2,(⟨#[40]⟩:ByteArray))] ++ Qf0 ls 6 (List.take qs.length (qs ++ [a,b])) ++ [(ldR ls 3,(⟨#[41]⟩:ByteArray)),(ldR ls 4,(⟨#[58]⟩:ByteArray))]) a ua _ HNa.out (HU.out.keep ((xC _ _).drew)) HSHa.out HZa.out HS8.out.drew.row HS8.out.drew.le HL4.out).mono ?_;rintro e w9 ⟨lw9,rfl,hr,hg,ho⟩;have HS9:=hQ (HS8.out.drew.call hr hg ho);clear k0 k1 k2 k3;obtain ⟨k0,k1,k2,k3⟩:=HS9.out.c4;have hkb:∀ k,k<B→w9.heap[k]? = (w8).heap[k]?:=fun k hk=>HS8.out.drew.keepB hg k hk;have d0:w9.cell? ⟨xb,xo+qs.length*4,none⟩=some (.int .i64 ua.kind):=(xJ (w:=w8) (a:=⟨xb,xo+qs.length*4,none⟩) (hkb xb HXB.out)).trans c0;have d1:w9.cell? ⟨xb,xo+qs.length*4+1,none⟩=some (.string ua.text):=(xJ (w:=w8) (a:=⟨xb,xo+qs.length*4+1,none⟩) (hkb xb HXB.out)).trans c1;have d2:w9.cell? ⟨xb,xo+qs.length*4+2,none⟩=some (.slice ua.la ua.ll ua.lc):=(xJ (w:=w8) (a:=⟨xb,xo+qs.length*4+2,none⟩) (hkb xb HXB.out)).trans c2;have d3:w9.cell? ⟨xb,xo+qs.length*4+3,none⟩=some (.slice ua.ka ua.kl ua.kc):=(xJ (w:=w8) (a:=⟨xb,xo+qs.length*4+3,none⟩) (hkb xb HXB.out)).trans c3;have HU1:=hQ (TrAt.move (w:=w8) (w':=w9) (S':=fun k=>k<B) (fun _ h=>h) (fun k hk _=>hkb k hk) _ _ HU.out);clear c0 c1 c2 c3 hkb;have c0:=d0;have c1:=d1;have c2:=d2;have c3:=d3;clear d0 d1 d2 d3;clear hr hg ho)
    | (go_at_call 239;((with_reducible refine (Qaw _ (Tr.mk 2 x ls (qs ++ [a,b])) ⟨2,x,vla,ls.length,vlc,some ⟨xb,xo,none⟩,qs.length+2,vkc⟩ 5 5 rfl _ HS9.out.tree (by decide)).mono ?_);rintro e w10 ⟨rfl,hb⟩;have HS10:=hQ (HS9.out.below hb);clear k0 k1 k2 k3;obtain ⟨k0,k1,k2,k3⟩:=HS10.out.c4;have hkb:∀ k,k<B→w10.heap[k]? = (w9).heap[k]?:=fun k hk=>hb.block k (xE hk HS9.out.le);have d0:w10.cell? ⟨xb,xo+qs.length*4,none⟩=some (.int .i64 ua.kind):=(xJ (w:=w9) (a:=⟨xb,xo+qs.length*4,none⟩) (hkb xb HXB.out)).trans c0;have d1:w10.cell? ⟨xb,xo+qs.length*4+1,none⟩=some (.string ua.text):=(xJ (w:=w9) (a:=⟨xb,xo+qs.length*4+1,none⟩) (hkb xb HXB.out)).trans c1;have d2:w10.cell? ⟨xb,xo+qs.length*4+2,none⟩=some (.slice ua.la ua.ll ua.lc):=(xJ (w:=w9) (a:=⟨xb,xo+qs.length*4+2,none⟩) (hkb xb HXB.out)).trans c2;have d3:w10.cell? ⟨xb,xo+qs.length*4+3,none⟩=some (.slice ua.ka ua.kl ua.kc):=(xJ (w:=w9) (a:=⟨xb,xo+qs.length*4+3,none⟩) (hkb xb HXB.out)).trans c3;have HU2:=hQ (TrAt.move (w:=w9) (w':=w10) (S':=fun k=>k<B) (fun _ h=>h) (fun k hk _=>hkb k hk) _ _ HU1.out);clear c0 c1 c2 c3 hkb;have c0:=d0;have c1:=d1;have c2:=d2;have c3:=d3;clear d0 d1 d2 d3;clear hb))
    | (refine step_append_lies _ (by rfl) _ _ _ (by rfl) B 211 ip _ 2 32 Tryz.underlying208 hip pz0 pz1 pz2 rfl (by decide) _ n5 (Qan (ps ++ [(ldR ls 0,(⟨#[100,101,102]⟩:ByteArray)),(ldR ls 1,(x:ByteArray)),(ldR ls 2,(⟨#[40]⟩:ByteArray))] ++ Qf0 ls 6 (List.take qs.length (qs ++ [a,b])) ++ [(ldR ls 3,(⟨#[41]⟩:ByteArray)),(ldR ls 4,(⟨#[58]⟩:ByteArray))] ++ Qaf a)) (by rfl) ((HS10.out.alloc _).rowN HQ5.out) ⟨w10.heap.size,0,none⟩ 1 1 (Qan [(ldR ls 5,(⟨#[61]⟩:ByteArray))]) (by rfl) (by rfl) (xM (cs:=#[.string (ldR ls 5),.string ⟨#[61]⟩]) (t:=211) (fr:=(0,0)) (xH w10 _)) (Qas _) (by decide) (by unfold maxLen;have:=HM5.out;omega) (by have:=HM5.out;omega) (HS10.out.alloc _).le _ (by rfl) ?_;intro g cw11 w11 hown hgr hat hlt;have HS11:=hQ ((HS10.out.alloc _).appN HQ5.out (qs:=[(ldR ls 5,(⟨#[61]⟩:ByteArray))]) rfl hown hgr hat (xA _));clear k0 k1 k2 k3;obtain ⟨k0,k1,k2,k3⟩:=HS11.out.c4;have hkb:∀ k,k<B→w11.heap[k]? = (w10).heap[k]?:=fun k hk=>((HS10.out.alloc _).keepB hgr k hk).trans (Below.heap_alloc _ _ k (xE hk HS10.out.le));have d0:w11.cell? ⟨xb,xo+qs.length*4,none⟩=some (.int .i64 ua.kind):=(xJ (w:=w10) (a:=⟨xb,xo+qs.length*4,none⟩) (hkb xb HXB.out)).trans c0;have d1:w11.cell? ⟨xb,xo+qs.length*4+1,none⟩=some (.string ua.text):=(xJ (w:=w10) (a:=⟨xb,xo+qs.length*4+1,none⟩) (hkb xb HXB.out)).trans c1;have d2:w11.cell? ⟨xb,xo+qs.length*4+2,none⟩=some (.slice ua.la ua.ll ua.lc):=(xJ (w:=w10) (a:=⟨xb,xo+qs.length*4+2,none⟩) (hkb xb HXB.out)).trans c2;have d3:w11.cell? ⟨xb,xo+qs.length*4+3,none⟩=some (.slice ua.ka ua.kl ua.kc):=(xJ (w:=w10) (a:=⟨xb,xo+qs.length*4+3,none⟩) (hkb xb HXB.out)).trans c3;have HU3:=hQ (TrAt.move (w:=w10) (w':=w11) (S':=fun k=>k<B) (fun _ h=>h) (fun k hk _=>hkb k hk) _ _ HU2.out);clear c0 c1 c2 c3 hkb;have c0:=d0;have c1:=d1;have c2:=d2;have c3:=d3;clear d0 d1 d2 d3;clear hown hgr hat hlt)
    | fail)
   all_goals
    clear c0 c1 c2 c3
    clear hw1 hw2 hw3 hw5 hw6
    have hw1:IntKind.i64.wrap ((qs.length:Int)+2-1)=(qs.length:Int)+1:=by rw [show (qs.length:Int)+2-1=(qs.length:Int)+1 from by omega];exact IntWalk.i64_in _ (by omega)
    have hw2:(qs.length:Int)+1<(qs.length:Int)+2:=by omega
    have hw4:(0:Int)≤(qs.length:Int)+1:=by omega
    have hw3:((qs.length:Int)+1).toNat=qs.length+1:=by omega
    obtain ⟨ub,c0,c1,c2,c3,hu⟩:=HS11.out.tree.at rfl (show (Tr.mk 2 x ls (qs ++ [a,b])).kids[(qs.length+1)]? = some b from (show (qs ++ [a,b])[(qs.length+1)]? = some b from (by simp)))
    replace c0:w11.cell? ⟨xb,xo+(qs.length+1)*4,none⟩=some (.int .i64 ub.kind):=c0
    replace c1:w11.cell? ⟨xb,xo+(qs.length+1)*4+1,none⟩=some (.string ub.text):=c1
    replace c2:w11.cell? ⟨xb,xo+(qs.length+1)*4+2,none⟩=some (.slice ub.la ub.ll ub.lc):=c2
    replace c3:w11.cell? ⟨xb,xo+(qs.length+1)*4+3,none⟩=some (.slice ub.ka ub.kl ub.kc):=c3
    have HU:=hQ hu
    clear hu
    obtain ⟨n6,hn6⟩:∃ n,(ps ++ [(ldR ls 0,(⟨#[100,101,102]⟩:ByteArray)),(ldR ls 1,(x:ByteArray)),(ldR ls 2,(⟨#[40]⟩:ByteArray))] ++ Qf0 ls 6 (List.take qs.length (qs ++ [a,b])) ++ [(ldR ls 3,(⟨#[41]⟩:ByteArray)),(ldR ls 4,(⟨#[58]⟩:ByteArray))] ++ Qaf a ++ [(ldR ls 5,(⟨#[61]⟩:ByteArray))]).length=n:=⟨_,rfl⟩
    have HQ6:=hQ hn6
    clear hn6
    have HM6:=hQ (show n6+(Qaf b).length≤1000000 from by have h:=HBD.out;rw [←HQ6.out];rw [HEQ.out] at h;(try simp only [xB,xD,xG] at h ⊢);omega)
    have HL6:=hQ (show (ps ++ [(ldR ls 0,(⟨#[100,101,102]⟩:ByteArray)),(ldR ls 1,(x:ByteArray)),(ldR ls 2,(⟨#[40]⟩:ByteArray))] ++ Qf0 ls 6 (List.take qs.length (qs ++ [a,b])) ++ [(ldR ls 3,(⟨#[41]⟩:ByteArray)),(ldR ls 4,(⟨#[58]⟩:ByteArray))] ++ Qaf a ++ [(ldR ls 5,(⟨#[61]⟩:ByteArray))]).length+(Qaf b).length≤1000000 from by have h:=HBD.out;rw [HEQ.out] at h;(try simp only [xB,xD,xG] at h ⊢);omega)
    go_wp2_with (go_at_call 214;refine (HIH.out B _ (ps ++ [(ldR ls 0,(⟨#[100,101,102]⟩:ByteArray)),(ldR ls 1,(x:ByteArray)),(ldR ls 2,(⟨#[40]⟩:ByteArray))] ++ Qf0 ls 6 (List.take qs.length (qs ++ [a,b])) ++ [(ldR ls 3,(⟨#[41]⟩:ByteArray)),(ldR ls 4,(⟨#[58]⟩:ByteArray))] ++ Qaf a ++ [(ldR ls 5,(⟨#[61]⟩:ByteArray))]) b ub _ HNb.out HU.out HSHb.out HZb.out HS11.out.row HS11.out.le HL6.out).mono ?_;rintro e w12 ⟨lw12,rfl,hr,hg,ho⟩;have HS12:=hQ (HS11.out.call hr hg ho);clear k0 k1 k2 k3;obtain ⟨k0,k1,k2,k3⟩:=HS12.out.c4;clear c0 c1 c2 c3;clear hr hg ho)
    go_ret
    exact HS12.out.post (by rw [HEQ.out];first | done | (simp only [xT,xV,xU];done) | (simp only [xT,xV,xU];rfl) | (simp;done)) rfl
end Go.Proofs.YtjidpkcjpgdafaaGreat
