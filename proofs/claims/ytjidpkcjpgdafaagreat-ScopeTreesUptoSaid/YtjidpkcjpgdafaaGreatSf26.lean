/- Part 26 -/
import Derived.Test.YtjidpkcjpgdafaaGreatSf25
set_option maxRecDepth 100000
set_option maxHeartbeats 4000000
namespace Go.Proofs.YtjidpkcjpgdafaaGreat
open Go.RowKit
def Qkd (r:Tr × Nat × Nat) (w:World) (e:Ending) (w':World):Prop :=
 ∃ v:TV,e = .returned (.tuple #[.agg #[.int .i64 v.kind,.string v.text,.slice v.la v.ll v.lc,.slice v.ka v.kl v.kc],.int .i64 r.2.1,.int .i64 r.2.2])∧TrAt (fun k=>w.heap.size≤k∧k<w'.heap.size) w' r.1 v∧Below w.heap.size w w'
theorem Qr3 {n:Nat} {s:ByteArray} {r:Tr × Nat × Nat} (h:Qg9 n s=some r) (he:(Qbs s).e≠0):r=(Qik,(Qbs s).place,(Qbs s).e):=by
 unfold Qg9 at h
 rw [xO he] at h
 injection h with h
 exact h.symm
theorem Qo4 {n:Nat} {s:ByteArray} {r:Tr × Nat × Nat} (h:Qg9 n s=some r) (he:(Qbs s).e=0):∃ t p,Qey (Qfx n) n 1 (Qae 1) ⟨#[]⟩ [] [] [] (Qk0 s)=some (t,p)∧r=(if p.e≠0 then (Qik,p.place,p.e) else if Qdx t 40 then (t,0,0) else (Qik,0,4)):=by
 unfold Qg9 at h
 rw [xN (by omega)] at h
 cases hN:Qey (Qfx n) n 1 (Qae 1) ⟨#[]⟩ [] [] [] (Qk0 s) with
 | none =>
  unfold Qk0 at hN
  rw [hN] at h
  cases h
 | some tp =>
  refine ⟨tp.1,tp.2,rfl,?_⟩
  unfold Qk0 at hN
  rw [hN] at h
  injection h with h
  exact h.symm
theorem Qke (S:Nat→Prop) (w:World):TrAt S w Qik ⟨0,⟨#[]⟩,none,0,0,none,0,0⟩:=by
 unfold Qik TrAt
 exact ⟨rfl,rfl,rfl,rfl,fun h=>absurd rfl h,fun h=>absurd rfl h,xA _,xA _⟩
theorem Qo5 {s:ByteArray} {w:World} {B g cap:Nat} (he:(Qbs s).e=0) (hown:w.ownsRow B 119 3 (.slice (some ⟨g,0,none⟩) ((Qbs s).toks.length+1) cap) ((Qbs s).toks.length+1) (Qb3 (Qbs s).toks ++ [.int .i64 0,.string (Qbs s).tail,.string ⟨#[]⟩])) (hlt:g<w.heap.size) :
  PIn (w.alloc (.cells #[.slice (some ⟨g,0,none⟩) ((Qbs s).toks.length+1) cap,.int .i64 0,.int .i64 0,.int .i64 0] 121)) w.heap.size (Qk0 s):=by
 have hl:(Qk0 s).rest.length=(Qbs s).toks.length+1:=by unfold Qk0;simp
 have hc:Qb3 (Qk0 s).rest=Qb3 (Qbs s).toks ++ [.int .i64 0,.string (Qbs s).tail,.string ⟨#[]⟩]:=by
  show Qb3 ((Qbs s).toks ++ [_])=_
  rw [Qhs]
 refine ⟨g,0,cap,?_,hlt,?_,?_,Qyh he⟩
 ·rw [hl]
  exact xH w _
 ·rw [hl]
  rcases hown.2 with ⟨hv,_⟩|⟨g',cap',cur,hv,_,_,hn,_⟩
  ·simp at hv
  ·simp at hv
   omega
 ·exact Toks.of_own (base:=B) (c:=cap) (by rw [hl,hc];exact hown.alloc _)
theorem Qtr {n:Nat} {s:ByteArray} {r:Tr × Nat × Nat} (w:World) (hs:s.size≤maxLen) (h:Qg9 n s=some r) (he:(Qbs s).e≠0):Calls Tryz.prog 44 #[.string s] w (Qkd r w):=by
 have HR:=hQ (Qr3 h he)
 have HS:=hQ hs
 have he':(((Qbs s).e:Int) != 0)=true:=by simp;omega
 clear h he hs
 go_enter Tryz.func44,Tryz.ntmps44
 go_wp2_with fail
 go_at_call 77
 refine (Qp0 s _ HS.out).mono ?_
 rintro e w1 ⟨tv,rfl,_,hb⟩
 have HB:=hQ (((xC w.heap.size w).alloc (xA _) (.cells #[.int .i64 0,.string ⟨#[]⟩,.slice none 0 0,.slice none 0 0] 29)).trans (hb.mono (by simp)))
 have g0:=(hb.block w.heap.size (by simp)).trans (xH w (.cells #[.int .i64 0,.string ⟨#[]⟩,.slice none 0 0,.slice none 0 0] 29))
 clear hb
 have r0:w1.cell? ⟨w.heap.size,0,none⟩=some (.int .i64 0):=Qaa g0 0 _ rfl
 have r1:w1.cell? ⟨w.heap.size,1,none⟩=some (.string ⟨#[]⟩):=Qaa g0 1 _ rfl
 have r2:w1.cell? ⟨w.heap.size,2,none⟩=some (.slice none 0 0):=Qaa g0 2 _ rfl
 have r3:w1.cell? ⟨w.heap.size,3,none⟩=some (.slice none 0 0):=Qaa g0 3 _ rfl
 have rf:=xL g0
 clear g0
 go_wp2
 refine bodyPost_ret (v:=.tuple #[.agg #[.int .i64 0,.string ⟨#[]⟩,.slice none 0 0,.slice none 0 0],.int .i64 (Qbs s).place,.int .i64 (Qbs s).e]) (by simp [results,Tryz.results44,go_sem, *]) rfl ?_
 rw [HR.out]
 exact ⟨⟨0,⟨#[]⟩,none,0,0,none,0,0⟩,rfl,Qke _ _,(((HB.out.setCell (p:=⟨w.heap.size,0,none⟩) (xA _) _).setCell (p:=⟨w.heap.size,1,none⟩) (xA _) _).setCell (p:=⟨w.heap.size,2,none⟩) (xA _) _).setCell (p:=⟨w.heap.size,3,none⟩) (xA _) _⟩
theorem Qr4 {n:Nat} (hn:n≤65536) {s:ByteArray} {r:Tr × Nat × Nat} (w:World) (hs:s.size≤maxLen) (h:Qg9 n s=some r) (he:(Qbs s).e=0):Calls Tryz.prog 44 #[.string s] w (Qkd r w):=by
 obtain ⟨t,p,hN,hr⟩:=Qo4 h he
 have HN:=hQ hN
 have HR:=hQ hr
 have HE:=hQ he
 have HS:=hQ hs
 have HNC:=hQ (Qyf hn)
 have HSM:=hQ (show Qb7 t=true from Qkc (Qr1 n hn) hn hN)
 have HTL:=hQ (Qlk he).1
 have he':(((Qbs s).e:Int) != 0)=false:=by simp [he]
 clear h he hs hN hr
 obtain ⟨i0,hi,hz0,hz1,hz2⟩:=info_parts Qk6
 go_enter Tryz.func44,Tryz.ntmps44
 go_wp2_with fail
 go_at_call 77
 refine (Qp0 s _ HS.out).mono ?_
 rintro e w1 ⟨tv,rfl,hown,hb⟩
 rw [xI] at hown
 have HB:=hQ (((xC w.heap.size w).alloc (xA _) (.cells #[.int .i64 0,.string ⟨#[]⟩,.slice none 0 0,.slice none 0 0] 29)).trans (hb.mono (by simp)))
 have HG0:=hQ ((hb.block w.heap.size (by simp)).trans (xH w (.cells #[.int .i64 0,.string ⟨#[]⟩,.slice none 0 0,.slice none 0 0] 29)))
 have HW1:=hQ (show w.heap.size+1≤w1.heap.size from by have:=hb.size;rw [xI] at this;exact this)
 have HOW:=hQ hown
 clear hb hown
 go_wp2_with (at_builtin;refine wpList_append_lies _ (by rfl) _ _ _ (by rfl) (w.heap.size+1) 119 i0 _ 3 40 Tryz.underlying115 hi hz0 hz1 hz2 rfl (by decide) tv (Qbs s).toks.length (Qb3 (Qbs s).toks) (by rfl) (HOW.out.alloc _) ⟨w1.heap.size,0,none⟩ 1 1 [.int .i64 0,.string (Qbs s).tail,.string ⟨#[]⟩] (by rfl) (by rfl) (xM (cs:=#[.int .i64 0,.string (Qbs s).tail,.string ⟨#[]⟩]) (t:=119) (fr:=(0,0)) (xH w1 _)) (Qm3 _ _ _) (by decide) ?b1 ?b2 ?b3 (w1.heap.size+1) (by simp) ?_)
 case b1=>unfold maxLen;have:=HTL.out;omega
 case b2=>have:=HTL.out;omega
 case b3=>have:=HW1.out;simp;omega
 intro g cap w2 hown2 hgrow hat hlt2
 have HP2:=hQ (Qo5 HE.out hown2 hlt2)
 have hgb:∀ k,tv.ownBlock=some k→w.heap.size+1≤k:=fun k hk=>(HOW.out.lt k hk).1
 have HB2:=hQ ((HB.out.alloc HB.out.size (.cells #[.int .i64 0,.string (Qbs s).tail,.string ⟨#[]⟩] 119)).grown hgrow (by have:=HW1.out;simp;omega) (fun k hk=>by have:=hgb k hk;omega))
 have HG2:=hQ ((hgrow.block w.heap.size (by have:=HW1.out;simp;omega) (fun e=>by have:=hgb _ e.symm;omega)).trans ((Below.heap_alloc _ _ _ (Qab HG0.out)).trans HG0.out))
 have HW2:=hQ (show w.heap.size+1≤w2.heap.size from by have h1:=hgrow.size;rw [xI] at h1;have:=HW1.out;omega)
 clear hown2 hgrow hat hlt2 hgb hi hz0 hz1 hz2
 go_wp2_with fail
 go_at_call 78
 refine (HNC.out w2.heap.size 1 (Qk0 s) t p _ HN.out HP2.out).mono ?_
 rintro e w3 ⟨v,rfl,htr,hp3,ho3⟩
 have HTR:=hQ htr
 have HP3:=hQ hp3
 have HA2:=hQ (show Below w.heap.size w (w2.alloc (.cells #[.slice (some ⟨g,0,none⟩) ((Qbs s).toks.length+1) cap,.int .i64 0,.int .i64 0,.int .i64 0] 121)) from HB2.out.alloc HB2.out.size _)
 have HB3:=hQ (HA2.out.trans (ho3.below (B:=w.heap.size) (by have:=HW2.out;omega) (by rw [xI];have:=HW2.out;omega)))
 have HG3:=hQ ((ho3.block w.heap.size (by rw [xI];have:=HW2.out;omega) (by have:=HW2.out;omega)).trans ((Below.heap_alloc _ _ _ (Qab HG2.out)).trans HG2.out))
 have HW3:=hQ (show w2.heap.size+1≤w3.heap.size from by have:=ho3.size;rw [xI] at this;exact this)
 clear htr hp3 ho3
 obtain ⟨tb,off,c,hpa⟩:=HP3.out
 have q2:w3.cell? ⟨w2.heap.size,2,none⟩=some (.int .i64 p.place):=hpa.c2
 have q3:w3.cell? ⟨w2.heap.size,3,none⟩=some (.int .i64 p.e):=hpa.c3
 have qe:=hpa.lt
 clear hpa
 have r0:w3.cell? ⟨w.heap.size,0,none⟩=some (.int .i64 0):=Qaa HG3.out 0 _ rfl
 have r1:w3.cell? ⟨w.heap.size,1,none⟩=some (.string ⟨#[]⟩):=Qaa HG3.out 1 _ rfl
 have r2:w3.cell? ⟨w.heap.size,2,none⟩=some (.slice none 0 0):=Qaa HG3.out 2 _ rfl
 have r3:w3.cell? ⟨w.heap.size,3,none⟩=some (.slice none 0 0):=Qaa HG3.out 3 _ rfl
 have rf:=xL HG3.out
 have ne1:w.heap.size≠w2.heap.size:=by have:=HW2.out;omega
 by_cases hpe:p.e=0
 ·have hpe':((p.e:Int) != 0)=false:=by simp [hpe]
  have HPE:=hQ hpe
  clear hpe
  go_wp2_with fail
  have hR:Rest (fun k=>k=w.heap.size) w3 ((((w3.setCell ⟨w.heap.size,0,none⟩ (.int .i64 v.kind)).setCell ⟨w.heap.size,1,none⟩ (.string v.text)).setCell ⟨w.heap.size,2,none⟩ (.slice v.la v.ll v.lc)).setCell ⟨w.heap.size,3,none⟩ (.slice v.ka v.kl v.kc)):=(((Rest.set1 _ _ _).trans (Rest.set1 _ _ _)).trans (Rest.set1 _ _ _)).trans (Rest.set1 _ _ _)
  have hB4:Below w.heap.size w ((((w3.setCell ⟨w.heap.size,0,none⟩ (.int .i64 v.kind)).setCell ⟨w.heap.size,1,none⟩ (.string v.text)).setCell ⟨w.heap.size,2,none⟩ (.slice v.la v.ll v.lc)).setCell ⟨w.heap.size,3,none⟩ (.slice v.ka v.kl v.kc)):=(((HB3.out.setCell (p:=⟨w.heap.size,0,none⟩) (xA _) _).setCell (p:=⟨w.heap.size,1,none⟩) (xA _) _).setCell (p:=⟨w.heap.size,2,none⟩) (xA _) _).setCell (p:=⟨w.heap.size,3,none⟩) (xA _) _
  have g0:(w3.setCell ⟨w.heap.size,0,none⟩ (.int .i64 v.kind)).heap[w.heap.size]? = some (.cells #[.int .i64 v.kind,.string ⟨#[]⟩,.slice none 0 0,.slice none 0 0] 29 (0,0)):=Qba HG3.out rfl
  have g1:((w3.setCell ⟨w.heap.size,0,none⟩ (.int .i64 v.kind)).setCell ⟨w.heap.size,1,none⟩ (.string v.text)).heap[w.heap.size]? = some (.cells #[.int .i64 v.kind,.string v.text,.slice none 0 0,.slice none 0 0] 29 (0,0)):=Qba g0 rfl
  have g2:(((w3.setCell ⟨w.heap.size,0,none⟩ (.int .i64 v.kind)).setCell ⟨w.heap.size,1,none⟩ (.string v.text)).setCell ⟨w.heap.size,2,none⟩ (.slice v.la v.ll v.lc)).heap[w.heap.size]? = some (.cells #[.int .i64 v.kind,.string v.text,.slice v.la v.ll v.lc,.slice none 0 0] 29 (0,0)):=Qba g1 rfl
  have g3:((((w3.setCell ⟨w.heap.size,0,none⟩ (.int .i64 v.kind)).setCell ⟨w.heap.size,1,none⟩ (.string v.text)).setCell ⟨w.heap.size,2,none⟩ (.slice v.la v.ll v.lc)).setCell ⟨w.heap.size,3,none⟩ (.slice v.ka v.kl v.kc)).heap[w.heap.size]? = some (.cells #[.int .i64 v.kind,.string v.text,.slice v.la v.ll v.lc,.slice v.ka v.kl v.kc] 29 (0,0)):=Qba g2 rfl
  have ht4:TrAt (fun k=>w.heap.size+1≤k∧k<((((w3.setCell ⟨w.heap.size,0,none⟩ (.int .i64 v.kind)).setCell ⟨w.heap.size,1,none⟩ (.string v.text)).setCell ⟨w.heap.size,2,none⟩ (.slice v.la v.ll v.lc)).setCell ⟨w.heap.size,3,none⟩ (.slice v.ka v.kl v.kc)).heap.size) ((((w3.setCell ⟨w.heap.size,0,none⟩ (.int .i64 v.kind)).setCell ⟨w.heap.size,1,none⟩ (.string v.text)).setCell ⟨w.heap.size,2,none⟩ (.slice v.la v.ll v.lc)).setCell ⟨w.heap.size,3,none⟩ (.slice v.ka v.kl v.kc)) t v:=TrAt.move (fun k hk=>⟨by have:=hk.1;rw [xI] at this;have:=HW2.out;omega,xE hk.2 hR.size⟩) (fun k hk hlt=>hR.block k hlt (fun e:k=w.heap.size=>by have:=hk.1;rw [xI] at this;have:=HW2.out;omega)) _ _ HTR.out
  have HR4:=hQ hR
  have HB4:=hQ hB4
  have HG4:=hQ g3
  have HT4:=hQ ht4
  clear hR hB4 g0 g1 g2 g3 ht4 r0 r1 r2 r3 rf
  generalize ((((w3.setCell ⟨w.heap.size,0,none⟩ (.int .i64 v.kind)).setCell ⟨w.heap.size,1,none⟩ (.string v.text)).setCell ⟨w.heap.size,2,none⟩ (.slice v.la v.ll v.lc)).setCell ⟨w.heap.size,3,none⟩ (.slice v.ka v.kl v.kc))=W4 at HR4 HB4 HG4 HT4 ⊢
  go_at_call 79
  refine (Qrw 40 _ t v _ (by decide) HT4.out HSM.out).mono ?_
  rintro e w5 ⟨rfl,hb5⟩
  have HB5:=hQ hb5
  have hg5:=(hb5.block w.heap.size (Qab HG4.out)).trans HG4.out
  have r0:w5.cell? ⟨w.heap.size,0,none⟩=some (.int .i64 v.kind):=Qaa hg5 0 _ rfl
  have r1:w5.cell? ⟨w.heap.size,1,none⟩=some (.string v.text):=Qaa hg5 1 _ rfl
  have r2:w5.cell? ⟨w.heap.size,2,none⟩=some (.slice v.la v.ll v.lc):=Qaa hg5 2 _ rfl
  have r3:w5.cell? ⟨w.heap.size,3,none⟩=some (.slice v.ka v.kl v.kc):=Qaa hg5 3 _ rfl
  have rf:=xL hg5
  clear hb5 hg5 q2 q3 qe
  have HBW:=hQ (HB4.out.trans (HB5.out.mono HB4.out.size))
  cases hwt:Qdx t 40
  ·have HRR:=hQ (show r=(Qik,0,4) from by rw [HR.out,HPE.out,hwt];rfl)
   go_wp2
   refine bodyPost_ret (v:=.tuple #[.agg #[.int .i64 0,.string ⟨#[]⟩,.slice none 0 0,.slice none 0 0],.int .i64 0,.int .i64 4]) (by simp [results,Tryz.results44,go_sem, *]) rfl ?_
   rw [HRR.out]
   exact ⟨⟨0,⟨#[]⟩,none,0,0,none,0,0⟩,rfl,Qke _ _,(((HBW.out.setCell (p:=⟨w.heap.size,0,none⟩) (xA _) _).setCell (p:=⟨w.heap.size,1,none⟩) (xA _) _).setCell (p:=⟨w.heap.size,2,none⟩) (xA _) _).setCell (p:=⟨w.heap.size,3,none⟩) (xA _) _⟩
  ·have HRR:=hQ (show r=(t,0,0) from by rw [HR.out,HPE.out,hwt];rfl)
   go_wp2
   refine bodyPost_ret (v:=.tuple #[.agg #[.int .i64 v.kind,.string v.text,.slice v.la v.ll v.lc,.slice v.ka v.kl v.kc],.int .i64 0,.int .i64 0]) (by simp [results,Tryz.results44,go_sem, *]) rfl ?_
   rw [HRR.out]
   have hR5:=(((Rest.set1 (w:=w5) w.heap.size 0 (.int .i64 v.kind)).trans (Rest.set1 w.heap.size 1 (.string v.text))).trans (Rest.set1 w.heap.size 2 (.slice v.la v.ll v.lc))).trans (Rest.set1 w.heap.size 3 (.slice v.ka v.kl v.kc))
   exact ⟨v,rfl,TrAt.move (fun k hk=>⟨by have:=hk.1;omega,xE hk.2 (xQ HB5.out.size hR5.size)⟩) (fun k hk hlt=>hR5.block k hlt (fun e:k=w.heap.size=>by have:=hk.1;omega)) _ _ (HT4.out.keep HB5.out),(((HBW.out.setCell (p:=⟨w.heap.size,0,none⟩) (xA _) _).setCell (p:=⟨w.heap.size,1,none⟩) (xA _) _).setCell (p:=⟨w.heap.size,2,none⟩) (xA _) _).setCell (p:=⟨w.heap.size,3,none⟩) (xA _) _⟩
 ·have hpe':((p.e:Int) != 0)=true:=by simp;omega
  have HRR:=hQ (show r=(Qik,p.place,p.e) from by rw [HR.out,xO hpe])
  clear hpe
  go_wp2_with fail
  have hR:Rest (fun k=>k=w.heap.size) w3 ((((w3.setCell ⟨w.heap.size,0,none⟩ (.int .i64 v.kind)).setCell ⟨w.heap.size,1,none⟩ (.string v.text)).setCell ⟨w.heap.size,2,none⟩ (.slice v.la v.ll v.lc)).setCell ⟨w.heap.size,3,none⟩ (.slice v.ka v.kl v.kc)):=(((Rest.set1 _ _ _).trans (Rest.set1 _ _ _)).trans (Rest.set1 _ _ _)).trans (Rest.set1 _ _ _)
  have hB4:Below w.heap.size w ((((w3.setCell ⟨w.heap.size,0,none⟩ (.int .i64 v.kind)).setCell ⟨w.heap.size,1,none⟩ (.string v.text)).setCell ⟨w.heap.size,2,none⟩ (.slice v.la v.ll v.lc)).setCell ⟨w.heap.size,3,none⟩ (.slice v.ka v.kl v.kc)):=(((HB3.out.setCell (p:=⟨w.heap.size,0,none⟩) (xA _) _).setCell (p:=⟨w.heap.size,1,none⟩) (xA _) _).setCell (p:=⟨w.heap.size,2,none⟩) (xA _) _).setCell (p:=⟨w.heap.size,3,none⟩) (xA _) _
  have g0:(w3.setCell ⟨w.heap.size,0,none⟩ (.int .i64 v.kind)).heap[w.heap.size]? = some (.cells #[.int .i64 v.kind,.string ⟨#[]⟩,.slice none 0 0,.slice none 0 0] 29 (0,0)):=Qba HG3.out rfl
  have g1:((w3.setCell ⟨w.heap.size,0,none⟩ (.int .i64 v.kind)).setCell ⟨w.heap.size,1,none⟩ (.string v.text)).heap[w.heap.size]? = some (.cells #[.int .i64 v.kind,.string v.text,.slice none 0 0,.slice none 0 0] 29 (0,0)):=Qba g0 rfl
  have g2:(((w3.setCell ⟨w.heap.size,0,none⟩ (.int .i64 v.kind)).setCell ⟨w.heap.size,1,none⟩ (.string v.text)).setCell ⟨w.heap.size,2,none⟩ (.slice v.la v.ll v.lc)).heap[w.heap.size]? = some (.cells #[.int .i64 v.kind,.string v.text,.slice v.la v.ll v.lc,.slice none 0 0] 29 (0,0)):=Qba g1 rfl
  have g3:((((w3.setCell ⟨w.heap.size,0,none⟩ (.int .i64 v.kind)).setCell ⟨w.heap.size,1,none⟩ (.string v.text)).setCell ⟨w.heap.size,2,none⟩ (.slice v.la v.ll v.lc)).setCell ⟨w.heap.size,3,none⟩ (.slice v.ka v.kl v.kc)).heap[w.heap.size]? = some (.cells #[.int .i64 v.kind,.string v.text,.slice v.la v.ll v.lc,.slice v.ka v.kl v.kc] 29 (0,0)):=Qba g2 rfl
  have ht4:TrAt (fun k=>w.heap.size+1≤k∧k<((((w3.setCell ⟨w.heap.size,0,none⟩ (.int .i64 v.kind)).setCell ⟨w.heap.size,1,none⟩ (.string v.text)).setCell ⟨w.heap.size,2,none⟩ (.slice v.la v.ll v.lc)).setCell ⟨w.heap.size,3,none⟩ (.slice v.ka v.kl v.kc)).heap.size) ((((w3.setCell ⟨w.heap.size,0,none⟩ (.int .i64 v.kind)).setCell ⟨w.heap.size,1,none⟩ (.string v.text)).setCell ⟨w.heap.size,2,none⟩ (.slice v.la v.ll v.lc)).setCell ⟨w.heap.size,3,none⟩ (.slice v.ka v.kl v.kc)) t v:=TrAt.move (fun k hk=>⟨by have:=hk.1;rw [xI] at this;have:=HW2.out;omega,xE hk.2 hR.size⟩) (fun k hk hlt=>hR.block k hlt (fun e:k=w.heap.size=>by have:=hk.1;rw [xI] at this;have:=HW2.out;omega)) _ _ HTR.out
  have HR4:=hQ hR
  have HB4:=hQ hB4
  have HG4:=hQ g3
  have HT4:=hQ ht4
  clear hR hB4 g0 g1 g2 g3 ht4 r0 r1 r2 r3 rf
  have p2:=(xJ (w:=w3) (a:=⟨w2.heap.size,2,none⟩) (HR4.out.block w2.heap.size qe (fun e:w2.heap.size=w.heap.size=>ne1 e.symm))).trans q2
  have p3:=(xJ (w:=w3) (a:=⟨w2.heap.size,3,none⟩) (HR4.out.block w2.heap.size qe (fun e:w2.heap.size=w.heap.size=>ne1 e.symm))).trans q3
  clear q2 q3 qe
  generalize ((((w3.setCell ⟨w.heap.size,0,none⟩ (.int .i64 v.kind)).setCell ⟨w.heap.size,1,none⟩ (.string v.text)).setCell ⟨w.heap.size,2,none⟩ (.slice v.la v.ll v.lc)).setCell ⟨w.heap.size,3,none⟩ (.slice v.ka v.kl v.kc))=W4 at HR4 HB4 HG4 HT4 p2 p3 ⊢
  have r0:W4.cell? ⟨w.heap.size,0,none⟩=some (.int .i64 v.kind):=Qaa HG4.out 0 _ rfl
  have r1:W4.cell? ⟨w.heap.size,1,none⟩=some (.string v.text):=Qaa HG4.out 1 _ rfl
  have r2:W4.cell? ⟨w.heap.size,2,none⟩=some (.slice v.la v.ll v.lc):=Qaa HG4.out 2 _ rfl
  have r3:W4.cell? ⟨w.heap.size,3,none⟩=some (.slice v.ka v.kl v.kc):=Qaa HG4.out 3 _ rfl
  have rf:=xL HG4.out
  go_region
  all_goals
   go_wp2
   refine bodyPost_ret (v:=.tuple #[.agg #[.int .i64 0,.string ⟨#[]⟩,.slice none 0 0,.slice none 0 0],.int .i64 p.place,.int .i64 p.e]) (by simp [results,Tryz.results44,go_sem, *]) rfl ?_
   rw [HRR.out]
   exact ⟨⟨0,⟨#[]⟩,none,0,0,none,0,0⟩,rfl,Qke _ _,((((HB4.out.setCell (p:=⟨w.heap.size,0,none⟩) (xA _) _).setCell (p:=⟨w.heap.size,1,none⟩) (xA _) _).setCell (p:=⟨w.heap.size,2,none⟩) (xA _) _).setCell (p:=⟨w.heap.size,3,none⟩) (xA _) _).drew⟩
theorem Qts {n:Nat} (hn:n≤65536) {s:ByteArray} {r:Tr × Nat × Nat} (w:World) (hs:s.size≤maxLen) (h:Qg9 n s=some r):Calls Tryz.prog 44 #[.string s] w (Qkd r w):=by
 by_cases he:(Qbs s).e=0
 ·exact Qr4 hn w hs h he
 ·exact Qtr w hs h he
end Go.Proofs.YtjidpkcjpgdafaaGreat
