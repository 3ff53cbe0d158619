/- Part 17: The contracts of led and printable. The contract of the writer's token; the tokens of a tree, and its text; plain. The contract of (*writer).kids, given tree's. The contracts of text, Print, limited and Valid. The contract of Parse, where the parser on lists of tokens ends. Texts of stage 3 that this seat needs: TrBase, TreSize. The contract of awake of stage 2, and of semvcsmake.Mod. -/
import Derived.Test.YtnnfdbmanamfdaaGreatLw1
import Derived.Test.YtnnfdbmanamfdaaGreatLw16
import Derived.Test.YtnnfdbmanamfdaaGreatLw2
import Derived.Test.YtnnfdbmanamfdaaGreatLw4
import Derived.Test.YtnnfdbmanamfdaaGreatLw8
import Derived.Test.YtnnfdbmanamfdaaGreatLw15
import Derived.Deep.RegionHeld3
import Derived.Shelf.Strings.Builder1
import Derived.Deep.LoopGhost
import Derived.Deep.QuietTactic
import Derived.Lib.Builder
set_option maxRecDepth 100000
set_option maxHeartbeats 4000000
namespace Go.Proofs.YtnnfdbmanamfdaaGreat
open Go.RowKit
def trivL (kd:Int):Nat → List ByteArray → Bool
 | _,[]=>true
 | i,y :: r=>Qfp y (kd == 1 && (i:Int) == 2) && trivL kd (i + 1) r
mutual
def ledT:Tr → Bool
 | .mk kd _ ls ks=>((ls.length:Int) == leadsP kd ks.length) && trivL kd 0 ls && ledL ks
def ledL:List Tr → Bool
 | []=>true
 | k :: r=>ledT k && ledL r
end
theorem ledT_eq (t:Tr):ledT t = (((t.leads.length:Int) == leadsP t.kind t.kids.length) && trivL t.kind 0 t.leads && ledL t.kids):=by
 cases t with
 | mk kd x ls ks=>rw [ledT];rfl
theorem trivL_at (kd:Int) (l:List ByteArray) (i:Nat) (y:ByteArray) (hy:l[i]? = some y):trivL kd i (l.drop i) = (Qfp y (kd == 1 && (i:Int) == 2) && trivL kd (i + 1) (l.drop (i + 1))):=by
 obtain ⟨hi,he⟩:=List.getElem?_eq_some_iff.1 hy
 rw [List.drop_eq_getElem_cons hi,he,trivL]
theorem trivL_end (kd:Int) (l:List ByteArray) (i:Nat) (h:l.length ≤ i):trivL kd i (l.drop i) = true:=by
 rw [List.drop_eq_nil_of_le h,trivL]
theorem ledL_at (l:List Tr) (j:Nat) (k:Tr) (hk:l[j]? = some k):ledL (l.drop j) = (ledT k && ledL (l.drop (j + 1))):=by
 obtain ⟨hj,he⟩:=List.getElem?_eq_some_iff.1 hk
 rw [List.drop_eq_getElem_cons hj,he,ledL]
theorem ledL_end (l:List Tr) (j:Nat) (h:l.length ≤ j):ledL (l.drop j) = true:=by
 rw [List.drop_eq_nil_of_le h,ledL]
theorem TrAt.laddr {S:Nat → Prop} {w:World} {t:Tr} {v:TV} (h:TrAt S w t v):t.leads.length = 0 ∨ ∃ b off,v.la = some ⟨b,off,none⟩:=by
 cases t with
 | mk kd tx ls ks =>
  unfold TrAt at h
  cases ls with
  | nil=>exact .inl rfl
  | cons a r =>
   obtain ⟨b,off,hA,_⟩:=h.2.2.2.2.1 (by simp)
   exact .inr ⟨b,off,hA⟩
theorem TrAt.lat {S:Nat → Prop} {w:World} {t:Tr} {v:TV} {b off:Nat} (h:TrAt S w t v) (hA:v.la = some ⟨b,off,none⟩) {i:Nat} {y:ByteArray} (hy:t.leads[i]? = some y):w.cell? ⟨b,off + i,none⟩ = some (.string y):=by
 cases t with
 | mk kd tx ls ks =>
  unfold TrAt at h
  obtain ⟨b',off',hA',_,hc⟩:=h.2.2.2.2.1 (by intro e;rw [show (Tr.mk kd tx ls ks).leads = ls from rfl,e] at hy;simp at hy)
  rw [hA] at hA'
  injection hA' with e
  injection e with e1 e2 _
  subst e1 e2
  exact hc i y hy
def sepW (last lead text:ByteArray):ByteArray:=if lead.size = 0 ∧ Qfs last text = true then ⟨#[32]⟩ else lead
def tokW (s:List UInt8 × ByteArray) (lead text:ByteArray):List UInt8 × ByteArray:=(s.1 ++ (sepW s.2 lead text).data.toList ++ text.data.toList,text)
theorem size_zero {x:ByteArray} (h:x.size = 0):x = ⟨#[]⟩:=by
 obtain ⟨d⟩:=x
 have:d.size = 0:=h
 rw [Array.eq_empty_of_size_eq_zero this]
abbrev Qbg:=ByteArray × ByteArray
def Qhf (s:List UInt8 × ByteArray) (ps:List Qbg):List UInt8 × ByteArray:=ps.foldl (fun s p=>tokW s p.1 p.2) s
def Qf7:List Qbg → Nat
 | []=>0
 | p :: r=>p.1.size + p.2.size + 1 + Qf7 r
theorem sizeP_append (a c:List Qbg):Qf7 (a ++ c) = Qf7 a + Qf7 c:=by
 induction a with
 | nil=>simp [Qf7]
 | cons p r ih=>rw [List.cons_append,Qf7,Qf7,ih];omega
theorem foldW_append (s:List UInt8 × ByteArray) (a c:List Qbg):Qhf s (a ++ c) = Qhf (Qhf s a) c:=List.foldl_append
theorem foldW_one (s:List UInt8 × ByteArray) (p:Qbg):Qhf s [p] = tokW s p.1 p.2:=rfl
theorem sepW_le (a l x:ByteArray):(sepW a l x).size ≤ l.size + 1:=by
 unfold sepW
 split
 ·rename_i h
  rw [h.1]
  exact xA 1
 ·omega
theorem foldW_le (ps:List Qbg):∀ s,(Qhf s ps).1.length ≤ s.1.length + Qf7 ps:=by
 induction ps with
 | nil=>intro s;exact xA _
 | cons p r ih =>
  intro s
  have h1:=ih (tokW s p.1 p.2)
  have h2:=sepW_le s.2 p.1 p.2
  have e1:(sepW s.2 p.1 p.2).data.size = (sepW s.2 p.1 p.2).size:=rfl
  have e2:p.2.data.size = p.2.size:=rfl
  have h3:(tokW s p.1 p.2).1.length = s.1.length + (sepW s.2 p.1 p.2).data.size + p.2.data.size:=by unfold tokW;simp only [xB,Array.length_toList]
  show (Qhf (tokW s p.1 p.2) r).1.length ≤ _
  rw [Qf7]
  omega
def Qa6 (co:Bool) (cs:List ByteArray):Nat → List (List Qbg) → List Qbg
 | _,[]=>[]
 | i,p :: r=>(if 0 < i ∧ co = true then [((cs[i - 1]?).getD ⟨#[]⟩,⟨#[44]⟩)] else []) ++ p ++ Qa6 co cs (i + 1) r
def Qbo (n:Int) (tx:ByteArray) (cs:List ByteArray):List Part → List ByteArray → List (List Qbg) → List Qbg
 | [],_,_=>[]
 | x :: r,ls,ks=>if x.kids ≠ 0 then Qa6 x.commas cs 0 (ks.take (Qbz x n).toNat) ++ Qbo n tx cs r ls (ks.drop (Qbz x n).toNat)
  else ((ls[0]?).getD ⟨#[]⟩,if x.nm ≠ 0 then tx else x.word) :: Qbo n tx cs r (ls.drop 1) ks
mutual
def Qaf:Tr → List Qbg
 | .mk k x ls ks=>Qbo (Qb0 (Qae k) ks.length).1 x (ls.drop (Qb9 (Qae k))) (Qae k) ls (Qf8 ks)
def Qf8:List Tr → List (List Qbg)
 | []=>[]
 | t :: r=>Qaf t :: Qf8 r
end
theorem piecesL_map (l:List Tr):Qf8 l = l.map Qaf:=by
 induction l with
 | nil=>rfl
 | cons a r ih=>rw [Qf8,ih];rfl
theorem Qdc (t:Tr):Qaf t = Qbo (Qb0 (Qae t.kind) t.kids.length).1 t.text (t.leads.drop (Qb9 (Qae t.kind))) (Qae t.kind) t.leads (t.kids.map Qaf):=by
 cases t with
 | mk k x ls ks=>rw [Qaf,piecesL_map];rfl
def textL (t:Tr):List UInt8:=(Qhf ([],⟨#[]⟩) (Qaf t)).1
theorem TrAt.lows {B:Nat} {w w':World} {t:Tr} {v:TV} (h:TrAt (fun k=>k < B) w t v) (hb:Below B w w'):TrAt (fun k=>k < B) w' t v:=TrAt.move (fun _ h=>h) (fun k hk _=>hb.block k hk) t v h
theorem StrsAt.low {S:Nat → Prop} {w:World} {A:Option Addr} {l:List ByteArray} (h:StrsAt S w A l):StrsAt (fun k=>k < w.heap.size) w A l:=fun hne=>by
 obtain ⟨b,off,hA,_,hc⟩:=h hne
 refine ⟨b,off,hA,?_,hc⟩
 cases l with
 | nil=>exact absurd rfl hne
 | cons a r=>exact xK w _ (hc 0 a rfl)
mutual
theorem TrAt.low {S:Nat → Prop} {w:World}:(t:Tr) → (v:TV) → TrAt S w t v → TrAt (fun k=>k < w.heap.size) w t v
 | .mk k x ls ks,v,h=>by
  unfold TrAt at h ⊢
  obtain ⟨h1,h2,h3,h4,h5,h6,h7⟩:=h
  refine ⟨h1,h2,h3,h4,h5.low,fun hne=>?_,h7⟩
  obtain ⟨b,off,hA,hb,hc⟩:=h6 hne
  refine ⟨b,off,hA,?_,TrsAt.low b ks off hc⟩
  cases ks with
  | nil=>exact absurd rfl hne
  | cons a r =>
   unfold TrsAt at hc
   obtain ⟨u,c0,_⟩:=hc
   exact xK w _ c0
theorem TrsAt.low {S:Nat → Prop} {w:World} (b:Nat):(l:List Tr) → (off:Nat) → TrsAt S w b off l → TrsAt (fun k=>k < w.heap.size) w b off l
 | [],off,h=>trivial
 | t :: r,off,h=>by
  unfold TrsAt at h ⊢
  obtain ⟨v,c0,c1,c2,c3,ht,hr⟩:=h
  exact ⟨v,c0,c1,c2,c3,TrAt.low t v ht,TrsAt.low b r _ hr⟩
end
def printT (t:Tr):ByteArray:=if Qao t && ledT t then ⟨(textL t).toArray⟩ else ⟨#[]⟩
def mostP:List Part → Int → Bool
 | [],_=>true
 | x :: r,n=>decide (Qbz x n ≤ x.most) && mostP r n
mutual
def Qfv:Tr → Bool
 | .mk kd _ _ ks=>mostP (Qae kd) (Qb0 (Qae kd) ks.length).1 && limL ks
def limL:List Tr → Bool
 | []=>true
 | k :: r=>Qfv k && limL r
end
theorem limT_eq (t:Tr):Qfv t = (mostP (Qae t.kind) (Qb0 (Qae t.kind) t.kids.length).1 && limL t.kids):=by
 cases t with
 | mk kd x ls ks=>rw [Qfv];rfl
theorem limL_at (l:List Tr) (j:Nat) (k:Tr) (hk:l[j]? = some k):limL (l.drop j) = (Qfv k && limL (l.drop (j + 1))):=by
 obtain ⟨hj,he⟩:=List.getElem?_eq_some_iff.1 hk
 rw [List.drop_eq_getElem_cons hj,he,limL]
theorem limL_end (l:List Tr) (j:Nat) (h:l.length ≤ j):limL (l.drop j) = true:=by
 rw [List.drop_eq_nil_of_le h,limL]
def Qf9 (t:Tr):Bool:=Qao t && ledT t && Qfv t && Qdp t 40 && decide ((textL t).length ≤ 4096)
def ParsePost (r:Tr × Nat × Nat) (w:World) (e:Ending) (w':World):Prop :=
 ∃ v:TV,e = .returned (.tuple #[.agg #[.int .i64 v.kind,.string v.text,.slice v.la v.ll v.lc,.slice v.ka v.kl v.kc],.int .i64 r.2.1,.int .i64 r.2.2]) ∧ TrAt (fun k=>w.heap.size ≤ k ∧ k < w'.heap.size) w' r.1 v ∧ Below w.heap.size w w'
theorem parseM_bad {n:Nat} {s:ByteArray} {r:Tr × Nat × Nat} (h:Qgy n s = some r) (he:(Qbd s).e ≠ 0):r = (noTr,(Qbd s).place,(Qbd s).e):=by
 unfold Qgy at h
 rw [if_pos he] at h
 injection h with h
 exact h.symm
theorem parseM_good {n:Nat} {s:ByteArray} {r:Tr × Nat × Nat} (h:Qgy n s = some r) (he:(Qbd s).e = 0):∃ t p,Qf2 (Qg9 n) n 1 (Qae 1) ⟨#[]⟩ [] [] [] (initP s) = some (t,p) ∧ r = (if p.e ≠ 0 then (noTr,p.place,p.e) else if Qdp t 40 then (t,0,0) else (noTr,0,4)):=by
 unfold Qgy at h
 rw [if_neg (by omega)] at h
 cases hN:Qf2 (Qg9 n) n 1 (Qae 1) ⟨#[]⟩ [] [] [] (initP s) with
 | none =>
  unfold initP at hN
  rw [hN] at h
  cases h
 | some tp =>
  refine ⟨tp.1,tp.2,rfl,?_⟩
  unfold initP at hN
  rw [hN] at h
  injection h with h
  exact h.symm
theorem noTr_at (S:Nat → Prop) (w:World):TrAt S w noTr ⟨0,⟨#[]⟩,none,0,0,none,0,0⟩:=by
 unfold noTr TrAt
 exact ⟨rfl,rfl,rfl,rfl,fun h=>absurd rfl h,fun h=>absurd rfl h,xA _,xA _⟩
theorem parse_state {s:ByteArray} {w:World} {B g cap:Nat} (he:(Qbd s).e = 0) (hown:w.ownsRow B 74 3 (.slice (some ⟨g,0,none⟩) ((Qbd s).toks.length + 1) cap) ((Qbd s).toks.length + 1) (Qcg (Qbd s).toks ++ [.int .i64 0,.string (Qbd s).tail,.string ⟨#[]⟩])) (hlt:g < w.heap.size) :
  PIn (w.alloc (.cells #[.slice (some ⟨g,0,none⟩) ((Qbd s).toks.length + 1) cap,.int .i64 0,.int .i64 0,.int .i64 0] 95)) w.heap.size (initP s):=by
 have hl:(initP s).rest.length = (Qbd s).toks.length + 1:=by unfold initP;simp
 have hc:Qcg (initP s).rest = Qcg (Qbd s).toks ++ [.int .i64 0,.string (Qbd s).tail,.string ⟨#[]⟩]:=by
  show Qcg ((Qbd s).toks ++ [_]) = _
  rw [Qg8]
 refine ⟨g,0,cap,?_,hlt,?_,?_,init_ok he⟩
 ·rw [hl]
  exact xH w _
 ·rw [hl]
  rcases hown.2 with ⟨hv,_⟩ | ⟨g',cap',cur,hv,_,_,hn,_⟩
  ·simp at hv
  ·simp at hv
   omega
 ·exact Toks.of_own (base:=B) (c:=cap) (by rw [hl,hc];exact hown.alloc _)
theorem parse_bad {n:Nat} {s:ByteArray} {r:Tr × Nat × Nat} (w:World) (hs:s.size ≤ maxLen) (h:Qgy n s = some r) (he:(Qbd s).e ≠ 0):Calls Tryz.prog 41 #[.string s] w (ParsePost r w):=by
 have HR:=hQ (parseM_bad h he)
 have HS:=hQ hs
 have he':(((Qbd s).e:Int) != 0) = true:=by simp;omega
 clear h he hs
 go_enter Tryz.func41,Tryz.ntmps41
 go_wp2_with fail
 go_at_call 46
 refine (scan_any s _ HS.out).mono ?_
 rintro e w1 ⟨tv,rfl,_,hb⟩
 have HB:=hQ (((xC w.heap.size w).alloc (xA _) (.cells #[.int .i64 0,.string ⟨#[]⟩,.slice none 0 0,.slice none 0 0] 25)).trans (hb.mono (by simp)))
 have g0:=(hb.block w.heap.size (by simp)).trans (xH w (.cells #[.int .i64 0,.string ⟨#[]⟩,.slice none 0 0,.slice none 0 0] 25))
 clear hb
 have r0:w1.cell? ⟨w.heap.size,0,none⟩ = some (.int .i64 0):=Qab g0 0 _ rfl
 have r1:w1.cell? ⟨w.heap.size,1,none⟩ = some (.string ⟨#[]⟩):=Qab g0 1 _ rfl
 have r2:w1.cell? ⟨w.heap.size,2,none⟩ = some (.slice none 0 0):=Qab g0 2 _ rfl
 have r3:w1.cell? ⟨w.heap.size,3,none⟩ = some (.slice none 0 0):=Qab g0 3 _ rfl
 have rf:=Lib.frozen_of_heap g0
 clear g0
 go_wp2
 refine bodyPost_ret (v:=.tuple #[.agg #[.int .i64 0,.string ⟨#[]⟩,.slice none 0 0,.slice none 0 0],.int .i64 (Qbd s).place,.int .i64 (Qbd s).e]) (by simp [results,Tryz.results41,go_sem, *]) rfl ?_
 rw [HR.out]
 exact ⟨⟨0,⟨#[]⟩,none,0,0,none,0,0⟩,rfl,noTr_at _ _,(((HB.out.setCell (p:=⟨w.heap.size,0,none⟩) (xA _) _).setCell (p:=⟨w.heap.size,1,none⟩) (xA _) _).setCell (p:=⟨w.heap.size,2,none⟩) (xA _) _).setCell (p:=⟨w.heap.size,3,none⟩) (xA _) _⟩
theorem parse_good {n:Nat} (hn:n ≤ 65536) {s:ByteArray} {r:Tr × Nat × Nat} (w:World) (hs:s.size ≤ maxLen) (h:Qgy n s = some r) (he:(Qbd s).e = 0):Calls Tryz.prog 41 #[.string s] w (ParsePost r w):=by
 obtain ⟨t,p,hN,hr⟩:=parseM_good h he
 have HN:=hQ hN
 have HR:=hQ hr
 have HE:=hQ he
 have HS:=hQ hs
 have HNC:=hQ (node_ok hn)
 have HSM:=hQ (show Qcn t = true from small_parts (small_tree n hn) hn hN)
 have HTL:=hQ (scan_sizes he).1
 have he':(((Qbd s).e:Int) != 0) = false:=by simp [he]
 clear h he hs hN hr
 obtain ⟨i0,hi,hz0,hz1,hz2⟩:=info_parts token_info
 go_enter Tryz.func41,Tryz.ntmps41
 go_wp2_with fail
 go_at_call 46
 refine (scan_any s _ HS.out).mono ?_
 rintro e w1 ⟨tv,rfl,hown,hb⟩
 rw [xI] at hown
 have HB:=hQ (((xC w.heap.size w).alloc (xA _) (.cells #[.int .i64 0,.string ⟨#[]⟩,.slice none 0 0,.slice none 0 0] 25)).trans (hb.mono (by simp)))
 have HG0:=hQ ((hb.block w.heap.size (by simp)).trans (xH w (.cells #[.int .i64 0,.string ⟨#[]⟩,.slice none 0 0,.slice none 0 0] 25)))
 have HW1:=hQ (show w.heap.size + 1 ≤ w1.heap.size from by have:=hb.size;rw [xI] at this;exact this)
 have HOW:=hQ hown
 clear hb hown
 go_wp2_with (at_builtin;refine wpList_append_lies _ (by rfl) _ _ _ (by rfl) (w.heap.size + 1) 74 i0 _ 3 40 Tryz.underlying70 hi hz0 hz1 hz2 rfl (by decide) tv (Qbd s).toks.length (Qcg (Qbd s).toks) (by rfl) (HOW.out.alloc _) ⟨w1.heap.size,0,none⟩ 1 1 [.int .i64 0,.string (Qbd s).tail,.string ⟨#[]⟩] (by rfl) (by rfl) (World.news_of_block (cs:=#[.int .i64 0,.string (Qbd s).tail,.string ⟨#[]⟩]) (t:=74) (fr:=(0,0)) (xH w1 _)) (one_three _ _ _) (by decide) ?b1 ?b2 ?b3 (w1.heap.size + 1) (by simp) ?_)
 case b1=>unfold maxLen;have:=HTL.out;omega
 case b2=>have:=HTL.out;omega
 case b3=>have:=HW1.out;simp;omega
 intro g cap w2 hown2 hgrow hat hlt2
 have HP2:=hQ (parse_state HE.out hown2 hlt2)
 have hgb:∀ k,tv.ownBlock = some k → w.heap.size + 1 ≤ k:=fun k hk=>(HOW.out.lt k hk).1
 have HB2:=hQ ((HB.out.alloc HB.out.size (.cells #[.int .i64 0,.string (Qbd s).tail,.string ⟨#[]⟩] 74)).grown hgrow (by have:=HW1.out;simp;omega) (fun k hk=>by have:=hgb k hk;omega))
 have HG2:=hQ ((hgrow.block w.heap.size (by have:=HW1.out;simp;omega) (fun e=>by have:=hgb _ e.symm;omega)).trans ((Below.heap_alloc _ _ _ (Qaa HG0.out)).trans HG0.out))
 have HW2:=hQ (show w.heap.size + 1 ≤ w2.heap.size from by have h1:=hgrow.size;rw [xI] at h1;have:=HW1.out;omega)
 clear hown2 hgrow hat hlt2 hgb hi hz0 hz1 hz2
 go_wp2_with fail
 go_at_call 70
 refine (HNC.out w2.heap.size 1 (initP s) t p _ HN.out HP2.out).mono ?_
 rintro e w3 ⟨v,rfl,htr,hp3,ho3⟩
 have HTR:=hQ htr
 have HP3:=hQ hp3
 have HA2:=hQ (show Below w.heap.size w (w2.alloc (.cells #[.slice (some ⟨g,0,none⟩) ((Qbd s).toks.length + 1) cap,.int .i64 0,.int .i64 0,.int .i64 0] 95)) from HB2.out.alloc HB2.out.size _)
 have HB3:=hQ (HA2.out.trans (ho3.below (B:=w.heap.size) (by have:=HW2.out;omega) (by rw [xI];have:=HW2.out;omega)))
 have HG3:=hQ ((ho3.block w.heap.size (by rw [xI];have:=HW2.out;omega) (by have:=HW2.out;omega)).trans ((Below.heap_alloc _ _ _ (Qaa HG2.out)).trans HG2.out))
 have HW3:=hQ (show w2.heap.size + 1 ≤ w3.heap.size from by have:=ho3.size;rw [xI] at this;exact this)
 clear htr hp3 ho3
 obtain ⟨tb,off,c,hpa⟩:=HP3.out
 have q2:w3.cell? ⟨w2.heap.size,2,none⟩ = some (.int .i64 p.place):=hpa.c2
 have q3:w3.cell? ⟨w2.heap.size,3,none⟩ = some (.int .i64 p.e):=hpa.c3
 have qe:=hpa.lt
 clear hpa
 have r0:w3.cell? ⟨w.heap.size,0,none⟩ = some (.int .i64 0):=Qab HG3.out 0 _ rfl
 have r1:w3.cell? ⟨w.heap.size,1,none⟩ = some (.string ⟨#[]⟩):=Qab HG3.out 1 _ rfl
 have r2:w3.cell? ⟨w.heap.size,2,none⟩ = some (.slice none 0 0):=Qab HG3.out 2 _ rfl
 have r3:w3.cell? ⟨w.heap.size,3,none⟩ = some (.slice none 0 0):=Qab HG3.out 3 _ rfl
 have rf:=Lib.frozen_of_heap HG3.out
 have ne1:w.heap.size ≠ w2.heap.size:=by have:=HW2.out;omega
 by_cases hpe:p.e = 0
 ·have hpe':((p.e:Int) != 0) = false:=by simp [hpe]
  have HPE:=hQ hpe
  clear hpe
  go_wp2_with fail
  have hR:Rest (fun k=>k = w.heap.size) w3 ((((w3.setCell ⟨w.heap.size,0,none⟩ (.int .i64 v.kind)).setCell ⟨w.heap.size,1,none⟩ (.string v.text)).setCell ⟨w.heap.size,2,none⟩ (.slice v.la v.ll v.lc)).setCell ⟨w.heap.size,3,none⟩ (.slice v.ka v.kl v.kc)):=(((Rest.set1 _ _ _).trans (Rest.set1 _ _ _)).trans (Rest.set1 _ _ _)).trans (Rest.set1 _ _ _)
  have hB4:Below w.heap.size w ((((w3.setCell ⟨w.heap.size,0,none⟩ (.int .i64 v.kind)).setCell ⟨w.heap.size,1,none⟩ (.string v.text)).setCell ⟨w.heap.size,2,none⟩ (.slice v.la v.ll v.lc)).setCell ⟨w.heap.size,3,none⟩ (.slice v.ka v.kl v.kc)):=(((HB3.out.setCell (p:=⟨w.heap.size,0,none⟩) (xA _) _).setCell (p:=⟨w.heap.size,1,none⟩) (xA _) _).setCell (p:=⟨w.heap.size,2,none⟩) (xA _) _).setCell (p:=⟨w.heap.size,3,none⟩) (xA _) _
  have g0:(w3.setCell ⟨w.heap.size,0,none⟩ (.int .i64 v.kind)).heap[w.heap.size]? = some (.cells #[.int .i64 v.kind,.string ⟨#[]⟩,.slice none 0 0,.slice none 0 0] 25 (0,0)):=Qa0 HG3.out rfl
  have g1:((w3.setCell ⟨w.heap.size,0,none⟩ (.int .i64 v.kind)).setCell ⟨w.heap.size,1,none⟩ (.string v.text)).heap[w.heap.size]? = some (.cells #[.int .i64 v.kind,.string v.text,.slice none 0 0,.slice none 0 0] 25 (0,0)):=Qa0 g0 rfl
  have g2:(((w3.setCell ⟨w.heap.size,0,none⟩ (.int .i64 v.kind)).setCell ⟨w.heap.size,1,none⟩ (.string v.text)).setCell ⟨w.heap.size,2,none⟩ (.slice v.la v.ll v.lc)).heap[w.heap.size]? = some (.cells #[.int .i64 v.kind,.string v.text,.slice v.la v.ll v.lc,.slice none 0 0] 25 (0,0)):=Qa0 g1 rfl
  have g3:((((w3.setCell ⟨w.heap.size,0,none⟩ (.int .i64 v.kind)).setCell ⟨w.heap.size,1,none⟩ (.string v.text)).setCell ⟨w.heap.size,2,none⟩ (.slice v.la v.ll v.lc)).setCell ⟨w.heap.size,3,none⟩ (.slice v.ka v.kl v.kc)).heap[w.heap.size]? = some (.cells #[.int .i64 v.kind,.string v.text,.slice v.la v.ll v.lc,.slice v.ka v.kl v.kc] 25 (0,0)):=Qa0 g2 rfl
  have ht4:TrAt (fun k=>w.heap.size + 1 ≤ k ∧ k < ((((w3.setCell ⟨w.heap.size,0,none⟩ (.int .i64 v.kind)).setCell ⟨w.heap.size,1,none⟩ (.string v.text)).setCell ⟨w.heap.size,2,none⟩ (.slice v.la v.ll v.lc)).setCell ⟨w.heap.size,3,none⟩ (.slice v.ka v.kl v.kc)).heap.size) ((((w3.setCell ⟨w.heap.size,0,none⟩ (.int .i64 v.kind)).setCell ⟨w.heap.size,1,none⟩ (.string v.text)).setCell ⟨w.heap.size,2,none⟩ (.slice v.la v.ll v.lc)).setCell ⟨w.heap.size,3,none⟩ (.slice v.ka v.kl v.kc)) t v:=TrAt.move (fun k hk=>⟨by have:=hk.1;rw [xI] at this;have:=HW2.out;omega,xE hk.2 hR.size⟩) (fun k hk hlt=>hR.block k hlt (fun e:k = w.heap.size=>by have:=hk.1;rw [xI] at this;have:=HW2.out;omega)) _ _ HTR.out
  have HR4:=hQ hR
  have HB4:=hQ hB4
  have HG4:=hQ g3
  have HT4:=hQ ht4
  clear hR hB4 g0 g1 g2 g3 ht4 r0 r1 r2 r3 rf
  generalize ((((w3.setCell ⟨w.heap.size,0,none⟩ (.int .i64 v.kind)).setCell ⟨w.heap.size,1,none⟩ (.string v.text)).setCell ⟨w.heap.size,2,none⟩ (.slice v.la v.ll v.lc)).setCell ⟨w.heap.size,3,none⟩ (.slice v.ka v.kl v.kc)) = W4 at HR4 HB4 HG4 HT4 ⊢
  go_at_call 71
  refine (within_syn 40 _ t v _ (by decide) HT4.out HSM.out).mono ?_
  rintro e w5 ⟨rfl,hb5⟩
  have HB5:=hQ hb5
  have hg5:=(hb5.block w.heap.size (Qaa HG4.out)).trans HG4.out
  have r0:w5.cell? ⟨w.heap.size,0,none⟩ = some (.int .i64 v.kind):=Qab hg5 0 _ rfl
  have r1:w5.cell? ⟨w.heap.size,1,none⟩ = some (.string v.text):=Qab hg5 1 _ rfl
  have r2:w5.cell? ⟨w.heap.size,2,none⟩ = some (.slice v.la v.ll v.lc):=Qab hg5 2 _ rfl
  have r3:w5.cell? ⟨w.heap.size,3,none⟩ = some (.slice v.ka v.kl v.kc):=Qab hg5 3 _ rfl
  have rf:=Lib.frozen_of_heap hg5
  clear hb5 hg5 q2 q3 qe
  have HBW:=hQ (HB4.out.trans (HB5.out.mono HB4.out.size))
  cases hwt:Qdp t 40
  ·have HRR:=hQ (show r = (noTr,0,4) from by rw [HR.out,HPE.out,hwt];rfl)
   go_wp2
   refine bodyPost_ret (v:=.tuple #[.agg #[.int .i64 0,.string ⟨#[]⟩,.slice none 0 0,.slice none 0 0],.int .i64 0,.int .i64 4]) (by simp [results,Tryz.results41,go_sem, *]) rfl ?_
   rw [HRR.out]
   exact ⟨⟨0,⟨#[]⟩,none,0,0,none,0,0⟩,rfl,noTr_at _ _,(((HBW.out.setCell (p:=⟨w.heap.size,0,none⟩) (xA _) _).setCell (p:=⟨w.heap.size,1,none⟩) (xA _) _).setCell (p:=⟨w.heap.size,2,none⟩) (xA _) _).setCell (p:=⟨w.heap.size,3,none⟩) (xA _) _⟩
  ·have HRR:=hQ (show r = (t,0,0) from by rw [HR.out,HPE.out,hwt];rfl)
   go_wp2
   refine bodyPost_ret (v:=.tuple #[.agg #[.int .i64 v.kind,.string v.text,.slice v.la v.ll v.lc,.slice v.ka v.kl v.kc],.int .i64 0,.int .i64 0]) (by simp [results,Tryz.results41,go_sem, *]) rfl ?_
   rw [HRR.out]
   have hR5:=(((Rest.set1 (w:=w5) w.heap.size 0 (.int .i64 v.kind)).trans (Rest.set1 w.heap.size 1 (.string v.text))).trans (Rest.set1 w.heap.size 2 (.slice v.la v.ll v.lc))).trans (Rest.set1 w.heap.size 3 (.slice v.ka v.kl v.kc))
   exact ⟨v,rfl,TrAt.move (fun k hk=>⟨by have:=hk.1;omega,xE hk.2 (Nat.le_trans HB5.out.size hR5.size)⟩) (fun k hk hlt=>hR5.block k hlt (fun e:k = w.heap.size=>by have:=hk.1;omega)) _ _ (HT4.out.keep HB5.out),(((HBW.out.setCell (p:=⟨w.heap.size,0,none⟩) (xA _) _).setCell (p:=⟨w.heap.size,1,none⟩) (xA _) _).setCell (p:=⟨w.heap.size,2,none⟩) (xA _) _).setCell (p:=⟨w.heap.size,3,none⟩) (xA _) _⟩
 ·have hpe':((p.e:Int) != 0) = true:=by simp;omega
  have HRR:=hQ (show r = (noTr,p.place,p.e) from by rw [HR.out,if_pos hpe])
  clear hpe
  go_wp2_with fail
  have hR:Rest (fun k=>k = w.heap.size) w3 ((((w3.setCell ⟨w.heap.size,0,none⟩ (.int .i64 v.kind)).setCell ⟨w.heap.size,1,none⟩ (.string v.text)).setCell ⟨w.heap.size,2,none⟩ (.slice v.la v.ll v.lc)).setCell ⟨w.heap.size,3,none⟩ (.slice v.ka v.kl v.kc)):=(((Rest.set1 _ _ _).trans (Rest.set1 _ _ _)).trans (Rest.set1 _ _ _)).trans (Rest.set1 _ _ _)
  have hB4:Below w.heap.size w ((((w3.setCell ⟨w.heap.size,0,none⟩ (.int .i64 v.kind)).setCell ⟨w.heap.size,1,none⟩ (.string v.text)).setCell ⟨w.heap.size,2,none⟩ (.slice v.la v.ll v.lc)).setCell ⟨w.heap.size,3,none⟩ (.slice v.ka v.kl v.kc)):=(((HB3.out.setCell (p:=⟨w.heap.size,0,none⟩) (xA _) _).setCell (p:=⟨w.heap.size,1,none⟩) (xA _) _).setCell (p:=⟨w.heap.size,2,none⟩) (xA _) _).setCell (p:=⟨w.heap.size,3,none⟩) (xA _) _
  have g0:(w3.setCell ⟨w.heap.size,0,none⟩ (.int .i64 v.kind)).heap[w.heap.size]? = some (.cells #[.int .i64 v.kind,.string ⟨#[]⟩,.slice none 0 0,.slice none 0 0] 25 (0,0)):=Qa0 HG3.out rfl
  have g1:((w3.setCell ⟨w.heap.size,0,none⟩ (.int .i64 v.kind)).setCell ⟨w.heap.size,1,none⟩ (.string v.text)).heap[w.heap.size]? = some (.cells #[.int .i64 v.kind,.string v.text,.slice none 0 0,.slice none 0 0] 25 (0,0)):=Qa0 g0 rfl
  have g2:(((w3.setCell ⟨w.heap.size,0,none⟩ (.int .i64 v.kind)).setCell ⟨w.heap.size,1,none⟩ (.string v.text)).setCell ⟨w.heap.size,2,none⟩ (.slice v.la v.ll v.lc)).heap[w.heap.size]? = some (.cells #[.int .i64 v.kind,.string v.text,.slice v.la v.ll v.lc,.slice none 0 0] 25 (0,0)):=Qa0 g1 rfl
  have g3:((((w3.setCell ⟨w.heap.size,0,none⟩ (.int .i64 v.kind)).setCell ⟨w.heap.size,1,none⟩ (.string v.text)).setCell ⟨w.heap.size,2,none⟩ (.slice v.la v.ll v.lc)).setCell ⟨w.heap.size,3,none⟩ (.slice v.ka v.kl v.kc)).heap[w.heap.size]? = some (.cells #[.int .i64 v.kind,.string v.text,.slice v.la v.ll v.lc,.slice v.ka v.kl v.kc] 25 (0,0)):=Qa0 g2 rfl
  have ht4:TrAt (fun k=>w.heap.size + 1 ≤ k ∧ k < ((((w3.setCell ⟨w.heap.size,0,none⟩ (.int .i64 v.kind)).setCell ⟨w.heap.size,1,none⟩ (.string v.text)).setCell ⟨w.heap.size,2,none⟩ (.slice v.la v.ll v.lc)).setCell ⟨w.heap.size,3,none⟩ (.slice v.ka v.kl v.kc)).heap.size) ((((w3.setCell ⟨w.heap.size,0,none⟩ (.int .i64 v.kind)).setCell ⟨w.heap.size,1,none⟩ (.string v.text)).setCell ⟨w.heap.size,2,none⟩ (.slice v.la v.ll v.lc)).setCell ⟨w.heap.size,3,none⟩ (.slice v.ka v.kl v.kc)) t v:=TrAt.move (fun k hk=>⟨by have:=hk.1;rw [xI] at this;have:=HW2.out;omega,xE hk.2 hR.size⟩) (fun k hk hlt=>hR.block k hlt (fun e:k = w.heap.size=>by have:=hk.1;rw [xI] at this;have:=HW2.out;omega)) _ _ HTR.out
  have HR4:=hQ hR
  have HB4:=hQ hB4
  have HG4:=hQ g3
  have HT4:=hQ ht4
  clear hR hB4 g0 g1 g2 g3 ht4 r0 r1 r2 r3 rf
  have p2:=(xJ (w:=w3) (a:=⟨w2.heap.size,2,none⟩) (HR4.out.block w2.heap.size qe (fun e:w2.heap.size = w.heap.size=>ne1 e.symm))).trans q2
  have p3:=(xJ (w:=w3) (a:=⟨w2.heap.size,3,none⟩) (HR4.out.block w2.heap.size qe (fun e:w2.heap.size = w.heap.size=>ne1 e.symm))).trans q3
  clear q2 q3 qe
  generalize ((((w3.setCell ⟨w.heap.size,0,none⟩ (.int .i64 v.kind)).setCell ⟨w.heap.size,1,none⟩ (.string v.text)).setCell ⟨w.heap.size,2,none⟩ (.slice v.la v.ll v.lc)).setCell ⟨w.heap.size,3,none⟩ (.slice v.ka v.kl v.kc)) = W4 at HR4 HB4 HG4 HT4 p2 p3 ⊢
  have r0:W4.cell? ⟨w.heap.size,0,none⟩ = some (.int .i64 v.kind):=Qab HG4.out 0 _ rfl
  have r1:W4.cell? ⟨w.heap.size,1,none⟩ = some (.string v.text):=Qab HG4.out 1 _ rfl
  have r2:W4.cell? ⟨w.heap.size,2,none⟩ = some (.slice v.la v.ll v.lc):=Qab HG4.out 2 _ rfl
  have r3:W4.cell? ⟨w.heap.size,3,none⟩ = some (.slice v.ka v.kl v.kc):=Qab HG4.out 3 _ rfl
  have rf:=Lib.frozen_of_heap HG4.out
  go_region
  all_goals
   go_wp2
   refine bodyPost_ret (v:=.tuple #[.agg #[.int .i64 0,.string ⟨#[]⟩,.slice none 0 0,.slice none 0 0],.int .i64 p.place,.int .i64 p.e]) (by simp [results,Tryz.results41,go_sem, *]) rfl ?_
   rw [HRR.out]
   exact ⟨⟨0,⟨#[]⟩,none,0,0,none,0,0⟩,rfl,noTr_at _ _,((((HB4.out.setCell (p:=⟨w.heap.size,0,none⟩) (xA _) _).setCell (p:=⟨w.heap.size,1,none⟩) (xA _) _).setCell (p:=⟨w.heap.size,2,none⟩) (xA _) _).setCell (p:=⟨w.heap.size,3,none⟩) (xA _) _).drew⟩
theorem parse_syn {n:Nat} (hn:n ≤ 65536) {s:ByteArray} {r:Tr × Nat × Nat} (w:World) (hs:s.size ≤ maxLen) (h:Qgy n s = some r):Calls Tryz.prog 41 #[.string s] w (ParsePost r w):=by
 by_cases he:(Qbd s).e = 0
 ·exact parse_good hn w hs h he
 ·exact parse_bad w hs h he
def Qga (w:World) (b:Nat) (u:TV):World:=(((w.setCell ⟨b,0,none⟩ (.int .i64 u.kind)).setCell ⟨b,1,none⟩ (.string u.text)).setCell ⟨b,2,none⟩ (.slice u.la u.ll u.lc)).setCell ⟨b,3,none⟩ (.slice u.ka u.kl u.kc)
def trO (v:TV):Obj:=.cells #[.int .i64 v.kind,.string v.text,.slice v.la v.ll v.lc,.slice v.ka v.kl v.kc] 25
theorem Qg1 {w:World} {b:Nat} {v:TV} (u:TV) (h:w.heap[b]? = some (trO v)):(Qga w b u).heap[b]? = some (trO u):=Qa0 (Qa0 (Qa0 (Qa0 h rfl) rfl) rfl) rfl
theorem Qcd (w:World) (b:Nat) (u:TV):Below b w (Qga w b u):=((((xC b w).setCell (p:=⟨b,0,none⟩) (xA _) _).setCell (p:=⟨b,1,none⟩) (xA _) _).setCell (p:=⟨b,2,none⟩) (xA _) _).setCell (p:=⟨b,3,none⟩) (xA _) _
mutual
def Qan:Tr → Nat
 | .mk _ _ _ ks=>1 + Qap ks
def Qap:List Tr → Nat
 | []=>0
 | t :: r=>Qan t + Qap r
end
mutual
def Qen:Tr → Nat
 | .mk _ _ _ ks=>Qdl ks + 1
def Qdl:List Tr → Nat
 | []=>0
 | t :: r=>max (Qen t) (Qdl r)
end
theorem Qbv (t:Tr):Qan t = 1 + Qap t.kids:=by cases t;rw [Qan];rfl
theorem depthT_eq (t:Tr):Qen t = Qdl t.kids + 1:=by cases t;rw [Qen];rfl
theorem Qee:(a b:List Tr) → Qap (a ++ b) = Qap a + Qap b
 | [],b=>by rw [List.nil_append,Qap];omega
 | t :: r,b=>by rw [List.cons_append,Qap,Qap,Qee r b];omega
theorem depthL_append:(a b:List Tr) → Qdl (a ++ b) = max (Qdl a) (Qdl b)
 | [],b=>by rw [List.nil_append,Qdl];omega
 | t :: r,b=>by rw [List.cons_append,Qdl,Qdl,depthL_append r b];omega
theorem Qgb {α:Type} {l:List α} {j:Nat} {k:α} (h:l[j]? = some k):l.take (j + 1) = l.take j ++ [k]:=by
 rw [List.take_add_one,h]
 rfl
theorem Qc0 {l:List Tr} {j:Nat} {k:Tr} (h:l[j]? = some k):Qap (l.take (j + 1)) = Qap (l.take j) + Qan k:=by
 rw [Qgb h,Qee,Qap,Qap]
 omega
theorem depthL_take {l:List Tr} {j:Nat} {k:Tr} (h:l[j]? = some k):Qdl (l.take (j + 1)) = max (Qdl (l.take j)) (Qen k):=by
 rw [Qgb h,depthL_append,Qdl,Qdl]
 omega
theorem Qcy (l:List Tr) (j:Nat):Qap (l.take j) ≤ Qap l:=by
 conv=>rhs;rw [← List.take_append_drop j l,Qee]
 omega
theorem Qbw {t k:Tr} {j:Nat} (h:t.kids[j]? = some k):Qan k ≤ Qan t:=by
 have h1:=Qc0 h
 have h2:=Qcy t.kids (j + 1)
 rw [Qbv t]
 omega
mutual
theorem Qhg:(t:Tr) → Qen t ≤ Qan t
 | .mk _ _ _ ks=>by rw [Qen,Qan];have:=Qgo ks;omega
theorem Qgo:(l:List Tr) → Qdl l ≤ Qap l
 | []=>by rw [Qdl];omega
 | t :: r=>by rw [Qdl,Qap];have:=Qhg t;have:=Qgo r;omega
end
theorem Qbj:(l:List Tr) → l.length ≤ Qap l
 | []=>Nat.zero_le _
 | t :: r=>by
  rw [Qap,xD,Qbv]
  have:=Qbj r
  omega
theorem Qa1 {t k:Tr} {j:Nat} (h:t.kids[j]? = some k):SizeOf.sizeOf k < SizeOf.sizeOf t:=by
 cases t with
 | mk kd x ls ks =>
  have:=List.sizeOf_lt_of_mem (List.mem_of_getElem? (show ks[j]? = some k from h))
  rw [Tr.mk.sizeOf_spec]
  omega
theorem tr_pos (t:Tr):0 < SizeOf.sizeOf t:=by cases t;rw [Tr.mk.sizeOf_spec];omega
def KidsAtN (f:List Tr → Nat) (t:Tr) (W:World) (n i:Value) (wr:World):Prop:=∃ j:Nat,i = .int .i64 j ∧ j ≤ t.kids.length ∧ n = .int .i64 (f (t.kids.take j):Nat) ∧ Below W.heap.size W wr
def modM (n m:Int):Int:=if n.tmod m < 0 then n.tmod m + m else n.tmod m
theorem modM_bd (n:Int) {m:Int} (hm:0 < m):0 ≤ modM n m ∧ modM n m < m:=by
 have h1:=Int.tmod_lt_of_pos n hm
 have h2:-m < n.tmod m:=Int.lt_tmod_of_pos n hm
 unfold modM
 split <;> omega
theorem mod_syn (n m:Int) (w:World) (hm:0 < m) (hm2:m ≤ 1000000):Calls Tryz.prog 29 #[.int .i64 n,.int .i64 m] w fun e w'=>e = .returned (.int .i64 (modM n m)) ∧ w = w':=by
 have h1:=Int.tmod_lt_of_pos n hm
 have h2:-m < n.tmod m:=Int.lt_tmod_of_pos n hm
 have HM:=hQ (show modM n m = if n.tmod m < 0 then n.tmod m + m else n.tmod m from rfl)
 have h0:m ≠ 0:=by omega
 have hb:=Qcf h0
 by_cases h:n.tmod m < 0
 all_goals
  go_enter Tryz.func29,Tryz.ntmps29
  go_wp2
  go_ret
  exact ⟨Qb8 (by rw [HM.out];split <;> omega),rfl⟩
end Go.Proofs.YtnnfdbmanamfdaaGreat
