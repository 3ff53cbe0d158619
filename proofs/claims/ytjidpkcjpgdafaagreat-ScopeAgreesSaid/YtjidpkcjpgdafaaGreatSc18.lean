/- Part 18: The contracts of led and printable. The contract of the writer's token; the tokens of a tree, and its text; plain. The contract of (*writer).kids, given tree's. The contracts of text, Print, limited and Valid. Texts of stage 3 that this seat needs: TrBase, TreSize. The contract of awake of stage 2, and of semvcsmake.Mod. -/
import Derived.Test.YtjidpkcjpgdafaaGreatSc1
import Derived.Test.YtjidpkcjpgdafaaGreatSc16
import Derived.Test.YtjidpkcjpgdafaaGreatSc2
import Derived.Test.YtjidpkcjpgdafaaGreatSc4
import Derived.Test.YtjidpkcjpgdafaaGreatSc8
import Derived.Test.YtjidpkcjpgdafaaGreatSc17
import Derived.Deep.RegionHeld3
import Derived.Shelf.Strings.Builder1
import Derived.Deep.LoopGhost
import Derived.Deep.QuietTactic
import Derived.Lib.Builder
set_option maxRecDepth 100000
set_option maxHeartbeats 4000000
namespace Go.Proofs.YtjidpkcjpgdafaaGreat
open Go.RowKit
def trivL (kd:Int):Nat → List ByteArray → Bool
 | _,[]=>true
 | i,y :: r=>Qfs y (kd == 1 && (i:Int) == 2) && trivL kd (i + 1) r
mutual
def ledT:Tr → Bool
 | .mk kd _ ls ks=>((ls.length:Int) == leadsP kd ks.length) && trivL kd 0 ls && ledL ks
def ledL:List Tr → Bool
 | []=>true
 | k :: r=>ledT k && ledL r
end
theorem ledT_eq (t:Tr):ledT t = (((t.leads.length:Int) == leadsP t.kind t.kids.length) && trivL t.kind 0 t.leads && ledL t.kids):=by
 cases t with
 | mk kd x ls ks=>rw [ledT];rfl
theorem trivL_at (kd:Int) (l:List ByteArray) (i:Nat) (y:ByteArray) (hy:l[i]? = some y):trivL kd i (l.drop i) = (Qfs y (kd == 1 && (i:Int) == 2) && trivL kd (i + 1) (l.drop (i + 1))):=by
 obtain ⟨hi,he⟩:=List.getElem?_eq_some_iff.1 hy
 rw [List.drop_eq_getElem_cons hi,he,trivL]
theorem trivL_end (kd:Int) (l:List ByteArray) (i:Nat) (h:l.length ≤ i):trivL kd i (l.drop i) = true:=by
 rw [List.drop_eq_nil_of_le h,trivL]
theorem ledL_at (l:List Tr) (j:Nat) (k:Tr) (hk:l[j]? = some k):ledL (l.drop j) = (ledT k && ledL (l.drop (j + 1))):=by
 obtain ⟨hj,he⟩:=List.getElem?_eq_some_iff.1 hk
 rw [List.drop_eq_getElem_cons hj,he,ledL]
theorem ledL_end (l:List Tr) (j:Nat) (h:l.length ≤ j):ledL (l.drop j) = true:=by
 rw [List.drop_eq_nil_of_le h,ledL]
theorem TrAt.laddr {S:Nat → Prop} {w:World} {t:Tr} {v:TV} (h:TrAt S w t v):t.leads.length = 0 ∨ ∃ b off,v.la = some ⟨b,off,none⟩:=by
 cases t with
 | mk kd tx ls ks =>
  unfold TrAt at h
  cases ls with
  | nil=>exact .inl rfl
  | cons a r =>
   obtain ⟨b,off,hA,_⟩:=h.2.2.2.2.1 (by simp)
   exact .inr ⟨b,off,hA⟩
theorem TrAt.lat {S:Nat → Prop} {w:World} {t:Tr} {v:TV} {b off:Nat} (h:TrAt S w t v) (hA:v.la = some ⟨b,off,none⟩) {i:Nat} {y:ByteArray} (hy:t.leads[i]? = some y):w.cell? ⟨b,off + i,none⟩ = some (.string y):=by
 cases t with
 | mk kd tx ls ks =>
  unfold TrAt at h
  obtain ⟨b',off',hA',_,hc⟩:=h.2.2.2.2.1 (by intro e;rw [show (Tr.mk kd tx ls ks).leads = ls from rfl,e] at hy;simp at hy)
  rw [hA] at hA'
  injection hA' with e
  injection e with e1 e2 _
  subst e1 e2
  exact hc i y hy
def sepW (last lead text:ByteArray):ByteArray:=if lead.size = 0 ∧ Qfv last text = true then ⟨#[32]⟩ else lead
def tokW (s:List UInt8 × ByteArray) (lead text:ByteArray):List UInt8 × ByteArray:=(s.1 ++ (sepW s.2 lead text).data.toList ++ text.data.toList,text)
theorem size_zero {x:ByteArray} (h:x.size = 0):x = ⟨#[]⟩:=by
 obtain ⟨d⟩:=x
 have:d.size = 0:=h
 rw [Array.eq_empty_of_size_eq_zero this]
abbrev Qbi:=ByteArray × ByteArray
def Qha (s:List UInt8 × ByteArray) (ps:List Qbi):List UInt8 × ByteArray:=ps.foldl (fun s p=>tokW s p.1 p.2) s
def Qf7:List Qbi → Nat
 | []=>0
 | p :: r=>p.1.size + p.2.size + 1 + Qf7 r
theorem sizeP_append (a c:List Qbi):Qf7 (a ++ c) = Qf7 a + Qf7 c:=by
 induction a with
 | nil=>simp [Qf7]
 | cons p r ih=>rw [List.cons_append,Qf7,Qf7,ih];omega
theorem foldW_append (s:List UInt8 × ByteArray) (a c:List Qbi):Qha s (a ++ c) = Qha (Qha s a) c:=List.foldl_append
theorem foldW_one (s:List UInt8 × ByteArray) (p:Qbi):Qha s [p] = tokW s p.1 p.2:=rfl
theorem sepW_le (a l x:ByteArray):(sepW a l x).size ≤ l.size + 1:=by
 unfold sepW
 split
 ·rename_i h
  rw [h.1]
  exact xA 1
 ·omega
theorem foldW_le (ps:List Qbi):∀ s,(Qha s ps).1.length ≤ s.1.length + Qf7 ps:=by
 induction ps with
 | nil=>intro s;exact xA _
 | cons p r ih =>
  intro s
  have h1:=ih (tokW s p.1 p.2)
  have h2:=sepW_le s.2 p.1 p.2
  have e1:(sepW s.2 p.1 p.2).data.size = (sepW s.2 p.1 p.2).size:=rfl
  have e2:p.2.data.size = p.2.size:=rfl
  have h3:(tokW s p.1 p.2).1.length = s.1.length + (sepW s.2 p.1 p.2).data.size + p.2.data.size:=by unfold tokW;simp only [xB,Array.length_toList]
  show (Qha (tokW s p.1 p.2) r).1.length ≤ _
  rw [Qf7]
  omega
def Qa8 (co:Bool) (cs:List ByteArray):Nat → List (List Qbi) → List Qbi
 | _,[]=>[]
 | i,p :: r=>(if 0 < i ∧ co = true then [((cs[i - 1]?).getD ⟨#[]⟩,⟨#[44]⟩)] else []) ++ p ++ Qa8 co cs (i + 1) r
def Qbo (n:Int) (tx:ByteArray) (cs:List ByteArray):List Part → List ByteArray → List (List Qbi) → List Qbi
 | [],_,_=>[]
 | x :: r,ls,ks=>if x.kids ≠ 0 then Qa8 x.commas cs 0 (ks.take (Qbw x n).toNat) ++ Qbo n tx cs r ls (ks.drop (Qbw x n).toNat)
  else ((ls[0]?).getD ⟨#[]⟩,if x.nm ≠ 0 then tx else x.word) :: Qbo n tx cs r (ls.drop 1) ks
mutual
def Qaf:Tr → List Qbi
 | .mk k x ls ks=>Qbo (Qbz (Qae k) ks.length).1 x (ls.drop (Qb7 (Qae k))) (Qae k) ls (Qf8 ks)
def Qf8:List Tr → List (List Qbi)
 | []=>[]
 | t :: r=>Qaf t :: Qf8 r
end
theorem piecesL_map (l:List Tr):Qf8 l = l.map Qaf:=by
 induction l with
 | nil=>rfl
 | cons a r ih=>rw [Qf8,ih];rfl
theorem Qc1 (t:Tr):Qaf t = Qbo (Qbz (Qae t.kind) t.kids.length).1 t.text (t.leads.drop (Qb7 (Qae t.kind))) (Qae t.kind) t.leads (t.kids.map Qaf):=by
 cases t with
 | mk k x ls ks=>rw [Qaf,piecesL_map];rfl
def textL (t:Tr):List UInt8:=(Qha ([],⟨#[]⟩) (Qaf t)).1
theorem TrAt.lows {B:Nat} {w w':World} {t:Tr} {v:TV} (h:TrAt (fun k=>k < B) w t v) (hb:Below B w w'):TrAt (fun k=>k < B) w' t v:=TrAt.move (fun _ h=>h) (fun k hk _=>hb.block k hk) t v h
theorem StrsAt.low {S:Nat → Prop} {w:World} {A:Option Addr} {l:List ByteArray} (h:StrsAt S w A l):StrsAt (fun k=>k < w.heap.size) w A l:=fun hne=>by
 obtain ⟨b,off,hA,_,hc⟩:=h hne
 refine ⟨b,off,hA,?_,hc⟩
 cases l with
 | nil=>exact absurd rfl hne
 | cons a r=>exact xK w _ (hc 0 a rfl)
mutual
theorem TrAt.low {S:Nat → Prop} {w:World}:(t:Tr) → (v:TV) → TrAt S w t v → TrAt (fun k=>k < w.heap.size) w t v
 | .mk k x ls ks,v,h=>by
  unfold TrAt at h ⊢
  obtain ⟨h1,h2,h3,h4,h5,h6,h7⟩:=h
  refine ⟨h1,h2,h3,h4,h5.low,fun hne=>?_,h7⟩
  obtain ⟨b,off,hA,hb,hc⟩:=h6 hne
  refine ⟨b,off,hA,?_,TrsAt.low b ks off hc⟩
  cases ks with
  | nil=>exact absurd rfl hne
  | cons a r =>
   unfold TrsAt at hc
   obtain ⟨u,c0,_⟩:=hc
   exact xK w _ c0
theorem TrsAt.low {S:Nat → Prop} {w:World} (b:Nat):(l:List Tr) → (off:Nat) → TrsAt S w b off l → TrsAt (fun k=>k < w.heap.size) w b off l
 | [],off,h=>trivial
 | t :: r,off,h=>by
  unfold TrsAt at h ⊢
  obtain ⟨v,c0,c1,c2,c3,ht,hr⟩:=h
  exact ⟨v,c0,c1,c2,c3,TrAt.low t v ht,TrsAt.low b r _ hr⟩
end
def printT (t:Tr):ByteArray:=if Qao t && ledT t then ⟨(textL t).toArray⟩ else ⟨#[]⟩
def mostP:List Part → Int → Bool
 | [],_=>true
 | x :: r,n=>decide (Qbw x n ≤ x.most) && mostP r n
mutual
def Qfx:Tr → Bool
 | .mk kd _ _ ks=>mostP (Qae kd) (Qbz (Qae kd) ks.length).1 && limL ks
def limL:List Tr → Bool
 | []=>true
 | k :: r=>Qfx k && limL r
end
theorem limT_eq (t:Tr):Qfx t = (mostP (Qae t.kind) (Qbz (Qae t.kind) t.kids.length).1 && limL t.kids):=by
 cases t with
 | mk kd x ls ks=>rw [Qfx];rfl
theorem limL_at (l:List Tr) (j:Nat) (k:Tr) (hk:l[j]? = some k):limL (l.drop j) = (Qfx k && limL (l.drop (j + 1))):=by
 obtain ⟨hj,he⟩:=List.getElem?_eq_some_iff.1 hk
 rw [List.drop_eq_getElem_cons hj,he,limL]
theorem limL_end (l:List Tr) (j:Nat) (h:l.length ≤ j):limL (l.drop j) = true:=by
 rw [List.drop_eq_nil_of_le h,limL]
def Qf9 (t:Tr):Bool:=Qao t && ledT t && Qfx t && Qde t 40 && decide ((textL t).length ≤ 4096)
def Qfu (w:World) (b:Nat) (u:TV):World:=(((w.setCell ⟨b,0,none⟩ (.int .i64 u.kind)).setCell ⟨b,1,none⟩ (.string u.text)).setCell ⟨b,2,none⟩ (.slice u.la u.ll u.lc)).setCell ⟨b,3,none⟩ (.slice u.ka u.kl u.kc)
def trO (v:TV):Obj:=.cells #[.int .i64 v.kind,.string v.text,.slice v.la v.ll v.lc,.slice v.ka v.kl v.kc] 29
theorem Qgw {w:World} {b:Nat} {v:TV} (u:TV) (h:w.heap[b]? = some (trO v)):(Qfu w b u).heap[b]? = some (trO u):=Qa2 (Qa2 (Qa2 (Qa2 h rfl) rfl) rfl) rfl
theorem Qcs (w:World) (b:Nat) (u:TV):Below b w (Qfu w b u):=((((xC b w).setCell (p:=⟨b,0,none⟩) (xA _) _).setCell (p:=⟨b,1,none⟩) (xA _) _).setCell (p:=⟨b,2,none⟩) (xA _) _).setCell (p:=⟨b,3,none⟩) (xA _) _
mutual
def Qak:Tr → Nat
 | .mk _ _ _ ks=>1 + Qar ks
def Qar:List Tr → Nat
 | []=>0
 | t :: r=>Qak t + Qar r
end
mutual
def Qd7:Tr → Nat
 | .mk _ _ _ ks=>Qcw ks + 1
def Qcw:List Tr → Nat
 | []=>0
 | t :: r=>max (Qd7 t) (Qcw r)
end
theorem Qa6 (t:Tr):Qak t = 1 + Qar t.kids:=by cases t;rw [Qak];rfl
theorem depthT_eq (t:Tr):Qd7 t = Qcw t.kids + 1:=by cases t;rw [Qd7];rfl
theorem Qd8:(a b:List Tr) → Qar (a ++ b) = Qar a + Qar b
 | [],b=>by rw [List.nil_append,Qar];omega
 | t :: r,b=>by rw [List.cons_append,Qar,Qar,Qd8 r b];omega
theorem depthL_append:(a b:List Tr) → Qcw (a ++ b) = max (Qcw a) (Qcw b)
 | [],b=>by rw [List.nil_append,Qcw];omega
 | t :: r,b=>by rw [List.cons_append,Qcw,Qcw,depthL_append r b];omega
theorem Qfl {α:Type} {l:List α} {j:Nat} {k:α} (h:l[j]? = some k):l.take (j + 1) = l.take j ++ [k]:=by
 rw [List.take_add_one,h]
 rfl
theorem Qdf {l:List Tr} {j:Nat} {k:Tr} (h:l[j]? = some k):Qar (l.take (j + 1)) = Qar (l.take j) + Qak k:=by
 rw [Qfl h,Qd8,Qar,Qar]
 omega
theorem depthL_take {l:List Tr} {j:Nat} {k:Tr} (h:l[j]? = some k):Qcw (l.take (j + 1)) = max (Qcw (l.take j)) (Qd7 k):=by
 rw [Qfl h,depthL_append,Qcw,Qcw]
 omega
theorem Qec (l:List Tr) (j:Nat):Qar (l.take j) ≤ Qar l:=by
 conv=>rhs;rw [← List.take_append_drop j l,Qd8]
 omega
theorem Qbk {t k:Tr} {j:Nat} (h:t.kids[j]? = some k):Qak k ≤ Qak t:=by
 have h1:=Qdf h
 have h2:=Qec t.kids (j + 1)
 rw [Qa6 t]
 omega
mutual
theorem Qdo:(t:Tr) → Qd7 t ≤ Qak t
 | .mk _ _ _ ks=>by rw [Qd7,Qak];have:=Qek ks;omega
theorem Qek:(l:List Tr) → Qcw l ≤ Qar l
 | []=>by rw [Qcw];omega
 | t :: r=>by rw [Qcw,Qar];have:=Qdo t;have:=Qek r;omega
end
theorem Qbb:(l:List Tr) → l.length ≤ Qar l
 | []=>Nat.zero_le _
 | t :: r=>by
  rw [Qar,xD,Qa6]
  have:=Qbb r
  omega
theorem Qa0 {t k:Tr} {j:Nat} (h:t.kids[j]? = some k):SizeOf.sizeOf k < SizeOf.sizeOf t:=by
 cases t with
 | mk kd x ls ks =>
  have:=List.sizeOf_lt_of_mem (List.mem_of_getElem? (show ks[j]? = some k from h))
  rw [Tr.mk.sizeOf_spec]
  omega
theorem tr_pos (t:Tr):0 < SizeOf.sizeOf t:=by cases t;rw [Tr.mk.sizeOf_spec];omega
def KidsAtN (f:List Tr → Nat) (t:Tr) (W:World) (n i:Value) (wr:World):Prop:=∃ j:Nat,i = .int .i64 j ∧ j ≤ t.kids.length ∧ n = .int .i64 (f (t.kids.take j):Nat) ∧ Below W.heap.size W wr
theorem rsize_any (N:Nat):∀ (S:Nat → Prop) (t:Tr) (v:TV) (w:World),SizeOf.sizeOf t ≤ N → TrAt S w t v → Qak t ≤ 140737488355328 →
  Calls Tryz.prog 14 #[.agg #[.int .i64 v.kind,.string v.text,.slice v.la v.ll v.lc,.slice v.ka v.kl v.kc]] w fun e w'=>e = .returned (.int .i64 (Qak t:Nat)) ∧ Below w.heap.size w w':=by
 induction N with
 | zero=>intro S t v w h;have:=tr_pos t;omega
 | succ N ih =>
  intro S t v w hN h hz
  have HIH:=hQ ih
  have HB0:=hQ ((xC w.heap.size w).alloc (xA _) (trO v))
  have HT:=hQ (h.keep HB0.out)
  have HX:=hQ (xH w (trO v))
  have HZ:=hQ hz
  have HN:=hQ hN
  have hkl:=h.kl.1
  obtain ⟨vk,vx,vla,vll,vlc,vka,vkl,vkc⟩:=v
  simp only at hkl
  subst hkl
  have hmax:t.kids.length ≤ 140737488355328:=by have:=Qbb t.kids;rw [Qa6] at hz;omega
  have HMX:=hQ hmax
  clear ih h hz hN
  have k3:(w.alloc (trO ⟨vk,vx,vla,vll,vlc,vka,t.kids.length,vkc⟩)).cell? ⟨w.heap.size,3,none⟩ = some (.slice vka t.kids.length vkc):=Qab HX.out 3 _ rfl
  go_enter Tryz.func14,Tryz.ntmps14
  go_wp2
  clear k3
  go_loopw [3,4] (fun n i wr=>KidsAtN (fun l=>1 + Qar l) t (w.alloc (trO ⟨vk,vx,vla,vll,vlc,vka,t.kids.length,vkc⟩)) n i wr) (fun _ i _=>t.kids.length - (intOf i).toNat)
  case atStart=>exact ⟨0,rfl,Nat.zero_le _,rfl,xC _ _⟩
  case round =>
   obtain ⟨j,rfl,hj,rfl,hb⟩:=hrel
   have HBR:=hQ hb
   have hx:=(hb.block w.heap.size (Qaa HX.out)).trans HX.out
   have k3:wr.cell? ⟨w.heap.size,3,none⟩ = some (.slice vka t.kids.length vkc):=Qab hx 3 _ rfl
   clear hb hx
   by_cases hlt:j < t.kids.length
   ·obtain ⟨k,hk⟩:∃ k,t.kids[j]? = some k:=⟨_,xF hlt⟩
    obtain ⟨b,off,hka⟩:∃ b off,vka = some ⟨b,off,none⟩:=HT.out.addr.resolve_left (by omega)
    subst hka
    obtain ⟨u,c0,c1,c2,c3,hu⟩:=(HT.out.keep HBR.out).at rfl hk
    have HU:=hQ hu
    have HS1:=hQ (Qdf hk)
    have HD1:=hQ (depthL_take hk)
    have hs:=Qec t.kids (j + 1)
    have hs0:=Qdf hk
    have hds:=Qek (t.kids.take j)
    have hdk:=Qdo k
    have HSK:=hQ (Nat.le_trans (Qbk hk) HZ.out)
    have HNK:=hQ (show SizeOf.sizeOf k ≤ N from by have:=Qa0 hk;have:=HN.out;omega)
    have hz:=HZ.out
    rw [Qa6] at hz
    have q1:((Qar (t.kids.take j):Nat):Int) + (Qak k:Nat) + 1 ≤ 140737488355328:=by omega
    have q2:((Qcw (t.kids.take j):Nat):Int) ≤ 140737488355328:=by omega
    have q3:((Qd7 k:Nat):Int) + 1 ≤ 140737488355329:=by omega
    have hj0:(0:Int) ≤ (j:Int):=by omega
    have hj1:(j:Int) < (t.kids.length:Int):=by omega
    have hj2:(j:Int) + 1 ≤ 140737488355328:=by omega
    clear hk hu hs hs0 hds hdk hz
    go_wp2_with (go_at_call 14;refine (HIH.out S k u _ HNK.out (HU.out.keep (xC _ _)) HSK.out).mono ?_;rintro e w2 ⟨rfl,hb2⟩;have HB2:=hQ (HBR.out.trans (hb2.mono HBR.out.size));clear hb2)
    go_roundw
    case rel=>exact ⟨j + 1,by go_num,by omega,by show _ = Value.int .i64 ((1 + Qar (t.kids.take (j + 1)):Nat):Int);rw [HS1.out];go_num,HB2.out⟩
    case measure=>simp [intOf];omega
   ·have hjn:j = t.kids.length:=by omega
    subst hjn
    have HR:=hQ (show Qak t = 1 + Qar (t.kids.take t.kids.length) from by rw [Qa6,List.take_length])
    have hz:=HZ.out
    have h1:=Qdo t
    have h2:=HR.out
    go_wp2
    go_ret
    exact ⟨Qb0 (by rw [HR.out]),HB0.out.trans (HBR.out.mono (by simp))⟩
theorem size_any (N:Nat):∀ (S:Nat → Prop) (t:Tr) (v:TV) (w:World),SizeOf.sizeOf t ≤ N → TrAt S w t v → Qak t ≤ 140737488355328 →
  Calls Tryz.prog 160 #[.agg #[.int .i64 v.kind,.string v.text,.slice v.la v.ll v.lc,.slice v.ka v.kl v.kc]] w fun e w'=>e = .returned (.int .i64 (Qak t:Nat)) ∧ Below w.heap.size w w':=by
 induction N with
 | zero=>intro S t v w h;have:=tr_pos t;omega
 | succ N ih =>
  intro S t v w hN h hz
  have HIH:=hQ ih
  have HB0:=hQ ((xC w.heap.size w).alloc (xA _) (trO v))
  have HT:=hQ (h.keep HB0.out)
  have HX:=hQ (xH w (trO v))
  have HZ:=hQ hz
  have HN:=hQ hN
  have hkl:=h.kl.1
  obtain ⟨vk,vx,vla,vll,vlc,vka,vkl,vkc⟩:=v
  simp only at hkl
  subst hkl
  have hmax:t.kids.length ≤ 140737488355328:=by have:=Qbb t.kids;rw [Qa6] at hz;omega
  have HMX:=hQ hmax
  clear ih h hz hN
  have k3:(w.alloc (trO ⟨vk,vx,vla,vll,vlc,vka,t.kids.length,vkc⟩)).cell? ⟨w.heap.size,3,none⟩ = some (.slice vka t.kids.length vkc):=Qab HX.out 3 _ rfl
  go_enter Tryz.func160,Tryz.ntmps160
  go_wp2
  clear k3
  go_loopw [3,9] (fun n i wr=>KidsAtN (fun l=>1 + Qar l) t (w.alloc (trO ⟨vk,vx,vla,vll,vlc,vka,t.kids.length,vkc⟩)) n i wr) (fun _ i _=>t.kids.length - (intOf i).toNat)
  case atStart=>exact ⟨0,rfl,Nat.zero_le _,rfl,xC _ _⟩
  case round =>
   obtain ⟨j,rfl,hj,rfl,hb⟩:=hrel
   have HBR:=hQ hb
   have hx:=(hb.block w.heap.size (Qaa HX.out)).trans HX.out
   have k3:wr.cell? ⟨w.heap.size,3,none⟩ = some (.slice vka t.kids.length vkc):=Qab hx 3 _ rfl
   clear hb hx
   by_cases hlt:j < t.kids.length
   ·obtain ⟨k,hk⟩:∃ k,t.kids[j]? = some k:=⟨_,xF hlt⟩
    obtain ⟨b,off,hka⟩:∃ b off,vka = some ⟨b,off,none⟩:=HT.out.addr.resolve_left (by omega)
    subst hka
    obtain ⟨u,c0,c1,c2,c3,hu⟩:=(HT.out.keep HBR.out).at rfl hk
    have HU:=hQ hu
    have HS1:=hQ (Qdf hk)
    have HD1:=hQ (depthL_take hk)
    have hs:=Qec t.kids (j + 1)
    have hs0:=Qdf hk
    have hds:=Qek (t.kids.take j)
    have hdk:=Qdo k
    have HSK:=hQ (Nat.le_trans (Qbk hk) HZ.out)
    have HNK:=hQ (show SizeOf.sizeOf k ≤ N from by have:=Qa0 hk;have:=HN.out;omega)
    have hz:=HZ.out
    rw [Qa6] at hz
    have q1:((Qar (t.kids.take j):Nat):Int) + (Qak k:Nat) + 1 ≤ 140737488355328:=by omega
    have q2:((Qcw (t.kids.take j):Nat):Int) ≤ 140737488355328:=by omega
    have q3:((Qd7 k:Nat):Int) + 1 ≤ 140737488355329:=by omega
    have hj0:(0:Int) ≤ (j:Int):=by omega
    have hj1:(j:Int) < (t.kids.length:Int):=by omega
    have hj2:(j:Int) + 1 ≤ 140737488355328:=by omega
    clear hk hu hs hs0 hds hdk hz
    have HA1:=hQ ((xC wr.heap.size wr).alloc (xA _) (trO u))
    go_wp2_with (go_at_call 160;refine (HIH.out S k u _ HNK.out (HU.out.keep HA1.out) HSK.out).mono ?_;rintro e w2 ⟨rfl,hb2⟩;have HB2:=hQ (HBR.out.trans ((HA1.out.trans (hb2.mono HA1.out.size)).mono HBR.out.size));clear hb2)
    go_roundw
    case rel=>exact ⟨j + 1,by go_num,by omega,by show _ = Value.int .i64 ((1 + Qar (t.kids.take (j + 1)):Nat):Int);rw [HS1.out];go_num,HB2.out⟩
    case measure=>simp [intOf];omega
   ·have hjn:j = t.kids.length:=by omega
    subst hjn
    have HR:=hQ (show Qak t = 1 + Qar (t.kids.take t.kids.length) from by rw [Qa6,List.take_length])
    have hz:=HZ.out
    have h1:=Qdo t
    have h2:=HR.out
    go_wp2
    go_ret
    exact ⟨Qb0 (by rw [HR.out]),HB0.out.trans (HBR.out.mono (by simp))⟩
def modM (n m:Int):Int:=if n.tmod m < 0 then n.tmod m + m else n.tmod m
theorem modM_bd (n:Int) {m:Int} (hm:0 < m):0 ≤ modM n m ∧ modM n m < m:=by
 have h1:=Int.tmod_lt_of_pos n hm
 have h2:-m < n.tmod m:=Int.lt_tmod_of_pos n hm
 unfold modM
 split <;> omega
theorem mod_syn (n m:Int) (w:World) (hm:0 < m) (hm2:m ≤ 1000000):Calls Tryz.prog 27 #[.int .i64 n,.int .i64 m] w fun e w'=>e = .returned (.int .i64 (modM n m)) ∧ w = w':=by
 have h1:=Int.tmod_lt_of_pos n hm
 have h2:-m < n.tmod m:=Int.lt_tmod_of_pos n hm
 have HM:=hQ (show modM n m = if n.tmod m < 0 then n.tmod m + m else n.tmod m from rfl)
 have h0:m ≠ 0:=by omega
 have hb:=Qck h0
 by_cases h:n.tmod m < 0
 all_goals
  go_enter Tryz.func27,Tryz.ntmps27
  go_wp2
  go_ret
  exact ⟨Qb0 (by rw [HM.out];split <;> omega),rfl⟩
end Go.Proofs.YtjidpkcjpgdafaaGreat
