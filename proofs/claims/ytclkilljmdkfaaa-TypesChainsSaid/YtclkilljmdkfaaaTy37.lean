/- Part 37: Plain: the targets of a tree; their number. What a walk of targets hands on in memory: the list and the path, each behind its own length. -/
import Derived.Test.YtclkilljmdkfaaaTy1
import Derived.Test.YtclkilljmdkfaaaTy27
import Derived.Test.YtclkilljmdkfaaaTy31
import Derived.Test.YtclkilljmdkfaaaTy36
set_option maxRecDepth 100000
set_option maxHeartbeats 4000000
namespace Go.Proofs.Ytclkilljmdkfaaa
open Go.RowKit
abbrev Tgt:=List Int × Int × Int × Bool
def hitP (ps:List Tr) (m:Nat) (t:Tr) (p:List Int):List Tgt:=if t.kind = 16 ∨ t.kind = 9 then [(p,(Qaw ps m t.text).1,(Qaw ps m t.text).2.1,!(Qaw ps m t.text).2.2)] else []
mutual
def tgtT (ps:List Tr) (m:Nat):Tr → List Int → List Tgt
 | .mk k x ls ks,p=>hitP ps m (.mk k x ls ks) p ++ tgtL ps m ks 0 p
def tgtL (ps:List Tr) (m:Nat):List Tr → Nat → List Int → List Tgt
 | [],_,_=>[]
 | t :: r,i,p=>tgtT ps m t (p ++ [(i:Int)]) ++ tgtL ps m r (i + 1) p
end
theorem tgtT_eq (ps:List Tr) (m:Nat) (t:Tr) (p:List Int):tgtT ps m t p = hitP ps m t p ++ tgtL ps m t.kids 0 p:=by cases t;rw [tgtT];rfl
theorem tgtL_snoc (ps:List Tr) (m:Nat) (t:Tr) (p:List Int):(l:List Tr) → (i:Nat) → tgtL ps m (l ++ [t]) i p = tgtL ps m l i p ++ tgtT ps m t (p ++ [((i + l.length:Nat):Int)])
 | [],i=>by simp [tgtL]
 | a :: r,i=>by
  have h:=tgtL_snoc ps m t p r (i + 1)
  rw [List.cons_append,tgtL,h,tgtL,List.append_assoc,show i + 1 + r.length = i + (a :: r).length from by simp;omega]
theorem tgtL_step (ps:List Tr) (m:Nat) (l:List Tr) (p:List Int) (k:Nat) (t:Tr) (h:l[k]? = some t):tgtL ps m (l.take (k + 1)) 0 p = tgtL ps m (l.take k) 0 p ++ tgtT ps m t (p ++ [(k:Int)]):=by
 have hk:k < l.length:=(List.getElem?_eq_some_iff.1 h).1
 rw [List.take_add_one,h,Option.toList_some,tgtL_snoc,List.length_take,Nat.min_eq_left (Nat.le_of_lt hk),Nat.zero_add]
theorem hitP_len (ps:List Tr) (m:Nat) (t:Tr) (p:List Int):(hitP ps m t p).length ≤ 1:=by unfold hitP;split <;> simp
mutual
theorem tgtT_len (ps:List Tr) (m:Nat):(t:Tr) → (p:List Int) → (tgtT ps m t p).length ≤ Qao t
 | .mk k x ls ks,p=>by
  rw [tgtT,xB]
  have h1:=hitP_len ps m (.mk k x ls ks) p
  have h2:=tgtL_len ps m ks 0 p
  rw [Qao]
  omega
theorem tgtL_len (ps:List Tr) (m:Nat):(l:List Tr) → (i:Nat) → (p:List Int) → (tgtL ps m l i p).length ≤ Qah l
 | [],_,_=>by rw [tgtL,Qah];simp
 | t :: r,i,p=>by
  rw [tgtL,xB,Qah]
  have h1:=tgtT_len ps m t (p ++ [(i:Int)])
  have h2:=tgtL_len ps m r (i + 1) p
  omega
end
end Go.Proofs.Ytclkilljmdkfaaa
namespace Go.Proofs.Ytclkilljmdkfaaa
open Go.RowKit Go.Shelf
theorem tgt_info:(Try.prog.info? 83).map (fun i=>(i.zero,i.size,i.bytes)) = some (some (.agg #[.int .i64 0,.slice none 0 0,.int .i64 0,.int .i64 0,.bool false]),5,56):=by kernel_rfl
abbrev TgV:=Int × Value × Int × Int × Bool
abbrev Tgm:=Int × Tgt
def tgC (u:TgV):List Value:=[.int .i64 u.1,u.2.1,.int .i64 u.2.2.1,.int .i64 u.2.2.2.1,.bool u.2.2.2.2]
def Qda (ws:List TgV):List Value:=ws.flatMap tgC
theorem tCells_append (a b:List TgV):Qda (a ++ b) = Qda a ++ Qda b:=by unfold Qda;rw [List.flatMap_append]
def TRow (w:World) (B:Nat) (v:Value) (ws:List TgV):Prop:=w.ownsRow B 83 5 v ws.length (Qda ws)
def TarAt (w:World) (lo:Nat) (y:TgV) (z:Tgm):Prop:=y.1 = z.1 ∧ IRow w lo y.2.1 z.2.1 ∧ y.2.2 = z.2.2
def TarsAt (w:World) (lo:Nat) (ws:List TgV) (zs:List Tgm):Prop:=ws.length = zs.length ∧ ∀ (j:Nat) (y:TgV) (z:Tgm),ws[j]? = some y → zs[j]? = some z → TarAt w lo y z
theorem TarsAt.nil (w:World) (lo:Nat):TarsAt w lo [] []:=⟨rfl,fun j y z h=>by simp at h⟩
theorem TarsAt.app {w:World} {lo:Nat} {a b:List TgV} {c d:List Tgm} (h:TarsAt w lo a c) (k:TarsAt w lo b d):TarsAt w lo (a ++ b) (c ++ d):=by
 refine ⟨by rw [xB,xB,h.1,k.1],fun j y z hy hz=>?_⟩
 by_cases hj:j < a.length
 ·rw [List.getElem?_append_left hj] at hy
  rw [List.getElem?_append_left (by rw [← h.1];exact hj)] at hz
  exact h.2 j y z hy hz
 ·rw [List.getElem?_append_right (by omega)] at hy
  rw [List.getElem?_append_right (by rw [← h.1];omega),← h.1] at hz
  exact k.2 _ y z hy hz
theorem TarsAt.one {w:World} {lo:Nat} {y:TgV} {z:Tgm} (h:TarAt w lo y z):TarsAt w lo [y] [z]:=by
 refine ⟨rfl,fun j y' z' hy hz=>?_⟩
 match j,hy,hz with
 | 0,hy,hz =>
  injection hy with hy
  injection hz with hz
  subst hy hz
  exact h
theorem TarsAt.step {w w':World} {lo lo':Nat} {ws:List TgV} {vs:List Tgm} (h:TarsAt w lo ws vs) (hk:∀ v p,IRow w lo v p → IRow w' lo' v p):TarsAt w' lo' ws vs :=
 ⟨h.1,fun j y z hy hz=>⟨(h.2 j y z hy hz).1,hk _ _ (h.2 j y z hy hz).2.1,(h.2 j y z hy hz).2.2⟩⟩
theorem apart_nil (v:Value):Apart v (.slice none 0 0):=fun _ _ h=>by cases h
structure HandT (B:Nat) (w:World) (lv:Value) (ws:List TgV) (pv:Value) (p:List Int):Prop where
 hl:TRow w B lv ws
 hp:IRow w B pv p
 hb:B ≤ w.heap.size
abbrev nameT (lv:Value) (a:Nat) (pv:Value) (b:Nat):Nat → Option Nat:=names lv a pv b (.slice none 0 0) 0
section
variable {B:Nat} {w w':World} {lv pv:Value} {ws:List TgV} {p:List Int}
theorem HandT.apart (h:HandT B w lv ws pv p):Apart lv pv:=rows_apart h.hl h.hp (by decide)
theorem HandT.keep (h:HandT B w lv ws pv p) (hk:Keeps (nameT lv (ws.length * 5) pv p.length) w w'):HandT B w' lv ws pv p :=
 ⟨hk.row h.hl (fun _ hk=>.inr ⟨_,names_l hk,xA _⟩),hk.row h.hp (fun _ hk=>.inr ⟨_,names_p hk h.apart,by omega⟩),Nat.le_trans h.hb hk.size⟩
theorem HandT.later (h:HandT B w lv ws pv p) (hb:Below w.heap.size w w'):HandT B w' lv ws pv p:=h.keep (Keeps.of_below hb)
theorem HandT.path (h:HandT B w lv ws pv p) {pv':Value} {q:Int} (hk:Keeps (pre pv (p.length * 1)) w w') (hp:IRow w' B pv' (p ++ [q])) :
  HandT B w' lv ws pv' (p ++ [q]) ∧ Keeps (nameT lv (ws.length * 5) pv p.length) w w':=by
 have hK:Keeps (nameT lv (ws.length * 5) pv p.length) w w':=by
  refine (Keeps.refl _ w).trans hk ?_
  rw [Nat.mul_one]
  exact asks_p h.apart
 exact ⟨⟨(h.keep hK).hl,hp,(h.keep hK).hb⟩,hK⟩
theorem Qfj {a b k:Nat} {v:TV} (h:HandT B w lv ws pv p) (hk:w.heap[k]? = some (trO v)):nameT lv a pv b k = none :=
 Qee (Qef h.hl hk (by decide)) (Qef h.hp hk (by decide)) (by intro h;cases h)
theorem Qfk {a b k:Nat} {cur:Array Value} (h:HandT B w lv ws pv p) (hk:w.heap[k]? = some (.cells cur 81 (0,0))):nameT lv a pv b k = none :=
 Qee (Qef h.hl hk (by decide)) (Qef h.hp hk (by decide)) (by intro h;cases h)
theorem Qe1 {a b k:Nat} (h:HandT B w lv ws pv p) (hk:k < B):nameT lv a pv b k = none :=
 Qee (fun e=>by have:=(h.hl.lt k e).1;omega) (fun e=>by have:=(h.hp.lt k e).1;omega) (by intro h;cases h)
theorem nameT_new {a b k:Nat} (h:HandT B w lv ws pv p) (hk:w.heap.size ≤ k):nameT lv a pv b k = none :=
 Qee (fun e=>by have:=(h.hl.lt k e).2;omega) (fun e=>by have:=(h.hp.lt k e).2;omega) (by intro h;cases h)
theorem asks_nameT {lv' pv':Value} {a a' b b':Nat} (h:HandT B w lv ws pv p) (hl:Later w lv lv') (hp:Later w pv pv') (ha:a ≤ a') (hb:b ≤ b'):AsksMore w.heap.size (nameT lv a pv b) (nameT lv' a' pv' b') :=
 asks_names hl hp (Later.refl _ _) ha hb (xA _) h.apart (apart_nil _) (apart_nil _)
end
def tgtM (ps:List Tr) (m:Nat) (t:Tr) (p:List Int):List Tgm:=(tgtT ps m t p).map fun z=>((m:Int),z)
def hitM (ps:List Tr) (m:Nat) (t:Tr) (p:List Int):List Tgm:=(hitP ps m t p).map fun z=>((m:Int),z)
def kidM (ps:List Tr) (m:Nat) (l:List Tr) (p:List Int):List Tgm:=(tgtL ps m l 0 p).map fun z=>((m:Int),z)
theorem tgtM_eq (ps:List Tr) (m:Nat) (t:Tr) (p:List Int):tgtM ps m t p = hitM ps m t p ++ kidM ps m t.kids p:=by unfold tgtM hitM kidM;rw [tgtT_eq,List.map_append]
theorem kidM_step {ps:List Tr} {m:Nat} {l:List Tr} {p:List Int} {k:Nat} {t:Tr} (h:l[k]? = some t):kidM ps m (l.take (k + 1)) p = kidM ps m (l.take k) p ++ tgtM ps m t (p ++ [(k:Int)]):=by unfold kidM tgtM;rw [tgtL_step ps m l p k t h,List.map_append]
theorem hitM_no {ps:List Tr} {m:Nat} {t:Tr} {p:List Int} (h:¬ (t.kind = 16 ∨ t.kind = 9)):hitM ps m t p = []:=by unfold hitM hitP;rw [if_neg h];rfl
theorem hitM_yes {ps:List Tr} {m:Nat} {t:Tr} {p:List Int} (h:t.kind = 16 ∨ t.kind = 9):hitM ps m t p = [((m:Int),p,(Qaw ps m t.text).1,(Qaw ps m t.text).2.1,!(Qaw ps m t.text).2.2)]:=by unfold hitM hitP;rw [if_pos h];rfl
theorem hitM_len (ps:List Tr) (m:Nat) (t:Tr) (p:List Int):(hitM ps m t p).length ≤ 1:=by unfold hitM;rw [List.length_map];exact hitP_len ps m t p
theorem kidM_len (ps:List Tr) (m:Nat) (l:List Tr) (p:List Int):(kidM ps m l p).length ≤ Qah l:=by unfold kidM;rw [List.length_map];exact tgtL_len ps m l 0 p
def TPost (B:Nat) (lv:Value) (ws:List TgV) (pv:Value) (p:List Int) (ps:List Tr) (m:Nat) (t:Tr) (w:World) (e:Ending) (w':World):Prop :=
 ∃ v' vs',e = .returned v' ∧ TRow w' B v' (ws ++ vs') ∧ TarsAt w' w.heap.size vs' (tgtM ps m t p) ∧ Keeps (nameT lv (ws.length * 5) pv p.length) w w' ∧ Later w lv v'
def TgtS (B:Nat) (lv:Value) (ws:List TgV) (pv:Value) (p:List Int) (zs:List Tgm) (w0:World) (l:Value) (wr:World):Prop :=
 ∃ vs',TRow wr B l (ws ++ vs') ∧ TarsAt wr w0.heap.size vs' zs ∧ Keeps (nameT lv (ws.length * 5) pv p.length) w0 wr ∧ Later w0 lv l
theorem tgt_hit {B:Nat} {lv v' pv:Value} {ws:List TgV} {p:List Int} {w w2 w3:World} {y:TgV} {z:Tgm} {o:Obj}
  (hh:HandT B w lv ws pv p) (hb:Below w.heap.size w w2) (hv:TarAt w2 w.heap.size y z) (hown:w3.ownsRow B 83 5 v' (ws.length + 1) (Qda ws ++ tgC y)) (hk:Keeps (pre lv (ws.length * 5)) (w2.alloc o) w3)
  (hl:Later (w2.alloc o) lv v'):TgtS B lv ws pv p [z] w v' w3:=by
 have hb3:=hb.trans ((Qcy w2 o).mono hb.size)
 refine ⟨[y],?_,?_,(Keeps.of_below hb3).trans hk asks_l,fun g hg=>(hl g hg).imp id fun h=>Nat.le_trans hb3.size h⟩
 ·unfold TRow
  rw [xB,tCells_append]
  exact (show Qda ws ++ tgC y = Qda ws ++ Qda [y] from by simp [Qda]) ▸ hown
 ·refine (TarsAt.one hv).step fun v q h=>?_
  exact (h.keep (Qcy w2 o)).app hk fun g hg _=>Qbr fun e=>by
   have:=(hh.hl.lt g e).2
   omega
end Go.Proofs.Ytclkilljmdkfaaa
