/- Part 36: Plain: the targets of a tree; their number. What a walk of variables hands on in memory: the list, the path and the stack, each behind its own length. What a walk of variables hands on, step by step: a longer path, a longer stack. The contract of variables: the variables of a tree behind a list. The contract of variables, at any tree. What a walk of targets hands on in memory: the list and the path, each behind its own length. Plain: the targets of a program, its modules' in turn; those of one definition. Plain: the targets of a tree are the uses among its nodes, in the order of its paths. Plain: the classes of words with a dot and without; what kind of node a use and a definition of its name are. -/
import Derived.Test.YtnnfdbmanamfdaaGreatLw1
import Derived.Test.YtnnfdbmanamfdaaGreatLw21
import Derived.Test.YtnnfdbmanamfdaaGreatLw20
import Derived.Test.YtnnfdbmanamfdaaGreatLw28
import Derived.Test.YtnnfdbmanamfdaaGreatLw35
import Derived.Test.YtnnfdbmanamfdaaGreatLw12
set_option maxRecDepth 100000
set_option maxHeartbeats 4000000
namespace Go.Proofs.YtnnfdbmanamfdaaGreat
open Go.RowKit
abbrev Tgt:=List Int × Int × Int × Bool
def hitP (ps:List Tr) (m:Nat) (t:Tr) (p:List Int):List Tgt:=if t.kind = 16 ∨ t.kind = 9 then [(p,(Qb6 ps m t.text).1,(Qb6 ps m t.text).2.1,!(Qb6 ps m t.text).2.2)] else []
mutual
def tgtT (ps:List Tr) (m:Nat):Tr → List Int → List Tgt
 | .mk k x ls ks,p=>hitP ps m (.mk k x ls ks) p ++ tgtL ps m ks 0 p
def tgtL (ps:List Tr) (m:Nat):List Tr → Nat → List Int → List Tgt
 | [],_,_=>[]
 | t :: r,i,p=>tgtT ps m t (p ++ [(i:Int)]) ++ tgtL ps m r (i + 1) p
end
theorem tgtT_eq (ps:List Tr) (m:Nat) (t:Tr) (p:List Int):tgtT ps m t p = hitP ps m t p ++ tgtL ps m t.kids 0 p:=by cases t;rw [tgtT];rfl
theorem tgtL_snoc (ps:List Tr) (m:Nat) (t:Tr) (p:List Int):(l:List Tr) → (i:Nat) → tgtL ps m (l ++ [t]) i p = tgtL ps m l i p ++ tgtT ps m t (p ++ [((i + l.length:Nat):Int)])
 | [],i=>by simp [tgtL]
 | a :: r,i=>by
  have h:=tgtL_snoc ps m t p r (i + 1)
  rw [List.cons_append,tgtL,h,tgtL,List.append_assoc,show i + 1 + r.length = i + (a :: r).length from by simp;omega]
theorem tgtL_step (ps:List Tr) (m:Nat) (l:List Tr) (p:List Int) (k:Nat) (t:Tr) (h:l[k]? = some t):tgtL ps m (l.take (k + 1)) 0 p = tgtL ps m (l.take k) 0 p ++ tgtT ps m t (p ++ [(k:Int)]):=by
 have hk:k < l.length:=(List.getElem?_eq_some_iff.1 h).1
 rw [List.take_add_one,h,Option.toList_some,tgtL_snoc,List.length_take,Nat.min_eq_left (Nat.le_of_lt hk),Nat.zero_add]
theorem hitP_len (ps:List Tr) (m:Nat) (t:Tr) (p:List Int):(hitP ps m t p).length ≤ 1:=by unfold hitP;split <;> simp
mutual
theorem tgtT_len (ps:List Tr) (m:Nat):(t:Tr) → (p:List Int) → (tgtT ps m t p).length ≤ Qan t
 | .mk k x ls ks,p=>by
  rw [tgtT,xB]
  have h1:=hitP_len ps m (.mk k x ls ks) p
  have h2:=tgtL_len ps m ks 0 p
  rw [Qan]
  omega
theorem tgtL_len (ps:List Tr) (m:Nat):(l:List Tr) → (i:Nat) → (p:List Int) → (tgtL ps m l i p).length ≤ Qap l
 | [],_,_=>by rw [tgtL,Qap];simp
 | t :: r,i,p=>by
  rw [tgtL,xB,Qap]
  have h1:=tgtT_len ps m t (p ++ [(i:Int)])
  have h2:=tgtL_len ps m r (i + 1) p
  omega
end
end Go.Proofs.YtnnfdbmanamfdaaGreat
namespace Go.Proofs.YtnnfdbmanamfdaaGreat
open Go.RowKit Go.Shelf
def names (lv:Value) (a:Nat) (pv:Value) (b:Nat) (sv:Value) (c:Nat):Nat → Option Nat:=fun k=>if lv.ownBlock = some k then some a else if pv.ownBlock = some k then some b else if sv.ownBlock = some k then some c else none
def Apart (v v':Value):Prop:=∀ g,v.ownBlock = some g → v'.ownBlock ≠ some g
theorem rows_apart {w:World} {B B':Nat} {e e':TypeId} {s s':Nat} {v v':Value} {n n':Nat} {xs xs':List Value} (h:w.ownsRow B e s v n xs) (h':w.ownsRow B' e' s' v' n' xs') (hne:e ≠ e'):Apart v v':=fun g hg hg'=>by
 rcases h.2 with ⟨rfl,_⟩ | ⟨a,cap,cur,rfl,_,hh,_⟩
 ·cases hg
 ·rcases h'.2 with ⟨rfl,_⟩ | ⟨a',cap',cur',rfl,_,hh',_⟩
  ·cases hg'
  ·injection hg with hg
   injection hg' with hg'
   have e1:a = g:=hg
   have e2:a' = g:=hg'
   subst e1 e2
   rw [hh] at hh'
   injection hh' with hh'
   injection hh' with _ h2
   exact hne h2
theorem names_l {lv pv sv:Value} {a b c k:Nat} (h:lv.ownBlock = some k):names lv a pv b sv c k = some a:=if_pos h
theorem names_p {lv pv sv:Value} {a b c k:Nat} (h:pv.ownBlock = some k) (hd:Apart lv pv):names lv a pv b sv c k = some b:=by
 unfold names
 rw [if_neg (fun e=>hd k e h),if_pos h]
theorem names_s {lv pv sv:Value} {a b c k:Nat} (h:sv.ownBlock = some k) (hd:Apart lv sv) (hd':Apart pv sv):names lv a pv b sv c k = some c:=by
 unfold names
 rw [if_neg (fun e=>hd k e h),if_neg (fun e=>hd' k e h),if_pos h]
theorem Qgi {lv pv sv:Value} {a b c k:Nat} (h1:lv.ownBlock ≠ some k) (h2:pv.ownBlock ≠ some k) (h3:sv.ownBlock ≠ some k):names lv a pv b sv c k = none:=by
 unfold names
 rw [if_neg h1,if_neg h2,if_neg h3]
theorem asks_names {w:World} {lv lv' pv pv' sv sv':Value} {a a' b b' c c':Nat} (hl:Later w lv lv') (hp:Later w pv pv') (hs:Later w sv sv') (ha:a ≤ a') (hb:b ≤ b') (hc:c ≤ c')
  (d1:Apart lv pv) (d2:Apart lv sv) (d3:Apart pv sv):AsksMore w.heap.size (names lv a pv b sv c) (names lv' a' pv' b' sv' c'):=fun k hk=>by
 by_cases h1:lv'.ownBlock = some k
 ·rcases hl k h1 with h | h
  ·exact .inr ⟨a,a',names_l h,names_l h1,ha⟩
  ·omega
 ·by_cases h2:pv'.ownBlock = some k
  ·rcases hp k h2 with h | h
   ·exact .inr ⟨b,b',names_p h d1,by unfold names;rw [if_neg h1,if_pos h2],hb⟩
   ·omega
  ·by_cases h3:sv'.ownBlock = some k
   ·rcases hs k h3 with h | h
    ·exact .inr ⟨c,c',names_s h d2 d3,by unfold names;rw [if_neg h1,if_neg h2,if_pos h3],hc⟩
    ·omega
   ·exact .inl (Qgi h1 h2 h3)
theorem Later.refl (w:World) (v:Value):Later w v v:=fun _ h=>.inl h
theorem Later.trans {w w':World} {a b c:Value} (h:Later w a b) (h':Later w' b c) (hs:w.heap.size ≤ w'.heap.size):Later w a c:=fun g hg=>by
 rcases h' g hg with h1 | h1
 ·exact h g h1
 ·exact .inr (Nat.le_trans hs h1)
theorem asks_p {lv pv sv:Value} {a b c N:Nat} (d1:Apart lv pv):AsksMore N (names lv a pv b sv c) (pre pv b):=fun k _=>by
 by_cases h:pv.ownBlock = some k
 ·exact .inr ⟨b,b,names_p h d1,pre_self h,xA _⟩
 ·exact .inl (Qdd h)
theorem asks_l {lv pv sv:Value} {a b c N:Nat}:AsksMore N (names lv a pv b sv c) (pre lv a):=fun k _=>by
 by_cases h:lv.ownBlock = some k
 ·exact .inr ⟨a,a,names_l h,pre_self h,xA _⟩
 ·exact .inl (Qdd h)
section
variable {B:Nat} {w w':World} {lv pv sv:Value} {ws:List (Value × Value × Bool)} {p:List Int} {us:List (ByteArray × Value)}
theorem asks_refl (N:Nat) (P:Nat → Option Nat):AsksMore N P P:=fun k _=>by
 cases h:P k with
 | none=>exact .inl rfl
 | some n=>exact .inr ⟨n,n,rfl,rfl,xA _⟩
end
theorem Qeq {w:World} {B:Nat} {e:TypeId} {s:Nat} {v:Value} {n:Nat} {xs:List Value} (h:w.ownsRow B e s v n xs):∃ A c,v = .slice A n c:=by
 rcases h.2 with ⟨rfl,rfl⟩ | ⟨g,cap,cur,rfl,_⟩
 ·exact ⟨_,_,rfl⟩
 ·exact ⟨_,_,rfl⟩
theorem Qcu (w:World) (o:Obj):Below w.heap.size w (w.alloc o):=(xC w.heap.size w).alloc (xA _) o
theorem later_some {w:World} {v:Value} {g n c:Nat} (h:v.ownBlock = some g ∨ w.heap.size ≤ g):Later w v (.slice (some ⟨g,0,none⟩) n c):=fun k hk=>by
 injection hk with hk
 have e:g = k:=hk
 subst e
 exact h
theorem IRow.intsAt {w:World} {B n c:Nat} {A:Option Addr} {p:List Int} (h:IRow w B (.slice A n c) p):IntsAt w A p:=h.ints.2
theorem IRow.app {w:World} {B:Nat} {v:Value} {p:List Int} {P:Nat → Option Nat} {w':World} (h:IRow w B v p) (hk:Keeps P w w') (hp:∀ g,B ≤ g → g < w.heap.size → P g = none):IRow w' B v p :=
 hk.row h fun g hg=>.inl (hp g (h.lt g hg).1 (h.lt g hg).2)
theorem size_nth:(l:List Tr) → (j:Nat) → (k:Tr) → l[j]? = some k → Qan k + l.length ≤ Qap l + 1
 | [],_,_,h=>by simp at h
 | a :: r,0,k,h=>by
  injection h with h
  subst h
  have:=Qbj r
  rw [Qap,xD]
  omega
 | a :: r,j + 1,k,h=>by
  have ih:=size_nth r j k h
  have:=Qbv a
  rw [Qap,xD]
  omega
theorem kid_size2 {t k:Tr} {j:Nat} (h:t.kids[j]? = some k):Qan k + t.kids.length ≤ Qan t:=by
 have h1:=size_nth _ _ _ h
 have h2:=Qbv t
 omega
theorem irow_snoc {w:World} {B:Nat} {v:Value} {p:List Int} {q:Int} (h:w.ownsRow B 3 1 v (p.length + 1) (p.map (Value.int .i64) ++ [.int .i64 q])):IRow w B v (p ++ [q]):=by
 unfold IRow
 rw [xB,List.length_singleton,List.map_append]
 exact h
theorem Qev {w:World} {B:Nat} {e:TypeId} {s:Nat} {v:Value} {n:Nat} {xs:List Value} (h:w.ownsRow B e s v n xs) {g:Nat} {cur:Array Value} {ty:TypeId} {fr:Nat × Nat} (hg:w.heap[g]? = some (.cells cur ty fr)) (ht:ty ≠ e):v.ownBlock ≠ some g:=fun k=>by
 rcases h.2 with ⟨rfl,_⟩ | ⟨g',cap,cur',rfl,_,hh,_⟩
 ·cases k
 ·injection k with k
  have k':g' = g:=k
  subst k'
  rw [hg] at hh
  injection hh with hh
  injection hh with _ h2
  exact ht h2
theorem Qfd {w:World} {B:Nat} {v:Value} {p:List Int} {g:Nat} (h:IRow w B v p) (hg:v.ownBlock = some g):∃ cur,w.heap[g]? = some (.cells cur 3 (0,0)):=by
 rcases h.2 with ⟨rfl,_⟩ | ⟨g',cap,cur,rfl,_,hh,_⟩
 ·cases hg
 ·injection hg with hg
  have e:g' = g:=hg
  subst e
  exact ⟨cur,hh⟩
theorem tgt_info:(Tryz.prog.info? 61).map (fun i=>(i.zero,i.size,i.bytes)) = some (some (.agg #[.int .i64 0,.slice none 0 0,.int .i64 0,.int .i64 0,.bool false]),5,56):=by kernel_rfl
abbrev TgV:=Int × Value × Int × Int × Bool
abbrev Tgm:=Int × Tgt
def tgC (u:TgV):List Value:=[.int .i64 u.1,u.2.1,.int .i64 u.2.2.1,.int .i64 u.2.2.2.1,.bool u.2.2.2.2]
def Qdv (ws:List TgV):List Value:=ws.flatMap tgC
theorem tCells_append (a b:List TgV):Qdv (a ++ b) = Qdv a ++ Qdv b:=by unfold Qdv;rw [List.flatMap_append]
def TRow (w:World) (B:Nat) (v:Value) (ws:List TgV):Prop:=w.ownsRow B 61 5 v ws.length (Qdv ws)
def TarAt (w:World) (lo:Nat) (y:TgV) (z:Tgm):Prop:=y.1 = z.1 ∧ IRow w lo y.2.1 z.2.1 ∧ y.2.2 = z.2.2
def TarsAt (w:World) (lo:Nat) (ws:List TgV) (zs:List Tgm):Prop:=ws.length = zs.length ∧ ∀ (j:Nat) (y:TgV) (z:Tgm),ws[j]? = some y → zs[j]? = some z → TarAt w lo y z
theorem TarsAt.nil (w:World) (lo:Nat):TarsAt w lo [] []:=⟨rfl,fun j y z h=>by simp at h⟩
theorem TarsAt.app {w:World} {lo:Nat} {a b:List TgV} {c d:List Tgm} (h:TarsAt w lo a c) (k:TarsAt w lo b d):TarsAt w lo (a ++ b) (c ++ d):=by
 refine ⟨by rw [xB,xB,h.1,k.1],fun j y z hy hz=>?_⟩
 by_cases hj:j < a.length
 ·rw [List.getElem?_append_left hj] at hy
  rw [List.getElem?_append_left (by rw [← h.1];exact hj)] at hz
  exact h.2 j y z hy hz
 ·rw [List.getElem?_append_right (by omega)] at hy
  rw [List.getElem?_append_right (by rw [← h.1];omega),← h.1] at hz
  exact k.2 _ y z hy hz
theorem TarsAt.one {w:World} {lo:Nat} {y:TgV} {z:Tgm} (h:TarAt w lo y z):TarsAt w lo [y] [z]:=by
 refine ⟨rfl,fun j y' z' hy hz=>?_⟩
 match j,hy,hz with
 | 0,hy,hz =>
  injection hy with hy
  injection hz with hz
  subst hy hz
  exact h
theorem TarsAt.step {w w':World} {lo lo':Nat} {ws:List TgV} {vs:List Tgm} (h:TarsAt w lo ws vs) (hk:∀ v p,IRow w lo v p → IRow w' lo' v p):TarsAt w' lo' ws vs :=
 ⟨h.1,fun j y z hy hz=>⟨(h.2 j y z hy hz).1,hk _ _ (h.2 j y z hy hz).2.1,(h.2 j y z hy hz).2.2⟩⟩
theorem apart_nil (v:Value):Apart v (.slice none 0 0):=fun _ _ h=>by cases h
structure HandT (B:Nat) (w:World) (lv:Value) (ws:List TgV) (pv:Value) (p:List Int):Prop where
 hl:TRow w B lv ws
 hp:IRow w B pv p
 hb:B ≤ w.heap.size
abbrev nameT (lv:Value) (a:Nat) (pv:Value) (b:Nat):Nat → Option Nat:=names lv a pv b (.slice none 0 0) 0
section
variable {B:Nat} {w w':World} {lv pv:Value} {ws:List TgV} {p:List Int}
theorem HandT.apart (h:HandT B w lv ws pv p):Apart lv pv:=rows_apart h.hl h.hp (by decide)
theorem HandT.keep (h:HandT B w lv ws pv p) (hk:Keeps (nameT lv (ws.length * 5) pv p.length) w w'):HandT B w' lv ws pv p :=
 ⟨hk.row h.hl (fun _ hk=>.inr ⟨_,names_l hk,xA _⟩),hk.row h.hp (fun _ hk=>.inr ⟨_,names_p hk h.apart,by omega⟩),Nat.le_trans h.hb hk.size⟩
theorem HandT.later (h:HandT B w lv ws pv p) (hb:Below w.heap.size w w'):HandT B w' lv ws pv p:=h.keep (Keeps.of_below hb)
theorem HandT.path (h:HandT B w lv ws pv p) {pv':Value} {q:Int} (hk:Keeps (pre pv (p.length * 1)) w w') (hp:IRow w' B pv' (p ++ [q])) :
  HandT B w' lv ws pv' (p ++ [q]) ∧ Keeps (nameT lv (ws.length * 5) pv p.length) w w':=by
 have hK:Keeps (nameT lv (ws.length * 5) pv p.length) w w':=by
  refine (Keeps.refl _ w).trans hk ?_
  rw [Nat.mul_one]
  exact asks_p h.apart
 exact ⟨⟨(h.keep hK).hl,hp,(h.keep hK).hb⟩,hK⟩
theorem Qhk {a b k:Nat} {v:TV} (h:HandT B w lv ws pv p) (hk:w.heap[k]? = some (trO v)):nameT lv a pv b k = none :=
 Qgi (Qev h.hl hk (by decide)) (Qev h.hp hk (by decide)) (by intro h;cases h)
theorem Qhl {a b k:Nat} {cur:Array Value} (h:HandT B w lv ws pv p) (hk:w.heap[k]? = some (.cells cur 59 (0,0))):nameT lv a pv b k = none :=
 Qgi (Qev h.hl hk (by decide)) (Qev h.hp hk (by decide)) (by intro h;cases h)
theorem Qg5 {a b k:Nat} (h:HandT B w lv ws pv p) (hk:k < B):nameT lv a pv b k = none :=
 Qgi (fun e=>by have:=(h.hl.lt k e).1;omega) (fun e=>by have:=(h.hp.lt k e).1;omega) (by intro h;cases h)
theorem nameT_new {a b k:Nat} (h:HandT B w lv ws pv p) (hk:w.heap.size ≤ k):nameT lv a pv b k = none :=
 Qgi (fun e=>by have:=(h.hl.lt k e).2;omega) (fun e=>by have:=(h.hp.lt k e).2;omega) (by intro h;cases h)
theorem asks_nameT {lv' pv':Value} {a a' b b':Nat} (h:HandT B w lv ws pv p) (hl:Later w lv lv') (hp:Later w pv pv') (ha:a ≤ a') (hb:b ≤ b'):AsksMore w.heap.size (nameT lv a pv b) (nameT lv' a' pv' b') :=
 asks_names hl hp (Later.refl _ _) ha hb (xA _) h.apart (apart_nil _) (apart_nil _)
end
def tgtM (ps:List Tr) (m:Nat) (t:Tr) (p:List Int):List Tgm:=(tgtT ps m t p).map fun z=>((m:Int),z)
def hitM (ps:List Tr) (m:Nat) (t:Tr) (p:List Int):List Tgm:=(hitP ps m t p).map fun z=>((m:Int),z)
def kidM (ps:List Tr) (m:Nat) (l:List Tr) (p:List Int):List Tgm:=(tgtL ps m l 0 p).map fun z=>((m:Int),z)
theorem tgtM_eq (ps:List Tr) (m:Nat) (t:Tr) (p:List Int):tgtM ps m t p = hitM ps m t p ++ kidM ps m t.kids p:=by unfold tgtM hitM kidM;rw [tgtT_eq,List.map_append]
theorem kidM_step {ps:List Tr} {m:Nat} {l:List Tr} {p:List Int} {k:Nat} {t:Tr} (h:l[k]? = some t):kidM ps m (l.take (k + 1)) p = kidM ps m (l.take k) p ++ tgtM ps m t (p ++ [(k:Int)]):=by unfold kidM tgtM;rw [tgtL_step ps m l p k t h,List.map_append]
theorem hitM_no {ps:List Tr} {m:Nat} {t:Tr} {p:List Int} (h:¬ (t.kind = 16 ∨ t.kind = 9)):hitM ps m t p = []:=by unfold hitM hitP;rw [if_neg h];rfl
theorem hitM_yes {ps:List Tr} {m:Nat} {t:Tr} {p:List Int} (h:t.kind = 16 ∨ t.kind = 9):hitM ps m t p = [((m:Int),p,(Qb6 ps m t.text).1,(Qb6 ps m t.text).2.1,!(Qb6 ps m t.text).2.2)]:=by unfold hitM hitP;rw [if_pos h];rfl
theorem hitM_len (ps:List Tr) (m:Nat) (t:Tr) (p:List Int):(hitM ps m t p).length ≤ 1:=by unfold hitM;rw [List.length_map];exact hitP_len ps m t p
theorem kidM_len (ps:List Tr) (m:Nat) (l:List Tr) (p:List Int):(kidM ps m l p).length ≤ Qap l:=by unfold kidM;rw [List.length_map];exact tgtL_len ps m l 0 p
def TPost (B:Nat) (lv:Value) (ws:List TgV) (pv:Value) (p:List Int) (ps:List Tr) (m:Nat) (t:Tr) (w:World) (e:Ending) (w':World):Prop :=
 ∃ v' vs',e = .returned v' ∧ TRow w' B v' (ws ++ vs') ∧ TarsAt w' w.heap.size vs' (tgtM ps m t p) ∧ Keeps (nameT lv (ws.length * 5) pv p.length) w w' ∧ Later w lv v'
def TgtS (B:Nat) (lv:Value) (ws:List TgV) (pv:Value) (p:List Int) (zs:List Tgm) (w0:World) (l:Value) (wr:World):Prop :=
 ∃ vs',TRow wr B l (ws ++ vs') ∧ TarsAt wr w0.heap.size vs' zs ∧ Keeps (nameT lv (ws.length * 5) pv p.length) w0 wr ∧ Later w0 lv l
theorem tgt_hit {B:Nat} {lv v' pv:Value} {ws:List TgV} {p:List Int} {w w2 w3:World} {y:TgV} {z:Tgm} {o:Obj}
  (hh:HandT B w lv ws pv p) (hb:Below w.heap.size w w2) (hv:TarAt w2 w.heap.size y z) (hown:w3.ownsRow B 61 5 v' (ws.length + 1) (Qdv ws ++ tgC y)) (hk:Keeps (pre lv (ws.length * 5)) (w2.alloc o) w3)
  (hl:Later (w2.alloc o) lv v'):TgtS B lv ws pv p [z] w v' w3:=by
 have hb3:=hb.trans ((Qcu w2 o).mono hb.size)
 refine ⟨[y],?_,?_,(Keeps.of_below hb3).trans hk asks_l,fun g hg=>(hl g hg).imp id fun h=>Nat.le_trans hb3.size h⟩
 ·unfold TRow
  rw [xB,tCells_append]
  exact (show Qdv ws ++ tgC y = Qdv ws ++ Qdv [y] from by simp [Qdv]) ▸ hown
 ·refine (TarsAt.one hv).step fun v q h=>?_
  exact (h.keep (Qcu w2 o)).app hk fun g hg _=>Qdd fun e=>by
   have:=(hh.hl.lt g e).2
   omega
end Go.Proofs.YtnnfdbmanamfdaaGreat
namespace Go.Proofs.YtnnfdbmanamfdaaGreat
open Go.RowKit
def Qgd (ps:List Tr):List Tr → Nat → List Tgm
 | [],_=>[]
 | t :: r,i=>tgtM ps i t [] ++ Qgd ps r (i + 1)
theorem tgtPs_snoc (ps:List Tr) (t:Tr):(l:List Tr) → (i:Nat) → Qgd ps (l ++ [t]) i = Qgd ps l i ++ tgtM ps (i + l.length) t []
 | [],i=>by simp [Qgd]
 | a :: r,i=>by
  have h:=tgtPs_snoc ps t r (i + 1)
  rw [List.cons_append,Qgd,h,Qgd,List.append_assoc,show i + 1 + r.length = i + (a :: r).length from by simp;omega]
theorem tgtPs_step {ps l:List Tr} {k:Nat} {t:Tr} (h:l[k]? = some t):Qgd ps (l.take (k + 1)) 0 = Qgd ps (l.take k) 0 ++ tgtM ps k t []:=by
 have hk:k < l.length:=(List.getElem?_eq_some_iff.1 h).1
 rw [List.take_add_one,h,Option.toList_some,tgtPs_snoc,List.length_take,Nat.min_eq_left (Nat.le_of_lt hk),Nat.zero_add]
theorem tgtM_len (ps:List Tr) (m:Nat) (t:Tr) (p:List Int):(tgtM ps m t p).length ≤ Qan t:=by unfold tgtM;rw [List.length_map];exact tgtT_len ps m t p
theorem tgtPs_len (ps:List Tr):(l:List Tr) → (i:Nat) → (Qgd ps l i).length ≤ Qap l
 | [],_=>by rw [Qgd,Qap];simp
 | t :: r,i=>by
  rw [Qgd,xB,Qap]
  have h1:=tgtM_len ps i t []
  have h2:=tgtPs_len ps r (i + 1)
  omega
theorem tgtPs_mem {ps:List Tr} {z:Tgm}:(l:List Tr) → (i:Nat) → z ∈ Qgd ps l i → ∃ (k:Nat) (t:Tr),l[k]? = some t ∧ z ∈ tgtM ps (i + k) t []
 | [],_,h=>by rw [Qgd] at h;simp at h
 | a :: r,i,h=>by
  rw [Qgd] at h
  rcases List.mem_append.1 h with h | h
  ·exact ⟨0,a,rfl,h⟩
  ·obtain ⟨k,t,h1,h2⟩:=tgtPs_mem r (i + 1) h
   exact ⟨k + 1,t,by simpa using h1,by rw [show i + (k + 1) = i + 1 + k from by omega];exact h2⟩
def Qgp (ps:List Tr):List Tgm:=if progG ps = true then Qgd ps ps 0 else []
theorem tgtsG_len (ps:List Tr):(Qgp ps).length ≤ Qap ps:=by
 unfold Qgp
 split
 ·exact tgtPs_len ps ps 0
 ·simp
def ofDef (i d:Int) (z:Tgm):Bool:=!z.2.2.2.2 && (z.2.2.1 == i) && (z.2.2.2.1 == d)
def usesG (ps:List Tr) (i d:Int):List (Int × List Int):=((Qgp ps).filter (ofDef i d)).map fun z=>(z.1,z.2.1)
theorem find_down:(p:List Int) → (R t k:Tr) → (i:Nat) → Qc8 R p = some t → t.kids[i]? = some k → Qc8 R (p ++ [(i:Int)]) = some k
 | [],R,t,k,i,h,hk=>by
  rw [Qc8] at h
  injection h with h
  subst h
  have hb:kidB R (i:Int) = true:=by
   have:=(List.getElem?_eq_some_iff.1 hk).1
   unfold kidB
   simp
   exact this
  rw [List.nil_append,Qc8,if_pos hb,Qc8]
  unfold kidAt
  rw [show ((i:Int)).toNat = i from by omega,hk,Option.getD_some]
 | j :: r,R,t,k,i,h,hk=>by
  rw [Qc8] at h
  split at h
  ·rename_i hb
   rw [List.cons_append,Qc8,if_pos hb]
   exact find_down r _ t k i h hk
  ·cases h
def useAt (ps:List Tr) (m:Nat) (R:Tr) (z:List Int):List Tgt:=match Qc8 R z with
 | some u=>hitP ps m u z
 | none=>[]
mutual
theorem tgtT_paths (ps:List Tr) (m:Nat) (R:Tr):(t:Tr) → (p:List Int) → Qc8 R p = some t → tgtT ps m t p = (Qcw t p).flatMap (useAt ps m R)
 | .mk k x ls ks,p,h=>by
  rw [tgtT,Qcw,List.flatMap_cons,tgtL_paths ps m R ks 0 p (.mk k x ls ks) h (fun j u hu=>by simpa [Tr.kids] using hu)]
  unfold useAt
  rw [h]
theorem tgtL_paths (ps:List Tr) (m:Nat) (R:Tr):(l:List Tr) → (i:Nat) → (p:List Int) → (t:Tr) → Qc8 R p = some t → (∀ j u,l[j]? = some u → t.kids[i + j]? = some u) → tgtL ps m l i p = (Qdw l i p).flatMap (useAt ps m R)
 | [],_,_,_,_,_=>by rw [tgtL,Qdw];rfl
 | a :: r,i,p,t,h,hk=>by
  rw [tgtL,Qdw,List.flatMap_append,tgtT_paths ps m R a _ (find_down p R t a i h (by simpa using hk 0 a rfl)),tgtL_paths ps m R r (i + 1) p t h (fun j u hu=>by rw [show i + 1 + j = i + (j + 1) from by omega];exact hk (j + 1) u (by simpa using hu))]
end
theorem targets_paths (ps:List Tr) (m:Nat) (t:Tr):tgtT ps m t [] = (Qcw t []).flatMap (useAt ps m t):=tgtT_paths ps m t t [] (by rw [Qc8])
theorem lnk_quot:(i:Nat) → (l:List UInt8) → (Qcx i l).kind = 6 ∨ (Qcx i l).kind = 0
 | _,[]=>.inr rfl
 | i,c :: r=>by
  rw [Qcx]
  split
  ·exact .inl rfl
  ·split
   ·exact .inr rfl
   ·split
    ·exact lnk_quot (i + 1) r
    ·exact .inr rfl
theorem class_word {l:List UInt8} (h1:1 ≤ Qam l) (h4:Qam l ≤ 4):(Qdm l).kind = Qam l ∧ (Qdm l).n = l.length:=by
 by_cases h0:l = []
 ·unfold Qam at h1
  rw [if_pos h0] at h1
  omega
 ·by_cases hb:(Qbb l).e ≠ 0 ∨ (Qbb l).n ≠ l.length
  ·unfold Qam at h1
   rw [if_neg h0,if_pos hb] at h1
   omega
  ·have hk:Qam l = (Qbb l).kind:=by unfold Qam;rw [if_neg h0,if_neg hb]
   have hn:(Qbb l).n = l.length:=by omega
   rw [hk] at h1 h4 ⊢
   have hw:Qbb l = Qdm l:=by
    unfold Qbb at h1 h4 ⊢
    by_cases a1:Qaq (at' l 0) = false
    ·rw [if_pos a1] at h1
     exact absurd h1 (by decide)
    ·rw [if_neg a1] at h1 h4 ⊢
     by_cases a2:Qat (at' l 0) = true
     ·rw [if_pos a2]
     ·exfalso
      rw [if_neg a2] at h1 h4
      by_cases a3:Qby (at' l 0) = true
      ·rw [if_pos a3] at h1 h4
       unfold numT at h1 h4
       split at h1
       ·exact absurd h1 (by decide)
       ·rename_i b1
        rw [if_neg b1] at h4
        split at h1
        ·exact absurd h1 (by decide)
        ·rename_i b2
         rw [if_neg b2] at h4
         exact absurd h4 (by show ¬ 5 ≤ 4;decide)
      ·rw [if_neg a3] at h1 h4
       by_cases a4:at' l 0 = 34
       ·rw [if_pos a4] at h1 h4
        have:=lnk_quot 1 (l.drop 1)
        omega
       ·rw [if_neg a4] at h1 h4
        unfold Qd7 at h1 h4
        split at h1
        ·exact absurd h1 (by decide)
        ·rename_i b1
         rw [if_neg b1] at h4
         exact absurd h4 (by show ¬ 8 ≤ 4;decide)
   rw [← hw]
   exact ⟨rfl,hn⟩
theorem byte_46 {c:UInt8} (h:c.toNat = 46):c = 46:=UInt8.toNat_inj.1 h
theorem word_46 {c:UInt8} (h:Qgr c.toNat = true):c ≠ 46:=fun e=>by
 subst e
 exact absurd h (by decide)
theorem dot_run:(l:List UInt8) → at' l (Qac l) = 46 → dotG l = Qac l
 | [],h=>by exact absurd h (by decide)
 | c :: r,h=>by
  unfold Qac Qdz at h ⊢
  by_cases hw:Qgr c.toNat = true
  ·rw [if_pos hw] at h ⊢
   rw [dotG,if_neg (word_46 hw),dot_run r h]
   rfl
  ·rw [if_neg hw] at h ⊢
   rw [dotG,if_pos (byte_46 (show c.toNat = 46 from h))]
theorem dot_word:(l:List UInt8) → Qac l = l.length → dotG l = l.length
 | [],_=>rfl
 | c :: r,h=>by
  unfold Qac Qdz at h
  by_cases hw:Qgr c.toNat = true
  ·rw [if_pos hw] at h
   rw [dotG,if_neg (word_46 hw),dot_word r (by unfold Qac;simpa using h),xD]
  ·rw [if_neg hw] at h
   simp at h
theorem class_dot {l:List UInt8} (h1:1 ≤ Qam l) (h4:Qam l ≤ 4) (hd:dotG l < l.length):(Qam l = 4 ∧ Qbl (at' l (dotG l + 1)) = true) ∨ (Qam l = 3 ∧ Qbl (at' l (dotG l + 1)) = false):=by
 obtain ⟨hk,hn⟩:=class_word h1 h4
 rw [← hk] at h1 h4 ⊢
 unfold Qdm at h1 h4 hn ⊢
 by_cases a1:Qc4 l = true
 ·rw [if_pos a1] at h1 h4 hn ⊢
  have hg:dotG l = Qac l:=dot_run l (by unfold Qc4 at a1;simp at a1;exact a1.1.2)
  rw [hg]
  unfold Qc5 at h1 h4 hn ⊢
  split at h1
  ·exact absurd h1 (by decide)
  ·rename_i b1
   rw [if_neg b1]
   split at h1
   ·exact absurd h1 (by decide)
   ·rename_i b2
    rw [if_neg b2]
    by_cases b3:Qbl (at' l (Qac l + 1)) = true
    ·rw [if_pos b3]
     exact .inl ⟨rfl,b3⟩
    ·rw [if_neg b3]
     exact .inr ⟨rfl,by simpa using b3⟩
 ·exfalso
  rw [if_neg a1] at h1 h4 hn
  unfold Qdt at h1 h4 hn
  split at h1
  ·exact absurd h1 (by decide)
  ·rename_i b1
   rw [if_neg b1] at hn
   have hw:Qac l = l.length:=by
    split at hn
    ·exact hn
    ·split at hn
     ·exact hn
     ·exact hn
   rw [dot_word l hw] at hd
   omega
theorem class_first {l:List UInt8} (h:Qam l = 1 ∨ Qam l = 2):Qbl (at' l 0) = decide (Qam l = 2):=by
 obtain ⟨hk,_⟩:=class_word (l:=l) (by omega) (by omega)
 rw [← hk] at h ⊢
 unfold Qdm at h ⊢
 by_cases a1:Qc4 l = true
 ·exfalso
  rw [if_pos a1] at h
  unfold Qc5 at h
  split at h
  ·exact absurd h (by decide)
  ·split at h
   ·exact absurd h (by decide)
   ·split at h
    ·exact absurd h (by show ¬ (4 = 1 ∨ 4 = 2);decide)
    ·exact absurd h (by show ¬ (3 = 1 ∨ 3 = 2);decide)
 ·rw [if_neg a1] at h ⊢
  unfold Qdt at h ⊢
  split at h
  ·exact absurd h (by decide)
  ·rename_i b1
   rw [if_neg b1]
   split at h
   ·exact absurd h (by show ¬ (7 = 1 ∨ 7 = 2);decide)
   ·rename_i b2
    rw [if_neg b2]
    by_cases b3:Qbl (at' l 0) = true
    ·rw [if_pos b3,b3]
     rfl
    ·rw [if_neg b3,show Qbl (at' l 0) = false from by simpa using b3]
     rfl
theorem name_call {x:ByteArray} (h:Qa9 (Qae 16) x = true):Qam (bl x) = 1 ∨ Qam (bl x) = 3:=by
 have e:Qa9 (Qae 16) x = Qbi 4 (Qam (bl x)) x:=rfl
 rw [e] at h
 have e2:Qbi 4 (Qam (bl x)) x = ((Qam (bl x):Int) == 1 || (Qam (bl x):Int) == 3):=rfl
 rw [e2] at h
 simp at h
 omega
theorem name_named {x:ByteArray} (h:Qa9 (Qae 9) x = true):Qam (bl x) = 2 ∨ Qam (bl x) = 4:=by
 have e:Qa9 (Qae 9) x = Qbi 3 (Qam (bl x)) x:=rfl
 rw [e] at h
 have e2:Qbi 3 (Qam (bl x)) x = ((Qam (bl x):Int) == 2 || (Qam (bl x):Int) == 4):=rfl
 rw [e2] at h
 simp at h
 omega
theorem name_func {x:ByteArray} (h:Qa9 (Qae 2) x = true):Qam (bl x) = 1:=by
 have e:Qa9 (Qae 2) x = Qbi 2 (Qam (bl x)) x:=rfl
 rw [e] at h
 have e2:Qbi 2 (Qam (bl x)) x = ((Qam (bl x):Int) == 1):=rfl
 rw [e2] at h
 simp at h
 omega
theorem name_alias {x:ByteArray} (h:Qa9 (Qae 3) x = true):Qam (bl x) = 2:=by
 have e:Qa9 (Qae 3) x = Qbi 1 (Qam (bl x)) x:=rfl
 rw [e] at h
 have e2:Qbi 1 (Qam (bl x)) x = ((Qam (bl x):Int) == 2):=rfl
 rw [e2] at h
 simp at h
 omega
theorem lnk_at_drop (l:List UInt8) (a:Nat):at' (l.drop a) 0 = at' l a:=by
 unfold at'
 rw [List.getD_eq_getElem?_getD,List.getD_eq_getElem?_getD,List.getElem?_drop,Nat.add_zero]
theorem bl_name (s:ByteArray) (a:Nat):bl (s.extract a s.size) = (bl s).drop a:=by
 unfold bl
 rw [Qgt,Qes,Nat.zero_add]
end Go.Proofs.YtnnfdbmanamfdaaGreat
