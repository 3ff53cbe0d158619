/- Part 29: The contract of awake of stage 2, and of semvcsmake.Mod. What a call leaves that writes behind the length of slices that were handed on: of named blocks the first cells stay, all others stay whole. Dice: what they leave in memory, and the contracts of Next, pick and Light. Trees that a call made: small ones, in blocks of their own. The contract of variables: the variables of a tree behind a list. -/
import Derived.Test.YtnnfdbmanamfdaaGreatSt1
import Derived.Test.YtnnfdbmanamfdaaGreatSt28
import Derived.Test.YtnnfdbmanamfdaaGreatSt27
import Derived.RangeFuncNested
import Derived.RangeFuncBound
import Derived.RangeFuncCalls
import Derived.RangeFuncLeaves
import Derived.RangeFuncBox
import Derived.Shelf.Abstract
import Derived.OwnWalkIn
import Derived.TacticsInMore
import Derived.LoopNIn
import Derived.LoopIn
import Derived.Deep.AppendLies
import Derived.Deep.DeepAppendRoom
import Derived.ArgAppend
set_option maxRecDepth 100000
set_option maxHeartbeats 4000000
namespace Go.Proofs.YtnnfdbmanamfdaaGreat
open Go.RowKit
def awakeSrc:ByteArray:=⟨#[109,111,100,117,108,101,32,77,32,100,101,102,32,102,40,120,58,32,73,110,116,41,58,32,73,110,116,32,61,32,120,32,43,32,49,32,35,32,101,110,100]⟩
def awakeT:Tr:=((Qgy 200 awakeSrc).getD (noTr,0,0)).1
theorem awake_parsed:Qgy 200 awakeSrc = some (awakeT,0,0):=by kernel_rfl
theorem awake_print:printT awakeT = awakeSrc:=by kernel_rfl
theorem awake_text:awakeT.text = ⟨#[77]⟩:=by kernel_rfl
theorem awake_kids:awakeT.kids.length = 1:=by kernel_rfl
theorem awake_kid:∃ k,awakeT.kids[0]? = some k ∧ k.kids.length = 3:=⟨(awakeT.kids[0]?).getD noTr,by kernel_rfl,by kernel_rfl⟩
theorem awake_small:Qcn awakeT = true:=by kernel_rfl
theorem awake_words:Qdb awakeT = true:=by kernel_rfl
theorem awake_size:Qf7 (Qaf awakeT) < 140737488355328:=by
 have h:Qf7 (Qaf awakeT) = (Qf7 (Qaf awakeT)):=rfl
 exact Nat.lt_of_le_of_lt (show Qf7 (Qaf awakeT) ≤ 100 from Nat.le_of_ble_eq_true (by kernel_rfl)) (by decide)
theorem awake_leads:leadsP 2 4 = 7:=by kernel_rfl
theorem awake_all:∃ t:Tr,Qgy 200 ⟨#[109,111,100,117,108,101,32,77,32,100,101,102,32,102,40,120,58,32,73,110,116,41,58,32,73,110,116,32,61,32,120,32,43,32,49,32,35,32,101,110,100]⟩ = some (t,0,0) ∧ printT t = ⟨#[109,111,100,117,108,101,32,77,32,100,101,102,32,102,40,120,58,32,73,110,116,41,58,32,73,110,116,32,61,32,120,32,43,32,49,32,35,32,101,110,100]⟩ ∧ t.text = ⟨#[77]⟩ ∧ t.kids.length = 1 ∧ (∃ k,t.kids[0]? = some k ∧ k.kids.length = 3) ∧ Qcn t = true ∧ Qdb t = true ∧ Qf7 (Qaf t) < 140737488355328 :=
 ⟨awakeT,awake_parsed,awake_print,awake_text,awake_kids,awake_kid,awake_small,awake_words,awake_size⟩
theorem awake_syn (w:World):Calls Tryz.prog 40 #[] w fun e w'=>e = .returned (.bool true) ∧ Below w.heap.size w w':=by
 obtain ⟨t,hp,hpr,htx,hkn,⟨k,hk,hkk⟩,hsm,hwd,hsz⟩:=awake_all
 have HP:=hQ hp
 have HPR:=hQ hpr
 have HS:=hQ hsm
 have HW:=hQ hwd
 have HZ:=hQ hsz
 have HKN:=hQ hkn
 have HK:=hQ hk
 have HKK:=hQ hkk
 have HTX:=hQ htx
 have HSZ:=hQ (show (⟨#[109,111,100,117,108,101,32,77,32,100,101,102,32,102,40,120,58,32,73,110,116,41,58,32,73,110,116,32,61,32,120,32,43,32,49,32,35,32,101,110,100]⟩:ByteArray).size ≤ maxLen from Nat.le_of_ble_eq_true rfl)
 clear hp hpr htx hkn hk hkk hsm hwd hsz
 go_enter Tryz.func40,Tryz.ntmps40
 go_wp2_with fail
 go_at_call 41
 refine (parse_syn (n:=200) (Nat.le_of_ble_eq_true rfl) _ HSZ.out HP.out).mono ?_
 rintro e w1 ⟨v,rfl,ht,hb⟩
 have HT:=hQ ht
 have HB:=hQ hb
 obtain ⟨e1,e2,e3,e4⟩:=ht.kl
 obtain ⟨kb,ko,hka⟩:∃ b off,v.ka = some ⟨b,off,none⟩:=ht.addr.resolve_left (by show t.kids.length ≠ 0;have:=HKN.out;omega)
 obtain ⟨u,c0,c1,c2,c3,hu⟩:=ht.at hka HK.out
 rw [hu.kl.1,HKK.out] at c3
 rw [Nat.zero_mul,Nat.add_zero] at c0 c1 c2 c3
 rw [HKN.out] at e1
 rw [HTX.out] at e4
 obtain ⟨vk,vx,vla,vll,vlc,vka,vkl,vkc⟩:=v
 simp only at e1 e2 e3 e4 hka
 subst e1 e2 e3 e4 hka
 have kblt:kb < w1.heap.size:=xK w1 _ c3
 clear ht hb hu
 have HTA:=hQ (HT.out.keep ((xC w1.heap.size w1).alloc (xA _) (.cells #[.int .i64 t.kind,.string ⟨#[77]⟩,.slice vla t.leads.length vlc,.slice (some ⟨kb,ko,none⟩) 1 vkc] 25)))
 have HBA:=hQ (HB.out.alloc HB.out.size (.cells #[.int .i64 t.kind,.string ⟨#[77]⟩,.slice vla t.leads.length vlc,.slice (some ⟨kb,ko,none⟩) 1 vkc] 25))
 dsimp only
 go_step
 repeat (first | go_values | go_skip | go_guarded | go_step | go_upon)
 go_at_call 42
 refine (print_syn _ t _ _ HTA.out HS.out HW.out HZ.out).mono ?_
 rw [HPR.out]
 rintro e w2 ⟨rfl,hb2⟩
 have HB2:=hQ (HBA.out.trans (hb2.mono HBA.out.size))
 clear hb2 c0 c1 c2 c3 kblt
 dsimp only
 repeat (first | go_values | go_skip | go_guarded | go_step | go_upon)
 go_at_call 69
 refine (leads_syn 2 4 _ (by decide)).mono ?_
 rw [awake_leads]
 rintro e w3 ⟨rfl,hb3⟩
 have HB3:=hQ (HB2.out.trans (hb3.mono HB2.out.size))
 clear hb3
 dsimp only
 repeat (first | go_values | go_skip | go_guarded | go_step | go_upon)
 go_ret
 exact ⟨rfl,HB3.out⟩
def modM (n m:Int):Int:=if n.tmod m < 0 then n.tmod m + m else n.tmod m
theorem modM_bd (n:Int) {m:Int} (hm:0 < m):0 ≤ modM n m ∧ modM n m < m:=by
 have h1:=Int.tmod_lt_of_pos n hm
 have h2:-m < n.tmod m:=Int.lt_tmod_of_pos n hm
 unfold modM
 split <;> omega
theorem mod_syn (n m:Int) (w:World) (hm:0 < m) (hm2:m ≤ 1000000):Calls Tryz.prog 29 #[.int .i64 n,.int .i64 m] w fun e w'=>e = .returned (.int .i64 (modM n m)) ∧ w = w':=by
 have h1:=Int.tmod_lt_of_pos n hm
 have h2:-m < n.tmod m:=Int.lt_tmod_of_pos n hm
 have HM:=hQ (show modM n m = if n.tmod m < 0 then n.tmod m + m else n.tmod m from rfl)
 have h0:m ≠ 0:=by omega
 have hb:=Qcf h0
 by_cases h:n.tmod m < 0
 all_goals
  go_enter Tryz.func29,Tryz.ntmps29
  go_wp2
  go_ret
  exact ⟨Qb8 (by rw [HM.out];split <;> omega),rfl⟩
end Go.Proofs.YtnnfdbmanamfdaaGreat
namespace Go.Proofs.YtnnfdbmanamfdaaGreat
open Go.RowKit Go.Shelf
structure Keeps (P:Nat → Option Nat) (w w':World):Prop where
 os:w'.os = w.os
 tape:w'.tape = w.tape
 output:w'.output = w.output
 size:w.heap.size ≤ w'.heap.size
 block:∀ k,k < w.heap.size → P k = none → w'.heap[k]? = w.heap[k]?
 cells:∀ k n cur t,P k = some n → w.heap[k]? = some (.cells cur t (0,0)) → ∃ cur',w'.heap[k]? = some (.cells cur' t (0,0)) ∧ cur'.size = cur.size ∧ cur'.toList.take n = cur.toList.take n
theorem Keeps.of_below {P:Nat → Option Nat} {w w':World} (h:Below w.heap.size w w'):Keeps P w w':=⟨h.os,h.tape,h.output,h.size,fun k hk _=>h.block k hk,fun k _ cur _ _ hc=>⟨cur,(h.block k (Qaa hc)).trans hc,rfl,rfl⟩⟩
theorem take_le {α:Type} {m n:Nat} {a b:List α} (hmn:m ≤ n) (h:a.take n = b.take n):a.take m = b.take m:=by
 have:=congrArg (List.take m) h
 rwa [List.take_take,List.take_take,Nat.min_eq_left hmn] at this
theorem Keeps.row {P:Nat → Option Nat} {w w':World} (h:Keeps P w w') {B:Nat} {e:TypeId} {size:Nat} {v:Value} {n:Nat} {xs:List Value} (hr:w.ownsRow B e size v n xs)
  (hp:∀ k,v.ownBlock = some k → P k = none ∨ ∃ m,P k = some m ∧ n * size ≤ m):w'.ownsRow B e size v n xs:=by
 refine ⟨hr.1,?_⟩
 rcases hr.2 with h0 | ⟨g,cap,cur,rfl,hb,hh,hnc,hm,hsz,htk⟩
 ·exact .inl h0
 ·rcases hp g rfl with h0 | ⟨m,h1,h2⟩
  ·exact .inr ⟨g,cap,cur,rfl,hb,(h.block g (Qaa hh) h0).trans hh,hnc,hm,hsz,htk⟩
  ·obtain ⟨c1,hc1,hs1,ht1⟩:=h.cells g m cur e h1 hh
   exact .inr ⟨g,cap,c1,rfl,hb,hc1,hnc,hm,hs1.trans hsz,(take_le h2 ht1).trans htk⟩
variable {P:Program}
def DiceAt (B:Nat) (w:World):Prop:=∃ (A:Option Addr) (c k:Nat) (xs:List Int),w.heap[B]? = some (.cells #[.slice A xs.length c,.int .i64 k] 116 (0,0)) ∧ xs.length ≤ 120 ∧ k ≤ xs.length ∧ xs.length ≤ c ∧
 (xs ≠ [] → ∃ b off,A = some ⟨b,off,none⟩ ∧ b < B ∧ ∀ (i:Nat) (x:Int),xs[i]? = some x → w.cell? ⟨b,off + i,none⟩ = some (.int .i64 x))
theorem DiceAt.lt {B:Nat} {w:World} (h:DiceAt B w):B < w.heap.size:=by
 obtain ⟨_,_,_,_,hh,_⟩:=h
 exact Qaa hh
theorem DiceAt.other {B:Nat} {w w':World} (h:DiceAt B w) (hb:∀ k,k ≤ B → w'.heap[k]? = w.heap[k]?):DiceAt B w':=by
 obtain ⟨A,c,k,xs,h1,h2,h3,h4,h5⟩:=h
 refine ⟨A,c,k,xs,(hb B (xA _)).trans h1,h2,h3,h4,fun hne=>?_⟩
 obtain ⟨b,off,q1,q2,q3⟩:=h5 hne
 exact ⟨b,off,q1,q2,fun i x hx=>(xJ (w:=w) (a:=⟨b,off + i,none⟩) (hb b (Nat.le_of_lt q2))).trans (q3 i x hx)⟩
theorem DiceAt.keep {B:Nat} {w w':World} (h:DiceAt B w) (hb:Below w.heap.size w w'):DiceAt B w':=h.other fun k hk=>hb.block k (Nat.lt_of_le_of_lt hk h.lt)
theorem DiceAt.next {B k:Nat} {w:World} {A:Option Addr} {c:Nat} {xs:List Int} (h1:w.heap[B]? = some (.cells #[.slice A xs.length c,.int .i64 k] 116 (0,0))) (h2:xs.length ≤ 120) (h3:k < xs.length) (h4:xs.length ≤ c)
  (h5:xs ≠ [] → ∃ b off,A = some ⟨b,off,none⟩ ∧ b < B ∧ ∀ (i:Nat) (x:Int),xs[i]? = some x → w.cell? ⟨b,off + i,none⟩ = some (.int .i64 x)):DiceAt B (w.setCell ⟨B,1,none⟩ (.int .i64 ((k:Int) + 1))):=by
 refine ⟨A,c,k + 1,xs,Qa0 h1 rfl,h2,by omega,h4,fun hne=>?_⟩
 obtain ⟨b,off,q1,q2,q3⟩:=h5 hne
 exact ⟨b,off,q1,q2,fun i x hx=>(xJ (w:=w) (a:=⟨b,off + i,none⟩) (Qav (k:=b) (by omega))).trans (q3 i x hx)⟩
def DNextP (B:Nat) (m:Int) (w:World) (e:Ending) (w':World):Prop:=∃ r:Int,e = .returned (.int .i64 r) ∧ 0 ≤ r ∧ r < m ∧ Rest1 B w w' ∧ DiceAt B w'
theorem Rest1.drewN {g:Nat} {w w':World} (h:Rest1 g w w') (n:Nat):Rest1 g w (w'.drewN n):=h.trans ⟨rfl,rfl,rfl,xA _,fun _ _ _=>rfl⟩
theorem DiceAt.drewN {B:Nat} {w:World} (h:DiceAt B w) (n:Nat):DiceAt B (w.drewN n):=h.other fun _ _=>rfl
def Qe6 (B:Nat) (w:World) (m r:Int):Prop:=∀ w',(∀ k,k ≤ B → w'.heap[k]? = w.heap[k]?) → Calls Tryz.prog 61 #[.pointer (some ⟨B,0,none⟩),.int .i64 m] w' fun e w''=>e = .returned (.int .i64 r) ∧ Rest1 B w' w'' ∧ DiceAt B w''
theorem dice_n (B:Nat) (m:Int) (W:World) (hD:DiceAt B W) (h1:1 ≤ m) (h2:m ≤ 1000):∃ r:Int,0 ≤ r ∧ r < m ∧ Qe6 B W m r:=by
 obtain ⟨A,c,k,xs,Q1,q2,q3,q4,Q5⟩:=hD
 by_cases hk:k < xs.length
 ·obtain ⟨b,off,hA,hne,hcs⟩:=Q5 (by intro e;rw [e] at hk;simp at hk)
  obtain ⟨x,hx⟩:∃ x,xs[k]? = some x:=⟨_,xF hk⟩
  refine ⟨modM x m,(modM_bd x (m:=m) (by omega)).1,(modM_bd x (m:=m) (by omega)).2,fun w hb=>?_⟩
  have q1:=(hb B (xA _)).trans Q1
  have q5:xs ≠ [] → ∃ b off,A = some ⟨b,off,none⟩ ∧ b < B ∧ ∀ (i:Nat) (x:Int),xs[i]? = some x → w.cell? ⟨b,off + i,none⟩ = some (.int .i64 x):=fun _=>⟨b,off,hA,hne,fun i x hi=>(xJ (w:=W) (a:=⟨b,off + i,none⟩) (hb b (Nat.le_of_lt hne))).trans (hcs i x hi)⟩
  have hcx:=(xJ (w:=W) (a:=⟨b,off + k,none⟩) (hb b (Nat.le_of_lt hne))).trans (hcs k x hx)
  have HD:=hQ (show DiceAt B w from ⟨A,c,k,xs,q1,q2,q3,q4,q5⟩)
  subst hA
  have c0:=Qab q1 0 _ rfl
  have c1:=Qab q1 1 _ rfl
  have hbl:=Qaa q1
  have hfr:=Lib.frozen_of_heap q1
  have d1:decide (xs.length ≤ k) = false:=decide_eq_false (by omega)
  have hcb:=xK w _ hcx
  have HN:=hQ (fun n=>DiceAt.next (w:=w.drewN n) q1 q2 hk q4 q5)
  have HNE:=hQ hne
  have HQ:=hQ q1
  have HCX:=hQ hcx
  clear q1 q5 hcs hx Q1 Q5 hb
  go_enter Tryz.func61,Tryz.ntmps61
  go_wp2
  go_quiet (fail)
  go_wp2
  have hb1:((w.drewN nq).setCell ⟨B,1,none⟩ (.int .i64 ((k:Int) + 1))).heap[B]? = some (.cells #[.slice (some ⟨b,off,none⟩) xs.length c,.int .i64 ((k:Int) + 1)] 116 (0,0)):=Qa0 (w:=w.drewN nq) HQ.out rfl
  have hcz:((w.drewN nq).setCell ⟨B,1,none⟩ (.int .i64 ((k:Int) + 1))).cell? ⟨b,off + k,none⟩ = some (.int .i64 x):=(xJ (w:=w) (a:=⟨b,off + k,none⟩) (Qav (w:=w.drewN nq) (k:=b) (by have:=HNE.out;omega))).trans HCX.out
  have HRW:=hQ (show Rest1 B w ((w.drewN nq).setCell ⟨B,1,none⟩ (.int .i64 ((k:Int) + 1))) from ((Rest1.below (xC _ _)).drewN nq).trans (Rest1.set _ B 1 _))
  have HDW:=hQ (HN.out nq)
  generalize ((w.drewN nq).setCell ⟨B,1,none⟩ (.int .i64 ((k:Int) + 1))) = W2 at *
  clear c0 c1 hbl hfr hcx hcb
  have c0:=Qab hb1 0 _ rfl
  have c1:=Qab hb1 1 _ rfl
  have hbl:=Qaa hb1
  have hcb:=xK W2 _ hcz
  have k1:(k:Int) + 1 - 1 = (k:Int):=by omega
  have k2:(0:Int) ≤ (k:Int):=by omega
  have k3:(k:Int) < (xs.length:Int):=by omega
  clear hb1
  go_quiet ((go_at_call 29;exact Calls.quiet_of_same ((mod_syn _ _ _ (by omega) (by omega)).mono fun _ _ h=>⟨h.1,h.2.symm⟩)))
  go_wp2
  go_ret
  exact ⟨rfl,HRW.out.drewN _,HDW.out.drewN _⟩
 ·obtain rfl:k = xs.length:=by omega
  refine ⟨0,by omega,by omega,fun w hb=>?_⟩
  have q1:=(hb B (xA _)).trans Q1
  have HD:=hQ (DiceAt.other (w:=W) ⟨A,c,xs.length,xs,Q1,q2,q3,q4,Q5⟩ hb)
  have d1:decide (xs.length ≤ xs.length) = true:=decide_eq_true (xA _)
  have c0:=Qab q1 0 _ rfl
  have c1:=Qab q1 1 _ rfl
  have hbl:=Qaa q1
  have hfr:=Lib.frozen_of_heap q1
  clear q1 Q1 Q5 hb
  go_enter Tryz.func61,Tryz.ntmps61
  go_wp2
  go_quiet (fail)
  go_wp2
  go_ret
  exact ⟨rfl,(Rest1.below (xC _ _)).drewN _,HD.out.drewN _⟩
theorem Qb4 (B:Nat) (m:Int) (w:World) (hd:DiceAt B w) (h1:1 ≤ m) (h2:m ≤ 1000):Calls Tryz.prog 61 #[.pointer (some ⟨B,0,none⟩),.int .i64 m] w (DNextP B m w):=by
 obtain ⟨r,h3,h4,h5⟩:=dice_n B m w hd h1 h2
 refine (h5 w fun _ _=>rfl).mono ?_
 rintro e w' ⟨q1,q2,q3⟩
 exact ⟨r,q1,h3,h4,q2,q3⟩
mutual
def Qfk:Tr → Bool
 | .mk _ x ls ks=>decide (x.size ≤ 7) && decide (ls.length ≤ ks.length + 6) && ls.all (fun y=>decide (y.size ≤ 5)) && Qbh ks
def Qbh:List Tr → Bool
 | []=>true
 | t :: r=>Qfk t && Qbh r
end
theorem Qgk:(a b:List Tr) → Qbh (a ++ b) = (Qbh a && Qbh b)
 | [],b=>by rw [List.nil_append,Qbh,Bool.true_and]
 | t :: r,b=>by rw [List.cons_append,Qbh,Qgk r b,Qbh,Bool.and_assoc]
theorem tinyL_get:(l:List Tr) → (j:Nat) → (k:Tr) → Qbh l = true → l[j]? = some k → Qfk k = true
 | [],j,k,_,hk=>by simp at hk
 | t :: r,j,k,h,hk=>by
  rw [Qbh,Bool.and_eq_true] at h
  cases j with
  | zero=>simp at hk;subst hk;exact h.1
  | succ j=>exact tinyL_get r j k h.2 (by simpa using hk)
theorem Qcb {k:Int} {x:ByteArray} {ls:List ByteArray} {ks:List Tr}:Qfk (.mk k x ls ks) = true ↔ x.size ≤ 7 ∧ ls.length ≤ ks.length + 6 ∧ (∀ y ∈ ls,y.size ≤ 5) ∧ Qbh ks = true:=by
 rw [Qfk,Bool.and_eq_true,Bool.and_eq_true,Bool.and_eq_true,decide_eq_true_iff,decide_eq_true_iff,List.all_eq_true]
 simp only [decide_eq_true_iff]
 exact ⟨fun h=>⟨h.1.1.1,h.1.1.2,h.1.2,h.2⟩,fun h=>⟨⟨⟨h.1,h.2.1⟩,h.2.2.1⟩,h.2.2.2⟩⟩
theorem szB_le5:(l:List ByteArray) → (∀ y ∈ l,y.size ≤ 5) → szB l ≤ 5 * l.length
 | [],_=>by rw [szB];omega
 | y :: r,h=>by
  have h1:=szB_le5 r (fun z hz=>h z (by simp [hz]))
  have h2:=h y (by simp)
  rw [szB,xD]
  omega
mutual
theorem tiny_cnt:(t:Tr) → Qfk t = true → cntT t + 7 ≤ 60 * Qan t
 | .mk k x ls ks,h=>by
  obtain ⟨h1,h2,h3,h4⟩:=Qcb.1 h
  have h5:=tinyL_cnt ks h4
  have h6:=szB_le5 ls h3
  rw [cntT,Qan]
  omega
theorem tinyL_cnt:(l:List Tr) → Qbh l = true → 7 * l.length + cntL l ≤ 60 * Qap l
 | [],_=>by rw [cntL,Qap];simp
 | t :: r,h=>by
  rw [Qbh,Bool.and_eq_true] at h
  have h1:=tiny_cnt t h.1
  have h2:=tinyL_cnt r h.2
  rw [cntL,Qap,xD]
  omega
end
def KidsFr (lo:Nat) (w:World) (ks:List Tr) (us:List TV):Prop:=us.length = ks.length ∧ ∀ (i:Nat) (k:Tr) (u:TV),ks[i]? = some k → us[i]? = some u → TrAt (fun b=>lo ≤ b ∧ b < w.heap.size) w k u
theorem KidsFr.nil (lo:Nat) (w:World):KidsFr lo w [] []:=⟨rfl,fun i k u h=>by simp at h⟩
theorem KidsFr.snoc {lo:Nat} {w:World} {ks:List Tr} {us:List TV} (h:KidsFr lo w ks us) {k:Tr} {u:TV} (hu:TrAt (fun b=>lo ≤ b ∧ b < w.heap.size) w k u):KidsFr lo w (ks ++ [k]) (us ++ [u]):=by
 refine ⟨by simp [h.1],fun i k' u' hk hu'=>?_⟩
 by_cases hi:i < ks.length
 ·rw [List.getElem?_append_left hi] at hk
  rw [List.getElem?_append_left (by rw [h.1];exact hi)] at hu'
  exact h.2 i k' u' hk hu'
 ·have hl:=(List.getElem?_eq_some_iff.1 hk).1
  rw [xB,List.length_singleton] at hl
  obtain rfl:i = ks.length:=by omega
  rw [List.getElem?_append_right (xA _),Nat.sub_self] at hk
  rw [← h.1,List.getElem?_append_right (xA _),Nat.sub_self] at hu'
  injection hk with hk
  injection hu' with hu'
  subst hk hu'
  exact hu
theorem KidsFr.move {B lo:Nat} {w w':World} {ks:List Tr} {us:List TV} (h:KidsFr lo w ks us) (hr:Rest1 B w w') (hB:B < lo):KidsFr lo w' ks us :=
 ⟨h.1,fun i k u hk hu=>TrAt.move (fun b hb=>⟨hb.1,xE hb.2 hr.size⟩) (fun b hb hl=>hr.block b hl (by omega)) _ _ (h.2 i k u hk hu)⟩
theorem fr_move {B a lo:Nat} {w w':World} {t:Tr} {u:TV} (h:TrAt (fun b=>a ≤ b ∧ b < w.heap.size) w t u) (hr:Rest1 B w w') (hB:B < a) (hl:lo ≤ a):TrAt (fun b=>lo ≤ b ∧ b < w'.heap.size) w' t u :=
 TrAt.move (fun b hb=>⟨by omega,xE hb.2 hr.size⟩) (fun b hb hlt=>hr.block b hlt (by omega)) _ _ h
theorem fr_set {R lo:Nat} {w:World} {t:Tr} {u v:TV} (h:TrAt (fun b=>lo ≤ b ∧ b < w.heap.size) w t u) (hR:R < lo):TrAt (fun b=>lo ≤ b ∧ b < (Qga w R v).heap.size) (Qga w R v) t u :=
 TrAt.move (fun b hb=>⟨hb.1,by rw [Qdq];exact hb.2⟩) (fun b hb _=>Qbq _ (by omega)) _ _ h
theorem fr_low {a lo:Nat} {w:World} {t:Tr} {u:TV} (h:TrAt (fun b=>a ≤ b ∧ b < w.heap.size) w t u) (hl:lo ≤ a):TrAt (fun b=>lo ≤ b ∧ b < w.heap.size) w t u :=
 TrAt.move (fun b hb=>⟨by omega,hb.2⟩) (fun _ _ _=>rfl) _ _ h
theorem leaf_at (S:Nat → Prop) (w:World) (k:Int) (x:ByteArray):TrAt S w (.mk k x [] []) ⟨k,x,none,0,0,none,0,0⟩:=by
 unfold TrAt
 exact ⟨rfl,rfl,rfl,rfl,fun h=>absurd rfl h,fun h=>absurd rfl h,xA _,xA _⟩
theorem node_at {lo g:Nat} {w:World} {ks:List Tr} {us:List TV} (k:Int) (x:ByteArray) (h:KidsFr lo w ks us) (hg:w.heap[g]? = some (.cells (Qag us).toArray 25 (0,0))) (hl:lo ≤ g) (n:Nat) (hn:n = us.length) :
  TrAt (fun b=>lo ≤ b ∧ b < w.heap.size) w (.mk k x [] ks) ⟨k,x,none,0,0,some ⟨g,0,none⟩,n,n⟩:=by
 subst hn
 unfold TrAt
 refine ⟨rfl,rfl,rfl,h.1,fun hne=>absurd rfl hne,fun _=>⟨g,0,rfl,⟨hl,Qaa hg⟩,TrsAt.of ks 0 fun i t ht=>?_⟩,xA _,xA _⟩
 have hi:=(List.getElem?_eq_some_iff.1 ht).1
 obtain ⟨u,hu⟩:∃ u,us[i]? = some u:=⟨_,xF (by rw [h.1];exact hi)⟩
 obtain ⟨q0,q1,q2,q3⟩:=Qf4 us i u hu
 have hc:∀ (j:Nat) (x:Value),(Qag us)[j]? = some x → w.cell? ⟨g,j,none⟩ = some x:=fun j x hx=>Qab hg j x (by simpa using hx)
 rw [Nat.zero_add]
 exact ⟨u,hc _ _ q0,hc _ _ q1,hc _ _ q2,hc _ _ q3,h.2 i t u ht hu⟩
def Qb5 (B n:Nat) (w:World) (e:Ending) (w':World):Prop:=∃ (t:Tr) (u:TV),e = .returned (.agg #[.int .i64 u.kind,.string u.text,.slice u.la u.ll u.lc,.slice u.ka u.kl u.kc]) ∧ TrAt (fun b=>w.heap.size ≤ b ∧ b < w'.heap.size) w' t u ∧ Qan t ≤ n ∧ Qfk t = true ∧ Rest1 B w w' ∧ DiceAt B w'
theorem Qew {B R:Nat} {w wr:World} (v:TV) (hR:w.heap.size ≤ R) (hr:Rest1 B w wr):Rest1 B w (Qga wr R v) :=
 ⟨hr.os,hr.tape,hr.output,by rw [Qdq];exact hr.size,fun k hk hne=>(Qbq v (by omega)).trans (hr.block k hk hne)⟩
theorem Qex {B R:Nat} {wr:World} (v:TV) (hd:DiceAt B wr) (hR:B < R):DiceAt B (Qga wr R v):=hd.other fun k hk=>Qbq v (by omega)
theorem Qa2 {B n:Nat} {w wr:World} (k:Int) (x:ByteArray) (hx:x.size ≤ 7) (hn:1 ≤ n) (hB:B < w.heap.size) (hr:Rest1 B w wr) (hd:DiceAt B wr) :
  Qb5 B n w (.returned (.agg #[.int .i64 k,.string x,.slice none 0 0,.slice none 0 0])) (Qga wr w.heap.size ⟨k,x,none,0,0,none,0,0⟩) :=
 ⟨.mk k x [] [],⟨k,x,none,0,0,none,0,0⟩,rfl,leaf_at _ _ k x,by rw [Qan,Qap];omega,Qcb.2 ⟨hx,by simp,by simp,by rw [Qbh]⟩,Qew _ (xA _) hr,Qex _ hd hB⟩
def MadeK (B n:Nat) (k:Int) (w:World) (e:Ending) (w':World):Prop:=∃ (t:Tr) (u:TV),e = .returned (.agg #[.int .i64 u.kind,.string u.text,.slice u.la u.ll u.lc,.slice u.ka u.kl u.kc]) ∧ TrAt (fun b=>w.heap.size ≤ b ∧ b < w'.heap.size) w' t u ∧ Qan t ≤ n ∧ Qfk t = true ∧ Rest1 B w w' ∧ DiceAt B w' ∧ (t.kind = k ∨ t.kind = 0)
theorem KidsFr.set {R lo:Nat} {w:World} {ks:List Tr} {us:List TV} (h:KidsFr lo w ks us) (v:TV) (hR:R < lo):KidsFr lo (Qga w R v) ks us:=⟨h.1,fun i k u hk hu=>fr_set (h.2 i k u hk hu) hR⟩
theorem Qfl {B n:Nat} {w w2:World} {ks:List Tr} {us:List TV} (k:Int) (x:ByteArray) (hx:x.size ≤ 7) (hK:KidsFr (w.heap.size + 1) w2 ks us) (hT:Qbh ks = true) (hS:1 + Qap ks ≤ n) (hB:B < w.heap.size) (hr:Rest1 B w w2) (hd:DiceAt B w2) (h1:w.heap.size + 1 ≤ w2.heap.size) (m:Nat) (hm:m = us.length) :
  Qb5 B n w (.returned (.agg #[.int .i64 k,.string x,.slice none 0 0,.slice (some ⟨w2.heap.size,0,none⟩) m m])) ((Qga w2 w.heap.size ⟨k,x,none,0,0,some ⟨w2.heap.size,0,none⟩,m,m⟩).alloc (.cells (Qag us).toArray 25)):=by
 have hsz:=Qdq w2 w.heap.size ⟨k,x,none,0,0,some ⟨w2.heap.size,0,none⟩,m,m⟩
 have hr3:=Qew (R:=w.heap.size) ⟨k,x,none,0,0,some ⟨w2.heap.size,0,none⟩,m,m⟩ (xA _) hr
 have hd3:=Qex (R:=w.heap.size) ⟨k,x,none,0,0,some ⟨w2.heap.size,0,none⟩,m,m⟩ hd hB
 have hK3:=hK.set ⟨k,x,none,0,0,some ⟨w2.heap.size,0,none⟩,m,m⟩ (R:=w.heap.size) (by omega)
 generalize Qga w2 w.heap.size ⟨k,x,none,0,0,some ⟨w2.heap.size,0,none⟩,m,m⟩ = w3 at *
 have hb:Below w3.heap.size w3 (w3.alloc (.cells (Qag us).toArray 25)):=(xC _ _).alloc (xA _) _
 have hK2:=hK3.move (Rest1.below (g:=B) hb) (by omega)
 have hN:=node_at (g:=w2.heap.size) k x hK2 (by rw [← hsz];exact xH w3 _) (by omega) m hm
 exact ⟨.mk k x [] ks,⟨k,x,none,0,0,some ⟨w2.heap.size,0,none⟩,m,m⟩,rfl,fr_low hN (by omega),by rw [Qan];omega,Qcb.2 ⟨hx,by simp,by simp,hT⟩,hr3.trans (Rest1.below hb),hd3.keep hb⟩
theorem KidsFr.keepB {lo:Nat} {w w':World} {ks:List Tr} {us:List TV} (h:KidsFr lo w ks us) (hb:Below w.heap.size w w'):KidsFr lo w' ks us :=
 ⟨h.1,fun i k u hk hu=>TrAt.move (fun _ hb'=>⟨hb'.1,xE hb'.2 hb.size⟩) (fun b _ hl=>hb.block b hl) _ _ (h.2 i k u hk hu)⟩
theorem fr_keep {lo:Nat} {w w':World} {t:Tr} {u:TV} (h:TrAt (fun b=>lo ≤ b ∧ b < w.heap.size) w t u) (hb:Below w.heap.size w w'):TrAt (fun b=>lo ≤ b ∧ b < w'.heap.size) w' t u :=
 TrAt.move (fun _ hb'=>⟨hb'.1,xE hb'.2 hb.size⟩) (fun b _ hl=>hb.block b hl) _ _ h
theorem made_pass {B n:Nat} {w w2:World} {t:Tr} {u:TV} (o:Obj) (h:TrAt (fun b=>w.heap.size + 1 ≤ b ∧ b < w2.heap.size) w2 t u) (hs:Qan t ≤ n) (ht:Qfk t = true) (hB:B < w.heap.size) (hr:Rest1 B w w2) (hd:DiceAt B w2) :
  Qb5 B n w (.returned (.agg #[.int .i64 u.kind,.string u.text,.slice u.la u.ll u.lc,.slice u.ka u.kl u.kc])) ((Qga w2 w.heap.size u).alloc o):=by
 have hr3:=Qew (R:=w.heap.size) u (xA _) hr
 have hd3:=Qex (R:=w.heap.size) u hd hB
 have h3:=fr_set (R:=w.heap.size) (v:=u) h (by omega)
 generalize Qga w2 w.heap.size u = w3 at *
 have hb:Below w3.heap.size w3 (w3.alloc o):=(xC _ _).alloc (xA _) _
 exact ⟨t,u,rfl,fr_low (fr_keep h3 hb) (by omega),hs,ht,hr3.trans (Rest1.below hb),hd3.keep hb⟩
theorem made_node2 {B n:Nat} {w w2:World} {ks:List Tr} {us:List TV} (o:Obj) (k:Int) (x:ByteArray) (hx:x.size ≤ 7) (hK:KidsFr (w.heap.size + 1) w2 ks us) (hT:Qbh ks = true) (hS:1 + Qap ks ≤ n) (hB:B < w.heap.size) (hr:Rest1 B w w2) (hd:DiceAt B w2) (h1:w.heap.size + 1 ≤ w2.heap.size) (m:Nat) (hm:m = us.length) :
  Qb5 B n w (.returned (.agg #[.int .i64 k,.string x,.slice none 0 0,.slice (some ⟨w2.heap.size + 1,0,none⟩) m m])) (((Qga w2 w.heap.size ⟨k,x,none,0,0,some ⟨w2.heap.size + 1,0,none⟩,m,m⟩).alloc o).alloc (.cells (Qag us).toArray 25)):=by
 have hsz:=Qdq w2 w.heap.size ⟨k,x,none,0,0,some ⟨w2.heap.size + 1,0,none⟩,m,m⟩
 have hr3:=Qew (R:=w.heap.size) ⟨k,x,none,0,0,some ⟨w2.heap.size + 1,0,none⟩,m,m⟩ (xA _) hr
 have hd3:=Qex (R:=w.heap.size) ⟨k,x,none,0,0,some ⟨w2.heap.size + 1,0,none⟩,m,m⟩ hd hB
 have hK3:=hK.set ⟨k,x,none,0,0,some ⟨w2.heap.size + 1,0,none⟩,m,m⟩ (R:=w.heap.size) (by omega)
 generalize Qga w2 w.heap.size ⟨k,x,none,0,0,some ⟨w2.heap.size + 1,0,none⟩,m,m⟩ = w3 at *
 have hb0:Below w3.heap.size w3 (w3.alloc o):=(xC _ _).alloc (xA _) _
 have hz4:(w3.alloc o).heap.size = w2.heap.size + 1:=by rw [xI,hsz]
 have hK4:=hK3.keepB hb0
 have hr4:=hr3.trans (Rest1.below hb0)
 have hd4:=hd3.keep hb0
 generalize w3.alloc o = w4 at *
 have hb:Below w4.heap.size w4 (w4.alloc (.cells (Qag us).toArray 25)):=(xC _ _).alloc (xA _) _
 have hN:=node_at (g:=w2.heap.size + 1) k x (hK4.keepB hb) (by rw [← hz4];exact xH w4 _) (by omega) m hm
 exact ⟨.mk k x [] ks,⟨k,x,none,0,0,some ⟨w2.heap.size + 1,0,none⟩,m,m⟩,rfl,fr_low hN (by omega),by rw [Qan];omega,Qcb.2 ⟨hx,by simp,by simp,hT⟩,hr4.trans (Rest1.below hb),hd4.keep hb⟩
theorem Qai {w:World} {b:Nat} {a:Int} {s:ByteArray} {p q:Value} (h:w.heap[b]? = some (.cells #[.int .i64 a,.string s,p,q] 25 (0,0))) :
  w.cell? ⟨b,0,none⟩ = some (.int .i64 a) ∧ w.cell? ⟨b,1,none⟩ = some (.string s) ∧ w.cell? ⟨b,2,none⟩ = some p ∧ w.cell? ⟨b,3,none⟩ = some q ∧ b < w.heap.size ∧ ∀ o,w.frozen? ⟨b,o,none⟩ = false :=
 ⟨Qab h 0 _ rfl,Qab h 1 _ rfl,Qab h 2 _ rfl,Qab h 3 _ rfl,Qaa h,fun _=>Lib.frozen_of_heap h _⟩
def PickP (B:Nat) (w:World) (e:Ending) (w':World):Prop:=∃ s:ByteArray,e = .returned (.string s) ∧ s.size ≤ 7 ∧ Rest1 B w w' ∧ DiceAt B w'
theorem pick_any (B b n:Nat) (ls:List ByteArray) (w:World) (hd:DiceAt B w) (hn:ls.length = n) (h1:1 ≤ n) (h2:n ≤ 100) (hs:∀ s ∈ ls,s.size ≤ 7) (hb:B < b) (hc:∀ (i:Nat) (s:ByteArray),ls[i]? = some s → w.cell? ⟨b,i,none⟩ = some (.string s)) :
  Calls Tryz.prog 130 #[.pointer (some ⟨B,0,none⟩),.slice (some ⟨b,0,none⟩) n n] w (PickP B w):=by
 have HC:=hQ hc
 have HS:=hQ hs
 have HN:=hQ hn
 clear hc hs hn
 go_enter Tryz.func130,Tryz.ntmps130
 go_wp2_with fail
 go_at_call 61
 refine (Qb4 B n _ hd (by omega) (by omega)).mono ?_
 rintro e w1 ⟨r,rfl,hr0,hr1,hrest,hd1⟩
 obtain ⟨k,rfl⟩:∃ k:Nat,r = (k:Int):=⟨r.toNat,by omega⟩
 obtain ⟨s,hk⟩:∃ s,ls[k]? = some s:=⟨_,xF (by have:=HN.out;omega)⟩
 have c:=HC.out k s hk
 have c1:=(xJ (w:=w) (a:=⟨b,k,none⟩) (hrest.block b (xK w _ c) (by omega))).trans c
 have hbl:=xK w1 _ c1
 have HR:=hQ hrest
 have HD1:=hQ hd1
 have HSZ:=hQ (HS.out s (List.mem_of_getElem? hk))
 clear hrest hd1 hk c
 go_wp2
 go_ret
 exact ⟨s,rfl,HSZ.out,HR.out,HD1.out⟩
theorem DiceAt.drew {B:Nat} {w:World} (h:DiceAt B w):DiceAt B w.drew:=h.other fun _ _=>rfl
theorem Rest1.ofDrew {B:Nat} {w w':World} (h:Rest1 B w.drew w'):Rest1 B w w':=⟨h.os,h.tape,h.output,h.size,h.block⟩
theorem Qcc (B n:Nat) (ls:List ByteArray) (cs:Array Value) (w:World) (hd:DiceAt B w) (hcs:cs.toList = ls.map Value.string) (hn:ls.length = n) (h1:1 ≤ n) (h2:n ≤ 100) (hs:∀ s ∈ ls,s.size ≤ 7) :
  Calls Tryz.prog 130 #[.pointer (some ⟨B,0,none⟩),.slice (some ⟨w.heap.size,0,none⟩) n n] (w.alloc (.cells cs 9)) (PickP B w):=by
 have hb:Below w.heap.size w (w.alloc (.cells cs 9)):=(xC _ _).alloc (xA _) _
 refine (pick_any B w.heap.size n ls _ (hd.keep hb) hn h1 h2 hs hd.lt fun i s hi=>Qab (xH w (.cells cs 9)) i _ ?_).mono ?_
 ·rw [← Array.getElem?_toList,hcs,List.getElem?_map,hi]
  rfl
 ·rintro e w' ⟨s,q1,q2,q3,q4⟩
  exact ⟨s,q1,q2,(Rest1.below hb).trans q3,q4⟩
theorem pick_newD (B n:Nat) (ls:List ByteArray) (cs:Array Value) (w:World) (hd:DiceAt B w) (hcs:cs.toList = ls.map Value.string) (hn:ls.length = n) (h1:1 ≤ n) (h2:n ≤ 100) (hs:∀ s ∈ ls,s.size ≤ 7) :
  Calls Tryz.prog 130 #[.pointer (some ⟨B,0,none⟩),.slice (some ⟨w.heap.size,0,none⟩) n n] (w.alloc (.cells cs 9)).drew (PickP B w):=by
 refine (pick_any B w.heap.size n ls _ (hd.keep ((xC _ _).alloc (xA _) (.cells cs 9))).drew hn h1 h2 hs hd.lt fun i s hi=>Qab (w:=(w.alloc (.cells cs 9)).drew) (xH w (.cells cs 9)) i _ ?_).mono ?_
 ·rw [← Array.getElem?_toList,hcs,List.getElem?_map,hi]
  rfl
 ·rintro e w' ⟨s,q1,q2,q3,q4⟩
  exact ⟨s,q1,q2,(Rest1.below ((xC _ _).alloc (xA _) (.cells cs 9))).trans q3.ofDrew,q4⟩
theorem Qeq {w:World} {B:Nat} {e:TypeId} {s:Nat} {v:Value} {n:Nat} {xs:List Value} (h:w.ownsRow B e s v n xs):∃ A c,v = .slice A n c:=by
 rcases h.2 with ⟨rfl,rfl⟩ | ⟨g,cap,cur,rfl,_⟩
 ·exact ⟨_,_,rfl⟩
 ·exact ⟨_,_,rfl⟩
end Go.Proofs.YtnnfdbmanamfdaaGreat
