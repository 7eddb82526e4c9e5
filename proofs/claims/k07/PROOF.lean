import PyProof.Rows.All
import Wide.All
import OpenK.AllK
import Wide.FinOn
import HandS.ForMost
import HandS.Iter
import HandS.Codes
import HandS.StrMore
import HandS.ForExc
import HandS.DictComp
import HandS.DeepEq
import KE.KEqDict
import HandS.ExcInit
import HandS.Lambda
import HandS.EndTab
import HandS.Conv
import HandS.Walk
import HandS.Comp
import HandS.TupMul
import HandS.DictTup
import HandS.TupLen
import HandS.Defaults
import PyProof.NeKinds
import PyProof.InstEq
import HandS.More
import HandS.NoneIn
import HandS.CallRecv
import PySem.Challenge.RW_hoststack_k07_memories_in_few_frames
set_option Elab.async false
set_option linter.all false
set_option maxRecDepth 100000
set_option maxHeartbeats 8000000
namespace HK
open PySem PySem.Spec PyProof.Rows L2 PySem.StrLaws TL
/-- the text of codes; of one code -/
def T (l : List Nat) : Str := ⟨l.toArray⟩
theorem T_len (l : List Nat) : (T l).length = l.length := rfl
theorem T_inj {a b : List Nat} (h : T a = T b) : a = b := by
  have z := congrArg (fun x : Str => x.cps.toList) h
  exact z
/-- the codes of the 95 letters -/
def ls : List Nat := 10 :: 32 :: 33 :: 34 :: 35 :: 36 :: (List.range 89).map (· + 38)
theorem ls_len : ls.length = 95 := by decide
theorem ls_nodup : ls.Nodup := by decide +kernel
theorem ls_text : Str.ofString "\n !\"#$&'()*+,-./0123456789:;<=>?@ABCDEFGHIJKLMNOPQRSTUVWXYZ[\\]^_`abcdefghijklmnopqrstuvwxyz{|}~" = T ls := by decide +kernel
/-- the first place of a code -/
def pos (l : List Nat) (c : Nat) : Option Nat := l.findIdx? (· == c)
theorem at_one (l : List Nat) (c i : Nat) : At (T l) (T [c]) (T l).length i ↔ l[i]? = some c := by
  have hc : (T [c]).length = 1 := rfl
  have hl : (T l).length = l.length := rfl
  unfold At
  rw [hc, hl]
  have key : Builtin.Str.subAt (T l) (T [c]) i = ((l.drop i).take 1 == [c]) := by
    have e : (T l).cps.extract i (i + 1) = ((l.drop i).take 1).toArray := by
      apply Array.ext'
      simp [T, List.extract_eq_drop_take]
    show ((T l).cps.extract i (i + 1) == [c].toArray) = _
    rw [e]
    simp
  rw [key]
  constructor
  · rintro ⟨h1, h2⟩
    have h3 : (l.drop i).take 1 = [c] := eq_of_beq h2
    have h4 : ((l.drop i).take 1)[0]? = some c := by rw [h3]; rfl
    simpa using h4
  · intro h
    obtain ⟨hi, e⟩ := List.getElem?_eq_some_iff.mp h
    refine ⟨by omega, ?_⟩
    rw [List.drop_eq_getElem_cons hi, e]
    simp
theorem occ_pos (l : List Nat) (c : Nat) : (pos l c = none ∧ Builtin.Str.occurrences (T l) (T [c]) 0 (T l).length 1 = []) ∨ ∃ k r, pos l c = some k ∧ Builtin.Str.occurrences (T l) (T [c]) 0 (T l).length 1 = k :: r := by
  rcases occ_head (T l) (T [c]) 1 (Nat.le_refl _) with ⟨e, hn⟩ | ⟨i, r, e, hi, hn⟩
  · refine .inl ⟨?_, e⟩
    unfold pos
    rw [List.findIdx?_eq_none_iff]
    intro x hx
    obtain ⟨j, hj⟩ := List.getElem?_of_mem hx
    cases q : (x == c) with
    | false => rfl
    | true =>
      have e2 : x = c := eq_of_beq q
      rw [e2] at hj
      exact absurd ((at_one l c j).mpr hj) (hn j)
  · refine .inr ⟨i, r, ?_, e⟩
    have h1 := (at_one l c i).mp hi
    obtain ⟨hl, e1⟩ := List.getElem?_eq_some_iff.mp h1
    unfold pos
    rw [List.findIdx?_eq_some_iff_getElem]
    refine ⟨hl, by simp [e1], fun j hj => ?_⟩
    have hjl : j < l.length := Nat.lt_trans hj hl
    intro q
    have e2 : l[j] = c := eq_of_beq q
    exact hn j hj ((at_one l c j).mpr (by rw [List.getElem?_eq_getElem hjl, e2]))
theorem index_one (l : List Nat) (c : Nat) : Txt.index0 (T l) (T [c]) = pos l c := by
  unfold Txt.index0
  rcases occ_pos l c with ⟨h, e⟩ | ⟨k, r, h, e⟩ <;> rw [e, h] <;> rfl
theorem find_one (l : List Nat) (c : Nat) : Txt.find (T l) (T [c]) = match pos l c with | some k => (k : Int) | none => -1 := by
  unfold Txt.find
  rcases occ_pos l c with ⟨h, e⟩ | ⟨k, r, h, e⟩ <;> rw [e, h]
theorem pos_some {l : List Nat} {c k : Nat} (h : pos l c = some k) : l[k]? = some c := by
  unfold pos at h
  rw [List.findIdx?_eq_some_iff_getElem] at h
  obtain ⟨hl, e, _⟩ := h
  rw [List.getElem?_eq_getElem hl, eq_of_beq e]
theorem pos_mem {l : List Nat} {c : Nat} (h : c ∈ l) : ∃ k, pos l c = some k := by
  cases q : pos l c with
  | some k => exact ⟨k, rfl⟩
  | none =>
    unfold pos at q
    rw [List.findIdx?_eq_none_iff] at q
    have := q c h
    simp at this
theorem pos_none {l : List Nat} {c : Nat} (h : c ∉ l) : pos l c = none := by
  cases q : pos l c with
  | none => rfl
  | some k => exact absurd (List.mem_of_getElem? (pos_some q)) h
theorem pos_at {l : List Nat} (nd : l.Nodup) {k c : Nat} (h : l[k]? = some c) : pos l c = some k := by
  obtain ⟨j, e⟩ := pos_mem (List.mem_of_getElem? h)
  have h2 := pos_some e
  rw [e, (nd_ix nd h2 h)]
/-- a comprehension over the signs of a text -/
theorem lc_str {l : List Nat} {g : TG} {tt : TT} {te : TE} {vs : List Nat} {σ : L2.St} {H1 : Hp} {D : Addr} {Qd : Hp → Prop} (Pv : Nat → Hp → Prop) (h0 : Pv 0 (upd H1 D (.lst [])))
    (hs : ∀ i c H, l[i]? = some c → Pv i H → g (.str (T [c])) (wipe σ vs) H fun σ2 H2 => wipe σ2 vs = wipe σ vs ∧ tt σ2 H2 fun b H3 =>
      if b = true then te σ2 H3 fun y H4 => ∃ acc, H4 D = some (.lst acc) ∧ acc.length < sizeLine ∧ Pv (i + 1) (upd H4 D (.lst (acc ++ [y]))) else Pv (i + 1) H3) (hd : ∀ H, Pv l.length H → Qd H) :
    ∃ W : Nat → Nat → Hp → Prop, (∃ m, W 0 m (upd H1 D (.lst []))) ∧ ∀ i m H, W i m H →
      ((Its (T l)).stop i H ∧ Qd H) ∨ ((Its (T l)).go i H ∧ ∃ Nx : Hp → Prop, (∀ H', Nx H' → ∃ m', m' < m ∧ W (i + 1) m' H') ∧ ∀ x H', (Its (T l)).yld i H x H' → g x (wipe σ vs) H' fun σ2 H2 => wipe σ2 vs = wipe σ vs ∧ tt σ2 H2 fun b H3 =>
        if b = true then te σ2 H3 fun y H4 => ∃ acc, H4 D = some (.lst acc) ∧ acc.length < sizeLine ∧ Nx (upd H4 D (.lst (acc ++ [y]))) else Nx H3) := by
  have sz : (T l).cps.size = l.length := rfl
  refine ⟨fun i m H => m = l.length - i ∧ i ≤ l.length ∧ Pv i H, ⟨l.length, by simp, Nat.zero_le _, h0⟩, ?_⟩
  rintro i m H ⟨rfl, hi, p⟩
  by_cases hlt : i < l.length
  · refine .inr ⟨hlt, Pv (i + 1), fun H' p' => ⟨l.length - (i + 1), by omega, rfl, hlt, p'⟩, fun x H' y => ?_⟩
    obtain ⟨e, c, hc, ev⟩ := y
    subst e
    subst ev
    exact hs i c _ (by simpa [T] using hc) p
  · have e : i = l.length := by omega
    subst e
    exact .inl ⟨Nat.le_of_eq sz, hd H p⟩
theorem take_map_succ {α β : Type} (f : α → β) {l : List α} {i : Nat} {c : α} (h : l[i]? = some c) : (l.take (i + 1)).map f = (l.take i).map f ++ [f c] := by
  rw [List.take_add_one, h, List.map_append]
  rfl
theorem mem_take_succ {α : Type} {l : List α} {i : Nat} {c : α} {p : α → Prop} (h : l[i]? = some c) (hp : ∀ x ∈ l.take i, p x) (hc : p c) : ∀ x ∈ l.take (i + 1), p x := by
  intro x hx
  rw [List.take_add_one, h] at hx
  rcases List.mem_append.mp hx with z | z
  · exact hp x z
  · have e : x = c := by simpa using z
    rw [e]
    exact hc
theorem sqT_same {K : PySem.W.Frag} {H H' : Hp} {a : Addr} {xs : List V} (e : Same H H') (h : SqT K H a xs) : SqT K H' a xs := by
  rcases h with (h | ⟨o, h⟩) | h
  · exact .inl (.inl (e _ _ h))
  · exact .inl (.inr ⟨o, e _ _ h⟩)
  · exact .inr h
theorem same_upd {H : Hp} {d : Addr} {o : HO} (h : H d = none) : Same H (upd H d o) := fun b u e => by
  rw [upd_ne (ne_of_none e h)]
  exact e
theorem join_len (l : List Nat) : ((l.map fun c => T [c]).map (·.length)).sum = l.length := by
  induction l with
  | nil => rfl
  | cons c r ih => simp only [List.map_cons, List.sum_cons, ih, T_len, List.length_cons, List.length_nil]; omega
theorem join_T (l : List Nat) : PySem.Txt.join (T []) (l.map fun c => T [c]) = T l := by
  rw [join_eq]
  refine ext_tl ?_
  rw [tl_join]
  show joinL [] ((l.map fun c => T [c]).map tl) = l
  rw [List.map_map]
  induction l with
  | nil => rfl
  | cons c r ih =>
    cases r with
    | nil => rfl
    | cons d q =>
      have e : joinL [] (((c :: d :: q).map (tl ∘ fun c => T [c]))) = [c] ++ ([] ++ joinL [] ((d :: q).map (tl ∘ fun c => T [c]))) := rfl
      rw [e, ih]
      rfl
end HK
/-! == and != of dicts whose values are data, both answers -/
namespace HKE
open PySem PySem.Spec PyProof.Rows L2
/-- are all of ks in ls, with equal data -/
def hitsB (ls : List (Key × V)) (dk dl : Key → PyData) : List (Key × V) → Bool
  | [] => true
  | p :: r => match valV ls p.1 with
    | none => false
    | some _ => PyData.eqv (dk p.1) (dl p.1) && hitsB ls dk dl r
def DVs (K : PySem.W.Frag) (H : Hp) (ks : List (Key × V)) (d : Key → PyData) : Prop := ∀ k v, (k, v) ∈ ks → Dp K H v (d k) ∧ SeqAt.shaped (d k) = true
def dEq (ks ls : List (Key × V)) (dk dl : Key → PyData) : Bool := ks.length == ls.length && hitsB ls dk dl ks
def rEqDD (K : PySem.W.Frag) : R2 := fun x y H Q => ∃ a b ks ls dk dl, x = .ref a ∧ y = .ref b ∧ H a = some (.dK ks) ∧ H b = some (.dK ls) ∧ DVs K H ks dk ∧ DVs K H ls dl ∧ Q (.bl (dEq ks ls dk dl)) H
def rNeDD (K : PySem.W.Frag) : R2 := fun x y H Q => ∃ a b ks ls dk dl, x = .ref a ∧ y = .ref b ∧ H a = some (.dK ks) ∧ H b = some (.dK ls) ∧ DVs K H ks dk ∧ DVs K H ls dl ∧ Q (.bl (!dEq ks ls dk dl)) H
theorem valV_mem {kvs : List (Key × V)} {k : Key} {v : V} (h : valV kvs k = some v) : (k, v) ∈ kvs := by
  unfold valV at h
  obtain ⟨q, hq, rfl⟩ := Option.map_eq_some_iff.mp h
  have z := List.find?_some hq
  have e : q.1 = k := of_decide_eq_true z
  rw [← e]
  exact List.mem_of_find?_eq_some hq
section
variable {X : Cx} {pins : List (Addr × Obj)} {σ : L2.St} {H : Hp} {s : Shared}
theorem hits_of (I : L2.Inv X pins σ H s) {A : Around} (hu : A.in1.units + 64 < cLine) {ls : List (Key × V)} {vb : List (Key × Value)} (rb : KV ls vb) {dk dl : Key → PyData} (hl : DVs X.K H ls dl) {ks : List (Key × V)} {va : List (Key × Value)} (ra : KV ks va) :
    DVs X.K H ks dk → PySem.W.KeqHits A.in1 s vb va (hitsB ls dk dl ks) := by
  unfold KV at ra
  induction ra with
  | nil => intro _; exact .nil
  | @cons p q ps qs h t k =>
    intro hp
    obtain ⟨h1, h2⟩ := h
    obtain ⟨p1, p2⟩ := p
    obtain ⟨key, v⟩ := q
    have h1 : p1 = key := h1
    subst h1
    have rr := rb.val p1
    have ih := k fun k' v' hm => hp k' v' (List.mem_cons_of_mem _ hm)
    rw [hitsB]
    dsimp only
    cases e : valV ls p1 with
    | none =>
      rw [e] at rr
      cases e2 : valueAt vb p1 with
      | none => exact .miss e2
      | some y => rw [e2] at rr; exact (show False from rr).elim
    | some u =>
      rw [e] at rr
      cases e2 : valueAt vb p1 with
      | none => rw [e2] at rr; exact (show False from rr).elim
      | some y =>
        rw [e2] at rr
        have rr : RelV u y := rr
        obtain ⟨g1, g2⟩ := hp p1 p2 List.mem_cons_self
        obtain ⟨g3, g4⟩ := hl p1 u (valV_mem e)
        obtain ⟨as, r1⟩ := Dp.reads I _ _ _ g1 h2
        obtain ⟨bs, r2⟩ := Dp.reads I _ _ _ g3 rr
        exact .hit e2 (PySem.W.keq_at r1 r2 g2 g4 hu) ih
end
section
variable {X : Cx}
theorem op_eqDD (hu : X.A.units + 66 < cLine) : OpR X (compareOp .Eq) (rEqDD X.K) := by
  intro pins s σ H x y v u Q I rx ry h
  obtain ⟨a, b, ks, ls, dk, dl, rfl, rfl, ea, eb, h1, h2, q⟩ := h
  obtain rfl : v = Value.ref a := rx
  obtain rfl : u = Value.ref b := ry
  obtain ⟨_, ya, va, ra, da⟩ := (show ObjOk X.prog X.w H s.heap a (.dK ks) from I.hok a _ ea)
  obtain ⟨_, yb, vb, rb, db⟩ := (show ObjOk X.prog X.w H s.heap b (.dK ls) from I.hok b _ eb)
  have e : (va.length == vb.length && hitsB ls dk dl ks) = dEq ks ls dk dl := by unfold dEq; rw [ra.length, rb.length]
  exact PySem.W.keq_eq (knd := mixKind X.prog X.w) ya yb da db (by omega) (fun _ => hits_of I (by show X.A.units + 1 + 64 < cLine; omega) rb h2 ra h1) ⟨.bl _, H, I, by show Value.bool _ = Value.bool _; rw [e], q⟩
theorem op_neDD (hu : X.A.units + 66 < cLine) : OpR X (compareOp .NotEq) (rNeDD X.K) := by
  intro pins s σ H x y v u Q I rx ry h
  obtain ⟨a, b, ks, ls, dk, dl, rfl, rfl, ea, eb, h1, h2, q⟩ := h
  obtain rfl : v = Value.ref a := rx
  obtain rfl : u = Value.ref b := ry
  obtain ⟨_, ya, va, ra, da⟩ := (show ObjOk X.prog X.w H s.heap a (.dK ks) from I.hok a _ ea)
  obtain ⟨_, yb, vb, rb, db⟩ := (show ObjOk X.prog X.w H s.heap b (.dK ls) from I.hok b _ eb)
  have e : (va.length == vb.length && hitsB ls dk dl ks) = dEq ks ls dk dl := by unfold dEq; rw [ra.length, rb.length]
  exact PySem.W.keq_ne (knd := mixKind X.prog X.w) ya yb da db (by omega) (fun _ => hits_of I (by show X.A.units + 1 + 64 < cLine; omega) rb h2 ra h1) ⟨.bl _, H, I, by show Value.bool _ = Value.bool _; rw [e], q⟩
end
end HKE
namespace K07
open PySem L2 HK
def top (i : Nat) : Stmt := PySem.Challenge.pw_hoststack_k07_memories_in_few_frames.main.body.getD i (.Pass ⟨0, 0, 0, 0⟩)
/-! ### the dice, as plain mathematics -/
structure Dice where
  a : Int
  b : Int
  c : Int
  deriving DecidableEq
def Dice.vs (d : Dice) : List V := [.int d.a, .int d.b, .int d.c]
def mkDice (n : Int) : Dice := if -10 < n ∧ n < 10 then ⟨if n < 0 then -n else n, 0, 2⟩ else ⟨n, 1 + n % 1009, if 10 ^ 18 ≤ n then 1 else 0⟩
def stepA (d : Dice) : Int := (d.a * 48271 + d.b * 69621 + 11) % 2147483647
/-- what a roll tells, and the dice behind it -/
def roll (d : Dice) (m : Int) : Int × Dice :=
  if d.c = 2 ∨ (d.c = 1 ∧ 0 < d.a) then (d.a % m, ⟨d.a / m, d.b, d.c⟩) else ((stepA d / 7) % m, ⟨stepA d, d.b + 1, 0⟩)
theorem roll_range (d : Dice) {m : Int} (h : 0 < m) : 0 ≤ (roll d m).1 ∧ (roll d m).1 < m := by
  unfold roll
  split
  · exact ⟨Int.emod_nonneg _ (by omega), Int.emod_lt_of_pos _ h⟩
  · exact ⟨Int.emod_nonneg _ (by omega), Int.emod_lt_of_pos _ h⟩
abbrev sDice : Stmt := top 11
abbrev sRoll : Stmt := top 12
abbrev sRounds : Stmt := top 13
/-! ### promises -/
def spDice : Sp := fun vs H Q _ => ∃ n : Int, vs = [.int n] ∧ ∀ p, H p = none → Q (.ref p) (upd H p (.lst (mkDice n).vs))
def spRoll : Sp := fun vs H Q _ => ∃ (D : Addr) (d : Dice) (m : Int), vs = [.ref D, .int m] ∧ H D = some (.lst d.vs) ∧ 0 < m ∧ m < 1000000 ∧ Q (.int (roll d m).1) (upd H D (.lst (roll d m).2.vs))
section
variable {P : Program} {w : World} {K : PySem.W.Frag} {mg : Str → Option Value} {base : Heap}
theorem scDice : FnScope ["cell"] ["cell"] (defScope sDice) := ⟨rfl, rfl, rfl, by decide +kernel, rfl, by decide +kernel, by decide +kernel⟩
theorem ok_dice {f : Addr} {fd : FuncData} (F : L2.Fun K "_law_dice" "_law_dice" sDice f fd) (mA : mg "abs" = none) (mI : mg "int" = none) : FnOk P w K mg base L2.CX0 1 f fd ["cell"] spDice := by
  refine F.ok scDice (fun vs H Q E h => ?_) (fun cdv A outer s H vs Q E hr h => ?_)
  · obtain ⟨n, rfl, _⟩ := h
    rfl
  · obtain ⟨n, rfl, k⟩ := h
    refine ⟨_, pss_cons (ps_if (pt_chain op_lt op_lt (pe_op op_sub pe_int pe_int) (pv 0) pe_int) (pss_one (ps_ret (pe_lst (pa_cons (pe_callB call_abs (by rfl) mA (by decide +kernel) (pa_cons (pv 0) pa_nil)) (pa_cons pe_int (pa_cons pe_int pa_nil)))))) pss_nil)
      (pss_one (ps_ret (pe_lst (pa_cons (pv 0) (pa_cons (pe_op op_add pe_int (pe_op op_mod (pe_callTy call_int1 (by rfl) mI PyProof.Rows.Boot.«int» (pa_cons (pv 0) pa_nil)) pe_int))
        (pa_cons (pe_callTy call_int1 (by rfl) mI PyProof.Rows.Boot.«int» (pa_cons (pe_cmpR op_ge (pv 0) (pe_op op_pow pe_int pe_int) (nomark _)) pa_nil)) pa_nil)))))), ?_⟩
    refine ⟨_, _, rfl, rfl, _, rfl, _, _, rfl, rfl, _, rfl, ?_⟩
    refine ite2 (fun c1 => ⟨_, _, rfl, rfl, _, rfl, ite2 (fun c2 => ?A) (fun c2 => ?B)⟩) (fun c1 => ⟨_, rfl, iteF ?C⟩)
    case A =>
      have hn : -10 < n ∧ n < 10 := ⟨by have z := of_decide_eq_true c1; omega, of_decide_eq_true c2⟩
      refine ⟨_, rfl, _, rfl, by show 3 ≤ sizeLine; decide, fun p hp => ?_⟩
      have e := k p hp
      unfold mkDice at e
      rw [if_pos hn] at e
      exact e
    all_goals
      have hn : ¬ (-10 < n ∧ n < 10) := by
        simp only [decide_eq_true_eq] at *
        omega
      refine ⟨_, rfl, _, rfl, .inl ⟨_, rfl, _, _, rfl, rfl, (by show (0 : Int) < 1009; decide), _, _, rfl, rfl, ?_⟩⟩
      refine ⟨_, rfl, _, _, rfl, rfl, (by refine ⟨by decide, by decide, by decide⟩), _, _, rfl, rfl, .inr ⟨_, rfl, by show 3 ≤ sizeLine; decide, fun p hp => ?_⟩⟩
      have e := k p hp
      unfold mkDice at e
      rw [if_neg hn] at e
      have e2 : (if decide ((10 : Int) ^ (18 : Int).toNat ≤ n) = true then (1 : Int) else 0) = (if 10 ^ 18 ≤ n then 1 else 0) := by
        simp only [decide_eq_true_eq]
        rfl
      rw [e2]
      exact e
theorem scRoll : FnScope ["dice", "many", "found"] ["dice", "many"] (defScope sRoll) := ⟨rfl, rfl, rfl, by decide +kernel, rfl, by decide +kernel, by decide +kernel⟩
theorem at0 (x y z : V) : atI [x, y, z] 0 = some x := rfl
theorem at1 (x y z : V) : atI [x, y, z] 1 = some y := rfl
theorem at2 (x y z : V) : atI [x, y, z] 2 = some z := rfl
theorem ix0 (x y z : V) : ixN [x, y, z].length 0 = some 0 := rfl
theorem ix1 (x y z : V) : ixN [x, y, z].length 1 = some 1 := rfl
theorem ix2 (x y z : V) : ixN [x, y, z].length 2 = some 2 := rfl
theorem ok_roll {f : Addr} {fd : FuncData} (F : L2.Fun K "_law_roll" "_law_roll" sRoll f fd) (mI : mg "int" = none) : FnOk P w K mg base L2.CX0 1 f fd ["dice", "many"] spRoll := by
  refine F.ok scRoll (fun vs H Q E h => ?_) (fun cdv A outer s H vs Q E hr h => ?_)
  · obtain ⟨D, d, m, rfl, _⟩ := h
    rfl
  · obtain ⟨D, ⟨a, b, c⟩, m, rfl, hD, m0, m1, k⟩ := h
    have hD : H D = some (.lst [.int a, .int b, .int c]) := hD
    refine ⟨_, pss_cons (ps_if (PW.pt (pw_or (pt_cmpR op_eq (pe_ix ix_list (pv 0) pe_int (fun _ _ => rfl)) pe_int (nomark _)) (pw_or1 (PW.pt (pw_and (pt_cmpR op_eq (pe_ix ix_list (pv 0) pe_int (fun _ _ => rfl)) pe_int (nomark _)) (pw_and1 (pt_cmpR op_gt (pe_ix ix_list (pv 0) pe_int (fun _ _ => rfl)) pe_int (nomark _))))))))
        (pss_cons (ps_set (i := 2) scRoll.nd rfl (Or.inl rfl) (pe_op op_mod (pe_callTy call_int1 (by rfl) mI PyProof.Rows.Boot.«int» (pa_cons (pe_ix ix_list (pv 0) pe_int (fun _ _ => rfl)) pa_nil)) (pv 1)))
        (pss_cons (ps_asg (pe_op op_fdiv (pe_ix ix_list (pv 0) pe_int (fun _ _ => rfl)) (pv 1)) (pg_sub (pv 0) pe_int set_list))
        (pss_one (ps_ret (pv 2))))) pss_nil)
      (pss_cons (ps_asg pe_int (pg_sub (pv 0) pe_int set_list))
      (pss_cons (ps_asg (pe_op op_mod (pe_callTy call_int1 (by rfl) mI PyProof.Rows.Boot.«int» (pa_cons (pe_op op_add (pe_op op_add (pe_op op_mul (pe_ix ix_list (pv 0) pe_int (fun _ _ => rfl)) pe_int) (pe_op op_mul (pe_ix ix_list (pv 0) pe_int (fun _ _ => rfl)) pe_int)) pe_int) pa_nil)) pe_int) (pg_sub (pv 0) pe_int set_list))
      (pss_cons (ps_asg (pe_op op_add (pe_ix ix_list (pv 0) pe_int (fun _ _ => rfl)) pe_int) (pg_sub (pv 0) pe_int set_list))
      (pss_one (ps_ret (pe_op op_mod (pe_callTy call_int1 (by rfl) mI PyProof.Rows.Boot.«int» (pa_cons (pe_op op_fdiv (pe_ix ix_list (pv 0) pe_int (fun _ _ => rfl)) pe_int) pa_nil)) (pv 1))))))), ?_⟩
    refine ⟨_, rfl, D, _, _, _, rfl, rfl, SqL.of hD, at2 _ _ _, rfl, _, rfl, ite2 (fun c1 => iteT ?T) (fun c1 => ⟨_, rfl, D, _, _, _, rfl, rfl, SqL.of hD, at2 _ _ _, rfl, _, rfl,
      ite2 (fun c2 => ⟨_, rfl, D, _, _, _, rfl, rfl, SqL.of hD, at0 _ _ _, _, _, rfl, rfl, _, rfl, ite2 (fun c3 => ?T2) (fun c3 => ?F)⟩) (fun c2 => iteF ?F2)⟩)⟩
    case T | T2 =>
      have hc : c = 2 ∨ (c = 1 ∧ 0 < a) := by
        simp only [decide_eq_true_eq, V.int.injEq] at *
        omega
      have e : roll ⟨a, b, c⟩ m = (a % m, ⟨a / m, b, c⟩) := by
        unfold roll
        rw [if_pos hc]
      rw [e] at k
      refine ⟨_, rfl, D, _, _, _, rfl, rfl, SqL.of hD, at0 _ _ _, .inl ⟨_, rfl, _, rfl, _, _, rfl, rfl, m0, ?_⟩⟩
      exact ⟨_, rfl, D, _, _, _, rfl, rfl, SqL.of hD, at0 _ _ _, _, rfl, _, _, rfl, rfl, ⟨m0, by omega⟩, _, rfl, D, _, _, _, rfl, rfl, hD, ix0 _ _ _, _, rfl, k⟩
    case F | F2 =>
      have hc : ¬ (c = 2 ∨ (c = 1 ∧ 0 < a)) := by
        simp only [decide_eq_true_eq, V.int.injEq] at *
        omega
      have e : roll ⟨a, b, c⟩ m = ((stepA ⟨a, b, c⟩ / 7) % m, ⟨stepA ⟨a, b, c⟩, b + 1, 0⟩) := by
        unfold roll
        rw [if_neg hc]
      rw [e] at k
      refine ⟨_, rfl, D, _, _, _, rfl, rfl, hD, ix2 _ _ _, ?_⟩
      refine ⟨_, rfl, D, _, _, _, rfl, rfl, SqL.of upd_same, at0 _ _ _, _, _, rfl, rfl, .inr ⟨by decide, by decide⟩, _, rfl, D, _, _, _, rfl, rfl, SqL.of upd_same, at1 _ _ _, _, _, rfl, rfl, .inr ⟨by decide, by decide⟩, _, _, rfl, rfl, _, _, rfl, rfl, .inl ⟨_, rfl, _, _, rfl, rfl, (by show (0 : Int) < 2147483647; decide), ?_⟩⟩
      refine ⟨_, rfl, D, _, _, _, rfl, rfl, upd_same, ix0 _ _ _, ?_⟩
      refine ⟨_, rfl, D, _, _, _, rfl, rfl, SqL.of upd_same, at1 _ _ _, _, _, rfl, rfl, _, rfl, D, _, _, _, rfl, rfl, upd_same, ix1 _ _ _, ?_⟩
      refine ⟨_, rfl, D, _, _, _, rfl, rfl, SqL.of upd_same, at0 _ _ _, _, _, rfl, rfl, ⟨by decide, by decide⟩, .inl ⟨_, rfl, _, rfl, _, _, rfl, rfl, m0, ?_⟩⟩
      rw [upd_upd, upd_upd]
      exact k
theorem scRounds : FnScope ["script", "most", "cells", "cell"] ["script", "most"] (defScope sRounds) := ⟨rfl, rfl, rfl, by decide +kernel, rfl, by decide +kernel, by decide +kernel⟩
def cell0 (ns : List Int) : Int := ns.headD 0
/-- the first cell's dice, alone in a list -/
def spRounds (K : PySem.W.Frag) : Sp := fun vs H Q _ => ∃ (a : Addr) (ns : List Int), vs = [.ref a, .int 1] ∧ SqL K H a (ns.map V.int) ∧
  ∀ H' R D, Same H H' → H R = none → H D = none → R ≠ D → H' R = some (.lst [.ref D]) → H' D = some (.lst (mkDice (cell0 ns)).vs) → Q (.ref R) H'
theorem cut1 (ns : List Int) : cutV (ns.map V.int) none (some 1) = (ns.take 1).map V.int := by
  unfold cutV
  show ((ns.map V.int).drop 0).take (HT.sIx (ns.map V.int).length (ns.map V.int).length (some ((1 : Nat) : Int)) - 0) = _
  rw [HT.sIx_nat]
  cases ns with
  | nil => rfl
  | cons n r => simp
theorem ok_rounds {f fD : Addr} {fd fdD : FuncData} (F : L2.Fun K "_law_rounds" "_law_rounds" sRounds f fd)
    (FD : FnOk P w K mg base L2.CX0 1 fD fdD ["cell"] spDice) (mD : mg "_law_dice" = some (.ref fD)) (kD : PySem.W.keepIn K (.ref fD) = true) (bD : Binds K fdD ["cell"] []) :
    FnOk P w K mg base L2.CX0 2 f fd ["script", "most"] (spRounds K) := by
  refine F.ok scRounds (fun vs H Q E h => ?_) (fun cdv A outer s H vs Q E hr h => ?_)
  · obtain ⟨a, ns, rfl, _⟩ := h
    rfl
  · obtain ⟨a, ns, rfl, ha, k⟩ := h
    refine ⟨_, pss_cons (ps_set (i := 2) scRounds.nd rfl (Or.inl rfl) (pe_slice sl_list (pv 0) po_none (po_some (pv 1))))
      (pss_cons (ps_if (pt_cmpR (op_eqD hr.units) (pv 2) (pe_lst pa_nil) (nomark _)) (pss_one (ps_set (i := 2) scRounds.nd rfl (Or.inl rfl) (pe_lst (pa_cons pe_int pa_nil)))) pss_nil)
      (pss_one (ps_ret (pe_lc (own := [("cell", 3)]) (g := gName 3) (by rfl) scRounds.nd (pi_list (pv 2)) (blkOk_by (N := ["script", "most", "cells", "cell"]) (sc := defScope sRounds) (by decide +kernel))
        (fun _ _ _ _ _ => pg_name (i := 3) scRounds.nd rfl (Or.inl rfl)) (fun _ _ _ _ _ => pts_nil) (fun _ _ _ _ _ => pe_call FD hr (by rfl) mD kD bD .nil pass0 (pa_cons (pv 3) pa_nil)))))), ?_⟩
    -- the list of cells
    have tail : ∀ (p : Addr) (n : Int) (H1 : Hp), Same H H1 → H p = none → H1 p = some (.lst [.int n]) → n = cell0 ns → tLc (iList K (tVar 2)) (gName 3) tYes (tCall spDice [] E0 (tCons (tVar 3) tNil)) [3] [some (.ref a), some (.int 1), some (.ref p), none] H1 Q := by
      intro p n H1 s1 np hp en
      refine ⟨_, rfl, p, rfl, ⟨_, SqL.of hp⟩, fun R nR => ?_⟩
      have npR : p ≠ R := ne_of_none hp nR
      refine lc_list (K := K) (a := p) (xs := [.int n]) (fun i H' => (i = 0 → H' = upd H1 R (.lst [])) ∧ (i = 1 → ∃ D, H1 D = none ∧ R ≠ D ∧ H' R = some (.lst [.ref D]) ∧ H' D = some (.lst (mkDice n).vs) ∧ Same H1 H')) ⟨fun _ => rfl, fun z => by cases z⟩ (fun i H' hi q => ?_) (fun i x H' hx q => ?_) (fun H' q => ?_)
      · have hi : i ≤ 1 := hi
        rcases (by omega : i = 0 ∨ i = 1) with rfl | rfl
        · rw [q.1 rfl]
          exact SqL.of (by rw [upd_ne npR]; exact hp)
        · obtain ⟨D, _, _, _, _, z⟩ := q.2 rfl
          exact SqL.of (z _ _ hp)
      · match i, hx with
        | 0, hx =>
          obtain rfl : V.int n = x := Option.some.inj hx
          obtain rfl := q.1 rfl
          refine ⟨rfl, _, rfl, n, rfl, fun D nD => ?_⟩
          have nRD : R ≠ D := ne_of_none upd_same nD
          have nD1 : H1 D = none := by rw [upd_ne (Ne.symm nRD)] at nD; exact nD
          refine ⟨[], by rw [upd_ne nRD, upd_same], by show 0 < sizeLine; decide, fun z => (by cases z), fun _ => ⟨D, nD1, nRD, upd_same, by rw [upd_ne (Ne.symm nRD), upd_same], fun b o e => ?_⟩⟩
          rw [upd_ne (ne_of_none e nR), upd_ne (ne_of_none e nD1), upd_ne (ne_of_none e nR)]
          exact e
      · obtain ⟨D, nD, nRD, h1, h2, s2⟩ := q.2 rfl
        rw [en] at h2
        exact k H' R D (s1.trans s2) (s1.free nR) (s1.free nD) nRD h1 h2
    refine ⟨_, rfl, _, rfl, _, rfl, a, _, rfl, ha, fun p np => ?_⟩
    rw [cut1]
    refine ⟨_, rfl, by show 0 ≤ sizeLine; decide, fun l nl => ?_⟩
    have npl : p ≠ l := ne_of_none upd_same nl
    have np' : (upd (upd H p (.lst ((ns.take 1).map V.int))) l (.lst [])) p = some (.lst ((ns.take 1).map V.int)) := by rw [upd_ne npl, upd_same]
    have nl' : H l = none := by rw [upd_ne (Ne.symm npl)] at nl; exact nl
    have sm : Same H (upd (upd H p (.lst ((ns.take 1).map V.int))) l (.lst [])) := fun b o e => by
      rw [upd_ne (ne_of_none e nl'), upd_ne (ne_of_none e np)]
      exact e
    cases ns with
    | nil =>
      refine ⟨.list [], .list [], Dp.lst (SqL.of np') .nil, Dp.lst (SqL.of upd_same) .nil, rfl, rfl, _, rfl, iteT ?_⟩
      refine ⟨by show 1 ≤ sizeLine; decide, fun c nc => ?_⟩
      refine tail c 0 _ (sm.trans fun b o e => ?_) (sm.free nc) upd_same rfl
      rw [upd_ne (ne_of_none e nc)]
      exact e
    | cons n r =>
      refine ⟨.list [.int n], .list [], Dp.lst (SqL.of np') (.cons (.int n) .nil), Dp.lst (SqL.of upd_same) .nil, ?_, rfl, _, rfl, iteF ?_⟩
      · rfl
      · exact tail p n _ sm np np' rfl
end
end K07
namespace K07
open PySem L2 HK
/-! ### what lies where -/
abbrev Key2 := Nat × Nat
abbrev KVs := List (Key × V)
structure G where
  px : Addr
  fl : Addr
  sd : Addr
  pd : Addr
  slots : Nat
  hand : Nat
  last : Nat
  faults : Nat
  ev : Nat
  cp : Nat
  fr : List (Option Nat)
  sw : List (Key2 × Addr × List Int)
  sp : List Nat
  nf : Nat
  fa : Nat → Addr
  fx : Nat → Addr
  wa : Nat → Addr
  oa : Nat → Addr
  W : Nat → List Int
  O : Nat → List (Addr × Key2)
  U : Nat → Bool
  ns : Nat
  sa : Nat → Addr
  sx : Nat → Addr
  ta : Nat → Addr
  T : Nat → List (Option Nat)
structure CA where
  CP : Addr
  CF : Addr
  CS : Addr
  p : Addr
def fset {α : Type} (f : Nat → α) (k : Nat) (v : α) : Nat → α := fun i => if i = k then v else f i
theorem fset_same {α : Type} {f : Nat → α} {k : Nat} {v : α} : fset f k v k = v := if_pos rfl
theorem fset_ne {α : Type} {f : Nat → α} {k i : Nat} {v : α} (h : i ≠ k) : fset f k v i = f i := if_neg h
theorem fset_id {α : Type} {f : Nat → α} {k : Nat} : fset f k (f k) = f := funext fun i => by unfold fset; split <;> simp_all
abbrev keyL (k : Key2) : List Key := [.inl ((k.1 : Int) + 1), .inl (k.2 : Int)]
abbrev keyO (k : Key2) : HO := .tup [.int ((k.1 : Int) + 1), .int (k.2 : Int)]
theorem keyO_eq (k : Key2) : keyO k = .tup ((keyL k).map kV) := rfl
def fV (fa : Nat → Addr) : Option Nat → V
  | none => .non
  | some k => .ref (fa k)
def tV : Option Nat → V
  | none => .non
  | some f => .int (f : Int)
def swK (sw : List (Key2 × Addr × List Int)) : List (List Key × V) := sw.map fun x => (keyL x.1, V.ref x.2.1)
def spK (g : G) : KVs := g.sp.map fun (n : Nat) => (Sum.inl ((n : Int) + 1), V.ref (g.sa n))
def fsP (g : G) : List (Str × V) := [("frames", .ref g.fl), ("slots", .int (g.slots : Int)), ("hand", .int (g.hand : Int)), ("swapped", .ref g.sd), ("spaces", .ref g.pd), ("last", .int (g.last : Int)), ("faults", .int (g.faults : Int)), ("evictions", .int (g.ev : Int)), ("copies", .int (g.cp : Int))]
def fsFr (w o : Addr) (u : Bool) : List (Str × V) := [("words", .ref w), ("owners", .ref o), ("used", .bl u)]
def fsF (g : G) (i : Nat) : List (Str × V) := fsFr (g.wa i) (g.oa i) (g.U i)
def fsS (p : Addr) (g : G) (n : Nat) : List (Str × V) := [("pager", .ref p), ("number", .int ((n : Int) + 1)), ("table", .ref (g.ta n))]
inductive Lab where
  | pg | fl | sd | pd | fi (i : Nat) | fw (i : Nat) | fo (i : Nat) | si (n : Nat) | st (n : Nat)
def lay (C : CA) (g : G) : Lab → Option (Addr × HO)
  | .pg => some (C.p, .ins C.CP g.px (fsP g))
  | .fl => some (g.fl, .lst (g.fr.map (fV g.fa)))
  | .sd => some (g.sd, .dT (swK g.sw))
  | .pd => some (g.pd, .dK (spK g))
  | .fi i => if i < g.nf then some (g.fa i, .ins C.CF (g.fx i) (fsF g i)) else none
  | .fw i => if i < g.nf then some (g.wa i, .lst ((g.W i).map V.int)) else none
  | .fo i => if i < g.nf then some (g.oa i, .lst ((g.O i).map fun x => V.ref x.1)) else none
  | .si n => if n < g.ns then some (g.sa n, .ins C.CS (g.sx n) (fsS C.p g n)) else none
  | .st n => if n < g.ns then some (g.ta n, .lst ((g.T n).map tV)) else none
theorem lay_nt {C : CA} {g : G} {x : Lab} {a : Addr} {xs : List V} : lay C g x ≠ some (a, .tup xs) := fun h => by
  cases x <;> simp only [lay, Option.some.injEq, Prod.mk.injEq, reduceCtorEq, and_false] at h <;> (split at h <;> simp at h)
structure At (C : CA) (g : G) (H : Hp) : Prop where
  get : ∀ x a o, lay C g x = some (a, o) → H a = some o
  inj : ∀ x y a o o', lay C g x = some (a, o) → lay C g y = some (a, o') → x = y
  tp1 : ∀ i, i < g.nf → ∀ y ∈ g.O i, H y.1 = some (keyO y.2)
  tp2 : ∀ y ∈ g.sw, H y.2.1 = some (.tup (y.2.2.map V.int))
def Own (C : CA) (g : G) (b : Addr) : Prop := ∃ x o, lay C g x = some (b, o)
def Nx (C : CA) (g : G) (H : Hp) (g' : G) (H' : Hp) : Prop := ∀ b o, H b = some o → ¬ Own C g b → H' b = some o ∧ ¬ Own C g' b
structure Go (C : CA) (g : G) (H : Hp) (g' : G) (H' : Hp) : Prop where
  at_ : At C g' H'
  nx : Nx C g H g' H'
section
variable {C : CA} {g g' g2 : G} {H H' H2 : Hp}
theorem At.same (s : At C g H) (e : Same H H') : At C g H' := ⟨fun x a o h => e _ _ (s.get x a o h), s.inj, fun i hi y hy => e _ _ (s.tp1 i hi y hy), fun y hy => e _ _ (s.tp2 y hy)⟩
theorem Nx.same (e : Same H H') : Nx C g H g H' := fun b o h n => ⟨e b o h, n⟩
theorem Nx.trans (x : Nx C g H g' H') (y : Nx C g' H' g2 H2) : Nx C g H g2 H2 := fun b o h n => y b o (x b o h n).1 (x b o h n).2
theorem Go.same (s : At C g H) (e : Same H H') : Go C g H g H' := ⟨s.same e, Nx.same e⟩
theorem Go.refl (s : At C g H) : Go C g H g H := Go.same s fun _ _ h => h
theorem Go.trans (x : Go C g H g' H') (y : Go C g' H' g2 H2) : Go C g H g2 H2 := ⟨y.at_, x.nx.trans y.nx⟩
theorem At.ntup (s : At C g H) {t : Addr} {xs : List V} (h : H t = some (.tup xs)) : ¬ Own C g t := fun ⟨x, o, e⟩ => by
  have := s.get x t o e
  rw [h] at this
  cases this
  exact lay_nt e
theorem Nx.tup (x : Nx C g H g' H') (s : At C g H) {t : Addr} {xs : List V} (h : H t = some (.tup xs)) : H' t = some (.tup xs) := (x t _ h (s.ntup h)).1
/-- things at some labels change -/
theorem Go.gen (s : At C g H) (ls : List Lab) (he : ∀ y, y ∉ ls → lay C g' y = lay C g y) (hf : ∀ b o, H b = some o → (∀ y ∈ ls, ∀ o', lay C g y ≠ some (b, o')) → H' b = some o)
    (hn : ∀ y ∈ ls, ∀ a o, lay C g' y = some (a, o) → H' a = some o ∧ ((∃ o', lay C g y = some (a, o')) ∨ (H a = none ∧ ∀ z ∈ ls, ∀ o', lay C g' z = some (a, o') → z = y)))
    (t1 : ∀ i, i < g'.nf → ∀ y ∈ g'.O i, H' y.1 = some (keyO y.2)) (t2 : ∀ y ∈ g'.sw, H' y.2.1 = some (.tup (y.2.2.map V.int))) : Go C g H g' H' := by
  have key : ∀ y a o, lay C g' y = some (a, o) → (∃ o', lay C g y = some (a, o')) ∨ (H a = none ∧ y ∈ ls ∧ ∀ z ∈ ls, ∀ o', lay C g' z = some (a, o') → z = y) := fun y a o h => by
    rcases Classical.em (y ∈ ls) with m | m
    · exact (hn y m a o h).2.imp id fun z => ⟨z.1, m, z.2⟩
    · rw [he y m] at h
      exact .inl ⟨o, h⟩
  refine ⟨⟨fun x a o h => ?_, fun x y a o o' hx hy => ?_, t1, t2⟩, fun b o hb n => ⟨hf b o hb fun y _ o' e => n ⟨y, o', e⟩, ?_⟩⟩
  · rcases Classical.em (x ∈ ls) with m | m
    · exact (hn x m a o h).1
    · have h' := h
      rw [he x m] at h'
      refine hf a o (s.get x a o h') fun y hy o' e => m ?_
      rw [s.inj x y a o o' h' e]; exact hy
  · rcases key x a o hx with ⟨o1, h1⟩ | ⟨n1, m1, u1⟩
    · rcases key y a o' hy with ⟨o2, h2⟩ | ⟨n2, m2, u2⟩
      · exact s.inj x y a o1 o2 h1 h2
      · rw [s.get x a o1 h1] at n2; cases n2
    · rcases key y a o' hy with ⟨o2, h2⟩ | ⟨n2, m2, u2⟩
      · rw [s.get y a o2 h2] at n1; cases n1
      · exact (u1 y m2 o' hy).symm
  · rintro ⟨y, o', e⟩
    rcases key y b o' e with ⟨o1, h1⟩ | ⟨n1, _⟩
    · exact n ⟨y, o1, h1⟩
    · rw [hb] at n1; cases n1
/-- the thing at one label changes -/
theorem Go.set (s : At C g H) {x : Lab} {a : Addr} {o o' : HO} (hx : lay C g x = some (a, o)) (hx' : lay C g' x = some (a, o')) (he : ∀ y, y ≠ x → lay C g' y = lay C g y)
    (hs : ∀ b u, b ≠ a → H b = some u → H' b = some u) (ha : H' a = some o')
    (t1 : ∀ i, i < g'.nf → ∀ y ∈ g'.O i, H y.1 = some (keyO y.2)) (t2 : ∀ y ∈ g'.sw, H y.2.1 = some (.tup (y.2.2.map V.int))) : Go C g H g' H' := by
  have tk : ∀ t xs, H t = some (.tup xs) → H' t = some (.tup xs) := fun t xs h => hs t _ (fun e => s.ntup h ⟨x, o, by rw [e]; exact hx⟩) h
  refine Go.gen s [x] (fun y hy => he y (fun e => hy (by rw [e]; simp))) (fun b u hb n => hs b u (fun e => n x (by simp) o (by rw [e]; exact hx)) hb) (fun y hy b u h => ?_) (fun i hi y hy => tk _ _ (t1 i hi y hy)) (fun y hy => tk _ _ (t2 y hy))
  rw [List.mem_singleton] at hy
  subst hy
  rw [hx'] at h
  cases h
  exact ⟨ha, .inl ⟨o, hx⟩⟩
end
/-! ### what holds of it -/
/-! what may change -/
def SameX (D : Addr) (H H' : Hp) : Prop := ∀ b o, b ≠ D → H b = some o → H' b = some o
theorem SameX.refl (D : Addr) (H : Hp) : SameX D H H := fun _ _ _ h => h
theorem SameX.trans {D : Addr} {H H1 H2 : Hp} (a : SameX D H H1) (b : SameX D H1 H2) : SameX D H H2 := fun c o n h => b c o n (a c o n h)
theorem SameX.of {D : Addr} {H H' : Hp} (s : Same H H') : SameX D H H' := fun _ _ _ h => s _ _ h
theorem SameX.upd {D : Addr} {H : Hp} {o : HO} : SameX D H (upd H D o) := fun _ _ n h => by rw [upd_ne n]; exact h
def zero8 : List Int := List.replicate 8 0
structure IvC (L : Nat → Nat → Prop) (M : Nat → Nat → List Int) (nf : Nat) (fr : List (Option Nat)) (O : Nat → List (Addr × Key2)) (W : Nat → List Int) (T : Nat → List (Option Nat)) (sw : List (Key2 × Addr × List Int)) (sp : List Nat) : Prop where
  fk : ∀ f k : Nat, fr[f]? = some (some k) → k < nf ∧ O k ≠ [] ∧ ((O k).map (·.2)).Nodup
  ow : ∀ f k : Nat, fr[f]? = some (some k) → ∀ x ∈ O k, L x.2.1 x.2.2 ∧ (T x.2.1)[x.2.2]? = some (some f) ∧ x.2.1 ∈ sp ∧ W k = M x.2.1 x.2.2
  tb : ∀ n j f : Nat, L n j → (T n)[j]? = some (some f) → ∃ k : Nat, fr[f]? = some (some k) ∧ (n, j) ∈ (O k).map (·.2)
  sn : (sw.map (·.1)).Nodup
  sl : ∀ x ∈ sw, L x.1.1 x.1.2 ∧ (T x.1.1)[x.1.2]? = some none ∧ x.2.2 = M x.1.1 x.1.2
  nn : ∀ n j : Nat, L n j → (T n)[j]? = some none → (n, j) ∈ sw.map (·.1) ∨ M n j = zero8
  lv : ∀ n j : Nat, L n j → ∃ e : Option Nat, (T n)[j]? = some e
  m8 : ∀ n j, L n j → (M n j).length = 8
abbrev Iv (L : Nat → Nat → Prop) (M : Nat → Nat → List Int) (g : G) : Prop := IvC L M g.nf g.fr g.O g.W g.T g.sw g.sp
structure Sv (g : G) : Prop where
  spn : g.sp.Nodup
  spl : ∀ n ∈ g.sp, n < g.ns
  las : g.last = g.ns
  hnd : g.hand < g.fr.length
  frl : g.fr.length ≤ 5
  t64 : ∀ n, (g.T n).length ≤ 64
  tns : ∀ n, g.ns ≤ n → g.T n = []
  swl : g.sw.length ≤ g.slots
  evf : g.ev ≤ g.faults + g.cp
  n100 : g.ns ≤ 100
/-- what the loading and moving of pages leaves as it is -/
structure Sta (g g' : G) : Prop where
  px : g'.px = g.px
  fl : g'.fl = g.fl
  sd : g'.sd = g.sd
  pd : g'.pd = g.pd
  slots : g'.slots = g.slots
  last : g'.last = g.last
  frl : g'.fr.length = g.fr.length
  ns : g'.ns = g.ns
  sa : g'.sa = g.sa
  sx : g'.sx = g.sx
  ta : g'.ta = g.ta
  tl : ∀ n, (g'.T n).length = (g.T n).length
theorem Sta.refl (g : G) : Sta g g := ⟨rfl, rfl, rfl, rfl, rfl, rfl, rfl, rfl, rfl, rfl, rfl, fun _ => rfl⟩
theorem Sta.trans {g g1 g2 : G} (a : Sta g g1) (b : Sta g1 g2) : Sta g g2 := ⟨b.px.trans a.px, b.fl.trans a.fl, b.sd.trans a.sd, b.pd.trans a.pd, b.slots.trans a.slots, b.last.trans a.last, b.frl.trans a.frl, b.ns.trans a.ns, b.sa.trans a.sa, b.sx.trans a.sx, b.ta.trans a.ta, fun n => (b.tl n).trans (a.tl n)⟩
/-- all pages that there are -/
def Lv (g : G) : Nat → Nat → Prop := fun n j => j < (g.T n).length
theorem Sta.lv {g g' : G} (s : Sta g g') : Lv g' = Lv g := by
  funext n j
  show (j < (g'.T n).length) = (j < (g.T n).length)
  rw [s.tl n]
/-- there is room in the swap space whatever stands in it -/
def Roomy (g : G) : Prop := ∀ l : List Key2, l.Nodup → (∀ x ∈ l, Lv g x.1 x.2) → 2 * l.length ≤ g.slots
theorem Sta.roomy {g g' : G} (s : Sta g g') : Roomy g' ↔ Roomy g := by
  unfold Roomy
  rw [s.lv, s.slots]
/-- pairs of bounded numbers -/
theorem pairs_len {a b : Nat} : ∀ (n : Nat) (l : List Key2), n = a → l.Nodup → (∀ x ∈ l, x.1 < a ∧ x.2 < b) → l.length ≤ a * b := by
  intro _ l _ nd h
  have e : l.length ≤ (((List.range a).flatMap fun x => (List.range b).map fun y => (x, y)) : List Key2).length := by
    have aux : ∀ (l m : List Key2), l.Nodup → (∀ x ∈ l, x ∈ m) → l.length ≤ m.length := by
      intro l
      induction l with
      | nil => intro m _ _; exact Nat.zero_le _
      | cons x r ih =>
        intro m nd h
        obtain ⟨s, t, e⟩ := List.append_of_mem (h x (by simp))
        subst e
        have z := ih (s ++ t) (List.nodup_cons.mp nd).2 fun y hy => by
          have hm := h y (by simp [hy])
          have ne : y ≠ x := fun z => (List.nodup_cons.mp nd).1 (z ▸ hy)
          rcases List.mem_append.mp hm with z | z
          · exact List.mem_append_left _ z
          · rcases List.mem_cons.mp z with z | z
            · exact absurd z ne
            · exact List.mem_append_right _ z
        rw [List.length_append] at z
        rw [List.length_append, List.length_cons, List.length_cons]
        omega
    exact aux l _ nd fun x hx => List.mem_flatMap.mpr ⟨x.1, List.mem_range.mpr (h x hx).1, List.mem_map.mpr ⟨x.2, List.mem_range.mpr (h x hx).2, rfl⟩⟩
  have e2 : (((List.range a).flatMap fun x => (List.range b).map fun y => (x, y)) : List Key2).length = a * b := by
    rw [List.length_flatMap]
    have : ((List.range a).map fun x => ((List.range b).map fun y => ((x, y) : Key2)).length) = List.replicate a b := by
      rw [List.eq_replicate_iff]
      refine ⟨by simp, fun x hx => ?_⟩
      obtain ⟨y, _, rfl⟩ := List.mem_map.mp hx
      simp
    rw [this]; simp
  omega
section
variable {g : G} {M : Nat → Nat → List Int}
theorem keys_lt (v : Sv g) {n j : Nat} (h : Lv g n j) : n < 100 ∧ j < 64 := by
  have h1 : j < (g.T n).length := h
  refine ⟨Classical.byContradiction fun c => ?_, Nat.lt_of_lt_of_le h1 (v.t64 n)⟩
  have := v.tns n (by have := v.n100; omega)
  rw [this] at h1
  simp at h1
theorem own_len {L : Nat → Nat → Prop} (v : Sv g) (hL : ∀ n j, L n j → Lv g n j) (i : Iv L M g) {f k : Nat} (h : g.fr[f]? = some (some k)) : (g.O k).length ≤ 6400 := by
  have := pairs_len (a := 100) (b := 64) 100 ((g.O k).map (·.2)) rfl (i.fk f k h).2.2 fun x hx => by
    obtain ⟨y, hy, rfl⟩ := List.mem_map.mp hx
    exact keys_lt v (hL _ _ (i.ow f k h y hy).1)
  rw [List.length_map] at this
  omega
theorem sw_len {L : Nat → Nat → Prop} (v : Sv g) (hL : ∀ n j, L n j → Lv g n j) (i : Iv L M g) : g.sw.length ≤ 6400 := by
  have := pairs_len (a := 100) (b := 64) 100 (g.sw.map (·.1)) rfl i.sn fun x hx => by
    obtain ⟨y, hy, rfl⟩ := List.mem_map.mp hx
    exact keys_lt v (hL _ _ (i.sl y hy).1)
  rw [List.length_map] at this
  omega
end
end K07
namespace K07
open PySem L2 HK
abbrev sFI : Stmt := inClass (top 7) 0
abbrev sPI : Stmt := inClass (top 8) 0
abbrev sNext : Stmt := inClass (top 8) 1
abbrev sFof : Stmt := inClass (top 8) 2
abbrev sOwn : Stmt := inClass (top 8) 3
abbrev sPut : Stmt := inClass (top 8) 4
abbrev sShare : Stmt := inClass (top 8) 5
abbrev sFree : Stmt := inClass (top 8) 6
abbrev sRnd : Stmt := inClass (top 8) 7
abbrev sNtg : Stmt := inClass (top 8) 8
abbrev sMov : Stmt := inClass (top 8) 9
abbrev sEvi : Stmt := inClass (top 8) 10
abbrev sRel : Stmt := inClass (top 8) 11
abbrev sLea : Stmt := inClass (top 8) 12
abbrev sSI : Stmt := inClass (top 9) 0
abbrev sWc : Stmt := inClass (top 9) 1
abbrev sChk : Stmt := inClass (top 9) 2
abbrev sLoad : Stmt := inClass (top 9) 3
abbrev sSto : Stmt := inClass (top 9) 4
abbrev sGrow : Stmt := inClass (top 9) 5
abbrev sFork : Stmt := inClass (top 9) 6
abbrev sAll : Stmt := inClass (top 9) 7
structure PTxt (K : PySem.W.Frag) (mg : Str → Option Value) (C : CA) (CE : Addr) : Prop where
  cf : Cls K C.CF
  cp : Cls K C.CP
  cs : Cls K C.CS
  f1 : NoAttr K C.CF "words"
  f2 : NoAttr K C.CF "owners"
  f3 : NoAttr K C.CF "used"
  p1 : NoAttr K C.CP "frames"
  p2 : NoAttr K C.CP "slots"
  p3 : NoAttr K C.CP "hand"
  p4 : NoAttr K C.CP "swapped"
  p5 : NoAttr K C.CP "spaces"
  p6 : NoAttr K C.CP "last"
  p7 : NoAttr K C.CP "faults"
  p8 : NoAttr K C.CP "evictions"
  p9 : NoAttr K C.CP "copies"
  s1 : NoAttr K C.CS "pager"
  s2 : NoAttr K C.CS "number"
  s3 : NoAttr K C.CS "table"
  gF : mg "Frame" = some (.ref C.CF)
  gP : mg "Pager" = some (.ref C.CP)
  gS : mg "Space" = some (.ref C.CS)
  gE : mg "SpaceFault" = some (.ref CE)
  xE : PySem.W.excIn K CE [.type "ValueError", .type "Exception", .type "BaseException", .type "object"] "ValueError.__new__" = true
  kE : PySem.W.keepIn K (.ref CE) = true
  bE : PySem.W.subIn K (.ref CE) (.type "BaseException") = some true
  tE : PySem.W.typeIn K (.ref CE) = some (.type "type")
  pw : ∃ t, mg "PAGE_WORDS" = some (.int 8 t)
  mp : ∃ t, mg "MOST_PAGES" = some (.int 64 t)
  list : mg "list" = none
  len : mg "len" = none
  range : mg "range" = none
  enum : mg "enumerate" = none
  tup : mg "tuple" = none
/-! ### keys as data -/
def kD (k : Key2) : PyData := .tuple [.int ((k.1 : Int) + 1), .int (k.2 : Int)]
theorem dp_key {K : PySem.W.Frag} {H : Hp} {t : Addr} {k : Key2} (h : H t = some (keyO k)) : Dp K H (.ref t) (kD k) := .tup (SqT.of h) (.cons (.int _) (.cons (.int _) .nil))
theorem kD_lay (k : Key2) : (kD k).canLay0 = true := rfl
theorem kD_depth (k : Key2) : (kD k).depth ≤ 2 := by simp [kD, PyData.depth, PyData.depthAll]
theorem kD_shaped (k : Key2) : SeqAt.shaped (kD k) = true := by
  show ((kD k).canLay0 && decide ((kD k).depth ≤ 64)) = true
  rw [Bool.and_eq_true]
  exact ⟨rfl, decide_eq_true (by have := kD_depth k; omega)⟩
theorem kD_eqv (k l : Key2) : PyData.eqv (kD k) (kD l) = decide (k = l) := by
  obtain ⟨a, b⟩ := k
  obtain ⟨c, d⟩ := l
  have e : PyData.eqv (kD (a, b)) (kD (c, d)) = (((a : Int) + 1 == (c : Int) + 1) && (((b : Int) == (d : Int)) && true)) := by simp only [kD, PyData.eqv, PyData.eqvAll]
  rw [e, Bool.eq_iff_iff]
  simp only [Bool.and_true, Bool.and_eq_true, beq_iff_eq, decide_eq_true_eq, Prod.mk.injEq]
  omega
theorem dps_keys {K : PySem.W.Frag} {H : Hp} : ∀ {l : List (Addr × Key2)}, (∀ x ∈ l, H x.1 = some (keyO x.2)) → DpAll K H (l.map fun x => V.ref x.1) (l.map fun x => kD x.2)
  | [], _ => .nil
  | x :: r, h => .cons (dp_key (h x (by simp))) (dps_keys fun y hy => h y (by simp [hy]))
theorem dep_keys : ∀ l : List (Addr × Key2), PyData.depthAll (l.map fun x => kD x.2) ≤ 2
  | [] => by simp [PyData.depthAll]
  | z :: zs => by
    have h1 := dep_keys zs
    have h2 := kD_depth z.2
    simp only [List.map_cons, PyData.depthAll]
    omega
theorem lay_keys : ∀ l : List (Addr × Key2), PyData.canLayAll0 (l.map fun x => kD x.2) = true
  | [] => rfl
  | z :: zs => by
    simp only [List.map_cons, PyData.canLayAll0, Bool.and_eq_true]
    exact ⟨kD_lay _, lay_keys zs⟩
theorem keys_shaped (l : List (Addr × Key2)) : SeqAt.shaped (.list (l.map fun x => kD x.2)) = true := by
  have h1 := dep_keys l
  show (PyData.canLay0 (.list _) && decide (PyData.depth (.list _) ≤ 64)) = true
  rw [Bool.and_eq_true]
  refine ⟨by simp only [PyData.canLay0]; exact lay_keys l, decide_eq_true ?_⟩
  simp only [PyData.depth]
  omega
theorem keys_nil (l : List (Addr × Key2)) : PyData.eqv (.list (l.map fun x => kD x.2)) (.list []) = decide (l = []) := by
  cases l with
  | nil => rfl
  | cons a r => rfl
/-- the owners but one -/
def oth (O : List (Addr × Key2)) (k : Key2) : List (Addr × Key2) := O.filter fun x => decide (x.2 ≠ k)
def oV (O : List (Addr × Key2)) : List V := O.map fun x => V.ref x.1
theorem oth_len (O : List (Addr × Key2)) (k : Key2) : (oth O k).length ≤ O.length := List.length_filter_le _ _
theorem oth_snoc {O : List (Addr × Key2)} {k : Key2} {i : Nat} {x : Addr × Key2} (h : O[i]? = some x) : oth (O.take (i + 1)) k = oth (O.take i) k ++ if x.2 = k then [] else [x] := by
  unfold oth
  rw [List.take_add_one, h, List.filter_append]
  congr 1
  show List.filter _ [x] = _
  rw [List.filter_cons, List.filter_nil]
  by_cases e : x.2 = k <;> simp [e]
/-! ### Frame(words) -/
def spFI (K : PySem.W.Frag) (CF : Addr) : Sp := fun vs H Q _ => ∃ a ax v ws, vs = [.ref a, .ref v] ∧ H a = some (.ins CF ax []) ∧ (SqL K H v ws ∨ SqT K H v ws) ∧ v ≠ a ∧
  ∀ H' wA oA, H wA = none → H oA = none → wA ≠ oA → SameX a H H' → H' a = some (.ins CF ax (fsFr wA oA true)) → H' wA = some (.lst ws) → H' oA = some (.lst []) → Q .non H'
section
variable {P : Program} {w : World} {K : PySem.W.Frag} {mg : Str → Option Value} {base : Heap} {C : CA} {CE : Addr}
theorem scFI : FnScope ["self", "words"] ["self", "words"] (defScope sFI) := ⟨rfl, rfl, rfl, by decide +kernel, rfl, by decide +kernel, by decide +kernel⟩
theorem ok_fi {f : Addr} {fd : FuncData} (F : L2.Fun K "__init__" "Frame.__init__" sFI f fd) (T : PTxt K mg C CE) : FnOk P w K mg base L2.CX0 1 f fd ["self", "words"] (spFI K C.CF) := by
  refine F.ok scFI (fun vs H Q E h => ?_) (fun cdv A outer s H vs Q E hr h => ?_)
  · obtain ⟨a, ax, v, ws, rfl, _⟩ := h
    rfl
  · obtain ⟨a, ax, v, ws, rfl, ha, hv, nva, k⟩ := h
    refine ⟨_, pss_cons (ps_fld (pv 0) (pe_callTy call_list_of (by rfl) T.list PyProof.Rows.Boot.«list» (pa_cons (pv 1) pa_nil)) rfl)
      (pss_cons (ps_fld (pv 0) (pe_lst pa_nil) rfl) (pss_one (ps_fld (pv 0) pe_bl rfl))), ?_⟩
    refine ⟨_, rfl, v, ws, rfl, hv, fun l nl => ?_⟩
    have nal : a ≠ l := ne_of_none ha nl
    have e1 : (upd H l (.lst ws)) a = some (.ins C.CF ax []) := by rw [upd_ne nal]; exact ha
    refine ⟨_, rfl, a, C.CF, ax, _, rfl, e1, T.cf, T.f1, (by show 0 < 1000; decide), ?_⟩
    refine ⟨by show 0 ≤ sizeLine; decide, fun o no => ?_⟩
    have nao : a ≠ o := fun e => by rw [← e, upd_same] at no; cases no
    have nlo : l ≠ o := fun e => by rw [← e, upd_ne nal.symm, upd_same] at no; cases no
    have noH : H o = none := by rw [upd_ne nao.symm, upd_ne nlo.symm] at no; exact no
    refine ⟨_, rfl, a, C.CF, ax, _, rfl, by rw [upd_ne nao, upd_same], T.cf, T.f2, (by show 1 < 1000; decide), ?_⟩
    refine ⟨_, rfl, a, C.CF, ax, _, rfl, upd_same, T.cf, T.f3, (by show 2 < 1000; decide), ?_⟩
    refine k _ l o nl noH nlo (fun b u nb hb => ?_) (by rw [upd_same]; rfl) ?_ ?_
    · rw [upd_ne nb, upd_ne nb, upd_ne (ne_of_none hb noH), upd_ne nb, upd_ne (ne_of_none hb nl)]; exact hb
    · rw [upd_ne nal.symm, upd_ne nal.symm, upd_ne nlo, upd_ne nal.symm, upd_same]
    · rw [upd_ne nao.symm, upd_ne nao.symm, upd_same]
end
end K07
namespace K07
open PySem L2 HK
section
variable {C : CA} {g g' : G} {H H' : Hp}
theorem At.pg (s : At C g H) : H C.p = some (.ins C.CP g.px (fsP g)) := s.get .pg _ _ rfl
theorem At.fl (s : At C g H) : H g.fl = some (.lst (g.fr.map (fV g.fa))) := s.get .fl _ _ rfl
theorem At.sd (s : At C g H) : H g.sd = some (.dT (swK g.sw)) := s.get .sd _ _ rfl
theorem At.pd (s : At C g H) : H g.pd = some (.dK (spK g)) := s.get .pd _ _ rfl
theorem lay_fi {i : Nat} (h : i < g.nf) : lay C g (.fi i) = some (g.fa i, .ins C.CF (g.fx i) (fsF g i)) := if_pos h
theorem lay_fw {i : Nat} (h : i < g.nf) : lay C g (.fw i) = some (g.wa i, .lst ((g.W i).map V.int)) := if_pos h
theorem lay_fo {i : Nat} (h : i < g.nf) : lay C g (.fo i) = some (g.oa i, .lst ((g.O i).map fun x => V.ref x.1)) := if_pos h
theorem lay_si {n : Nat} (h : n < g.ns) : lay C g (.si n) = some (g.sa n, .ins C.CS (g.sx n) (fsS C.p g n)) := if_pos h
theorem lay_st {n : Nat} (h : n < g.ns) : lay C g (.st n) = some (g.ta n, .lst ((g.T n).map tV)) := if_pos h
theorem At.fi (s : At C g H) {i : Nat} (h : i < g.nf) : H (g.fa i) = some (.ins C.CF (g.fx i) (fsF g i)) := s.get _ _ _ (lay_fi h)
theorem At.fw (s : At C g H) {i : Nat} (h : i < g.nf) : H (g.wa i) = some (.lst ((g.W i).map V.int)) := s.get _ _ _ (lay_fw h)
theorem At.fo (s : At C g H) {i : Nat} (h : i < g.nf) : H (g.oa i) = some (.lst ((g.O i).map fun x => V.ref x.1)) := s.get _ _ _ (lay_fo h)
theorem At.si (s : At C g H) {n : Nat} (h : n < g.ns) : H (g.sa n) = some (.ins C.CS (g.sx n) (fsS C.p g n)) := s.get _ _ _ (lay_si h)
theorem At.st (s : At C g H) {n : Nat} (h : n < g.ns) : H (g.ta n) = some (.lst ((g.T n).map tV)) := s.get _ _ _ (lay_st h)
theorem frV {f k : Nat} (h : g.fr[f]? = some (some k)) : (g.fr.map (fV g.fa))[f]? = some (.ref (g.fa k)) := by rw [List.getElem?_map, h]; rfl
theorem frN {f : Nat} (h : g.fr[f]? = some none) : (g.fr.map (fV g.fa))[f]? = some .non := by rw [List.getElem?_map, h]; rfl
theorem map_set_fV (l : List (Option Nat)) (fa : Nat → Addr) (f : Nat) (v : Option Nat) : (l.set f v).map (fV fa) = (l.map (fV fa)).set f (fV fa v) := List.map_set
theorem ixN_nat {n j : Nat} (h : j < n) : ixN n (j : Int) = some j := by
  unfold ixN
  rw [if_pos (by omega), if_pos (by omega)]; simp
theorem small {n : Nat} (h : n ≤ 10000) : n < sizeLine := by rw [sizeLine_eq]; omega
/-- frame k's owners become another list -/
def ownG (g : G) (k : Nat) (q : Addr) (l : List (Addr × Key2)) : G := { g with oa := fset g.oa k q, O := fset g.O k l }
def frG (g : G) (f : Nat) (v : Option Nat) : G := { g with fr := g.fr.set f v }
theorem go_fr (s : At C g H) {f : Nat} {v : Option Nat} (hs : SameX g.fl H H') (ha : H' g.fl = some (.lst ((g.fr.set f v).map (fV g.fa)))) : Go C g H (frG g f v) H' := by
  refine Go.set s (x := .fl) rfl rfl (fun y hy => ?_) hs ha s.tp1 s.tp2
  cases y <;> first | rfl | exact absurd rfl hy
theorem go_own (s : At C g H) {k : Nat} (hk : k < g.nf) {q : Addr} {l : List (Addr × Key2)} (hq : H q = none) (hl : ∀ x ∈ l, H x.1 = some (keyO x.2)) (hs : SameX (g.fa k) H H') (h1 : H' q = some (.lst (oV l)))
    (h2 : H' (g.fa k) = some (.ins C.CF (g.fx k) (fsFr (g.wa k) q (g.U k)))) : Go C g H (ownG g k q l) H' := by
  have tk : ∀ t xs, H t = some (.tup xs) → H' t = some (.tup xs) := fun t xs h => hs t _ (fun e => s.ntup h ⟨.fi k, .ins C.CF (g.fx k) (fsF g k), by rw [e]; exact lay_fi hk⟩) h
  have nqa : q ≠ g.fa k := fun e => by rw [e, s.fi hk] at hq; cases hq
  have lfi : lay C (ownG g k q l) (.fi k) = some (g.fa k, .ins C.CF (g.fx k) (fsFr (g.wa k) q (g.U k))) := by
    show (if k < g.nf then some (g.fa k, HO.ins C.CF (g.fx k) (fsFr (g.wa k) (fset g.oa k q k) (g.U k))) else none) = _
    rw [if_pos hk, fset_same]
  have lfo : lay C (ownG g k q l) (.fo k) = some (q, .lst (oV l)) := by
    show (if k < g.nf then some (fset g.oa k q k, HO.lst ((fset g.O k l k).map fun x => V.ref x.1)) else none) = _
    rw [if_pos hk, fset_same, fset_same]; rfl
  refine Go.gen s [.fi k, .fo k] (fun y hy => ?_) (fun b o hb n => hs b o (fun e => n (.fi k) (by simp) (.ins C.CF (g.fx k) (fsF g k)) (by rw [e]; exact lay_fi hk)) hb) (fun y hy a o h => ?_) (fun i hi y hy => ?_) (fun y hy => tk _ _ (s.tp2 y hy))
  · simp only [List.mem_cons, List.not_mem_nil, or_false, not_or] at hy
    cases y with
    | fi i =>
      have : i ≠ k := fun e => hy.1 (by rw [e])
      show (if i < g.nf then some (g.fa i, HO.ins C.CF (g.fx i) (fsFr (g.wa i) (fset g.oa k q i) (g.U i))) else none) = _
      rw [fset_ne this]; rfl
    | fo i =>
      have : i ≠ k := fun e => hy.2 (by rw [e])
      show (if i < g.nf then some (fset g.oa k q i, HO.lst ((fset g.O k l i).map fun x => V.ref x.1)) else none) = _
      rw [fset_ne this, fset_ne this]; rfl
    | _ => rfl
  · simp only [List.mem_cons, List.not_mem_nil, or_false] at hy
    rcases hy with rfl | rfl
    · rw [lfi] at h; cases h
      exact ⟨h2, .inl ⟨_, lay_fi hk⟩⟩
    · rw [lfo] at h; cases h
      refine ⟨h1, .inr ⟨hq, fun z hz o' e => ?_⟩⟩
      simp only [List.mem_cons, List.not_mem_nil, or_false] at hz
      rcases hz with rfl | rfl
      · rw [lfi] at e; cases e; exact absurd rfl nqa
      · rfl
  · by_cases e : i = k
    · subst e
      have hy : y ∈ fset g.O i l i := hy
      rw [fset_same] at hy
      exact tk _ _ (hl y hy)
    · have hy : y ∈ fset g.O k l i := hy
      rw [fset_ne e] at hy
      exact tk _ _ (s.tp1 i hi y hy)
end
/-! ### leave_frame -/
def leaveG (g : G) (f k : Nat) (key : Key2) (q : Addr) : G :=
  { g with oa := fset g.oa k q, O := fset g.O k (oth (g.O k) key), fr := if oth (g.O k) key = [] then g.fr.set f none else g.fr }
def spLea (C : CA) : Sp := fun vs H Q _ => ∃ g f k key t, vs = [.ref C.p, .int ((f : Nat) : Int), .ref t] ∧ At C g H ∧ g.fr[f]? = some (some k) ∧ k < g.nf ∧ (g.O k).length ≤ 6400 ∧ H t = some (keyO key) ∧
  ∀ q H', H q = none → Go C g H (leaveG g f k key q) H' → Q .non H'
section
variable {P : Program} {w : World} {K : PySem.W.Frag} {mg : Str → Option Value} {base : Heap} {C : CA} {CE : Addr}
theorem scLea : FnScope ["self", "place", "key", "frame", "owner"] ["self", "place", "key"] (defScope sLea) := ⟨rfl, rfl, rfl, by decide +kernel, rfl, by decide +kernel, by decide +kernel⟩
theorem ok_lea {f : Addr} {fd : FuncData} (F : L2.Fun K "leave_frame" "Pager.leave_frame" sLea f fd) (T : PTxt K mg C CE) : FnOk P w K mg base L2.CX0 1 f fd ["self", "place", "key"] (spLea C) := by
  refine F.ok scLea (fun vs H Q E h => ?_) (fun cdv A outer s H vs Q E hr h => ?_)
  · obtain ⟨g, f, k, key, t, rfl, _⟩ := h
    rfl
  · obtain ⟨g, f, k, key, t, rfl, st, hf, hk, len, ht, kk⟩ := h
    refine ⟨_, pss_cons (ps_set (i := 3) scLea.nd rfl (Or.inl rfl) (pe_ix ix_list (pe_fld (pv 0) rfl) (pv 1) (fun _ _ => rfl)))
      (pss_cons (ps_fld (pv 3) (pe_lc (own := [("owner", 4)]) (g := gName 4) (te := tVar 4) (by rfl) scLea.nd (pi_list (pe_fld (pv 3) rfl)) (blkOk_by (N := ["self", "place", "key", "frame", "owner"]) (sc := defScope sLea) (by decide +kernel))
        (fun _ _ _ _ _ => pg_name (i := 4) scLea.nd rfl (Or.inl rfl)) (fun _ _ _ _ _ => pts_one (pt_cmpR (r := rNeD K) (by exact op_neD hr.units) (pv 4) (pv 2) (nomark _))) (fun _ _ _ _ _ => pv 4)) rfl)
      (pss_one (ps_if (pt_cmpR (op_eqD hr.units) (pe_fld (pv 3) rfl) (pe_lst pa_nil) (nomark _)) (pss_one (ps_asg pe_non (pg_sub (pe_fld (pv 0) rfl) (pv 1) set_list))) pss_nil))), ?_⟩
    refine ⟨_, rfl, C.p, C.CP, g.px, _, _, rfl, st.pg, T.cp, T.p1, rfl, _, rfl, g.fl, _, _, _, rfl, rfl, SqL.of st.fl, atI_nat (frV hf), ?_⟩
    refine ⟨_, rfl, g.fa k, C.CF, g.fx k, _, _, rfl, st.fi hk, T.cf, T.f2, rfl, g.oa k, rfl, ⟨_, SqL.of (st.fo hk)⟩, fun D nD => ?_⟩
    have noD : g.oa k ≠ D := ne_of_none (st.fo hk) nD
    refine lc_list (K := K) (a := g.oa k) (xs := oV (g.O k)) (fun i H' => Same H H' ∧ H' D = some (.lst (oV (oth ((g.O k).take i) key)))) ⟨same_upd nD, upd_same⟩ (fun i H' hi q => SqL.of (q.1 _ _ (st.fo hk))) (fun i z H' hx q => ?_) (fun H' q => ?_)
    · obtain ⟨sm, hD⟩ := q
      unfold oV at hx
      rw [List.getElem?_map] at hx
      obtain ⟨x, hx', rfl⟩ := Option.map_eq_some_iff.mp hx
      have hm := List.mem_of_getElem? hx'
      refine ⟨rfl, _, rfl, _, rfl, kD x.2, kD key, dp_key (sm _ _ (st.tp1 k hk x hm)), dp_key (sm _ _ ht), kD_shaped _, kD_shaped _, _, rfl, ?_⟩
      rw [kD_eqv]
      have e1 := oth_snoc (k := key) hx'
      have ln : (oV (oth ((g.O k).take i) key)).length < sizeLine := by
        unfold oV
        rw [List.length_map]
        refine small (Nat.le_trans (oth_len _ _) ?_)
        rw [List.length_take]; omega
      refine ite2 (fun c => ?_) (fun c => ?_)
      · have c : x.2 ≠ key := by simpa using c
        rw [if_neg c] at e1
        refine ⟨_, rfl, _, hD, ln, fun b o h => by rw [upd_ne (ne_of_none h nD)]; exact sm b o h, ?_⟩
        rw [upd_same, e1]
        unfold oV
        rw [List.map_append]; rfl
      · have c : x.2 = key := by simpa using c
        rw [if_pos c, List.append_nil] at e1
        exact ⟨sm, by rw [e1]; exact hD⟩
    · obtain ⟨sm, hD⟩ := q
      unfold oV at hD
      rw [List.length_map, List.take_length] at hD
      have s1 := st.same sm
      have nDa : D ≠ g.fa k := fun e => by rw [e, st.fi hk] at nD; cases nD
      refine ⟨_, rfl, g.fa k, C.CF, g.fx k, _, rfl, s1.fi hk, T.cf, T.f2, (by show 3 < 1000; decide), ?_⟩
      have hD2 : (upd H' (g.fa k) (.ins C.CF (g.fx k) (putF "owners" (.ref D) (fsF g k)))) D = some (.lst (oV (oth (g.O k) key))) := by rw [upd_ne nDa]; exact hD
      have g1 : Go C g H (ownG g k D (oth (g.O k) key)) (upd H' (g.fa k) (.ins C.CF (g.fx k) (putF "owners" (.ref D) (fsF g k)))) :=
        go_own st hk nD (fun x hx => st.tp1 k hk x (List.mem_filter.mp hx).1) (fun b o n h => by rw [upd_ne n]; exact sm _ _ h) hD2 (by rw [upd_same]; rfl)
      generalize upd H' (g.fa k) (.ins C.CF (g.fx k) (putF "owners" (.ref D) (fsF g k))) = H2 at g1 hD2 ⊢
      have s2 := g1.at_
      have f2 := s2.fi (i := k) hk
      have ef : fsF (ownG g k D (oth (g.O k) key)) k = fsFr (g.wa k) D (g.U k) := by
        show fsFr (g.wa k) (fset g.oa k D k) (g.U k) = _
        rw [fset_same]
      rw [ef] at f2
      have f2 : H2 (g.fa k) = some (.ins C.CF (g.fx k) (fsFr (g.wa k) D (g.U k))) := f2
      refine ⟨_, rfl, g.fa k, C.CF, g.fx k, _, _, rfl, f2, T.cf, T.f2, rfl, by show 0 ≤ sizeLine; decide, fun l nl => ?_⟩
      have sl : Same H2 (upd H2 l (.lst [])) := same_upd nl
      refine ⟨.list ((oth (g.O k) key).map fun x => kD x.2), .list [], Dp.lst (SqL.of (sl _ _ hD2)) ?_, Dp.lst (SqL.of upd_same) .nil, ?_, rfl, _, rfl, ?_⟩
      · exact dps_keys fun x hx => by
          have := s2.tp1 k hk x (by show x ∈ fset g.O k _ k; rw [fset_same]; exact hx)
          exact sl _ _ this
      · exact keys_shaped _
      rw [keys_nil]
      refine ite2 (fun c => ?_) (fun c => ?_)
      · have c : oth (g.O k) key = [] := by simpa using c
        have s3 := s2.same sl
        have hfl := s3.fl
        refine ⟨_, rfl, C.p, C.CP, g.px, _, _, rfl, s3.pg, T.cp, T.p1, rfl, _, rfl, g.fl, _, _, f, rfl, rfl, hfl, ixN_nat (by rw [List.length_map]; exact (List.getElem?_eq_some_iff.mp hf).1), ?_⟩
        have g3 : Go C (ownG g k D (oth (g.O k) key)) (upd H2 l (.lst [])) (frG (ownG g k D (oth (g.O k) key)) f none) (upd (upd H2 l (.lst [])) g.fl (.lst ((g.fr.map (fV g.fa)).set f .non))) :=
          go_fr s3 SameX.upd (by rw [map_set_fV]; exact upd_same)
        have e : leaveG g f k key D = frG (ownG g k D (oth (g.O k) key)) f none := by unfold leaveG; rw [if_pos c]; rfl
        exact kk D _ nD (by rw [e]; exact (g1.trans (Go.same s2 sl)).trans g3)
      · have c : oth (g.O k) key ≠ [] := by simpa using c
        have e : leaveG g f k key D = ownG g k D (oth (g.O k) key) := by unfold leaveG; rw [if_neg c]; rfl
        exact kk D _ nD (by rw [e]; exact g1.trans (Go.same s2 sl))
end
end K07
namespace K07
open PySem L2 HK
def ON (g : G) (k : Nat) (l : List (Addr × Key2)) : G := { g with O := fset g.O k l }
def TN (g : G) (n : Nat) (l : List (Option Nat)) : G := { g with T := fset g.T n l }
def addN (l : List Nat) (n : Nat) : List Nat := if n ∈ l then l else l ++ [n]
def spN (g : G) (l : List Nat) : G := { g with sp := l }
def UN (g : G) (k : Nat) (u : Bool) : G := { g with U := fset g.U k u }
def WN (g : G) (k : Nat) (l : List Int) : G := { g with W := fset g.W k l }
def swN (g : G) (l : List (Key2 × Addr × List Int)) : G := { g with sw := l }
def newG (g : G) (x dx wA oA : Addr) (ws : List Int) : G :=
  { g with nf := g.nf + 1, fa := fset g.fa g.nf x, fx := fset g.fx g.nf dx, wa := fset g.wa g.nf wA, oa := fset g.oa g.nf oA, W := fset g.W g.nf ws, O := fset g.O g.nf [], U := fset g.U g.nf true }
def FrLt (g : G) : Prop := ∀ f k : Nat, g.fr[f]? = some (some k) → k < g.nf
theorem spK_put (g : G) (n : Nat) : putK (spK g) (.inl ((n : Int) + 1)) (.ref (g.sa n)) = spK (spN g (addN g.sp n)) := by
  unfold spK spN addN
  by_cases h : n ∈ g.sp
  · show putK (g.sp.map fun (n : Nat) => (Sum.inl ((n : Int) + 1), V.ref (g.sa n))) _ _ = (if n ∈ g.sp then g.sp else g.sp ++ [n]).map _
    rw [if_pos h]
    unfold putK
    rw [if_pos (by rw [List.any_eq_true]; exact ⟨_, List.mem_map_of_mem h, by simp⟩), List.map_map]
    refine List.map_congr_left fun m _ => ?_
    show (if (Sum.inl ((m : Int) + 1) : Key) = .inl ((n : Int) + 1) then ((Sum.inl ((m : Int) + 1) : Key), V.ref (g.sa n)) else (.inl ((m : Int) + 1), .ref (g.sa m))) = (.inl ((m : Int) + 1), .ref (g.sa m))
    by_cases e : m = n
    · rw [e, if_pos rfl]
    · rw [if_neg (fun z => e (by injection z with z; omega))]
  · show putK (g.sp.map fun (n : Nat) => (Sum.inl ((n : Int) + 1), V.ref (g.sa n))) _ _ = (if n ∈ g.sp then g.sp else g.sp ++ [n]).map _
    rw [if_neg h]
    unfold putK
    rw [if_neg, List.map_append]
    · rfl
    · rw [List.any_eq_true]
      rintro ⟨x, hx, e⟩
      obtain ⟨m, hm, rfl⟩ := List.mem_map.mp hx
      have e : ((Sum.inl ((m : Int) + 1) : Key)) = .inl ((n : Int) + 1) := by simpa using e
      injection e with e
      exact h (by rw [show n = m by omega]; exact hm)
section
variable {C : CA} {g g' : G} {H H' : Hp}
theorem go_O (s : At C g H) {k : Nat} (hk : k < g.nf) {l : List (Addr × Key2)} (hl : ∀ x ∈ l, H x.1 = some (keyO x.2)) (hs : SameX (g.oa k) H H') (ha : H' (g.oa k) = some (.lst (oV l))) : Go C g H (ON g k l) H' := by
  refine Go.set s (x := .fo k) (lay_fo hk) (o' := .lst (oV l)) ?_ (fun y hy => ?_) hs ha (fun i hi y hy => ?_) s.tp2
  · show (if k < g.nf then some (g.oa k, HO.lst ((fset g.O k l k).map fun x => V.ref x.1)) else none) = _
    rw [if_pos hk, fset_same]; rfl
  · cases y with
    | fo i =>
      have : i ≠ k := fun e => hy (by rw [e])
      show (if i < g.nf then some (g.oa i, HO.lst ((fset g.O k l i).map fun x => V.ref x.1)) else none) = _
      rw [fset_ne this]; rfl
    | _ => rfl
  · by_cases e : i = k
    · subst e
      have hy : y ∈ fset g.O i l i := hy
      rw [fset_same] at hy
      exact hl y hy
    · have hy : y ∈ fset g.O k l i := hy
      rw [fset_ne e] at hy
      exact s.tp1 i hi y hy
theorem go_T (s : At C g H) {n : Nat} (hn : n < g.ns) {l : List (Option Nat)} (hs : SameX (g.ta n) H H') (ha : H' (g.ta n) = some (.lst (l.map tV))) : Go C g H (TN g n l) H' := by
  refine Go.set s (x := .st n) (lay_st hn) (o' := .lst (l.map tV)) ?_ (fun y hy => ?_) hs ha s.tp1 s.tp2
  · show (if n < g.ns then some (g.ta n, HO.lst ((fset g.T n l n).map tV)) else none) = _
    rw [if_pos hn, fset_same]
  · cases y with
    | st i =>
      have : i ≠ n := fun e => hy (by rw [e])
      show (if i < g.ns then some (g.ta i, HO.lst ((fset g.T n l i).map tV)) else none) = _
      rw [fset_ne this]; rfl
    | _ => rfl
theorem go_sp (s : At C g H) {l : List Nat} (hs : SameX g.pd H H') (ha : H' g.pd = some (.dK (spK (spN g l)))) : Go C g H (spN g l) H' := by
  refine Go.set s (x := .pd) rfl rfl (fun y hy => ?_) hs ha s.tp1 s.tp2
  cases y <;> first | rfl | exact absurd rfl hy
theorem go_U (s : At C g H) {k : Nat} (hk : k < g.nf) {u : Bool} (hs : SameX (g.fa k) H H') (ha : H' (g.fa k) = some (.ins C.CF (g.fx k) (fsFr (g.wa k) (g.oa k) u))) : Go C g H (UN g k u) H' := by
  refine Go.set s (x := .fi k) (lay_fi hk) (o' := .ins C.CF (g.fx k) (fsFr (g.wa k) (g.oa k) u)) ?_ (fun y hy => ?_) hs ha s.tp1 s.tp2
  · show (if k < g.nf then some (g.fa k, HO.ins C.CF (g.fx k) (fsFr (g.wa k) (g.oa k) (fset g.U k u k))) else none) = _
    rw [if_pos hk, fset_same]
  · cases y with
    | fi i =>
      have : i ≠ k := fun e => hy (by rw [e])
      show (if i < g.nf then some (g.fa i, HO.ins C.CF (g.fx i) (fsFr (g.wa i) (g.oa i) (fset g.U k u i))) else none) = _
      rw [fset_ne this]; rfl
    | _ => rfl
theorem go_W (s : At C g H) {k : Nat} (hk : k < g.nf) {l : List Int} (hs : SameX (g.wa k) H H') (ha : H' (g.wa k) = some (.lst (l.map V.int))) : Go C g H (WN g k l) H' := by
  refine Go.set s (x := .fw k) (lay_fw hk) (o' := .lst (l.map V.int)) ?_ (fun y hy => ?_) hs ha s.tp1 s.tp2
  · show (if k < g.nf then some (g.wa k, HO.lst ((fset g.W k l k).map V.int)) else none) = _
    rw [if_pos hk, fset_same]
  · cases y with
    | fw i =>
      have : i ≠ k := fun e => hy (by rw [e])
      show (if i < g.nf then some (g.wa i, HO.lst ((fset g.W k l i).map V.int)) else none) = _
      rw [fset_ne this]; rfl
    | _ => rfl
theorem go_sw (s : At C g H) {l : List (Key2 × Addr × List Int)} (hl : ∀ y ∈ l, H y.2.1 = some (.tup (y.2.2.map V.int))) (hs : SameX g.sd H H') (ha : H' g.sd = some (.dT (swK l))) : Go C g H (swN g l) H' := by
  refine Go.set s (x := .sd) rfl rfl (fun y hy => ?_) hs ha s.tp1 hl
  cases y <;> first | rfl | exact absurd rfl hy
/-- another number among the pager's own -/
theorem go_pg (s : At C g H) {fs : List (Str × V)} (hs : SameX C.p H H') (ha : H' C.p = some (.ins C.CP g.px fs)) (e1 : fsP g' = fs) (e : g' = { g with hand := g'.hand, last := g'.last, faults := g'.faults, ev := g'.ev, cp := g'.cp }) : Go C g H g' H' := by
  rw [e]
  rw [e] at e1
  refine Go.set s (x := .pg) rfl rfl (fun y hy => ?_) hs (by rw [ha, ← e1]) s.tp1 s.tp2
  cases y <;> first | rfl | exact absurd rfl hy
theorem go_new (s : At C g H) (fl : FrLt g) {x dx wA oA : Addr} {ws : List Int} (nx : H x = none) (nw : H wA = none) (no : H oA = none) (d1 : x ≠ wA) (d2 : x ≠ oA) (d3 : wA ≠ oA) (sm : Same H H')
    (h1 : H' x = some (.ins C.CF dx (fsFr wA oA true))) (h2 : H' wA = some (.lst (ws.map V.int))) (h3 : H' oA = some (.lst [])) : Go C g H (newG g x dx wA oA ws) H' := by
  have l1 : lay C (newG g x dx wA oA ws) (.fi g.nf) = some (x, .ins C.CF dx (fsFr wA oA true)) := by
    show (if g.nf < g.nf + 1 then some (fset g.fa g.nf x g.nf, HO.ins C.CF (fset g.fx g.nf dx g.nf) (fsFr (fset g.wa g.nf wA g.nf) (fset g.oa g.nf oA g.nf) (fset g.U g.nf true g.nf))) else none) = _
    rw [if_pos (Nat.lt_succ_self _), fset_same, fset_same, fset_same, fset_same, fset_same]
  have l2 : lay C (newG g x dx wA oA ws) (.fw g.nf) = some (wA, .lst (ws.map V.int)) := by
    show (if g.nf < g.nf + 1 then some (fset g.wa g.nf wA g.nf, HO.lst ((fset g.W g.nf ws g.nf).map V.int)) else none) = _
    rw [if_pos (Nat.lt_succ_self _), fset_same, fset_same]
  have l3 : lay C (newG g x dx wA oA ws) (.fo g.nf) = some (oA, .lst []) := by
    show (if g.nf < g.nf + 1 then some (fset g.oa g.nf oA g.nf, HO.lst ((fset g.O g.nf [] g.nf).map fun x => V.ref x.1)) else none) = _
    rw [if_pos (Nat.lt_succ_self _), fset_same, fset_same]; rfl
  have lt : ∀ i, i ≠ g.nf → (i < g.nf + 1 ↔ i < g.nf) := fun i h => by omega
  refine Go.gen s [.fi g.nf, .fw g.nf, .fo g.nf] (fun y hy => ?_) (fun b o hb _ => sm b o hb) (fun y hy a o h => ?_) (fun i hi y hy => ?_) (fun y hy => sm _ _ (s.tp2 y hy))
  · simp only [List.mem_cons, List.not_mem_nil, or_false, not_or] at hy
    cases y with
    | fl =>
      show some (g.fl, HO.lst (g.fr.map (fV (fset g.fa g.nf x)))) = some (g.fl, HO.lst (g.fr.map (fV g.fa)))
      congr 3
      refine List.map_congr_left fun v hv => ?_
      cases v with
      | none => rfl
      | some k =>
        obtain ⟨f, hf⟩ := List.getElem?_of_mem hv
        show V.ref (fset g.fa g.nf x k) = V.ref (g.fa k)
        rw [fset_ne (Nat.ne_of_lt (fl f k hf))]
    | fi i =>
      have : i ≠ g.nf := fun e => hy.1 (by rw [e])
      show (if i < g.nf + 1 then some (fset g.fa g.nf x i, HO.ins C.CF (fset g.fx g.nf dx i) (fsFr (fset g.wa g.nf wA i) (fset g.oa g.nf oA i) (fset g.U g.nf true i))) else none) = _
      simp only [fset_ne this, lt i this]; rfl
    | fw i =>
      have : i ≠ g.nf := fun e => hy.2.1 (by rw [e])
      show (if i < g.nf + 1 then some (fset g.wa g.nf wA i, HO.lst ((fset g.W g.nf ws i).map V.int)) else none) = _
      simp only [fset_ne this, lt i this]; rfl
    | fo i =>
      have : i ≠ g.nf := fun e => hy.2.2 (by rw [e])
      show (if i < g.nf + 1 then some (fset g.oa g.nf oA i, HO.lst ((fset g.O g.nf [] i).map fun x => V.ref x.1)) else none) = _
      simp only [fset_ne this, lt i this]; rfl
    | _ => rfl
  · simp only [List.mem_cons, List.not_mem_nil, or_false] at hy
    rcases hy with rfl | rfl | rfl
    · rw [l1] at h; cases h
      refine ⟨h1, .inr ⟨nx, fun z hz o' e => ?_⟩⟩
      simp only [List.mem_cons, List.not_mem_nil, or_false] at hz
      rcases hz with rfl | rfl | rfl
      · rfl
      · rw [l2] at e; cases e; exact absurd rfl d1
      · rw [l3] at e; cases e; exact absurd rfl d2
    · rw [l2] at h; cases h
      refine ⟨h2, .inr ⟨nw, fun z hz o' e => ?_⟩⟩
      simp only [List.mem_cons, List.not_mem_nil, or_false] at hz
      rcases hz with rfl | rfl | rfl
      · rw [l1] at e; cases e; exact absurd rfl d1
      · rfl
      · rw [l3] at e; cases e; exact absurd rfl d3
    · rw [l3] at h; cases h
      refine ⟨h3, .inr ⟨no, fun z hz o' e => ?_⟩⟩
      simp only [List.mem_cons, List.not_mem_nil, or_false] at hz
      rcases hz with rfl | rfl | rfl
      · rw [l1] at e; cases e; exact absurd rfl d2
      · rw [l2] at e; cases e; exact absurd rfl d3
      · rfl
  · by_cases e : i = g.nf
    · subst e
      have hy : y ∈ fset g.O g.nf [] g.nf := hy
      rw [fset_same] at hy
      cases hy
    · have hy : y ∈ fset g.O g.nf [] i := hy
      rw [fset_ne e] at hy
      exact sm _ _ (s.tp1 i ((lt i e).mp hi) y hy)
end
/-! ### share, put_frame -/
def shareG (g : G) (f k n j : Nat) (t : Addr) : G := { g with O := fset g.O k (g.O k ++ [(t, (n, j))]), sp := addN g.sp n, T := fset g.T n ((g.T n).set j (some f)) }
def spShare (C : CA) : Sp := fun vs H Q _ => ∃ g f k n j, vs = [.ref C.p, .int ((f : Nat) : Int), .ref (g.sa n), .int ((j : Nat) : Int)] ∧ At C g H ∧ g.fr[f]? = some (some k) ∧ k < g.nf ∧ (g.O k).length ≤ 6400 ∧ n < g.ns ∧ j < (g.T n).length ∧ g.sp.length ≤ 100 ∧
  ∀ t H', Go C g H (shareG g f k n j t) H' → Q .non H'
def spPut (C : CA) : Sp := fun vs H Q _ => ∃ g f k n j, vs = [.ref C.p, .int ((f : Nat) : Int), .ref (g.fa k), .ref (g.sa n), .int ((j : Nat) : Int)] ∧ At C g H ∧ f < g.fr.length ∧ k < g.nf ∧ (g.O k).length ≤ 6400 ∧ n < g.ns ∧ j < (g.T n).length ∧ g.sp.length ≤ 100 ∧
  ∀ t H', Go C g H (shareG (frG g f (some k)) f k n j t) H' → Q .non H'
section
variable {P : Program} {w : World} {K : PySem.W.Frag} {mg : Str → Option Value} {base : Heap} {C : CA} {CE : Addr}
theorem scShare : FnScope ["self", "place", "space", "page"] ["self", "place", "space", "page"] (defScope sShare) := ⟨rfl, rfl, rfl, by decide +kernel, rfl, by decide +kernel, by decide +kernel⟩
theorem ok_share {f : Addr} {fd : FuncData} (F : L2.Fun K "share" "Pager.share" sShare f fd) (T : PTxt K mg C CE) : FnOk P w K mg base L2.CX0 1 f fd ["self", "place", "space", "page"] (spShare C) := by
  refine F.ok scShare (fun vs H Q E h => ?_) (fun cdv A outer s H vs Q E hr h => ?_)
  · obtain ⟨g, f, k, n, j, rfl, _⟩ := h
    rfl
  · obtain ⟨g, f, k, n, j, rfl, st, hf, hk, len, hn, hj, lsp, kk⟩ := h
    refine ⟨_, pss_cons (ps_expr (pe_bm PySem.F.plainAttrs_list PySem.F.slot_list_append PySem.F.type_list_append mt_append (pe_fld (pe_ix ix_list (pe_fld (pv 0) rfl) (pv 1) (fun _ _ => rfl)) rfl) (pa_cons (pe_tup (pa_cons (pe_fld (pv 2) rfl) (pa_cons (pv 3) pa_nil))) pa_nil)))
      (pss_cons (ps_dput (hu_of hr) (pe_fld (pv 0) rfl) (pe_fld (pv 2) rfl) (pv 2) rfl)
      (pss_one (ps_asg (pv 1) (pg_sub (pe_fld (pv 2) rfl) (pv 3) set_list)))), ?_⟩
    refine ⟨_, rfl, C.p, C.CP, g.px, _, _, rfl, st.pg, T.cp, T.p1, rfl, _, rfl, g.fl, _, _, _, rfl, rfl, SqL.of st.fl, atI_nat (frV hf), ?_⟩
    refine ⟨g.fa k, C.CF, g.fx k, _, _, rfl, st.fi hk, T.cf, T.f2, rfl, .inl ⟨rfl, _, SqL.of (st.fo hk)⟩, ?_⟩
    refine ⟨_, rfl, g.sa n, C.CS, g.sx n, _, _, rfl, st.si hn, T.cs, T.s2, rfl, _, rfl, (by show 2 ≤ sizeLine; decide), fun t nt => ?_⟩
    have s1 : Same H (upd H t (keyO (n, j))) := same_upd nt
    have ht : (upd H t (keyO (n, j))) t = some (keyO (n, j)) := upd_same
    have g1 := Go.same st s1
    generalize upd H t (keyO (n, j)) = H1 at s1 ht g1 ⊢
    have a1 := g1.at_
    refine ⟨g.oa k, _, _, rfl, rfl, a1.fo hk, by rw [List.length_map]; exact small (by omega), ?_⟩
    have g2 : Go C g H1 (ON g k (g.O k ++ [(t, (n, j))])) (upd H1 (g.oa k) (.lst ((g.O k).map (fun x => V.ref x.1) ++ [.ref t]))) := by
      refine go_O a1 hk (fun x hx => ?_) SameX.upd (by rw [upd_same]; unfold oV; rw [List.map_append]; rfl)
      rcases List.mem_append.mp hx with h | h
      · exact a1.tp1 k hk x h
      · rw [List.mem_singleton.mp h]; exact ht
    generalize upd H1 (g.oa k) (.lst ((g.O k).map (fun x => V.ref x.1) ++ [.ref t])) = H2 at g2 ⊢
    have a2 := g2.at_
    refine ⟨_, rfl, _, rfl, C.p, C.CP, g.px, _, _, rfl, a2.pg, T.cp, T.p5, rfl, _, rfl, g.sa n, C.CS, g.sx n, _, _, rfl, a2.si (n := n) hn, T.cs, T.s2, rfl, g.pd, _, rfl, DPut.k (k := .inl ((n : Int) + 1)) a2.pd (by unfold spK; rw [List.length_map]; exact small (by show g.sp.length ≤ 10000; omega)), ?_⟩
    have g3 : Go C (ON g k (g.O k ++ [(t, (n, j))])) H2 (spN (ON g k (g.O k ++ [(t, (n, j))])) (addN g.sp n)) (upd H2 g.pd (.dK (putK (spK (ON g k (g.O k ++ [(t, (n, j))]))) (.inl ((n : Int) + 1)) (.ref (g.sa n))))) :=
      go_sp a2 SameX.upd ((upd_same (a := g.pd)).trans (congrArg (fun z => some (HO.dK z)) (spK_put g n)))
    generalize upd H2 g.pd (.dK (putK (spK (ON g k (g.O k ++ [(t, (n, j))]))) (.inl ((n : Int) + 1)) (.ref (g.sa n)))) = H3 at g3 ⊢
    have a3 := g3.at_
    refine ⟨_, rfl, _, rfl, g.sa n, C.CS, g.sx n, _, _, rfl, a3.si (n := n) hn, T.cs, T.s3, rfl, _, rfl, g.ta n, _, _, j, rfl, rfl, a3.st (n := n) hn, ixN_nat (by rw [List.length_map]; exact hj), ?_⟩
    have g4 : Go C (spN (ON g k (g.O k ++ [(t, (n, j))])) (addN g.sp n)) H3 (TN (spN (ON g k (g.O k ++ [(t, (n, j))])) (addN g.sp n)) n ((g.T n).set j (some f))) (upd H3 (g.ta n) (.lst (((g.T n).map tV).set j (.int (f : Int))))) :=
      go_T a3 (n := n) hn SameX.upd ((upd_same (a := g.ta n)).trans (by rw [List.map_set]; rfl))
    exact kk t _ (((g1.trans g2).trans g3).trans g4)
theorem scPut : FnScope ["self", "place", "frame", "space", "page"] ["self", "place", "frame", "space", "page"] (defScope sPut) := ⟨rfl, rfl, rfl, by decide +kernel, rfl, by decide +kernel, by decide +kernel⟩
theorem ok_put {f fS : Addr} {fd fdS : FuncData} (F : L2.Fun K "put_frame" "Pager.put_frame" sPut f fd) (T : PTxt K mg C CE)
    (FS : FnOk P w K mg base L2.CX0 1 fS fdS ["self", "place", "space", "page"] (spShare C)) (bS : Binds K fdS ["self", "place", "space", "page"] []) (mS : Meth K C.CP "share" fS) : FnOk P w K mg base L2.CX0 2 f fd ["self", "place", "frame", "space", "page"] (spPut C) := by
  refine F.ok scPut (fun vs H Q E h => ?_) (fun cdv A outer s H vs Q E hr h => ?_)
  · obtain ⟨g, f, k, n, j, rfl, _⟩ := h
    rfl
  · obtain ⟨g, f, k, n, j, rfl, st, hf, hk, len, hn, hj, lsp, kk⟩ := h
    refine ⟨_, pss_cons (ps_asg (pv 2) (pg_sub (pe_fld (pv 0) rfl) (pv 1) set_list)) (pss_one (ps_expr (pe_meth (pv 0) T.cp mS FS hr bS .nil pass0 (pa_cons (pv 1) (pa_cons (pv 3) (pa_cons (pv 4) pa_nil)))))), ?_⟩
    refine ⟨_, rfl, _, rfl, C.p, C.CP, g.px, _, _, rfl, st.pg, T.cp, T.p1, rfl, _, rfl, g.fl, _, _, f, rfl, rfl, st.fl, ixN_nat (by rw [List.length_map]; exact hf), ?_⟩
    have g1 : Go C g H (frG g f (some k)) (upd H g.fl (.lst ((g.fr.map (fV g.fa)).set f (.ref (g.fa k))))) := go_fr st SameX.upd ((upd_same (a := g.fl)).trans (by rw [map_set_fV]; rfl))
    have ff : (frG g f (some k)).fr[f]? = some (some k) := by
      show (g.fr.set f (some k))[f]? = _
      rw [List.getElem?_set_self hf]
    generalize upd H g.fl (.lst ((g.fr.map (fV g.fa)).set f (.ref (g.fa k)))) = H1 at g1 ⊢
    have a1 := g1.at_
    refine ⟨_, rfl, C.p, g.px, _, rfl, a1.pg, rfl, _, rfl, _, rfl, _, rfl, frG g f (some k), f, k, n, j, rfl, a1, ff, hk, len, hn, hj, lsp, fun t H' go => kk t H' (g1.trans go)⟩
end
end K07
namespace K07
open PySem L2 HK
/-! ### the hand -/
def rnd (g : G) : List Nat := (List.range g.fr.length).map fun i => (g.hand + i) % g.fr.length
abbrev nV (l : List Nat) : List V := l.map fun i => V.int ((i : Nat) : Int)
def spRnd (C : CA) : Sp := fun vs H Q _ => ∃ g, vs = [.ref C.p] ∧ At C g H ∧ 0 < g.fr.length ∧ g.fr.length ≤ 5 ∧ ∀ r H', Same H H' → H r = none → H' r = some (.lst (nV (rnd g))) → Q (.ref r) H'
def Full (g : G) : Prop := ∀ f, f < g.fr.length → ∃ k, g.fr[f]? = some (some k) ∧ k < g.nf
def spNtg (C : CA) : Sp := fun vs H Q _ => ∃ g, vs = [.ref C.p] ∧ At C g H ∧ g.hand < g.fr.length ∧ g.fr.length ≤ 5 ∧ Full g ∧ ∀ (f : Nat) H', f < g.fr.length → Same H H' → Q (.int (f : Int)) H'
def handG (g : G) (U : Nat → Bool) (h : Nat) : G := { g with U := U, hand := h }
def spMov (C : CA) : Sp := fun vs H Q _ => ∃ g f, vs = [.ref C.p, .int ((f : Nat) : Int)] ∧ At C g H ∧ f < g.fr.length ∧ g.hand < g.fr.length ∧ g.fr.length ≤ 5 ∧ Full g ∧ ∀ U H', Go C g H (handG g U ((f + 1) % g.fr.length)) H' → Q .non H'
def rLen (K : PySem.W.Frag) : List V → Hp → VK → Prop := fun xs H Q => ∃ p ys, xs = [.ref p] ∧ (SqL K H p ys ∨ SqT K H p ys) ∧ Q (.int ys.length) H
def teRnd (K : PySem.W.Frag) : TE := tOp (rI (fun _ j => j ≠ 0) fun i j => .int (i.fmod j)) (tOp (rI0 fun i j => .int (i + j)) (tFld K (tVar 0) "hand") (tVar 1)) (tCB (rLen K) (tCons (tFld K (tVar 0) "frames") tNil))
theorem rnd_len (g : G) : (rnd g).length = g.fr.length := by unfold rnd; simp
theorem rnd_lt {g : G} (h : 0 < g.fr.length) : ∀ x ∈ rnd g, x < g.fr.length := fun x hx => by
  obtain ⟨i, _, rfl⟩ := List.mem_map.mp hx
  exact Nat.mod_lt _ h
theorem rnd_all {g : G} {f : Nat} (h : f < g.fr.length) (hh : g.hand < g.fr.length) : f ∈ rnd g := by
  refine List.mem_map.mpr ⟨if g.hand ≤ f then f - g.hand else f + g.fr.length - g.hand, List.mem_range.mpr (by split <;> omega), ?_⟩
  split
  · rw [show g.hand + (f - g.hand) = f by omega]; exact Nat.mod_eq_of_lt h
  · rw [show g.hand + (f + g.fr.length - g.hand) = f + g.fr.length by omega, Nat.add_mod_right]; exact Nat.mod_eq_of_lt h
theorem first_at {x : Nat} : ∀ {l : List Nat}, x ∈ l → ∃ j : Nat, l[j]? = some x ∧ j ≤ l.length ∧ ∀ m y : Nat, m < j → l[m]? = some y → y ≠ x
  | a :: r, h => by
    by_cases e : a = x
    · exact ⟨0, by rw [e]; rfl, Nat.zero_le _, fun m y hm => absurd hm (Nat.not_lt_zero m)⟩
    · have hr : x ∈ r := by
        rcases List.mem_cons.mp h with z | z
        · exact absurd z.symm e
        · exact z
      obtain ⟨j, h1, h2, h3⟩ := first_at hr
      refine ⟨j + 1, by simpa using h1, by simp; omega, fun m y hm hy => ?_⟩
      cases m with
      | zero =>
        have : a = y := by simpa using hy
        rw [← this]; exact e
      | succ m => exact h3 m y (by omega) (by simpa using hy)
theorem cut_nV (l : List Nat) (j : Nat) (h : j ≤ l.length) : cutV (nV l) none (some ((j : Nat) : Int)) = nV (l.take j) := by
  unfold cutV nV
  rw [HT.sIx_none, HT.sIx_nat, List.drop_zero, List.length_map, Nat.sub_zero, Nat.min_eq_left h, List.map_take]
theorem nV_flat (l : List Nat) : (nV l).all flatV = true := by simp [nV, List.all_map, flatV]
theorem fmod_nat (a b : Nat) (h : 0 < b) : Int.fmod (a : Int) (b : Int) = ((a % b : Nat) : Int) := by
  rw [Int.fmod_eq_emod_of_nonneg _ (by omega)]; rfl
section
variable {P : Program} {w : World} {K : PySem.W.Frag} {mg : Str → Option Value} {base : Heap} {C : CA} {CE : Addr}
theorem scRnd : FnScope ["self", "step"] ["self"] (defScope sRnd) := ⟨rfl, rfl, rfl, by decide +kernel, rfl, by decide +kernel, by decide +kernel⟩
theorem ok_rnd {f : Addr} {fd : FuncData} (F : L2.Fun K "round_from_hand" "Pager.round_from_hand" sRnd f fd) (T : PTxt K mg C CE) : FnOk P w K mg base L2.CX0 1 f fd ["self"] (spRnd C) := by
  refine F.ok scRnd (fun vs H Q E h => ?_) (fun cdv A outer s H vs Q E hr h => ?_)
  · obtain ⟨g, rfl, _⟩ := h
    rfl
  · obtain ⟨g, rfl, st, h0, h5, kk⟩ := h
    refine ⟨_, pss_one (ps_ret (pe_lc (own := [("step", 1)]) (g := gName 1) (te := teRnd K) (by rfl) scRnd.nd (pi_range1 (by rfl) T.range (pa_cons (pe_callB call_len_seq (by rfl) T.len PySem.boot_len (pa_cons (pe_fld (pv 0) rfl) pa_nil)) pa_nil)) (blkOk_by (N := ["self", "step"]) (sc := defScope sRnd) (by decide +kernel))
        (fun _ _ _ _ _ => pg_name (i := 1) scRnd.nd rfl (Or.inl rfl)) (fun _ _ _ _ _ => pts_nil)
        (fun _ _ _ _ _ => pe_op op_modN (pe_op op_add (pe_fld (pv 0) rfl) (pv 1)) (pe_callB call_len_seq (by rfl) T.len PySem.boot_len (pa_cons (pe_fld (pv 0) rfl) pa_nil))))), ?_⟩
    refine ⟨_, rfl, C.p, C.CP, g.px, _, _, rfl, st.pg, T.cp, T.p1, rfl, g.fl, _, rfl, .inl (SqL.of st.fl), _, rfl, by rw [List.length_map]; omega, by rw [List.length_map]; omega, fun D nD => ?_⟩
    have en : (((g.fr.map (fV g.fa)).length : Nat) : Int).toNat = g.fr.length := by simp
    refine lc_range (lo := 0) (n := (((g.fr.map (fV g.fa)).length : Nat) : Int).toNat) (fun i H' => Same H H' ∧ H' D = some (.lst (nV ((rnd g).take i)))) ⟨same_upd nD, upd_same⟩ (fun i H' hi q => ?_) (fun H' q => ?_)
    · obtain ⟨sm, hD⟩ := q
      rw [en] at hi
      have s1 := st.same sm
      refine ⟨rfl, ?_⟩
      refine ⟨_, rfl, C.p, C.CP, g.px, _, _, rfl, s1.pg, T.cp, T.p3, rfl, _, rfl, _, _, rfl, rfl, ?_⟩
      refine ⟨_, rfl, C.p, C.CP, g.px, _, _, rfl, s1.pg, T.cp, T.p1, rfl, g.fl, _, rfl, .inl (SqL.of s1.fl), _, _, rfl, rfl, ?_, ?_⟩
      · rw [List.length_map]; omega
      refine ⟨_, hD, ?_, fun b o h => by rw [upd_ne (ne_of_none h nD)]; exact sm b o h, ?_⟩
      · unfold nV
        rw [List.length_map, List.length_take, rnd_len]; exact small (by omega)
      · rw [upd_same]
        have e1 : (rnd g)[i]? = some ((g.hand + i) % g.fr.length) := by
          unfold rnd
          rw [List.getElem?_map, List.getElem?_range hi]; rfl
        have e2 : Int.fmod ((g.hand : Int) + (0 + (i : Int))) (((g.fr.map (fV g.fa)).length : Nat) : Int) = (((g.hand + i) % g.fr.length : Nat) : Int) := by
          rw [List.length_map, Int.zero_add]
          exact fmod_nat (g.hand + i) _ h0
        dsimp only
        rw [e2, List.take_add_one, e1]
        unfold nV
        rw [List.map_append]; rfl
    · obtain ⟨sm, hD⟩ := q
      rw [en, ← rnd_len g, List.take_length] at hD
      exact kk D H' sm nD hD
theorem scNtg : FnScope ["self", "place"] ["self"] (defScope sNtg) := ⟨rfl, rfl, rfl, by decide +kernel, rfl, by decide +kernel, by decide +kernel⟩
theorem ok_ntg {f fR : Addr} {fd fdR : FuncData} (F : L2.Fun K "next_to_go" "Pager.next_to_go" sNtg f fd) (T : PTxt K mg C CE)
    (FR : FnOk P w K mg base L2.CX0 1 fR fdR ["self"] (spRnd C)) (bR : Binds K fdR ["self"] []) (mR : Meth K C.CP "round_from_hand" fR) : FnOk P w K mg base L2.CX0 2 f fd ["self"] (spNtg C) := by
  refine F.ok scNtg (fun vs H Q E h => ?_) (fun cdv A outer s H vs Q E hr h => ?_)
  · obtain ⟨g, rfl, _⟩ := h
    rfl
  · obtain ⟨g, rfl, st, hh, h5, full, kk⟩ := h
    refine ⟨_, pss_cons (ps_for PassesOwn.never rfl (pi_list (pe_meth0 (pv 0) T.cp mR FR hr bR .nil pass0)) (pg_name (i := 1) scNtg.nd rfl (Or.inl rfl))
        (pss_one (ps_if (pt_not (pt_val (pe_fld (pe_ix ix_list (pe_fld (pv 0) rfl) (pv 1) (fun _ _ => rfl)) rfl))) (pss_one (ps_ret (pv 1))) pss_nil)))
      (pss_one (ps_ret (pe_fld (pv 0) rfl))), ?_⟩
    have h0 : 0 < g.fr.length := by omega
    refine ⟨_, rfl, C.p, g.px, _, rfl, st.pg, rfl, g, rfl, st, h0, h5, fun r H1 s1 nr hr1 => ⟨r, rfl, ⟨_, SqL.of hr1⟩, ?_⟩⟩
    have a1 := st.same s1
    refine for_list (K := K) (a := r) (xs := nV (rnd g)) (fun i σ H' => H' = H1 ∧ ∃ u, σ = [some (.ref C.p), u]) ⟨rfl, none, rfl⟩ (fun i σ H' hi q => by rw [q.1]; exact SqL.of hr1) (fun i z σ H' hx q => ?_) (fun σ H' q => ?_)
    · obtain ⟨rfl, u, rfl⟩ := q
      rw [List.getElem?_map] at hx
      obtain ⟨o, ho, rfl⟩ := Option.map_eq_some_iff.mp hx
      have lo := rnd_lt h0 o (List.mem_of_getElem? ho)
      obtain ⟨k, hk, hkn⟩ := full o lo
      refine ⟨_, rfl, C.p, C.CP, g.px, _, _, rfl, a1.pg, T.cp, T.p1, rfl, _, rfl, g.fl, _, _, _, rfl, rfl, SqL.of a1.fl, atI_nat (frV hk), ?_⟩
      refine ⟨g.fa k, C.CF, g.fx k, _, _, rfl, a1.fi hkn, T.cf, T.f3, rfl, _, rfl, ?_⟩
      refine ite2 (fun c => ?_) (fun c => ?_)
      · exact ⟨_, rfl, kk o H' lo s1⟩
      · exact ⟨rfl, _, rfl⟩
    · obtain ⟨rfl, u, rfl⟩ := q
      exact ⟨_, rfl, C.p, C.CP, g.px, _, _, rfl, a1.pg, T.cp, T.p3, rfl, kk g.hand H' hh s1⟩
theorem scMov : FnScope ["self", "place", "passed", "other"] ["self", "place"] (defScope sMov) := ⟨rfl, rfl, rfl, by decide +kernel, rfl, by decide +kernel, by decide +kernel⟩
theorem ok_mov {f fR : Addr} {fd fdR : FuncData} (F : L2.Fun K "move_hand" "Pager.move_hand" sMov f fd) (T : PTxt K mg C CE)
    (FR : FnOk P w K mg base L2.CX0 1 fR fdR ["self"] (spRnd C)) (bR : Binds K fdR ["self"] []) (mR : Meth K C.CP "round_from_hand" fR) : FnOk P w K mg base L2.CX0 2 f fd ["self", "place"] (spMov C) := by
  refine F.ok scMov (fun vs H Q E h => ?_) (fun cdv A outer s H vs Q E hr h => ?_)
  · obtain ⟨g, f, rfl, _⟩ := h
    rfl
  · obtain ⟨g, f, rfl, st, hf, hh, h5, full, kk⟩ := h
    refine ⟨_, pss_cons (ps_set (i := 2) scMov.nd rfl (Or.inl rfl) (pe_meth0 (pv 0) T.cp mR FR hr bR .nil pass0))
      (pss_cons (ps_if (pt_not (pt_val (pe_fld (pe_ix ix_list (pe_fld (pv 0) rfl) (pv 1) (fun _ _ => rfl)) rfl)))
        (pss_one (ps_set (i := 2) scMov.nd rfl (Or.inl rfl) (pe_slice sl_list (pv 2) po_none (po_some (pe_bm PySem.F.plainAttrs_list PySem.F.slot_list_index PySem.F.type_list_index mt_index (pv 2) (pa_cons (pv 1) pa_nil)))))) pss_nil)
      (pss_cons (ps_for PassesOwn.never rfl (pi_list (pv 2)) (pg_name (i := 3) scMov.nd rfl (Or.inl rfl)) (pss_one (ps_fld (pe_ix ix_list (pe_fld (pv 0) rfl) (pv 3) (fun _ _ => rfl)) pe_bl rfl)))
      (pss_one (ps_fld (pv 0) (pe_op op_modN (pe_op op_add (pv 1) pe_int) (pe_callB call_len_seq (by rfl) T.len PySem.boot_len (pa_cons (pe_fld (pv 0) rfl) pa_nil))) rfl)))), ?_⟩
    have h0 : 0 < g.fr.length := by omega
    refine ⟨_, rfl, C.p, g.px, _, rfl, st.pg, rfl, g, rfl, st, h0, h5, fun r H1 s1 nr hr1 => ?_⟩
    have a1 := st.same s1
    obtain ⟨k, hk, hkn⟩ := full f hf
    refine ⟨_, rfl, C.p, C.CP, g.px, _, _, rfl, a1.pg, T.cp, T.p1, rfl, _, rfl, g.fl, _, _, _, rfl, rfl, SqL.of a1.fl, atI_nat (frV hk), ?_⟩
    refine ⟨g.fa k, C.CF, g.fx k, _, _, rfl, a1.fi hkn, T.cf, T.f3, rfl, _, rfl, ite2 (fun c => ?A) (fun c => ?B)⟩
    case' A =>
      obtain ⟨jj, j1, j2, j3⟩ := first_at (rnd_all hf hh)
      refine ⟨_, rfl, _, rfl, .inl ⟨rfl, _, SqL.of hr1⟩, _, rfl, r, nV (rnd g), .int (f : Int), jj, .int (f : Int), rfl, rfl, SqL.of hr1, rfl, nV_flat _, by rw [List.getElem?_map, j1]; rfl, by show ((f : Int) == f) = true; simp, fun m z' hm hz => ?_, ?_⟩
      · rw [List.getElem?_map] at hz
        obtain ⟨y, hy, rfl⟩ := Option.map_eq_some_iff.mp hz
        have := j3 m y hm hy
        show ((y : Int) == f) = false
        rw [beq_eq_false_iff_ne]; omega
      refine ⟨_, rfl, r, _, rfl, SqL.of hr1, fun r2 n2 => ?_⟩
      rw [cut_nV _ _ j2]
      have s2 := s1.trans (same_upd (o := .lst (nV ((rnd g).take jj))) n2)
      have n3 := s1.free n2
      have h3 : (upd H1 r2 (.lst (nV ((rnd g).take jj)))) r2 = some (.lst (nV ((rnd g).take jj))) := upd_same
      have l3 : ∀ x ∈ (rnd g).take jj, x < g.fr.length := fun x hx => rnd_lt h0 x (List.mem_of_mem_take hx)
      generalize upd H1 r2 (.lst (nV ((rnd g).take jj))) = H3 at s2 h3 ⊢
      generalize (rnd g).take jj = ll at h3 l3
      clear hr1 s1 nr n2 a1 j1 j2 j3
    case' B =>
      have s2 := s1
      have n3 := nr
      have h3 := hr1
      have l3 := rnd_lt h0
      clear hr1 s1 nr a1
      generalize rnd g = ll at h3 l3
    all_goals
      have a3 := st.same s2
      have nO : ∀ {b : Addr}, H b = none → ¬ Own C g b := fun {b} h ⟨x, o, e⟩ => by rw [st.get x b o e] at h; cases h
      refine ⟨_, rfl, _, rfl, ⟨_, SqL.of h3⟩, ?_⟩
      refine for_list (K := K) (xs := nV ll) (fun i σ H' => ∃ U, Go C g H (handG g U g.hand) H' ∧ (∃ u rr, σ = [some (.ref C.p), some (.int ((f : Nat) : Int)), some (.ref rr), u]) ∧ H' _ = some (.lst (nV ll))) ⟨g.U, (show Go C g H g _ from Go.same st s2), ⟨none, _, rfl⟩, h3⟩ (fun i σ H' hi q => by obtain ⟨U, _, _, h⟩ := q; exact SqL.of h) (fun i z σ H' hx q => ?_) (fun σ H' q => ?_)
      · obtain ⟨U, go, ⟨u, rr, rfl⟩, hl⟩ := q
        rw [List.getElem?_map] at hx
        obtain ⟨o, ho, rfl⟩ := Option.map_eq_some_iff.mp hx
        have lo := l3 o (List.mem_of_getElem? ho)
        obtain ⟨k', hk', hkn'⟩ := full o lo
        have a4 := go.at_
        refine ⟨_, rfl, C.p, C.CP, g.px, _, _, rfl, a4.pg, T.cp, T.p1, rfl, _, rfl, g.fl, _, _, _, rfl, rfl, SqL.of a4.fl, atI_nat (frV (g := g) hk'), ?_⟩
        refine ⟨g.fa k', C.CF, g.fx k', _, rfl, a4.fi (i := k') hkn', T.cf, T.f3, (by show 3 < 1000; decide), ?_⟩
        have g5 : Go C (handG g U g.hand) H' (handG g (fset U k' false) g.hand) (upd H' (g.fa k') (.ins C.CF (g.fx k') (putF "used" (.bl false) (fsF (handG g U g.hand) k')))) :=
          go_U a4 (k := k') hkn' SameX.upd ((upd_same (a := g.fa k')).trans rfl)
        refine ⟨fset U k' false, go.trans g5, ⟨_, rr, rfl⟩, ?_⟩
        exact (upd_ne (a := g.fa k') (ne_of hl (a4.fi (i := k') hkn') (by intro z; cases z))).trans hl
      · obtain ⟨U, go, ⟨u, rr, rfl⟩, hl⟩ := q
        have a4 := go.at_
        refine ⟨_, rfl, _, _, rfl, rfl, _, rfl, C.p, C.CP, g.px, _, _, rfl, a4.pg, T.cp, T.p1, rfl, g.fl, _, rfl, .inl (SqL.of a4.fl), _, _, rfl, rfl, ?_, ?_⟩
        · show ((((handG g U g.hand).fr.map (fV g.fa)).length : Nat) : Int) ≠ 0
          rw [List.length_map]
          show (g.fr.length : Int) ≠ 0
          omega
        refine ⟨_, rfl, C.p, C.CP, g.px, _, rfl, a4.pg, T.cp, T.p3, (by show 9 < 1000; decide), ?_⟩
        dsimp only
        have e : Int.fmod ((f : Int) + 1) ((((handG g U g.hand).fr.map (fV g.fa)).length : Nat) : Int) = (((f + 1) % g.fr.length : Nat) : Int) := by
          rw [List.length_map]
          exact fmod_nat (f + 1) _ h0
        refine kk U _ (go.trans (go_pg (g' := handG g U ((f + 1) % g.fr.length)) a4 SameX.upd upd_same ?_ rfl))
        show fsP (handG g U ((f + 1) % g.fr.length)) = putF "hand" (.int (Int.fmod ((f : Int) + 1) ((((handG g U g.hand).fr.map (fV g.fa)).length : Nat) : Int))) (fsP (handG g U g.hand))
        rw [e]
        rfl
end
end K07
namespace K07
open PySem L2 HK
abbrev Sw := List (Key2 × Addr × List Int)
theorem keyL_inj {a b : Key2} : keyL a = keyL b ↔ a = b := by
  obtain ⟨a1, a2⟩ := a
  obtain ⟨b1, b2⟩ := b
  simp only [keyL, List.cons.injEq, Sum.inl.injEq, and_true, Prod.mk.injEq]
  omega
theorem swK_val (k : Key2) : ∀ sw : Sw, valV (swK sw) (keyL k) = (sw.find? fun x => decide (x.1 = k)).map fun x => V.ref x.2.1
  | [] => rfl
  | x :: r => by
    by_cases e : x.1 = k
    · show valV ((keyL x.1, V.ref x.2.1) :: swK r) (keyL k) = _
      rw [valV_pos (by rw [e]), List.find?_cons_of_pos (by simp [e])]; rfl
    · show valV ((keyL x.1, V.ref x.2.1) :: swK r) (keyL k) = _
      rw [valV_neg (fun z => e (keyL_inj.mp z)), List.find?_cons_of_neg (by simp [e])]
      exact swK_val k r
theorem swK_none {k : Key2} {sw : Sw} (h : k ∉ sw.map (·.1)) : valV (swK sw) (keyL k) = none := by
  rw [swK_val, List.find?_eq_none.mpr (fun x hx => ?_)]
  · rfl
  · simp only [decide_eq_true_eq]
    exact fun e => h (by rw [← e]; exact List.mem_map_of_mem hx)
theorem swK_some {k : Key2} {sw : Sw} (h : k ∈ sw.map (·.1)) : ∃ x ∈ sw, x.1 = k ∧ valV (swK sw) (keyL k) = some (.ref x.2.1) := by
  rw [swK_val]
  cases e : sw.find? fun x => decide (x.1 = k) with
  | some x => exact ⟨x, List.mem_of_find?_eq_some e, by have := List.find?_some e; simpa using this, rfl⟩
  | none =>
    obtain ⟨x, hx, rfl⟩ := List.mem_map.mp h
    have := List.find?_eq_none.mp e x hx
    simp at this
theorem swK_isSome {k : Key2} {sw : Sw} : (valV (swK sw) (keyL k)).isSome = decide (k ∈ sw.map (·.1)) := by
  by_cases h : k ∈ sw.map (·.1)
  · obtain ⟨x, _, _, e⟩ := swK_some h
    rw [e, decide_eq_true h]; rfl
  · rw [swK_none h, decide_eq_false h]; rfl
def swD (sw : Sw) (k : Key2) : Sw := sw.filter fun x => decide (x.1 ≠ k)
theorem swK_drop (k : Key2) (sw : Sw) : dropK (swK sw) (keyL k) = swK (swD sw k) := by
  unfold dropK swK swD
  rw [List.filter_map]
  congr 1
  refine List.filter_congr fun z _ => ?_
  show decide (keyL z.1 ≠ keyL k) = decide (z.1 ≠ k)
  by_cases e : z.1 = k
  · simp [e]
  · have : keyL z.1 ≠ keyL k := fun h => e (keyL_inj.mp h)
    simp [e, this]
theorem swK_put {k : Key2} {sw : Sw} (h : k ∉ sw.map (·.1)) (t : Addr) (ws : List Int) : putK (swK sw) (keyL k) (.ref t) = swK (sw ++ [(k, t, ws)]) := by
  rw [putK_new _ (swK_none h)]
  unfold swK
  rw [List.map_append]; rfl
theorem spK_val {g : G} {n : Nat} (h : n ∈ g.sp) : valV (spK g) (.inl ((n : Int) + 1)) = some (.ref (g.sa n)) := by
  unfold spK
  generalize g.sp = l at h
  induction l with
  | nil => cases h
  | cons m r ih =>
    by_cases e : m = n
    · rw [List.map_cons, valV_pos (by rw [e]), e]
    · rw [List.map_cons, valV_neg (fun z => e (by injection z with z; omega))]
      exact ih (by
        rcases List.mem_cons.mp h with z | z
        · exact absurd z.symm e
        · exact z)
/-! ### pages put out of a frame -/
def evT (ks : List Key2) (T : Nat → List (Option Nat)) : Nat → List (Option Nat) := fun n => (T n).mapIdx fun j e => if (n, j) ∈ ks then none else e
theorem evT_len (ks : List Key2) (T : Nat → List (Option Nat)) (n : Nat) : (evT ks T n).length = (T n).length := by unfold evT; simp
theorem evT_get (ks : List Key2) (T : Nat → List (Option Nat)) (n j : Nat) : (evT ks T n)[j]? = (T n)[j]?.map fun e => if (n, j) ∈ ks then none else e := by
  unfold evT
  rw [List.getElem?_mapIdx]
theorem evT_nil (T : Nat → List (Option Nat)) : evT [] T = T := by
  funext n
  refine List.ext_getElem? fun j => ?_
  rw [evT_get]
  simp
theorem evT_snoc (ks : List Key2) (T : Nat → List (Option Nat)) (n j : Nat) : fset (evT ks T) n ((evT ks T n).set j none) = evT (ks ++ [(n, j)]) T := by
  funext m
  refine List.ext_getElem? fun i => ?_
  by_cases e : m = n
  · subst e
    rw [fset_same, evT_get, List.getElem?_set, evT_get, evT_len]
    by_cases h : j = i
    · subst h
      rw [if_pos rfl]
      cases q : (T m)[j]? with
      | none =>
        have := List.getElem?_eq_none_iff.mp q
        rw [if_neg (by omega)]; rfl
      | some v =>
        have := (List.getElem?_eq_some_iff.mp q).1
        rw [if_pos this]
        simp
    · rw [if_neg h]
      cases q : (T m)[i]? with
      | none => rfl
      | some v => simp only [Option.map_some, List.mem_append, List.mem_singleton, Prod.mk.injEq, true_and, Ne.symm h, or_false]
  · rw [fset_ne e, evT_get, evT_get]
    cases q : (T m)[i]? with
    | none => rfl
    | some v => simp only [Option.map_some, List.mem_append, List.mem_singleton, Prod.mk.injEq, e, false_and, or_false]
def evG (g : G) (f k : Nat) (added : Sw) : G := { g with T := evT ((g.O k).map (·.2)) g.T, sw := g.sw ++ added, fr := g.fr.set f none, ev := g.ev + 1 }
def spEvi (C : CA) : Sp := fun vs H Q _ => ∃ (g : G) (f k : Nat) (r : Addr) (Ow : List (Addr × Key2)), vs = [.ref C.p, .int ((f : Nat) : Int), .ref r] ∧ At C g H ∧ g.fr[f]? = some (some k) ∧ k < g.nf ∧ H r = some (.lst (oV Ow)) ∧ ¬ Own C g r ∧ (∀ x ∈ Ow, H x.1 = some (keyO x.2)) ∧
  (∀ x ∈ g.O k, x.2.1 ∈ g.sp ∧ x.2.1 < g.ns ∧ x.2.2 < (g.T x.2.1).length) ∧ (Ow.map (·.2)).Nodup ∧ (∀ x ∈ Ow, x.2 ∉ g.sw.map (·.1)) ∧ g.sw.length + Ow.length ≤ 20000 ∧
  ∀ (added : Sw) H', added.map (·.1) = Ow.map (·.2) → (∀ x ∈ added, x.2.2 = g.W k) → Go C g H (evG g f k added) H' → Q .non H'
section
variable {P : Program} {w : World} {K : PySem.W.Frag} {mg : Str → Option Value} {base : Heap} {C : CA} {CE : Addr}
theorem scEvi : FnScope ["self", "place", "owners", "frame", "number", "page", "owner"] ["self", "place", "owners"] (defScope sEvi) := ⟨rfl, rfl, rfl, by decide +kernel, rfl, by decide +kernel, by decide +kernel⟩
theorem ok_evi {f : Addr} {fd : FuncData} (F : L2.Fun K "evict" "Pager.evict" sEvi f fd) (T : PTxt K mg C CE) : FnOk P w K mg base L2.CX0 1 f fd ["self", "place", "owners"] (spEvi C) := by
  refine F.ok scEvi (fun vs H Q E h => ?_) (fun cdv A outer s H vs Q E hr h => ?_)
  · obtain ⟨g, f, k, r, Ow, rfl, _⟩ := h
    rfl
  · obtain ⟨g, f, k, r, Ow, rfl, st, hf, hk, hr1, nO, hOw, hO, nd, nsw, lsw, kk⟩ := h
    refine ⟨_, pss_cons (ps_set (i := 3) scEvi.nd rfl (Or.inl rfl) (pe_ix ix_list (pe_fld (pv 0) rfl) (pv 1) (fun _ _ => rfl)))
      (pss_cons (ps_for PassesOwn.never rfl (pi_list (pe_fld (pv 3) rfl)) (pg_tup rfl (pgs_cons (pg_name (i := 4) scEvi.nd rfl (Or.inl rfl)) (pgs_cons (pg_name (i := 5) scEvi.nd rfl (Or.inl rfl)) pgs_nil)))
        (pss_one (ps_asg pe_non (pg_sub (pe_fld (pe_dget (hu_of hr) (pe_fld (pv 0) rfl) (pv 4) (fun _ _ => rfl)) rfl) (pv 5) set_list))))
      (pss_cons (ps_for PassesOwn.never rfl (pi_list (pv 2)) (pg_name (i := 6) scEvi.nd rfl (Or.inl rfl))
        (pss_one (ps_dput (hu_of hr) (pe_fld (pv 0) rfl) (pv 6) (pe_callTy call_tuple_of (by rfl) T.tup PyProof.Rows.Boot.«tuple» (pa_cons (pe_fld (pv 3) rfl) pa_nil)) rfl)))
      (pss_cons (ps_asg pe_non (pg_sub (pe_fld (pv 0) rfl) (pv 1) set_list))
      (pss_one (ps_fld (pv 0) (pe_op op_add (pe_fld (pv 0) rfl) pe_int) rfl))))), ?_⟩
    refine ⟨_, rfl, C.p, C.CP, g.px, _, _, rfl, st.pg, T.cp, T.p1, rfl, _, rfl, g.fl, _, _, _, rfl, rfl, SqL.of st.fl, atI_nat (frV hf), ?_⟩
    refine ⟨_, rfl, g.fa k, C.CF, g.fx k, _, _, rfl, st.fi hk, T.cf, T.f2, rfl, g.oa k, rfl, ⟨_, SqL.of (st.fo hk)⟩, ?_⟩
    refine for_list (K := K) (a := g.oa k) (xs := oV (g.O k)) (fun i σ H' => Go C g H { g with T := evT (((g.O k).take i).map (·.2)) g.T } H' ∧ ∃ u1 u2 u3, σ = [some (.ref C.p), some (.int ((f : Nat) : Int)), some (.ref r), some (.ref (g.fa k)), u1, u2, u3])
      ⟨by show Go C g H { g with T := evT [] g.T } H; rw [evT_nil]; exact Go.refl st, none, none, none, rfl⟩ (fun i σ H' hi q => SqL.of (q.1.at_.fo (i := k) hk)) (fun i z σ H' hx q => ?_) (fun σ H' q => ?_)
    · obtain ⟨go, u1, u2, u3, rfl⟩ := q
      unfold oV at hx
      rw [List.getElem?_map] at hx
      obtain ⟨x, hx', rfl⟩ := Option.map_eq_some_iff.mp hx
      have hm := List.mem_of_getElem? hx'
      obtain ⟨m1, m2, m3⟩ := hO x hm
      have a1 := go.at_
      have ht := a1.tp1 k hk x hm
      refine ⟨x.1, _, rfl, SqT.of ht, rfl, _, _, rfl, _, _, rfl, rfl, ?_⟩
      refine ⟨_, rfl, C.p, C.CP, g.px, _, _, rfl, a1.pg, T.cp, T.p5, rfl, _, rfl, g.pd, .ref (g.sa x.2.1), rfl, ?_, ?_⟩
      · rw [← spK_val (g := g) m1]
        exact DGet.k (k := .inl ((x.2.1 : Int) + 1)) a1.pd
      refine ⟨g.sa x.2.1, C.CS, g.sx x.2.1, _, _, rfl, a1.si (n := x.2.1) m2, T.cs, T.s3, rfl, _, rfl, g.ta x.2.1, _, _, x.2.2, rfl, rfl, a1.st (n := x.2.1) m2, ixN_nat (by rw [List.length_map, evT_len]; exact m3), ?_⟩
      have g2 : Go C { g with T := evT (((g.O k).take i).map (·.2)) g.T } H' (TN { g with T := evT (((g.O k).take i).map (·.2)) g.T } x.2.1 ((evT (((g.O k).take i).map (·.2)) g.T x.2.1).set x.2.2 none)) (upd H' (g.ta x.2.1) (.lst (((evT (((g.O k).take i).map (·.2)) g.T x.2.1).map tV).set x.2.2 .non))) :=
        go_T a1 (n := x.2.1) m2 SameX.upd ((upd_same (a := g.ta x.2.1)).trans (by rw [List.map_set]; rfl))
      refine ⟨?_, _, _, _, rfl⟩
      have e : TN { g with T := evT (((g.O k).take i).map (·.2)) g.T } x.2.1 ((evT (((g.O k).take i).map (·.2)) g.T x.2.1).set x.2.2 none) = { g with T := evT (((g.O k).take (i + 1)).map (·.2)) g.T } := by
        unfold TN
        rw [List.take_add_one, hx', List.map_append]
        exact congrArg (fun z => { g with T := z }) (evT_snoc (((g.O k).take i).map (·.2)) g.T x.2.1 x.2.2)
      rw [← e]
      exact go.trans g2
    · obtain ⟨go, u1, u2, u3, rfl⟩ := q
      rw [show (oV (g.O k)).length = (g.O k).length by unfold oV; rw [List.length_map], List.take_length] at go
      have hrr := (go.nx r _ hr1 nO).1
      refine ⟨_, rfl, r, rfl, ⟨_, SqL.of hrr⟩, ?_⟩
      obtain ⟨T1, eT⟩ : ∃ T1, T1 = evT ((g.O k).map (·.2)) g.T := ⟨_, rfl⟩
      rw [← eT] at go
      refine for_list (K := K) (a := r) (xs := oV Ow) (fun i σ H' => ∃ added : Sw, added.map (·.1) = (Ow.take i).map (·.2) ∧ (∀ x ∈ added, x.2.2 = g.W k) ∧ Go C g H { g with T := T1, sw := g.sw ++ added } H' ∧ ∃ u1 u2 u3, σ = [some (.ref C.p), some (.int ((f : Nat) : Int)), some (.ref r), some (.ref (g.fa k)), u1, u2, u3])
        ⟨[], rfl, (fun x h => by cases h), by rw [List.append_nil]; exact go, u1, u2, u3, rfl⟩ (fun i σ H' hi q => by obtain ⟨ad, _, _, go, _⟩ := q; exact SqL.of (go.nx r _ hr1 nO).1) (fun i z σ H' hx q => ?_) (fun σ H' q => ?_)
      · obtain ⟨ad, e1, e2, go, u1, u2, u3, rfl⟩ := q
        unfold oV at hx
        rw [List.getElem?_map] at hx
        obtain ⟨x, hx', rfl⟩ := Option.map_eq_some_iff.mp hx
        have hi := (List.getElem?_eq_some_iff.mp hx').1
        have hm := List.mem_of_getElem? hx'
        have a1 := go.at_
        have hxt := go.nx.tup st (hOw x hm)
        refine ⟨_, rfl, g.fa k, C.CF, g.fx k, _, _, rfl, a1.fi (i := k) hk, T.cf, T.f1, rfl, g.wa k, _, rfl, .inl ⟨SqL.of (a1.fw (i := k) hk), fun t nt => ?_⟩⟩
        have s1 : Same H' (upd H' t (.tup ((g.W k).map V.int))) := same_upd nt
        have ht : (upd H' t (.tup ((g.W k).map V.int))) t = some (.tup ((g.W k).map V.int)) := upd_same
        have g1 := go.trans (Go.same a1 s1)
        have hxt := s1 _ _ hxt
        show _
        generalize upd H' t (.tup ((g.W k).map V.int)) = H1 at s1 ht g1 hxt ⊢
        have a2 := g1.at_
        have la : ad.length = i := by
          have := congrArg List.length e1
          rw [List.length_map, List.length_map, List.length_take] at this
          omega
        have nin : x.2 ∉ (g.sw ++ ad).map (·.1) := fun z => by
          rw [List.map_append] at z
          rcases List.mem_append.mp z with y | y
          · exact nsw x hm y
          · rw [e1] at y
            have nd2 : ((Ow.take (i + 1)).map (·.2)).Nodup := List.Sublist.nodup (List.Sublist.map _ (List.take_sublist _ _)) nd
            rw [List.take_add_one, hx', List.map_append] at nd2
            exact (List.nodup_append.mp nd2).2.2 _ y _ (by simp) rfl
        refine ⟨_, rfl, C.p, C.CP, g.px, _, _, rfl, a2.pg, T.cp, T.p4, rfl, _, rfl, g.sd, _, rfl, DPut.t (k := keyL x.2) a2.sd hxt ?_, ?_⟩
        · show (swK (g.sw ++ ad)).length < sizeLine
          unfold swK
          rw [List.length_map, List.length_append, sizeLine_eq, la]; omega
        have g3 : Go C { g with T := T1, sw := g.sw ++ ad } H1 (swN { g with T := T1, sw := g.sw ++ ad } ((g.sw ++ ad) ++ [(x.2, t, g.W k)])) (upd H1 g.sd (.dT (putK (swK (g.sw ++ ad)) (keyL x.2) (.ref t)))) := by
          refine go_sw a2 (fun y hy => ?_) SameX.upd ((upd_same (a := g.sd)).trans (by rw [swK_put nin t (g.W k)]))
          rcases List.mem_append.mp hy with y1 | y1
          · exact a2.tp2 y y1
          · rw [List.mem_singleton.mp y1]; exact ht
        refine ⟨ad ++ [(x.2, t, g.W k)], ?_, fun y hy => ?_, ?_, _, _, _, rfl⟩
        · rw [List.map_append, e1, List.take_add_one, hx', List.map_append]; rfl
        · rcases List.mem_append.mp hy with y1 | y1
          · exact e2 y y1
          · rw [List.mem_singleton.mp y1]
        · rw [← List.append_assoc]
          exact g1.trans g3
      · obtain ⟨ad, e1, e2, go, u1, u2, u3, rfl⟩ := q
        rw [show (oV Ow).length = Ow.length by unfold oV; rw [List.length_map], List.take_length] at e1
        have a1 := go.at_
        refine ⟨_, rfl, C.p, C.CP, g.px, _, _, rfl, a1.pg, T.cp, T.p1, rfl, _, rfl, g.fl, _, _, f, rfl, rfl, a1.fl, ixN_nat (by rw [List.length_map]; exact (List.getElem?_eq_some_iff.mp hf).1), ?_⟩
        have g1 : Go C { g with T := T1, sw := g.sw ++ ad } H' (frG { g with T := T1, sw := g.sw ++ ad } f none) (upd H' g.fl (.lst ((g.fr.map (fV g.fa)).set f .non))) := go_fr a1 SameX.upd ((upd_same (a := g.fl)).trans (by rw [map_set_fV]; rfl))
        generalize upd H' g.fl (.lst ((g.fr.map (fV g.fa)).set f .non)) = H1 at g1 ⊢
        have a2 := g1.at_
        refine ⟨_, rfl, C.p, C.CP, g.px, _, _, rfl, a2.pg, T.cp, T.p8, rfl, _, _, rfl, rfl, _, rfl, C.p, C.CP, g.px, _, rfl, a2.pg, T.cp, T.p8, (by show 9 < 1000; decide), ?_⟩
        refine kk ad _ e1 e2 ((go.trans g1).trans (go_pg (g' := evG g f k ad) (fs := putF "evictions" (.int ((g.ev : Int) + 1)) (fsP g)) ?_ SameX.upd upd_same rfl ?_))
        · exact a2
        · unfold evG frG
          rw [← eT]
end
end K07
namespace K07
open PySem L2 HK
/-! ### a free place -/
inductive FP (g g' : G) (f : Nat) (key : Key2) : Prop where
  | free (e : g' = g) (h : g.fr[f]? = some none)
  | put (k : Nat) (U : Nat → Bool) (h : Nat) (added : Sw) (hk : g.fr[f]? = some (some k)) (e1 : added.map (·.1) = (oth (g.O k) key).map (·.2)) (e2 : ∀ x ∈ added, x.2.2 = g.W k) (hh : h < g.fr.length)
      (sz : g.sw.length + (oth (g.O k) key).length ≤ g.slots + if key ∈ g.sw.map (·.1) then 1 else 0) (e : g' = evG (handG g U h) f k added)
def spFree (C : CA) (CE : Addr) : Sp := fun vs H Q E => ∃ g t key M, vs = [.ref C.p, .ref t] ∧ At C g H ∧ H t = some (keyO key) ∧ Iv (Lv g) M g ∧ Sv g ∧
  (¬ Roomy g → ∀ H', Same H H' → E (.ref CE) none H') ∧
  ∀ (f : Nat) g' H', Go C g H g' H' → FP g g' f key → Q (.int (f : Int)) H'
section
variable {P : Program} {w : World} {K : PySem.W.Frag} {mg : Str → Option Value} {base : Heap} {C : CA} {CE : Addr}
theorem scFree : FnScope ["self", "key", "place", "frame", "owners", "spare", "owner"] ["self", "key"] (defScope sFree) := ⟨rfl, rfl, rfl, by decide +kernel, rfl, by decide +kernel, by decide +kernel⟩
theorem ok_free {f fN fM fE : Addr} {fd fdN fdM fdE : FuncData} (F : L2.Fun K "free_place" "Pager.free_place" sFree f fd) (T : PTxt K mg C CE)
    (FN : FnOk P w K mg base L2.CX0 2 fN fdN ["self"] (spNtg C)) (bN : Binds K fdN ["self"] []) (mN : Meth K C.CP "next_to_go" fN)
    (FM : FnOk P w K mg base L2.CX0 2 fM fdM ["self", "place"] (spMov C)) (bM : Binds K fdM ["self", "place"] []) (mM : Meth K C.CP "move_hand" fM)
    (FE : FnOk P w K mg base L2.CX0 1 fE fdE ["self", "place", "owners"] (spEvi C)) (bE : Binds K fdE ["self", "place", "owners"] []) (mE : Meth K C.CP "evict" fE) :
    FnOk P w K mg base (L2.CX P w) 3 f fd ["self", "key"] (spFree C CE) := by
  refine F.okX scFree (fun vs H Q E h => ?_) (fun cdv A outer s H vs Q E hr h => ?_)
  · obtain ⟨g, t, key, M, rfl, _⟩ := h
    rfl
  · obtain ⟨g, t, key, M, rfl, st, ht, iv, sv, kE, kk⟩ := h
    have rE := FE.mono (show 1 ≤ 2 by decide)
    refine ⟨_, pss_cons (ps_for (passes_of rfl) rfl (pi_enum (by rfl) T.enum (pa_cons (pe_fld (pv 0) rfl) pa_nil)) (pg_tup rfl (pgs_cons (pg_name (i := 2) scFree.nd rfl (Or.inl rfl)) (pgs_cons (pg_name (i := 3) scFree.nd rfl (Or.inl rfl)) pgs_nil)))
        (pss_one (ps_if (pt_cmpR op_isN (pv 3) pe_non (nomark _)) (pss_one (ps_ret (pv 2))) pss_nil)))
      (pss_cons (ps_set (i := 2) scFree.nd rfl (Or.inl rfl) (pe_meth0 (pv 0) T.cp mN FN hr bN .nil pass0))
      (pss_cons (ps_setLc (i := 4) (own := [("owner", 6)]) (g := gName 6) (te := tVar 6) (by rfl) scFree.nd rfl rfl (sw_true rfl rfl rfl (by decide +kernel)) (pi_list (pe_fld (pe_ix ix_list (pe_fld (pv 0) rfl) (pv 2) (fun _ _ => rfl)) rfl)) (blkOk_by (N := ["self", "key", "place", "frame", "owners", "spare", "owner"]) (sc := defScope sFree) (by decide +kernel))
        (fun _ _ _ _ _ => pg_name (i := 6) scFree.nd rfl (Or.inl rfl)) (fun _ _ _ _ _ => pts_one (pt_cmpR (r := rNeD K) (by exact op_neD hr.units) (pv 6) (pv 1) (nomark _))) (fun _ _ _ _ _ => pv 6))
      (pss_cons (ps_set (i := 5) scFree.nd rfl (Or.inl rfl) (pe_ifExp (pt_cmp (pc_din (hu_of hr) (pv 1) (pe_fld (pv 0) rfl))) pe_int pe_int))
      (pss_cons (ps_if (pt_cmpR op_gt (pe_op op_add (pe_callB call_len_dT (by rfl) T.len PySem.boot_len (pa_cons (pe_fld (pv 0) rfl) pa_nil)) (pe_callB call_len_seq (by rfl) T.len PySem.boot_len (pa_cons (pv 4) pa_nil))) (pe_op op_add (pe_fld (pv 0) rfl) (pv 5)) (nomark _))
        (pss_one (ps_raise rfl (takes_of rfl rfl rfl rfl) (pmk_own PySem.F.excBase_ValueError T.xE T.gE T.kE (raises_own T.bE T.tE) rfl))) pss_nil)
      (pss_cons (ps_expr (pe_meth (pv 0) T.cp mM FM hr bM .nil pass0 (pa_cons (pv 2) pa_nil)))
      (pss_cons (ps_expr (pe_meth (pv 0) T.cp mE rE hr bE .nil pass0 (pa_cons (pv 2) (pa_cons (pv 4) pa_nil))))
      (pss_one (ps_ret (pv 2))))))))), ?_⟩
    refine ⟨_, rfl, C.p, C.CP, g.px, _, _, rfl, st.pg, T.cp, T.p1, rfl, g.fl, _, rfl, SqL.of st.fl, ?_⟩
    refine for_it (walk_enum (K := K) (a := g.fl) (xs := g.fr.map (fV g.fa))) (fun i σ H' => Same H H' ∧ (∀ f, f < i → g.fr[f]? ≠ some none) ∧ ∃ u2 u3, σ = [some (.ref C.p), some (.ref t), u2, u3, none, none, none]) ⟨fun _ _ h => h, fun f h => absurd h (Nat.not_lt_zero f), none, none, rfl⟩ (fun i σ H' hi q => SqL.of (q.1 _ _ st.fl)) (fun i x σ H' H'' hi q y => ?_) (fun σ H' q => ?_)
    · obtain ⟨sm, no, u2, u3, rfl⟩ := q
      obtain ⟨Tu, x1, x2, rfl, nT, rfl, ex, hx⟩ := y
      have ex : V.int (i : Int) = x1 := Option.some.inj ex
      subst ex
      have hx : (g.fr.map (fV g.fa))[i]? = some x2 := hx
      rw [List.getElem?_map] at hx
      obtain ⟨o, ho, rfl⟩ := Option.map_eq_some_iff.mp hx
      have sm2 := sm.trans (same_upd (o := .tup [.int (i : Int), fV g.fa o]) nT)
      refine ⟨Tu, _, rfl, SqT.of upd_same, rfl, _, _, rfl, _, _, rfl, rfl, ?_⟩
      refine ⟨_, rfl, rfl, _, rfl, ?_⟩
      cases o with
      | none => exact iteT ⟨_, rfl, kk i g _ (Go.same st sm2) (.free rfl ho)⟩
      | some k =>
        refine iteF ⟨sm2, fun f hf => ?_, _, _, rfl⟩
        by_cases e : f = i
        · rw [e, ho]; simp
        · exact no f (by omega)
    · obtain ⟨sm, no, u2, u3, rfl⟩ := q
      rw [List.length_map] at no
      have full : Full g := fun f hf => by
        cases e : g.fr[f]? with
        | none => have := List.getElem?_eq_none_iff.mp e; omega
        | some o =>
          cases o with
          | none => exact absurd e (no f hf)
          | some k => exact ⟨k, rfl, (iv.fk f k e).1⟩
      have s1 := st.same sm
      have ht1 := sm _ _ ht
      refine ⟨_, rfl, C.p, g.px, _, rfl, s1.pg, rfl, g, rfl, s1, sv.hnd, sv.frl, full, fun f H2 hf sm2 => ?_⟩
      obtain ⟨k, hk, hkn⟩ := full f hf
      have sm12 := sm.trans sm2
      have s2 := st.same sm12
      have ht2 := sm12 _ _ ht
      have len := own_len sv (fun _ _ h => h) iv hk
      refine ⟨_, rfl, C.p, C.CP, g.px, _, _, rfl, s2.pg, T.cp, T.p1, rfl, _, rfl, g.fl, _, _, _, rfl, rfl, SqL.of s2.fl, atI_nat (frV hk), ?_⟩
      refine ⟨g.fa k, C.CF, g.fx k, _, _, rfl, s2.fi hkn, T.cf, T.f2, rfl, g.oa k, rfl, ⟨_, SqL.of (s2.fo hkn)⟩, fun D nD => ?_⟩
      refine lc_list (K := K) (a := g.oa k) (xs := oV (g.O k)) (fun i H' => Same H2 H' ∧ H' D = some (.lst (oV (oth ((g.O k).take i) key)))) ⟨same_upd nD, upd_same⟩ (fun i H' hi q => SqL.of (q.1 _ _ (s2.fo hkn))) (fun i z H' hx q => ?_) (fun H3 q => ?_)
      · obtain ⟨sm, hD⟩ := q
        unfold oV at hx
        rw [List.getElem?_map] at hx
        obtain ⟨x, hx', rfl⟩ := Option.map_eq_some_iff.mp hx
        have hm := List.mem_of_getElem? hx'
        refine ⟨rfl, _, rfl, _, rfl, kD x.2, kD key, dp_key (sm _ _ (s2.tp1 k hkn x hm)), dp_key (sm _ _ ht2), kD_shaped _, kD_shaped _, _, rfl, ?_⟩
        rw [kD_eqv]
        have e1 := oth_snoc (k := key) hx'
        have ln : (oV (oth ((g.O k).take i) key)).length < sizeLine := by
          unfold oV
          rw [List.length_map]
          refine small (Nat.le_trans (oth_len _ _) ?_)
          rw [List.length_take]; omega
        refine ite2 (fun c => ?_) (fun c => ?_)
        · have c : x.2 ≠ key := by simpa using c
          rw [if_neg c] at e1
          refine ⟨_, rfl, _, hD, ln, fun b o h => by rw [upd_ne (ne_of_none h nD)]; exact sm b o h, ?_⟩
          rw [upd_same, e1]
          unfold oV
          rw [List.map_append]; rfl
        · have c : x.2 = key := by simpa using c
          rw [if_pos c, List.append_nil] at e1
          exact ⟨sm, by rw [e1]; exact hD⟩
      · obtain ⟨sm3, hD⟩ := q
        unfold oV at hD
        rw [List.length_map, List.take_length] at hD
        have sm13 := sm12.trans sm3
        have s3 := st.same sm13
        have ht3 := sm13 _ _ ht
        have nDO : ¬ Own C g D := fun ⟨x, o, e⟩ => by rw [s2.get x D o e] at nD; cases nD
        refine ⟨_, rfl, _, rfl, C.p, C.CP, g.px, _, _, rfl, s3.pg, T.cp, T.p4, rfl, g.sd, _, rfl, DGet.t (k := keyL key) s3.sd ht3, _, rfl, ?_⟩
        rw [swK_isSome]
        refine ite2 (fun c => ?A) (fun c => ?B)
        case' A =>
          have hsp : (1 : Int) = ((if key ∈ g.sw.map (·.1) then 1 else 0 : Nat) : Int) := by rw [if_pos (by simpa using c)]; rfl
        case' B =>
          have hsp : (0 : Int) = ((if key ∈ g.sw.map (·.1) then 1 else 0 : Nat) : Int) := by rw [if_neg (by simpa using c)]; rfl
        all_goals
          refine ⟨_, rfl, C.p, C.CP, g.px, _, _, rfl, s3.pg, T.cp, T.p4, rfl, g.sd, _, rfl, s3.sd, ?_⟩
          refine ⟨_, rfl, D, _, rfl, .inl (SqL.of hD), _, _, rfl, rfl, ?_⟩
          refine ⟨_, rfl, C.p, C.CP, g.px, _, _, rfl, s3.pg, T.cp, T.p2, rfl, _, rfl, _, _, rfl, rfl, _, _, rfl, rfl, _, rfl, ?_⟩
          have l1 : ((swK g.sw).length : Int) = g.sw.length := by unfold swK; rw [List.length_map]
          have l2 : (((oth (g.O k) key).map fun x => V.ref x.1).length : Int) = (oth (g.O k) key).length := by rw [List.length_map]
          refine ite2 (fun c2 => ?_) (fun c2 => ?_)
          · refine kE (fun room => ?_) H3 sm13
            have c2 := of_decide_eq_true c2
            have r1 := room (g.sw.map (·.1)) iv.sn fun x hx => by
              obtain ⟨y, hy, rfl⟩ := List.mem_map.mp hx
              exact (iv.sl y hy).1
            have r2 := room ((g.O k).map (·.2)) (iv.fk f k hk).2.2 fun x hx => by
              obtain ⟨y, hy, rfl⟩ := List.mem_map.mp hx
              exact (iv.ow f k hk y hy).1
            have r3 := oth_len (g.O k) key
            rw [List.length_map] at r1 r2
            rw [l1, l2] at c2
            omega
          · have c2 : ¬ (((swK g.sw).length : Int) + (((oth (g.O k) key).map fun x => V.ref x.1).length : Int) > (g.slots : Int) + _) := fun z => c2 (decide_eq_true z)
            rw [l1, l2] at c2
            have sz : g.sw.length + (oth (g.O k) key).length ≤ g.slots + if key ∈ g.sw.map (·.1) then 1 else 0 := by omega
            refine ⟨_, rfl, C.p, g.px, _, rfl, s3.pg, rfl, _, rfl, g, f, rfl, s3, hf, sv.hnd, sv.frl, full, fun U H4 go4 => ?_⟩
            have go34 := (Go.same st sm13).trans go4
            have a4 := go4.at_
            refine ⟨_, rfl, C.p, g.px, _, rfl, a4.pg, rfl, _, rfl, _, rfl, handG g U ((f + 1) % g.fr.length), f, k, D, oth (g.O k) key, rfl, a4, hk, hkn, (go4.nx D _ hD nDO).1, (go4.nx D _ hD nDO).2, fun x hx => go34.nx.tup st (st.tp1 k hkn x (List.mem_filter.mp hx).1), fun x hx => ?_, ?_, fun x hx => ?_, ?_, fun ad H5 e1 e2 go5 => ?_⟩
            · obtain ⟨m1, m2, m3, _⟩ := iv.ow f k hk x hx
              exact ⟨m3, sv.spl _ m3, m1⟩
            · exact List.Sublist.nodup (List.Sublist.map _ List.filter_sublist) (iv.fk f k hk).2.2
            · intro z
              obtain ⟨y, hy, e⟩ := List.mem_map.mp z
              have h1 := (iv.ow f k hk x (List.mem_filter.mp hx).1).2.1
              have h2 := (iv.sl y hy).2.1
              rw [e, h1] at h2
              cases h2
            · have h1 := sw_len sv (fun _ _ h => h) iv
              have h2 := oth_len (g.O k) key
              show g.sw.length + (oth (g.O k) key).length ≤ 20000
              omega
            · exact ⟨_, rfl, kk f _ H5 (go34.trans go5) (.put k U _ ad hk e1 e2 (Nat.mod_lt _ (by omega)) sz rfl)⟩
end
end K07
namespace K07
open PySem L2 HK
/-! ### how the invariant goes on -/
section
variable {L : Nat → Nat → Prop} {M : Nat → Nat → List Int} {g : G}
theorem IvC.inj {nf : Nat} {fr : List (Option Nat)} {O : Nat → List (Addr × Key2)} {W : Nat → List Int} {T : Nat → List (Option Nat)} {sw : Sw} {sp : List Nat} (iv : IvC L M nf fr O W T sw sp) {f f' k : Nat} (h : fr[f]? = some (some k)) (h' : fr[f']? = some (some k)) : f = f' := by
  obtain ⟨_, ne, _⟩ := iv.fk f k h
  cases e : O k with
  | nil => exact absurd e ne
  | cons x r =>
    have h1 := (iv.ow f k h x (by rw [e]; simp)).2.1
    have h2 := (iv.ow f' k h' x (by rw [e]; simp)).2.1
    rw [h1] at h2
    injection h2 with h2
    injection h2
theorem mem_oth {O : List (Addr × Key2)} {k : Key2} {x : Addr × Key2} : x ∈ oth O k ↔ x ∈ O ∧ x.2 ≠ k := by
  unfold oth
  rw [List.mem_filter]; simp
theorem mem_key {O : List (Addr × Key2)} {k : Key2} : k ∈ O.map (·.2) ↔ ∃ x ∈ O, x.2 = k := List.mem_map
/-- a frame's pages go to the swap space -/
theorem ev_iv (iv : Iv L M g) {f k : Nat} {U : Nat → Bool} {h : Nat} {added : Sw} {key : Key2} (hk : g.fr[f]? = some (some k)) (e1 : added.map (·.1) = (oth (g.O k) key).map (·.2)) (e2 : ∀ x ∈ added, x.2.2 = g.W k) :
    Iv (fun n j => L n j ∧ ¬ ((n, j) = key ∧ key ∈ (g.O k).map (·.2))) M (evG (handG g U h) f k added) := by
  have gs : ∀ (f' k' : Nat), (g.fr.set f none)[f']? = some (some k') → f' ≠ f ∧ g.fr[f']? = some (some k') := fun f' k' e => by
    by_cases c : f' = f
    · subst c
      rw [List.getElem?_set_self (List.getElem?_eq_some_iff.mp hk).1] at e
      cases e
    · rw [List.getElem?_set_ne (Ne.symm c)] at e
      exact ⟨c, e⟩
  have gs' : ∀ (f' k' : Nat), f' ≠ f → g.fr[f']? = some (some k') → (g.fr.set f none)[f']? = some (some k') := fun f' k' c e => by rw [List.getElem?_set_ne (Ne.symm c)]; exact e
  have inks : ∀ n j, (n, j) ∈ (g.O k).map (·.2) → (g.T n)[j]? = some (some f) := fun n j z => by
    obtain ⟨x, hx, e⟩ := List.mem_map.mp z
    have := (iv.ow f k hk x hx).2.1
    rw [e] at this; exact this
  have addk : ∀ x ∈ added, ∃ y ∈ g.O k, y.2 = x.1 ∧ y.2 ≠ key := fun x hx => by
    have : x.1 ∈ (oth (g.O k) key).map (·.2) := by rw [← e1]; exact List.mem_map_of_mem hx
    obtain ⟨y, hy, e⟩ := List.mem_map.mp this
    exact ⟨y, (mem_oth.mp hy).1, e, (mem_oth.mp hy).2⟩
  refine ⟨fun f' k' e => iv.fk f' k' (gs f' k' e).2, fun f' k' e x hx => ?_, fun n j f' hl ht => ?_, ?_, fun x hx => ?_, fun n j hl ht => ?_, fun n j hl => ?_, fun n j hl => iv.m8 n j hl.1⟩
  · obtain ⟨c, e'⟩ := gs f' k' e
    obtain ⟨h1, h2, h3, h4⟩ := iv.ow f' k' e' x hx
    have nk : x.2 ∉ (g.O k).map (·.2) := fun z => by
      have := inks x.2.1 x.2.2 z
      rw [h2] at this
      injection this with this
      injection this with this
      exact c this
    refine ⟨⟨h1, fun z => nk (by rw [show x.2 = key from z.1]; exact z.2)⟩, ?_, h3, h4⟩
    show (evT ((g.O k).map (·.2)) g.T x.2.1)[x.2.2]? = _
    rw [evT_get, h2]
    simp only [Option.map_some]
    rw [if_neg nk]
  · have ht : (evT ((g.O k).map (·.2)) g.T n)[j]? = some (some f') := ht
    rw [evT_get] at ht
    obtain ⟨v, hv, e⟩ := Option.map_eq_some_iff.mp ht
    by_cases c : (n, j) ∈ (g.O k).map (·.2)
    · rw [if_pos c] at e; cases e
    · rw [if_neg c] at e
      subst e
      obtain ⟨k', h1, h2⟩ := iv.tb n j f' hl.1 hv
      refine ⟨k', gs' f' k' (fun e => ?_) h1, h2⟩
      subst e
      rw [hk] at h1
      injection h1 with h1
      injection h1 with h1
      subst h1
      exact c h2
  · show ((g.sw ++ added).map (·.1)).Nodup
    rw [List.map_append, e1, List.nodup_append]
    refine ⟨iv.sn, List.Sublist.nodup (List.Sublist.map _ List.filter_sublist) (iv.fk f k hk).2.2, fun a ha b hb e => ?_⟩
    subst e
    obtain ⟨x, hx, ex⟩ := List.mem_map.mp ha
    obtain ⟨y, hy, ey⟩ := List.mem_map.mp hb
    have h1 := (iv.sl x hx).2.1
    have h2 := (iv.ow f k hk y (mem_oth.mp hy).1).2.1
    rw [ey, ← ex, h1] at h2
    cases h2
  · rcases List.mem_append.mp hx with z | z
    · obtain ⟨h1, h2, h3⟩ := iv.sl x z
      refine ⟨⟨h1, fun y => ?_⟩, ?_, h3⟩
      · have := inks x.1.1 x.1.2 (by rw [show (x.1.1, x.1.2) = key from y.1]; exact y.2)
        rw [h2] at this; cases this
      · show (evT ((g.O k).map (·.2)) g.T x.1.1)[x.1.2]? = _
        rw [evT_get, h2]
        simp
    · obtain ⟨y, hy, e, ne⟩ := addk x z
      obtain ⟨h1, h2, h3, h4⟩ := iv.ow f k hk y hy
      rw [e] at h1 h2 h4 ne
      refine ⟨⟨h1, fun c => ne c.1⟩, ?_, by rw [e2 x z]; exact h4⟩
      show (evT ((g.O k).map (·.2)) g.T x.1.1)[x.1.2]? = _
      rw [evT_get, h2]
      simp only [Option.map_some]
      rw [if_pos (by rw [show (x.1.1, x.1.2) = y.2 from e.symm]; exact List.mem_map_of_mem hy)]
  · have ht : (evT ((g.O k).map (·.2)) g.T n)[j]? = some none := ht
    rw [evT_get] at ht
    obtain ⟨v, hv, e⟩ := Option.map_eq_some_iff.mp ht
    show (n, j) ∈ (g.sw ++ added).map (·.1) ∨ _
    rw [List.map_append, e1]
    by_cases c : (n, j) ∈ (g.O k).map (·.2)
    · left
      refine List.mem_append_right _ ?_
      obtain ⟨x, hx, ex⟩ := List.mem_map.mp c
      refine List.mem_map.mpr ⟨x, mem_oth.mpr ⟨hx, fun z => hl.2 ⟨by rw [← ex]; exact z, by rw [← z, ex]; exact c⟩⟩, ex⟩
    · rw [if_neg c] at e
      subst e
      exact (iv.nn n j hl.1 hv).imp (fun z => List.mem_append_left _ z) id
  · obtain ⟨e, he⟩ := iv.lv n j hl.1
    refine ⟨if (n, j) ∈ (g.O k).map (·.2) then none else e, ?_⟩
    show (evT ((g.O k).map (·.2)) g.T n)[j]? = _
    rw [evT_get, he]; rfl
/-- fewer pages are looked at -/
theorem IvC.drop_sw (iv : Iv L M g) (n j : Nat) (ht : (g.T n)[j]? = some none) : Iv (fun a b => L a b ∧ (a, b) ≠ (n, j)) M (swN g (swD g.sw (n, j))) := by
  refine ⟨iv.fk, fun f k e x hx => ?_, fun a b f hl => iv.tb a b f hl.1, List.Sublist.nodup (List.Sublist.map _ List.filter_sublist) iv.sn, fun x hx => ?_, fun a b hl h => ?_, fun a b hl => iv.lv a b hl.1, fun a b hl => iv.m8 a b hl.1⟩
  · obtain ⟨h1, h2, h3, h4⟩ := iv.ow f k e x hx
    refine ⟨⟨h1, fun z => ?_⟩, h2, h3, h4⟩
    injection z with z1 z2
    have h2 : (g.T x.2.1)[x.2.2]? = some (some f) := h2
    rw [z1, z2, ht] at h2; cases h2
  · have hx : x ∈ swD g.sw (n, j) := hx
    unfold swD at hx
    rw [List.mem_filter] at hx
    obtain ⟨h1, h2, h3⟩ := iv.sl x hx.1
    exact ⟨⟨h1, fun e => of_decide_eq_true hx.2 e⟩, h2, h3⟩
  · refine (iv.nn a b hl.1 h).imp (fun z => ?_) id
    obtain ⟨x, hx, e⟩ := List.mem_map.mp z
    refine List.mem_map.mpr ⟨x, ?_, e⟩
    unfold swN swD
    rw [List.mem_filter]
    exact ⟨hx, by rw [e]; exact decide_eq_true hl.2⟩
theorem new_iv (iv : Iv L M g) (x dx wA oA : Addr) (ws : List Int) : Iv L M (newG g x dx wA oA ws) := by
  have ne : ∀ f k, g.fr[f]? = some (some k) → k ≠ g.nf := fun f k e => Nat.ne_of_lt (iv.fk f k e).1
  refine ⟨fun f k e => ?_, fun f k e y hy => ?_, fun a b f hl ht => ?_, iv.sn, iv.sl, iv.nn, iv.lv, iv.m8⟩
  · obtain ⟨h1, h2, h3⟩ := iv.fk f k e
    show k < g.nf + 1 ∧ fset g.O g.nf [] k ≠ [] ∧ ((fset g.O g.nf [] k).map (·.2)).Nodup
    rw [fset_ne (ne f k e)]
    exact ⟨by omega, h2, h3⟩
  · have hy : y ∈ fset g.O g.nf [] k := hy
    rw [fset_ne (ne f k e)] at hy
    show _ ∧ _ ∧ _ ∧ fset g.W g.nf ws k = _
    rw [fset_ne (ne f k e)]
    exact iv.ow f k e y hy
  · obtain ⟨k, h1, h2⟩ := iv.tb a b f hl ht
    refine ⟨k, h1, ?_⟩
    show (a, b) ∈ (fset g.O g.nf [] k).map (·.2)
    rw [fset_ne (ne f k h1)]
    exact h2
theorem mem_addN {l : List Nat} {n m : Nat} : m ∈ addN l n ↔ m ∈ l ∨ m = n := by
  unfold addN
  split
  · rename_i h
    exact ⟨.inl, fun z => z.elim id fun e => by rw [e]; exact h⟩
  · simp
/-- a page is put into a frame -/
theorem share_iv (iv : Iv L M g) {f k n j : Nat} {t : Addr} (hk : k < g.nf) (hf : f < g.fr.length) (hc : g.fr[f]? = some (some k) ∨ (g.fr[f]? = some none ∧ g.O k = [] ∧ ∀ f' : Nat, g.fr[f']? ≠ some (some k)))
    (nL : ¬ L n j) (hj : j < (g.T n).length) (hW : g.W k = M n j) (h8 : (M n j).length = 8) : Iv (fun a b => L a b ∨ (a, b) = (n, j)) M (shareG (frG g f (some k)) f k n j t) := by
  have fs : (g.fr.set f (some k))[f]? = some (some k) := List.getElem?_set_self hf
  have fn : ∀ f', f' ≠ f → (g.fr.set f (some k))[f']? = g.fr[f']? := fun f' c => List.getElem?_set_ne (Ne.symm c)
  have kne : ∀ f' k', f' ≠ f → g.fr[f']? = some (some k') → k' ≠ k := fun f' k' c e z => by
    subst z
    rcases hc with h | ⟨_, _, h⟩
    · exact c (iv.inj e h)
    · exact h f' e
  have Ts : (fset g.T n ((g.T n).set j (some f)) n)[j]? = some (some f) := by rw [fset_same]; exact List.getElem?_set_self hj
  have Tn : ∀ a b, (a, b) ≠ (n, j) → (fset g.T n ((g.T n).set j (some f)) a)[b]? = (g.T a)[b]? := fun a b c => by
    by_cases e : a = n
    · subst e
      rw [fset_same]
      exact List.getElem?_set_ne (fun e => c (by rw [e]))
    · rw [fset_ne e]
  have okO : ∀ x ∈ g.O k, L x.2.1 x.2.2 ∧ (g.T x.2.1)[x.2.2]? = some (some f) ∧ x.2.1 ∈ g.sp ∧ g.W k = M x.2.1 x.2.2 := fun x hx => by
    rcases hc with h | ⟨_, h, _⟩
    · exact iv.ow f k h x hx
    · rw [h] at hx; cases hx
  have ndO : ((g.O k).map (·.2)).Nodup := by
    rcases hc with h | ⟨_, h, _⟩
    · exact (iv.fk f k h).2.2
    · rw [h]; exact List.nodup_nil
  have lne : ∀ a b, L a b → (a, b) ≠ (n, j) := fun a b h e => by
    injection e with e1 e2
    rw [e1, e2] at h
    exact nL h
  refine ⟨fun f' k' e => ?_, fun f' k' e x hx => ?_, fun a b f' hl ht => ?_, iv.sn, fun x hx => ?_, fun a b hl ht => ?_, fun a b hl => ?_, fun a b hl => ?_⟩
  · show k' < g.nf ∧ fset g.O k (g.O k ++ [(t, (n, j))]) k' ≠ [] ∧ ((fset g.O k (g.O k ++ [(t, (n, j))]) k').map (·.2)).Nodup
    have e : (g.fr.set f (some k))[f']? = some (some k') := e
    by_cases c : f' = f
    · subst c
      rw [fs] at e
      injection e with e
      injection e with e
      subst e
      rw [fset_same]
      refine ⟨hk, by simp, ?_⟩
      rw [List.map_append, List.nodup_append]
      refine ⟨ndO, by simp, fun a ha b hb z => ?_⟩
      obtain ⟨x, hx, ex⟩ := List.mem_map.mp ha
      have : b = (n, j) := by simpa using hb
      have h1 := (okO x hx).1
      exact lne _ _ h1 (by show x.2 = _; rw [ex, z, this])
    · rw [fn f' c] at e
      rw [fset_ne (kne f' k' c e)]
      exact iv.fk f' k' e
  · show (L x.2.1 x.2.2 ∨ (x.2.1, x.2.2) = (n, j)) ∧ (fset g.T n ((g.T n).set j (some f)) x.2.1)[x.2.2]? = some (some f') ∧ x.2.1 ∈ addN g.sp n ∧ g.W k' = M x.2.1 x.2.2
    have e : (g.fr.set f (some k))[f']? = some (some k') := e
    have hx2 : x ∈ fset g.O k (g.O k ++ [(t, (n, j))]) k' := hx
    clear hx
    by_cases c : f' = f
    · subst c
      rw [fs] at e
      injection e with e
      injection e with e
      subst e
      rw [fset_same] at hx2
      rcases List.mem_append.mp hx2 with z | z
      · obtain ⟨h1, h2, h3, h4⟩ := okO x z
        exact ⟨.inl h1, by rw [Tn _ _ (lne _ _ h1)]; exact h2, mem_addN.mpr (.inl h3), h4⟩
      · rw [List.mem_singleton.mp z]
        exact ⟨.inr rfl, Ts, mem_addN.mpr (.inr rfl), hW⟩
    · rw [fn f' c] at e
      rw [fset_ne (kne f' k' c e)] at hx2
      obtain ⟨h1, h2, h3, h4⟩ := iv.ow f' k' e x hx2
      exact ⟨.inl h1, by rw [Tn _ _ (lne _ _ h1)]; exact h2, mem_addN.mpr (.inl h3), h4⟩
  · show ∃ k' : Nat, (g.fr.set f (some k))[f']? = some (some k') ∧ (a, b) ∈ (fset g.O k (g.O k ++ [(t, (n, j))]) k').map (·.2)
    have ht : (fset g.T n ((g.T n).set j (some f)) a)[b]? = some (some f') := ht
    by_cases c : (a, b) = (n, j)
    · injection c with c1 c2
      subst c1 c2
      rw [Ts] at ht
      injection ht with ht
      injection ht with ht
      subst ht
      exact ⟨k, fs, by rw [fset_same]; simp⟩
    · rw [Tn a b c] at ht
      obtain ⟨k', h1, h2⟩ := iv.tb a b f' (hl.resolve_right c) ht
      by_cases d : f' = f
      · subst d
        rcases hc with h | ⟨h, _⟩
        · rw [h] at h1
          injection h1 with h1
          injection h1 with h1
          subst h1
          exact ⟨k, fs, by rw [fset_same, List.map_append]; exact List.mem_append_left _ h2⟩
        · rw [h] at h1; cases h1
      · exact ⟨k', by rw [fn f' d]; exact h1, by rw [fset_ne (kne f' k' d h1)]; exact h2⟩
  · obtain ⟨h1, h2, h3⟩ := iv.sl x hx
    exact ⟨.inl h1, by show (fset g.T n ((g.T n).set j (some f)) x.1.1)[x.1.2]? = _; rw [Tn _ _ (lne _ _ h1)]; exact h2, h3⟩
  · have ht : (fset g.T n ((g.T n).set j (some f)) a)[b]? = some none := ht
    by_cases c : (a, b) = (n, j)
    · injection c with c1 c2
      rw [c1, c2, Ts] at ht; cases ht
    · rw [Tn a b c] at ht
      exact iv.nn a b (hl.resolve_right c) ht
  · show ∃ e : Option Nat, (fset g.T n ((g.T n).set j (some f)) a)[b]? = some e
    by_cases c : (a, b) = (n, j)
    · injection c with c1 c2
      rw [c1, c2]; exact ⟨_, Ts⟩
    · rw [Tn a b c]; exact iv.lv a b (hl.resolve_right c)
  · rcases hl with h | h
    · exact iv.m8 a b h
    · injection h with c1 c2
      rw [c1, c2]; exact h8
/-- a frame that is nowhere may be anything -/
theorem out_iv (iv : Iv L M g) {k : Nat} (h : ∀ f : Nat, g.fr[f]? ≠ some (some k)) (q : Addr) (l : List (Addr × Key2)) : Iv L M (ownG g k q l) := by
  have ne : ∀ f k', g.fr[f]? = some (some k') → k' ≠ k := fun f k' e z => h f (by rw [← z]; exact e)
  refine ⟨fun f k' e => ?_, fun f k' e y hy => ?_, fun a b f hl ht => ?_, iv.sn, iv.sl, iv.nn, iv.lv, iv.m8⟩
  · show k' < g.nf ∧ fset g.O k l k' ≠ [] ∧ ((fset g.O k l k').map (·.2)).Nodup
    rw [fset_ne (ne f k' e)]; exact iv.fk f k' e
  · have hy : y ∈ fset g.O k l k' := hy
    rw [fset_ne (ne f k' e)] at hy
    exact iv.ow f k' e y hy
  · obtain ⟨k', h1, h2⟩ := iv.tb a b f hl ht
    exact ⟨k', h1, by show (a, b) ∈ (fset g.O k l k').map (·.2); rw [fset_ne (ne f k' h1)]; exact h2⟩
/-- one owner leaves a frame -/
theorem leave_iv (iv : Iv L M g) {f k n j : Nat} (hk : g.fr[f]? = some (some k)) (hin : (n, j) ∈ (g.O k).map (·.2)) (q : Addr) : Iv (fun a b => L a b ∧ (a, b) ≠ (n, j)) M (leaveG g f k (n, j) q) := by
  have hnj : (g.T n)[j]? = some (some f) := by
    obtain ⟨x, hx, e⟩ := List.mem_map.mp hin
    have := (iv.ow f k hk x hx).2.1
    rw [e] at this; exact this
  have kne : ∀ f' k', f' ≠ f → g.fr[f']? = some (some k') → k' ≠ k := fun f' k' c e z => c (iv.inj (by rw [← z]; exact e) hk)
  have gs : ∀ (f' k' : Nat), (leaveG g f k (n, j) q).fr[f']? = some (some k') → g.fr[f']? = some (some k') ∧ (f' = f → k' = k ∧ oth (g.O k) (n, j) ≠ []) := fun f' k' e => by
    have e : (if oth (g.O k) (n, j) = [] then g.fr.set f none else g.fr)[f']? = some (some k') := e
    by_cases c : oth (g.O k) (n, j) = []
    · rw [if_pos c] at e
      by_cases d : f' = f
      · subst d
        rw [List.getElem?_set_self (List.getElem?_eq_some_iff.mp hk).1] at e; cases e
      · rw [List.getElem?_set_ne (Ne.symm d)] at e
        exact ⟨e, fun z => absurd z d⟩
    · rw [if_neg c] at e
      refine ⟨e, fun z => ⟨?_, c⟩⟩
      rw [z, hk] at e
      injection e with e
      injection e with e
      exact e.symm
  have gs' : ∀ f', f' ≠ f → (leaveG g f k (n, j) q).fr[f']? = g.fr[f']? := fun f' d => by
    show (if oth (g.O k) (n, j) = [] then g.fr.set f none else g.fr)[f']? = _
    split
    · exact List.getElem?_set_ne (Ne.symm d)
    · rfl
  refine ⟨fun f' k' e => ?_, fun f' k' e x hx => ?_, fun a b f' hl ht => ?_, iv.sn, fun x hx => ?_, fun a b hl => iv.nn a b hl.1, fun a b hl => iv.lv a b hl.1, fun a b hl => iv.m8 a b hl.1⟩
  · obtain ⟨h1, h2⟩ := gs f' k' e
    show k' < g.nf ∧ fset g.O k (oth (g.O k) (n, j)) k' ≠ [] ∧ ((fset g.O k (oth (g.O k) (n, j)) k').map (·.2)).Nodup
    by_cases c : f' = f
    · obtain ⟨c1, c2⟩ := h2 c
      subst c1
      rw [fset_same]
      exact ⟨(iv.fk f' k' h1).1, c2, List.Sublist.nodup (List.Sublist.map _ List.filter_sublist) (iv.fk f' k' h1).2.2⟩
    · rw [fset_ne (kne f' k' c h1)]; exact iv.fk f' k' h1
  · obtain ⟨h1, h2⟩ := gs f' k' e
    have hx2 : x ∈ fset g.O k (oth (g.O k) (n, j)) k' := hx
    clear hx
    by_cases c : f' = f
    · obtain ⟨c1, c2⟩ := h2 c
      subst c1
      rw [fset_same] at hx2
      obtain ⟨y1, y2⟩ := mem_oth.mp hx2
      obtain ⟨z1, z2⟩ := iv.ow f' k' h1 x y1
      exact ⟨⟨z1, y2⟩, z2⟩
    · rw [fset_ne (kne f' k' c h1)] at hx2
      obtain ⟨z1, z2, z3⟩ := iv.ow f' k' h1 x hx2
      refine ⟨⟨z1, fun y => ?_⟩, z2, z3⟩
      have y : x.2 = (n, j) := y
      rw [y, hnj] at z2
      injection z2 with z2
      injection z2 with z2
      exact c z2.symm
  · obtain ⟨k', h1, h2⟩ := iv.tb a b f' hl.1 ht
    by_cases c : f' = f
    · subst c
      rw [hk] at h1
      injection h1 with h1
      injection h1 with h1
      subst h1
      obtain ⟨x, hx, ex⟩ := List.mem_map.mp h2
      have xo : x ∈ oth (g.O k) (n, j) := mem_oth.mpr ⟨hx, by rw [ex]; exact hl.2⟩
      refine ⟨k, ?_, ?_⟩
      · show (if oth (g.O k) (n, j) = [] then g.fr.set f' none else g.fr)[f']? = _
        rw [if_neg (fun z => by rw [z] at xo; cases xo)]
        exact hk
      · show (a, b) ∈ (fset g.O k (oth (g.O k) (n, j)) k).map (·.2)
        rw [fset_same]
        exact List.mem_map.mpr ⟨x, xo, ex⟩
    · refine ⟨k', by rw [gs' f' c]; exact h1, ?_⟩
      show (a, b) ∈ (fset g.O k (oth (g.O k) (n, j)) k').map (·.2)
      rw [fset_ne (kne f' k' c h1)]; exact h2
  · obtain ⟨z1, z2, z3⟩ := iv.sl x hx
    refine ⟨⟨z1, fun y => ?_⟩, z2, z3⟩
    have y : x.1 = (n, j) := y
    rw [y, hnj] at z2; cases z2
theorem IvC.cong {L' : Nat → Nat → Prop} {nf : Nat} {fr : List (Option Nat)} {O : Nat → List (Addr × Key2)} {W : Nat → List Int} {T : Nat → List (Option Nat)} {sw : Sw} {sp : List Nat} (iv : IvC L M nf fr O W T sw sp) (h : ∀ n j, L n j ↔ L' n j) : IvC L' M nf fr O W T sw sp := by
  have : L = L' := by funext n j; exact propext (h n j)
  rw [← this]; exact iv
end
end K07
namespace K07
open PySem L2 HK
/-! ### what free_place leaves -/
/-- all but the swap space's last place and the last count -/
structure Sh (g : G) (key : Key2) : Prop where
  spn : g.sp.Nodup
  spl : ∀ n ∈ g.sp, n < g.ns
  las : g.last = g.ns
  hnd : g.hand < g.fr.length
  frl : g.fr.length ≤ 5
  t64 : ∀ n, (g.T n).length ≤ 64
  tns : ∀ n, g.ns ≤ n → g.T n = []
  swl : g.sw.length ≤ g.slots + if key ∈ g.sw.map (·.1) then 1 else 0
  evf : g.ev ≤ g.faults + g.cp + 1
  n100 : g.ns ≤ 100
theorem sp_len {g : G} (h1 : g.sp.Nodup) (h2 : ∀ n ∈ g.sp, n < g.ns) (h3 : g.ns ≤ 100) : g.sp.length ≤ 100 := by
  have aux : ∀ (l m : List Nat), l.Nodup → (∀ x ∈ l, x ∈ m) → l.length ≤ m.length := by
    intro l
    induction l with
    | nil => intro m _ _; exact Nat.zero_le _
    | cons x r ih =>
      intro m nd h
      obtain ⟨s, t, e⟩ := List.append_of_mem (h x (by simp))
      subst e
      have z := ih (s ++ t) (List.nodup_cons.mp nd).2 fun y hy => by
        have hm := h y (by simp [hy])
        have ne : y ≠ x := fun z => (List.nodup_cons.mp nd).1 (z ▸ hy)
        rcases List.mem_append.mp hm with z | z
        · exact List.mem_append_left _ z
        · rcases List.mem_cons.mp z with z | z
          · exact absurd z ne
          · exact List.mem_append_right _ z
      rw [List.length_append] at z
      rw [List.length_append, List.length_cons, List.length_cons]
      omega
  have := aux g.sp (List.range g.ns) h1 fun x hx => List.mem_range.mpr (h2 x hx)
  rw [List.length_range] at this
  omega
section
variable {M : Nat → Nat → List Int} {g g2 : G} {f : Nat} {key : Key2}
theorem Sv.sh (v : Sv g) (key : Key2) : Sh g key := ⟨v.spn, v.spl, v.las, v.hnd, v.frl, v.t64, v.tns, by have := v.swl; omega, by have := v.evf; omega, v.n100⟩
/-- the keys that stay in sight -/
def Lk (g : G) (f : Nat) (key : Key2) : Nat → Nat → Prop := fun a b => Lv g a b ∧ ¬ ((a, b) = key ∧ (g.T a)[b]? = some (some f))
structure FpO (M : Nat → Nat → List Int) (g g2 : G) (f : Nat) (key : Key2) : Prop where
  iv : Iv (Lk g f key) M g2
  fr : g2.fr[f]? = some none
  frn : ∀ f', f' ≠ f → g2.fr[f']? = g.fr[f']?
  tk : (g2.T key.1)[key.2]? = if (g.T key.1)[key.2]? = some (some f) then some none else (g.T key.1)[key.2]?
  sta : Sta g g2
  sh : Sh g2 key
  nf : g2.nf = g.nf
  O : g2.O = g.O
  W : g2.W = g.W
  fa : g2.fa = g.fa
  fx : g2.fx = g.fx
  wa : g2.wa = g.wa
  oa : g2.oa = g.oa
theorem fp_out (iv : Iv (Lv g) M g) (sv : Sv g) (fp : FP g g2 f key) : FpO M g g2 f key := by
  cases fp with
  | free e h =>
    subst e
    have nk : ¬ (g2.T key.1)[key.2]? = some (some f) := fun z => by
      obtain ⟨k, h1, _⟩ := iv.tb key.1 key.2 f (by have := (List.getElem?_eq_some_iff.mp z).1; exact this) z
      rw [h] at h1; cases h1
    exact { iv := iv.cong fun a b => ⟨fun z => ⟨z, fun y => nk (by rw [← y.1]; exact y.2)⟩, fun z => z.1⟩, fr := h, frn := fun _ _ => rfl, tk := by rw [if_neg nk], sta := Sta.refl _, sh := sv.sh key, nf := rfl, O := rfl, W := rfl, fa := rfl, fx := rfl, wa := rfl, oa := rfl }
  | put k U h added hk e1 e2 hh sz e =>
    subst e
    have kin : ∀ a b, (a, b) ∈ (g.O k).map (·.2) ↔ (g.T a)[b]? = some (some f) := fun a b => by
      constructor
      · intro z
        obtain ⟨x, hx, ex⟩ := List.mem_map.mp z
        have := (iv.ow f k hk x hx).2.1
        rw [ex] at this; exact this
      · intro z
        obtain ⟨k', h1, h2⟩ := iv.tb a b f (List.getElem?_eq_some_iff.mp z).1 z
        rw [hk] at h1
        injection h1 with h1
        injection h1 with h1
        rw [h1]; exact h2
    have lf : f < g.fr.length := (List.getElem?_eq_some_iff.mp hk).1
    have kadd : key ∉ added.map (·.1) := fun z => by
      rw [e1] at z
      obtain ⟨x, hx, ex⟩ := List.mem_map.mp z
      exact (mem_oth.mp hx).2 ex
    refine { iv := (ev_iv (U := U) (h := h) iv hk e1 e2).cong fun a b => ?_, fr := List.getElem?_set_self lf, frn := fun f' c => List.getElem?_set_ne (Ne.symm c), tk := ?_, sta := ⟨rfl, rfl, rfl, rfl, rfl, rfl, List.length_set, rfl, rfl, rfl, rfl, fun n => evT_len _ _ n⟩, sh := ?_, nf := rfl, O := rfl, W := rfl, fa := rfl, fx := rfl, wa := rfl, oa := rfl }
    · constructor
      · rintro ⟨h1, h2⟩
        exact ⟨h1, fun z => h2 ⟨z.1, by rw [← z.1]; exact (kin a b).mpr z.2⟩⟩
      · rintro ⟨h1, h2⟩
        exact ⟨h1, fun z => h2 ⟨z.1, (kin a b).mp (by rw [z.1]; exact z.2)⟩⟩
    · show (evT ((g.O k).map (·.2)) g.T key.1)[key.2]? = _
      rw [evT_get]
      by_cases c : (g.T key.1)[key.2]? = some (some f)
      · rw [if_pos c, c]
        simp only [Option.map_some]
        rw [if_pos ((kin _ _).mpr c)]
      · rw [if_neg c]
        cases q : (g.T key.1)[key.2]? with
        | none => rfl
        | some v =>
          simp only [Option.map_some]
          rw [if_neg (fun z => c ((kin _ _).mp z))]
    · refine { spn := sv.spn, spl := sv.spl, las := sv.las, hnd := ?_, frl := ?_, t64 := fun n => ?_, tns := fun n hn => ?_, swl := ?_, evf := ?_, n100 := sv.n100 }
      · show h < (g.fr.set f none).length
        rw [List.length_set]; exact hh
      · show (g.fr.set f none).length ≤ 5
        rw [List.length_set]; exact sv.frl
      · show (evT ((g.O k).map (·.2)) g.T n).length ≤ 64
        rw [evT_len]; exact sv.t64 n
      · show evT ((g.O k).map (·.2)) g.T n = []
        unfold evT
        rw [sv.tns n hn]; rfl
      · show (g.sw ++ added).length ≤ g.slots + if key ∈ (g.sw ++ added).map (·.1) then 1 else 0
        have l : added.length = (oth (g.O k) key).length := by
          have := congrArg List.length e1
          rw [List.length_map, List.length_map] at this; exact this
        rw [List.length_append, l]
        have : (key ∈ (g.sw ++ added).map (·.1)) ↔ key ∈ g.sw.map (·.1) := by
          rw [List.map_append, List.mem_append]
          exact ⟨fun z => z.resolve_right kadd, .inl⟩
        by_cases c : key ∈ g.sw.map (·.1)
        · rw [if_pos (this.mpr c)]
          rw [if_pos c] at sz; exact sz
        · rw [if_neg (fun z => c (this.mp z))]
          rw [if_neg c] at sz; exact sz
      · show g.ev + 1 ≤ g.faults + g.cp + 1
        have := sv.evf
        omega
end
end K07
namespace K07
open PySem L2 HK
def cnt (g : G) (fa cp : Nat) : G := { g with faults := fa, cp := cp }
/-- a page that is in no frame comes into one -/
def inG (g2 : G) (x dx wA oA : Addr) (ws : List Int) (f n j : Nat) (t : Addr) : G := shareG (frG (newG g2 x dx wA oA ws) f (some g2.nf)) f g2.nf n j t
structure Done (M : Nat → Nat → List Int) (g g6 : G) (n j f k : Nat) : Prop where
  iv : Iv (Lv g6) M g6
  sv : Sv g6
  sta : Sta g g6
  tn : (g6.T n)[j]? = some (some f)
  fk : g6.fr[f]? = some (some k)
section
variable {M : Nat → Nat → List Int} {g g2 : G} {f n j : Nat} {L : Nat → Nat → Prop}
theorem in_done {x dx wA oA t : Addr} {fa cp : Nat} (iv : Iv (fun a b => Lv g a b ∧ (a, b) ≠ (n, j)) M g2) (h8 : (M n j).length = 8) (fr : g2.fr[f]? = some none) (sta : Sta g g2) (sh : Sh g2 (n, j)) (swl : g2.sw.length ≤ g2.slots) (hn : n < g2.ns) (hj : Lv g n j) (hc : g2.ev ≤ fa + cp) :
    Done M g (cnt (inG g2 x dx wA oA (M n j) f n j t) fa cp) n j f g2.nf := by
  have lf : f < g2.fr.length := (List.getElem?_eq_some_iff.mp fr).1
  have hj2 : j < (g2.T n).length := by rw [sta.tl n]; exact hj
  have i4 := new_iv iv x dx wA oA (M n j)
  have i5 := share_iv (t := t) i4 (f := f) (k := g2.nf) (n := n) (j := j) (Nat.lt_succ_self _) lf (.inr ⟨fr, fset_same, fun f' e => Nat.lt_irrefl _ (iv.fk f' g2.nf e).1⟩) (fun z => z.2 rfl) hj2 fset_same h8
  have st : Sta g (cnt (inG g2 x dx wA oA (M n j) f n j t) fa cp) := ⟨sta.px, sta.fl, sta.sd, sta.pd, sta.slots, sta.last, (by show (g2.fr.set f _).length = _; rw [List.length_set]; exact sta.frl), sta.ns, sta.sa, sta.sx, sta.ta, fun m => by
    show (fset g2.T n ((g2.T n).set j (some f)) m).length = _
    by_cases e : m = n
    · rw [e, fset_same, List.length_set]; exact sta.tl n
    · rw [fset_ne e]; exact sta.tl m⟩
  refine ⟨i5.cong fun a b => ?_, ?_, st, ?_, ?_⟩
  · rw [st.lv]
    constructor
    · rintro (z | z)
      · exact z.1
      · injection z with z1 z2
        rw [z1, z2]; exact hj
    · intro z
      by_cases e : (a, b) = (n, j)
      · exact .inr e
      · exact .inl ⟨z, e⟩
  · refine { spn := ?_, spl := fun m hm => ?_, las := sh.las, hnd := ?_, frl := ?_, t64 := fun m => ?_, tns := fun m hm => ?_, swl := swl, evf := hc, n100 := sh.n100 }
    · show (addN g2.sp n).Nodup
      unfold addN
      split
      · exact sh.spn
      · rename_i h
        rw [List.nodup_append]
        exact ⟨sh.spn, by simp, fun a ha b hb e => h (by rw [← List.mem_singleton.mp hb, ← e]; exact ha)⟩
    · rcases mem_addN.mp hm with z | z
      · exact sh.spl m z
      · rw [z]; exact hn
    · show g2.hand < (g2.fr.set f _).length
      rw [List.length_set]; exact sh.hnd
    · show (g2.fr.set f _).length ≤ 5
      rw [List.length_set]; exact sh.frl
    · rw [st.tl m, ← sta.tl m]; exact sh.t64 m
    · have := st.tl m
      rw [← sta.tl m, sh.tns m hm] at this
      exact List.eq_nil_of_length_eq_zero this
  · show (fset g2.T n ((g2.T n).set j (some f)) n)[j]? = _
    rw [fset_same]; exact List.getElem?_set_self hj2
  · exact List.getElem?_set_self lf
theorem swD_len {sw : Sw} {key : Key2} {s : Nat} (h : sw.length ≤ s + if key ∈ sw.map (·.1) then 1 else 0) : (swD sw key).length ≤ s := by
  by_cases c : key ∈ sw.map (·.1)
  · rw [if_pos c] at h
    obtain ⟨x, hx, ex⟩ := List.mem_map.mp c
    have : (swD sw key).length < sw.length := by
      unfold swD
      rw [List.length_filter_lt_length_iff_exists]
      exact ⟨x, hx, by simp [ex]⟩
    omega
  · rw [if_neg c] at h
    have : (swD sw key).length ≤ sw.length := List.length_filter_le _ _
    omega
end
theorem go_make {C : CA} {g : G} {H H5 : Hp} (a : At C g H) (fl : FrLt g) {x dx wA oA : Addr} {ws : List Int} (nx : H x = none) (ndx : H dx = none) (ndd : dx ≠ x) (nw : (upd (upd H dx (.own x)) x (.ins C.CF dx [])) wA = none) (no : (upd (upd H dx (.own x)) x (.ins C.CF dx [])) oA = none) (nwo : wA ≠ oA)
    (sx : SameX x (upd (upd H dx (.own x)) x (.ins C.CF dx [])) H5) (h1 : H5 x = some (.ins C.CF dx (fsFr wA oA true))) (h2 : H5 wA = some (.lst (ws.map V.int))) (h3 : H5 oA = some (.lst [])) : Same H H5 ∧ Go C g H (newG g x dx wA oA ws) H5 := by
  have key : ∀ b, (upd (upd H dx (.own x)) x (.ins C.CF dx [])) b = none → b ≠ x ∧ H b = none := fun b hb => by
    have h1 : b ≠ x := fun e => by rw [e, upd_same] at hb; cases hb
    have h2 : b ≠ dx := fun e => by rw [e, upd_ne ndd, upd_same] at hb; cases hb
    rw [upd_ne h1, upd_ne h2] at hb
    exact ⟨h1, hb⟩
  have sm : Same H H5 := fun b o hb => sx b o (ne_of_none hb nx) (by rw [upd_ne (ne_of_none hb nx), upd_ne (ne_of_none hb ndx)]; exact hb)
  exact ⟨sm, go_new a fl nx (key _ nw).2 (key _ no).2 (key _ nw).1.symm (key _ no).1.symm nwo sm h1 h2 h3⟩
/-! ### frame_of -/
def spFof (C : CA) (CE : Addr) : Sp := fun vs H Q E => ∃ (g : G) (n j : Nat) (M : Nat → Nat → List Int), vs = [.ref C.p, .ref (g.sa n), .int ((j : Nat) : Int)] ∧ At C g H ∧ Iv (Lv g) M g ∧ Sv g ∧ n < g.ns ∧ Lv g n j ∧
  (¬ Roomy g → ∀ H', Same H H' → E (.ref CE) none H') ∧
  ∀ (f k : Nat) g' H', Go C g H g' H' → Done M g g' n j f k → Q (.ref (g'.fa k)) H'
section
variable {P : Program} {w : World} {K : PySem.W.Frag} {mg : Str → Option Value} {base : Heap} {C : CA} {CE : Addr}
theorem scFof : FnScope ["self", "space", "page", "key", "place", "frame"] ["self", "space", "page"] (defScope sFof) := ⟨rfl, rfl, rfl, by decide +kernel, rfl, by decide +kernel, by decide +kernel⟩
theorem ok_fof {f fR fU fI : Addr} {fd fdR fdU fdI : FuncData} (F : L2.Fun K "frame_of" "Pager.frame_of" sFof f fd) (T : PTxt K mg C CE)
    (FR : FnOk P w K mg base (L2.CX P w) 3 fR fdR ["self", "key"] (spFree C CE)) (bR : Binds K fdR ["self", "key"] []) (mR : Meth K C.CP "free_place" fR)
    (FU : FnOk P w K mg base L2.CX0 2 fU fdU ["self", "place", "frame", "space", "page"] (spPut C)) (bU : Binds K fdU ["self", "place", "frame", "space", "page"] []) (mU : Meth K C.CP "put_frame" fU)
    (FI : FnOk P w K mg base L2.CX0 1 fI fdI ["self", "words"] (spFI K C.CF)) (bI : Binds K fdI ["self", "words"] []) (MI : Mk K C.CF fI) :
    FnOk P w K mg base (L2.CX P w) 4 f fd ["self", "space", "page"] (spFof C CE) := by
  refine F.okX scFof (fun vs H Q E h => ?_) (fun cdv A outer s H vs Q E hr h => ?_)
  · obtain ⟨g, n, j, M, rfl, _⟩ := h
    rfl
  · obtain ⟨g, n, j, M, rfl, st, iv, sv, hn, hj, kE, kk⟩ := h
    have rU := FU.mono (show 2 ≤ 3 by decide)
    have rI := FI.mono (show 1 ≤ 2 by decide)
    obtain ⟨tw, hpw⟩ := T.pw
    refine ⟨_, pss_cons (ps_if (pt_cmpR op_isN (pe_ix ix_list (pe_fld (pv 1) rfl) (pv 2) (fun _ _ => rfl)) pe_non (nomark _))
        (pss_cons (ps_set (i := 3) scFof.nd rfl (Or.inl rfl) (pe_tup (pa_cons (pe_fld (pv 1) rfl) (pa_cons (pv 2) pa_nil))))
        (pss_cons (ps_set (i := 4) scFof.nd rfl (Or.inl rfl) (pe_meth (pv 0) T.cp mR FR hr bR .nil (passes_call (takes_of rfl rfl rfl rfl) (fun _ _ _ _ h => h)) (pa_cons (pv 3) pa_nil)))
        (pss_cons (ps_expr (pe_meth (pv 0) T.cp mU rU hr bU .nil pass0 (pa_cons (pv 4) (pa_cons (pe_make MI rI hr (by rfl) T.gF bI .nil pass0 (pa_cons
            (pe_bm PySem.F.plainAttrs_dict PySem.F.slot_dict_pop PySem.F.type_dict_pop (L2.DX.mt_popT (hu_of hr)) (pe_fld (pv 0) rfl) (pa_cons (pv 3) (pa_cons (pe_op op_repT (pe_tup (pa_cons pe_int pa_nil)) (pe_glob (v := .int 8) rfl hpw ⟨_, rfl⟩)) pa_nil))) pa_nil)) (pa_cons (pv 1) (pa_cons (pv 2) pa_nil))))))
        (pss_one (ps_fld (pv 0) (pe_op op_add (pe_fld (pv 0) rfl) pe_int) rfl))))) pss_nil)
      (pss_cons (ps_set (i := 5) scFof.nd rfl (Or.inl rfl) (pe_ix ix_list (pe_fld (pv 0) rfl) (pe_ix ix_list (pe_fld (pv 1) rfl) (pv 2) (fun _ _ => rfl)) (fun _ _ => rfl)))
      (pss_cons (ps_fld (pv 5) pe_bl rfl)
      (pss_one (ps_ret (pv 5))))), ?_⟩
    have hj' : j < (g.T n).length := hj
    obtain ⟨e0, he0⟩ := iv.lv n j hj
    have htV : ((g.T n).map tV)[j]? = some (tV e0) := by rw [List.getElem?_map, he0]; rfl
    refine ⟨_, rfl, g.sa n, C.CS, g.sx n, _, _, rfl, st.si hn, T.cs, T.s3, rfl, _, rfl, g.ta n, _, _, _, rfl, rfl, SqL.of (st.st hn), atI_nat htV, rfl, _, rfl, ?_⟩
    cases e0 with
    | none =>
      refine iteT ?_
      refine ⟨_, rfl, g.sa n, C.CS, g.sx n, _, _, rfl, st.si hn, T.cs, T.s2, rfl, _, rfl, (by show 2 ≤ sizeLine; decide), fun t nt => ?_⟩
      have s1 : Same H (upd H t (keyO (n, j))) := same_upd nt
      have ht : (upd H t (keyO (n, j))) t = some (keyO (n, j)) := upd_same
      have g1 := Go.same st s1
      generalize upd H t (keyO (n, j)) = H1 at s1 ht g1 ⊢
      have a1 := g1.at_
      refine ⟨_, rfl, C.p, g.px, _, rfl, a1.pg, rfl, _, rfl, g, t, (n, j), M, rfl, a1, ht, iv, sv, fun nr H' s' => kE nr H' (s1.trans s'), fun f g2 H2 go fp => ?_⟩
      have fo := fp_out iv sv fp
      have go2 := g1.trans go
      have a2 := go.at_
      have ht2 := go.nx.tup a1 ht
      have hn2 : n < g2.ns := by rw [fo.sta.ns]; exact hn
      refine ⟨_, rfl, C.p, g2.px, _, rfl, a2.pg, rfl, _, rfl, ?_⟩
      refine ⟨_, rfl, C.p, C.CP, g2.px, _, _, rfl, a2.pg, T.cp, T.p4, rfl, .inr (.inr (.inl ⟨rfl, .inr ⟨_, a2.sd⟩⟩)), _, rfl, (by show 1 ≤ sizeLine; decide), fun z0 nz0 => ?_⟩
      refine ⟨z0, 8, [.int 0], rfl, rfl, SqT.of upd_same, (fun z => by cases z), by decide, by decide, by decide, fun z nz => ?_⟩
      have s3 : Same H2 (upd (upd H2 z0 (.tup [.int 0])) z (.tup (List.replicate (8 : Int).toNat [V.int 0]).flatten)) := (same_upd nz0).trans (same_upd nz)
      have hz : (upd (upd H2 z0 (.tup [.int 0])) z (.tup (List.replicate (8 : Int).toNat [V.int 0]).flatten)) z = some (.tup (zero8.map V.int)) := upd_same
      have go3 := go2.trans (Go.same a2 s3)
      have ht3 := s3 _ _ ht2
      generalize upd (upd H2 z0 (.tup [.int 0])) z (.tup (List.replicate (8 : Int).toNat [V.int 0]).flatten) = H3 at s3 hz go3 ht3 ⊢
      have a3 := go3.at_
      have tn2 : (g2.T n)[j]? = some none := by
        have := fo.tk
        rw [if_neg (by rw [he0]; intro z; cases z)] at this
        exact this.trans he0
      have iv2 : Iv (Lv g) M g2 := fo.iv.cong fun a b => ⟨fun z => z.1, fun z => ⟨z, fun y => by
        injection y.1 with y1 y2
        have := y.2
        rw [y1, y2] at this
        rw [he0] at this; cases this⟩⟩
      have iv3 := iv2.drop_sw n j tn2
      have fr3 : FrLt (swN g2 (swD g2.sw (n, j))) := fun f k e => (iv3.fk f k e).1
      refine ⟨g.sd, swK g2.sw, keyL (n, j), t, .ref z, by rw [← fo.sta.sd], rfl, by rw [← fo.sta.sd]; exact a3.sd, ht3, fun v hv => ?A, fun hv => ?B⟩
      case' A =>
        have hin : (n, j) ∈ g2.sw.map (·.1) := by
          refine Classical.byContradiction fun c => ?_
          rw [swK_none c] at hv; cases hv
        obtain ⟨y, hy, ey, e⟩ := swK_some hin
        rw [e] at hv
        injection hv with hv
        subst hv
        have hv3 : H3 y.2.1 = some (.tup ((M n j).map V.int)) := by
          rw [a3.tp2 y hy, (iv2.sl y hy).2.2]
          rw [show y.1 = (n, j) from ey]
        have go4 : Go C g H (swN g2 (swD g2.sw (n, j))) (upd H3 g.sd (.dT (dropK (swK g2.sw) (keyL (n, j))))) :=
          go3.trans (go_sw a3 (fun y hy => a3.tp2 y (List.mem_filter.mp hy).1) (by rw [fo.sta.sd]; exact SameX.upd) (by rw [fo.sta.sd, upd_same, swK_drop]))
        have hv4 : (upd H3 g.sd (.dT (dropK (swK g2.sw) (keyL (n, j))))) y.2.1 = some (.tup ((M n j).map V.int)) := by
          rw [upd_ne (ne_of hv3 (by rw [← fo.sta.sd]; exact a3.sd) (by intro z; cases z))]; exact hv3
        generalize upd H3 g.sd (.dT (dropK (swK g2.sw) (keyL (n, j)))) = H4 at go4 hv4 ⊢
        generalize y.2.1 = va at hv4 ⊢
        clear hv3 hy ey e hin
      case' B =>
        have hni : (n, j) ∉ g2.sw.map (·.1) := fun c => by
          obtain ⟨y, hy, ey, e⟩ := swK_some c
          rw [e] at hv; cases hv
        have em : M n j = zero8 := (iv2.nn n j hj tn2).resolve_left hni
        have esw : swD g2.sw (n, j) = g2.sw := by
          unfold swD
          rw [List.filter_eq_self]
          intro y hy
          exact decide_eq_true fun e => hni (by rw [← e]; exact List.mem_map_of_mem hy)
        have go4 : Go C g H (swN g2 (swD g2.sw (n, j))) H3 := by rw [esw]; exact go3
        have hv4 : H3 z = some (.tup ((M n j).map V.int)) := by rw [em]; exact hz
        clear hni em esw
        generalize z = va at hv4 ⊢
        obtain ⟨H4, e4⟩ : ∃ H4, H4 = H3 := ⟨_, rfl⟩
        rw [← e4] at go4 hv4 ⊢
      all_goals
        have a4 := go4.at_
        refine fun x dx nx ndx ndd => ⟨x, dx, va, (M n j).map V.int, rfl, upd_same, .inr (SqT.of ?_), ne_of_none hv4 nx, fun H5 wA oA nw no nwo sx h1 h2 h3 => ⟨rfl, ?_⟩⟩
        · rw [upd_ne (ne_of_none hv4 nx), upd_ne (ne_of_none hv4 ndx)]; exact hv4
        obtain ⟨sm5, go5⟩ := go_make (ws := M n j) a4 fr3 nx ndx ndd nw no nwo sx h1 h2 h3
        have a5 := go5.at_
        have hf2 : f < g2.fr.length := (List.getElem?_eq_some_iff.mp fo.fr).1
        refine ⟨_, rfl, _, rfl, newG (swN g2 (swD g2.sw (n, j))) x dx wA oA (M n j), f, g2.nf, n, j, ?_, a5, hf2, Nat.lt_succ_self _, ?_, hn2, ?_, sp_len fo.sh.spn fo.sh.spl fo.sh.n100, fun t6 H6 go6 => ?_⟩
        · have e1 : (newG (swN g2 (swD g2.sw (n, j))) x dx wA oA (M n j)).fa g2.nf = x := fset_same
          have e2 : (newG (swN g2 (swD g2.sw (n, j))) x dx wA oA (M n j)).sa n = g.sa n := congrFun fo.sta.sa n
          rw [e1, e2]; rfl
        · have e1 : (newG (swN g2 (swD g2.sw (n, j))) x dx wA oA (M n j)).O g2.nf = [] := fset_same
          rw [e1]; exact Nat.zero_le _
        · show j < (g2.T n).length
          rw [fo.sta.tl n]; exact hj
        have dn : Done M g (cnt (shareG (frG (newG (swN g2 (swD g2.sw (n, j))) x dx wA oA (M n j)) f (some g2.nf)) f g2.nf n j t6) (g2.faults + 1) g2.cp) n j f g2.nf := in_done (g := g) (g2 := swN g2 (swD g2.sw (n, j))) (x := x) (dx := dx) (wA := wA) (oA := oA) (t := t6) (fa := g2.faults + 1) (cp := g2.cp) iv3 (iv.m8 n j hj) fo.fr ⟨fo.sta.px, fo.sta.fl, fo.sta.sd, fo.sta.pd, fo.sta.slots, fo.sta.last, fo.sta.frl, fo.sta.ns, fo.sta.sa, fo.sta.sx, fo.sta.ta, fo.sta.tl⟩
          { fo.sh with swl := Nat.le_trans (swD_len fo.sh.swl) (Nat.le_add_right _ _), evf := fo.sh.evf } (swD_len fo.sh.swl) hn2 hj (by have := fo.sh.evf; show g2.ev ≤ _; omega)
        have efa : (shareG (frG (newG (swN g2 (swD g2.sw (n, j))) x dx wA oA (M n j)) f (some g2.nf)) f g2.nf n j t6).faults = g2.faults := rfl
        have ecp : (shareG (frG (newG (swN g2 (swD g2.sw (n, j))) x dx wA oA (M n j)) f (some g2.nf)) f g2.nf n j t6).cp = g2.cp := rfl
        generalize shareG (frG (newG (swN g2 (swD g2.sw (n, j))) x dx wA oA (M n j)) f (some g2.nf)) f g2.nf n j t6 = g6 at go6 dn efa ecp
        have a6 := go6.at_
        have go06 := (go4.trans go5).trans go6
        refine ⟨_, rfl, C.p, C.CP, g6.px, _, _, rfl, a6.pg, T.cp, T.p7, rfl, _, _, rfl, rfl, _, rfl, C.p, C.CP, g6.px, _, rfl, a6.pg, T.cp, T.p7, (by show 9 < 1000; decide), ?_⟩
        have go7 : Go C g H (cnt g6 (g2.faults + 1) g2.cp) (upd H6 C.p (.ins C.CP g6.px (putF "faults" (.int ((g6.faults : Int) + 1)) (fsP g6)))) :=
          go06.trans (go_pg a6 SameX.upd upd_same (by rw [efa, ← ecp]; rfl) rfl)
        dsimp only
        generalize cnt g6 (g2.faults + 1) g2.cp = g7 at dn go7
        generalize upd H6 C.p (.ins C.CP g6.px (putF "faults" (.int ((g6.faults : Int) + 1)) (fsP g6))) = H7 at go7 ⊢
        have a7 := go7.at_
        have hs : H7 (g.sa n) = some (.ins C.CS (g7.sx n) (fsS C.p g7 n)) := by
          have := a7.si (n := n) (by rw [dn.sta.ns]; exact hn)
          rw [dn.sta.sa] at this; exact this
        have ht7 := a7.st (n := n) (by rw [dn.sta.ns]; exact hn)
        have hk7 := (dn.iv.fk f _ dn.fk).1
        refine ⟨_, rfl, C.p, C.CP, g7.px, _, _, rfl, a7.pg, T.cp, T.p1, rfl, _, rfl, g.sa n, C.CS, g7.sx n, _, _, rfl, hs, T.cs, T.s3, rfl, _, rfl, g7.ta n, _, _, .int (f : Int), rfl, rfl, SqL.of ht7, atI_nat (by rw [List.getElem?_map, dn.tn]; rfl), ?_⟩
        refine ⟨g7.fl, _, _, _, rfl, rfl, SqL.of a7.fl, atI_nat (frV dn.fk), ?_⟩
        refine ⟨_, rfl, _, C.CF, _, _, rfl, a7.fi hk7, T.cf, T.f3, (by show 3 < 1000; decide), ?_⟩
        have go8 := go7.trans (go_U a7 hk7 (u := true) (H' := upd H7 (g7.fa g2.nf) (.ins C.CF (g7.fx g2.nf) (putF "used" (.bl true) (fsF g7 g2.nf)))) SameX.upd (upd_same.trans rfl))
        exact ⟨_, rfl, kk f _ (UN g7 _ true) _ go8 ⟨dn.iv, { dn.sv with }, ⟨dn.sta.px, dn.sta.fl, dn.sta.sd, dn.sta.pd, dn.sta.slots, dn.sta.last, dn.sta.frl, dn.sta.ns, dn.sta.sa, dn.sta.sx, dn.sta.ta, dn.sta.tl⟩, dn.tn, dn.fk⟩⟩
    | some f =>
      refine iteF ?_
      obtain ⟨k, hk, hin⟩ := iv.tb n j f hj he0
      have dn : Done M g g n j f k := ⟨iv, sv, Sta.refl g, he0, hk⟩
      have go0 := Go.refl st
      have a7 := go0.at_
      have hs : H (g.sa n) = some (.ins C.CS (g.sx n) (fsS C.p g n)) := by
        have := a7.si (n := n) (by rw [dn.sta.ns]; exact hn)
        rw [dn.sta.sa] at this; exact this
      have ht7 := a7.st (n := n) (by rw [dn.sta.ns]; exact hn)
      have hk7 := (dn.iv.fk f _ dn.fk).1
      refine ⟨_, rfl, C.p, C.CP, g.px, _, _, rfl, a7.pg, T.cp, T.p1, rfl, _, rfl, g.sa n, C.CS, g.sx n, _, _, rfl, hs, T.cs, T.s3, rfl, _, rfl, g.ta n, _, _, .int (f : Int), rfl, rfl, SqL.of ht7, atI_nat (by rw [List.getElem?_map, dn.tn]; rfl), ?_⟩
      refine ⟨g.fl, _, _, _, rfl, rfl, SqL.of a7.fl, atI_nat (frV dn.fk), ?_⟩
      refine ⟨_, rfl, _, C.CF, _, _, rfl, a7.fi hk7, T.cf, T.f3, (by show 3 < 1000; decide), ?_⟩
      have go8 := go0.trans (go_U a7 hk7 (u := true) (H' := upd H (g.fa k) (.ins C.CF (g.fx k) (putF "used" (.bl true) (fsF g k)))) SameX.upd (upd_same.trans rfl))
      exact ⟨_, rfl, kk f _ (UN g _ true) _ go8 ⟨dn.iv, { dn.sv with }, ⟨dn.sta.px, dn.sta.fl, dn.sta.sd, dn.sta.pd, dn.sta.slots, dn.sta.last, dn.sta.frl, dn.sta.ns, dn.sta.sa, dn.sta.sx, dn.sta.ta, dn.sta.tl⟩, dn.tn, dn.fk⟩⟩
end
end K07
namespace K07
open PySem L2 HK
/-! ### own_frame -/
def spOwn (C : CA) (CE : Addr) : Sp := fun vs H Q E => ∃ (g : G) (n j : Nat) (M : Nat → Nat → List Int), vs = [.ref C.p, .ref (g.sa n), .int ((j : Nat) : Int)] ∧ At C g H ∧ Iv (Lv g) M g ∧ Sv g ∧ n < g.ns ∧ Lv g n j ∧
  (¬ Roomy g → ∀ g' H', Go C g H g' H' → Iv (Lv g') M g' → Sv g' → Sta g g' → E (.ref CE) none H') ∧
  ∀ (f k : Nat) g' H' t, Go C g H g' H' → Done M g g' n j f k → g'.O k = [(t, (n, j))] → Q (.ref (g'.fa k)) H'
section
variable {M : Nat → Nat → List Int} {g g1 g2 : G} {n j : Nat}
theorem oth_two {O : List (Addr × Key2)} {key : Key2} (nd : (O.map (·.2)).Nodup) (h : O.length ≠ 1) (hin : key ∈ O.map (·.2)) : oth O key ≠ [] := fun e => by
  have all : ∀ x ∈ O, x.2 = key := fun x hx => Classical.byContradiction fun c => by
    have := mem_oth.mpr ⟨hx, c⟩
    rw [e] at this; cases this
  match O, h, hin, nd, all with
  | [], _, hin, _, _ => cases hin
  | [x], h, _, _, _ => exact h rfl
  | x :: y :: r, _, _, nd, all =>
    have h1 := all x (by simp)
    have h2 := all y (by simp)
    rw [List.map_cons, List.map_cons] at nd
    exact (List.nodup_cons.mp nd).1 (by rw [h1, ← h2]; simp)
/-- a page's owner leaves the frame that it shares -/
theorem own_mid (d1 : Done M g g1 n j f0 k0) {f : Nat} (fo : FpO M g1 g2 f (n, j)) (h2 : (g1.O k0).length ≠ 1) (hj : Lv g n j) (D : Addr) :
    Iv (fun a b => Lv g a b ∧ (a, b) ≠ (n, j)) M (ownG g2 k0 D (oth (g1.O k0) (n, j))) ∧ (n, j) ∉ g2.sw.map (·.1) := by
  have elv : Lv g1 = Lv g := d1.sta.lv
  obtain ⟨k', hk', hin⟩ := d1.iv.tb n j f0 (by rw [elv]; exact hj) d1.tn
  have ek : k' = k0 := by
    have := d1.fk
    rw [hk'] at this
    injection this with this
    injection this
  subst ek
  have tk := fo.tk
  have tk : (g2.T n)[j]? = if (g1.T n)[j]? = some (some f) then some none else (g1.T n)[j]? := tk
  rw [d1.tn] at tk
  by_cases c : f = f0
  · subst c
    rw [if_pos rfl] at tk
    have e : ∀ a b, Lk g1 f (n, j) a b ↔ (Lv g a b ∧ (a, b) ≠ (n, j)) := fun a b => by
      unfold Lk
      rw [elv]
      constructor
      · rintro ⟨z1, z2⟩
        exact ⟨z1, fun y => z2 ⟨y, by injection y with y1 y2; rw [y1, y2]; exact d1.tn⟩⟩
      · rintro ⟨z1, z2⟩
        exact ⟨z1, fun y => z2 y.1⟩
    have iv2 := fo.iv.cong e
    refine ⟨out_iv iv2 (fun f' z => ?_) D _, fun z => ?_⟩
    · by_cases d : f' = f
      · rw [d, fo.fr] at z; cases z
      · rw [fo.frn f' d] at z
        exact d (d1.iv.inj z d1.fk)
    · obtain ⟨x, hx, ex⟩ := List.mem_map.mp z
      have := (iv2.sl x hx).1
      exact this.2 (by show x.1 = _; exact ex)
  · rw [if_neg (fun z => by injection z with z; injection z with z; exact c z.symm)] at tk
    have e : ∀ a b, Lk g1 f (n, j) a b ↔ Lv g a b := fun a b => by
      unfold Lk
      rw [elv]
      refine ⟨fun z => z.1, fun z => ⟨z, fun y => ?_⟩⟩
      obtain ⟨y1, y2⟩ := y
      injection y1 with y3 y4
      rw [y3, y4, d1.tn] at y2
      injection y2 with y2
      injection y2 with y2
      exact c y2.symm
    have iv2 := fo.iv.cong e
    have fk2 : g2.fr[f0]? = some (some k') := by rw [fo.frn f0 (Ne.symm c)]; exact d1.fk
    have hO : g2.O k' = g1.O k' := congrFun fo.O k'
    have l := leave_iv iv2 fk2 (by rw [hO]; exact hin) D
    refine ⟨?_, fun z => ?_⟩
    · have : leaveG g2 f0 k' (n, j) D = ownG g2 k' D (oth (g1.O k') (n, j)) := by
        unfold leaveG ownG
        rw [hO, if_neg (oth_two (d1.iv.fk f0 k' d1.fk).2.2 h2 hin)]
      rw [this] at l
      exact l
    · obtain ⟨x, hx, ex⟩ := List.mem_map.mp z
      have := (iv2.sl x hx).2.1
      have ex : x.1 = (n, j) := ex
      rw [ex, tk] at this; cases this
end
section
variable {P : Program} {w : World} {K : PySem.W.Frag} {mg : Str → Option Value} {base : Heap} {C : CA} {CE : Addr}
theorem scOwn : FnScope ["self", "space", "page", "frame", "key", "place", "owner"] ["self", "space", "page"] (defScope sOwn) := ⟨rfl, rfl, rfl, by decide +kernel, rfl, by decide +kernel, by decide +kernel⟩
theorem ok_own {f fO fR fU fI : Addr} {fd fdO fdR fdU fdI : FuncData} (F : L2.Fun K "own_frame" "Pager.own_frame" sOwn f fd) (T : PTxt K mg C CE)
    (FO : FnOk P w K mg base (L2.CX P w) 4 fO fdO ["self", "space", "page"] (spFof C CE)) (bO : Binds K fdO ["self", "space", "page"] []) (mO : Meth K C.CP "frame_of" fO)
    (FR : FnOk P w K mg base (L2.CX P w) 3 fR fdR ["self", "key"] (spFree C CE)) (bR : Binds K fdR ["self", "key"] []) (mR : Meth K C.CP "free_place" fR)
    (FU : FnOk P w K mg base L2.CX0 2 fU fdU ["self", "place", "frame", "space", "page"] (spPut C)) (bU : Binds K fdU ["self", "place", "frame", "space", "page"] []) (mU : Meth K C.CP "put_frame" fU)
    (FI : FnOk P w K mg base L2.CX0 1 fI fdI ["self", "words"] (spFI K C.CF)) (bI : Binds K fdI ["self", "words"] []) (MI : Mk K C.CF fI) :
    FnOk P w K mg base (L2.CX P w) 5 f fd ["self", "space", "page"] (spOwn C CE) := by
  refine F.okX scOwn (fun vs H Q E h => ?_) (fun cdv A outer s H vs Q E hr h => ?_)
  · obtain ⟨g, n, j, M, rfl, _⟩ := h
    rfl
  · obtain ⟨g, n, j, M, rfl, st, iv, sv, hn, hj, kE, kk⟩ := h
    have rR := FR.mono (show 3 ≤ 4 by decide)
    have rU := FU.mono (show 2 ≤ 4 by decide)
    have rI := FI.mono (show 1 ≤ 3 by decide)
    refine ⟨_, pss_cons (ps_set (i := 3) scOwn.nd rfl (Or.inl rfl) (pe_meth (pv 0) T.cp mO FO hr bO .nil (passes_call (takes_of rfl rfl rfl rfl) (fun _ _ _ _ h => h)) (pa_cons (pv 1) (pa_cons (pv 2) pa_nil))))
      (pss_cons (ps_if (pt_cmpR op_eq (pe_callB call_len_seq (by rfl) T.len PySem.boot_len (pa_cons (pe_fld (pv 3) rfl) pa_nil)) pe_int (nomark _)) (pss_one (ps_ret (pv 3))) pss_nil)
      (pss_cons (ps_set (i := 4) scOwn.nd rfl (Or.inr rfl) (pe_tup (pa_cons (pe_fld (pv 1) rfl) (pa_cons (pv 2) pa_nil))))
      (pss_cons (ps_set (i := 5) scOwn.nd rfl (Or.inl rfl) (pe_meth (pv 0) T.cp mR rR hr bR .nil (passes_call (takes_of rfl rfl rfl rfl) (fun _ _ _ _ h => h)) (pa_cons (pv 4) pa_nil)))
      (pss_cons (ps_fld (pv 3) (pe_lc (own := [("owner", 6)]) (g := gName 6) (te := tVar 6) (by rfl) scOwn.nd (pi_list (pe_fld (pv 3) rfl)) (blkOk_by (N := ["self", "space", "page", "frame", "key", "place", "owner"]) (sc := defScope sOwn) (by decide +kernel))
        (fun _ _ _ _ _ => pg_name (i := 6) scOwn.nd rfl (Or.inl rfl)) (fun _ _ _ _ _ => pts_one (pt_cmpR (r := rNeD K) (by exact op_neD hr.units) (pv 6) (pv 4) (nomark _))) (fun _ _ _ _ _ => pv 6)) rfl)
      (pss_cons (ps_expr (pe_meth (pv 0) T.cp mU rU hr bU .nil pass0 (pa_cons (pv 5) (pa_cons (pe_make MI rI hr (by rfl) T.gF bI .nil pass0 (pa_cons (pe_fld (pv 3) rfl) pa_nil)) (pa_cons (pv 1) (pa_cons (pv 2) pa_nil))))))
      (pss_cons (ps_fld (pv 0) (pe_op op_add (pe_fld (pv 0) rfl) pe_int) rfl)
      (pss_one (ps_ret (pe_ix ix_list (pe_fld (pv 0) rfl) (pv 5) (fun _ _ => rfl)))))))))), ?_⟩
    refine ⟨_, rfl, C.p, g.px, _, rfl, st.pg, rfl, _, rfl, _, rfl, g, n, j, M, rfl, st, iv, sv, hn, hj, fun nr H' s' => kE nr g H' (Go.same st s') iv sv (Sta.refl g), fun f0 k0 g1 H1 go1 d1 => ?_⟩
    have a1 := go1.at_
    have hk1 := (d1.iv.fk f0 k0 d1.fk).1
    have elv : Lv g1 = Lv g := d1.sta.lv
    have hn1 : n < g1.ns := by rw [d1.sta.ns]; exact hn
    have hs1 : ∀ {gg : G} {HH : Hp}, At C gg HH → gg.sa = g1.sa → gg.ns = g1.ns → HH (g.sa n) = some (.ins C.CS (gg.sx n) (fsS C.p gg n)) := fun {gg HH} a e1 e2 => by
      have := a.si (n := n) (by rw [e2]; exact hn1)
      rw [e1, d1.sta.sa] at this; exact this
    obtain ⟨k', hk', hin⟩ := d1.iv.tb n j f0 (by rw [elv]; exact hj) d1.tn
    have ek : k' = k0 := by
      have := d1.fk
      rw [hk'] at this
      injection this with this
      injection this
    subst ek
    obtain ⟨x0, hx0, ex0⟩ := List.mem_map.mp hin
    have hW : g1.W k' = M n j := by
      have := (d1.iv.ow f0 k' hk' x0 hx0).2.2.2
      rw [ex0] at this; exact this
    have len := own_len d1.sv (fun _ _ h => h) d1.iv hk'
    refine ⟨_, rfl, g1.fa k', C.CF, g1.fx k', _, _, rfl, a1.fi hk1, T.cf, T.f2, rfl, g1.oa k', _, rfl, .inl (SqL.of (a1.fo hk1)), rfl, _, rfl, ite2 (fun c => ?_) (fun c => ?_)⟩
    · have c : (g1.O k').length = 1 := by
        have : ((((g1.O k').map fun x => V.ref x.1).length : Nat) : Int) = 1 := by simpa using c
        rw [List.length_map] at this
        omega
      match e : g1.O k', c with
      | [x], _ =>
        rw [e] at hx0
        have : x0 = x := by simpa using hx0
        refine ⟨_, rfl, kk f0 k' g1 H1 x.1 go1 d1 ?_⟩
        rw [e, ← this, ← ex0]
    · have c : (g1.O k').length ≠ 1 := fun z => c (by rw [List.length_map, z]; simp)
      refine ⟨_, rfl, g.sa n, C.CS, g1.sx n, _, _, rfl, hs1 a1 rfl rfl, T.cs, T.s2, rfl, _, rfl, (by show 2 ≤ sizeLine; decide), fun t nt => ?_⟩
      have s2 : Same H1 (upd H1 t (keyO (n, j))) := same_upd nt
      have ht : (upd H1 t (keyO (n, j))) t = some (keyO (n, j)) := upd_same
      have go2 := go1.trans (Go.same a1 s2)
      generalize upd H1 t (keyO (n, j)) = H2 at s2 ht go2 ⊢
      have a2 := go2.at_
      refine ⟨_, rfl, C.p, g1.px, _, rfl, a2.pg, rfl, _, rfl, g1, t, (n, j), M, rfl, a2, ht, d1.iv, d1.sv, fun nr H' s' => kE (fun z => nr (d1.sta.roomy.mpr z)) g1 H' (go2.trans (Go.same a2 s')) d1.iv d1.sv d1.sta, fun f g2 H3 go fp => ?_⟩
      have fo := fp_out d1.iv d1.sv fp
      have go3 := go2.trans go
      have a3 := go.at_
      have ht3 := go.nx.tup a2 ht
      have hk2 : k' < g2.nf := by rw [fo.nf]; exact hk1
      have hn2 : n < g2.ns := by rw [fo.sta.ns]; exact hn1
      have hO2 : g2.O k' = g1.O k' := congrFun fo.O k'
      have hW2 : g2.W k' = M n j := (congrFun fo.W k').trans hW
      have len2 : (g2.O k').length ≤ 6400 := by rw [hO2]; exact len
      rw [show g1.fa k' = g2.fa k' from (congrFun fo.fa k').symm]
      refine ⟨_, rfl, g2.fa k', C.CF, g2.fx k', _, _, rfl, a3.fi hk2, T.cf, T.f2, rfl, g2.oa k', rfl, ⟨_, SqL.of (a3.fo hk2)⟩, fun D nD => ?_⟩
      refine lc_list (K := K) (a := g2.oa k') (xs := oV (g2.O k')) (fun i H' => Same H3 H' ∧ H' D = some (.lst (oV (oth ((g2.O k').take i) (n, j))))) ⟨same_upd nD, upd_same⟩ (fun i H' hi q => SqL.of (q.1 _ _ (a3.fo hk2))) (fun i z H' hx q => ?_) (fun H4 q => ?_)
      · obtain ⟨sm, hD⟩ := q
        unfold oV at hx
        rw [List.getElem?_map] at hx
        obtain ⟨x, hx', rfl⟩ := Option.map_eq_some_iff.mp hx
        have hm := List.mem_of_getElem? hx'
        refine ⟨rfl, _, rfl, _, rfl, kD x.2, kD (n, j), dp_key (sm _ _ (a3.tp1 k' hk2 x hm)), dp_key (sm _ _ ht3), kD_shaped _, kD_shaped _, _, rfl, ?_⟩
        rw [kD_eqv]
        have e1 := oth_snoc (k := (n, j)) hx'
        have ln : (oV (oth ((g2.O k').take i) (n, j))).length < sizeLine := by
          unfold oV
          rw [List.length_map]
          refine small (Nat.le_trans (oth_len _ _) ?_)
          rw [List.length_take]; omega
        refine ite2 (fun c => ?_) (fun c => ?_)
        · have c : x.2 ≠ (n, j) := by simpa using c
          rw [if_neg c] at e1
          refine ⟨_, rfl, _, hD, ln, fun b o h => by rw [upd_ne (ne_of_none h nD)]; exact sm b o h, ?_⟩
          rw [upd_same, e1]
          unfold oV
          rw [List.map_append]; rfl
        · have c : x.2 = (n, j) := by simpa using c
          rw [if_pos c, List.append_nil] at e1
          exact ⟨sm, by rw [e1]; exact hD⟩
      · obtain ⟨sm, hD⟩ := q
        unfold oV at hD
        rw [List.length_map, List.take_length] at hD
        have nDa : D ≠ g2.fa k' := fun e => by rw [e, a3.fi hk2] at nD; cases nD
        refine ⟨_, rfl, g2.fa k', C.CF, g2.fx k', _, rfl, (a3.same sm).fi hk2, T.cf, T.f2, (by show 3 < 1000; decide), ?_⟩
        have go4 : Go C g2 H3 (ownG g2 k' D (oth (g2.O k') (n, j))) (upd H4 (g2.fa k') (.ins C.CF (g2.fx k') (putF "owners" (.ref D) (fsF g2 k')))) :=
          go_own a3 hk2 nD (fun x hx => a3.tp1 k' hk2 x (List.mem_filter.mp hx).1) (fun b o n h => by rw [upd_ne n]; exact sm _ _ h) (by rw [upd_ne nDa]; exact hD) (by rw [upd_same]; rfl)
        generalize upd H4 (g2.fa k') (.ins C.CF (g2.fx k') (putF "owners" (.ref D) (fsF g2 k'))) = H5 at go4 ⊢
        obtain ⟨iv3, nsw⟩ := own_mid d1 fo c hj D
        rw [← hO2] at iv3
        have sh3 : Sh (ownG g2 k' D (oth (g2.O k') (n, j))) (n, j) := { fo.sh with swl := fo.sh.swl, evf := fo.sh.evf }
        have st3 : Sta g (ownG g2 k' D (oth (g2.O k') (n, j))) := by
          have z := d1.sta.trans fo.sta
          exact ⟨z.px, z.fl, z.sd, z.pd, z.slots, z.last, z.frl, z.ns, z.sa, z.sx, z.ta, z.tl⟩
        have swl3 : (ownG g2 k' D (oth (g2.O k') (n, j))).sw.length ≤ (ownG g2 k' D (oth (g2.O k') (n, j))).slots := by
          have := fo.sh.swl
          rw [if_neg nsw] at this
          exact this
        have fr3 : (ownG g2 k' D (oth (g2.O k') (n, j))).fr[f]? = some none := fo.fr
        have efa3 : (ownG g2 k' D (oth (g2.O k') (n, j))).fa k' = g2.fa k' := rfl
        have hk3 : k' < (ownG g2 k' D (oth (g2.O k') (n, j))).nf := hk2
        have hW3 : (ownG g2 k' D (oth (g2.O k') (n, j))).W k' = M n j := hW2
        have hn3 : n < (ownG g2 k' D (oth (g2.O k') (n, j))).ns := hn2
        have esa3 : (ownG g2 k' D (oth (g2.O k') (n, j))).sa = g.sa := st3.sa
        rw [← efa3]
        have go5 := go3.trans go4
        generalize ownG g2 k' D (oth (g2.O k') (n, j)) = g3 at go4 go5 iv3 sh3 st3 swl3 fr3 hk3 hW3 hn3 esa3 ⊢
        have a5 := go5.at_
        have frl3 : FrLt g3 := fun f k e => (iv3.fk f k e).1
        have hf3 : f < g3.fr.length := (List.getElem?_eq_some_iff.mp fr3).1
        refine ⟨_, rfl, C.p, g3.px, _, rfl, a5.pg, rfl, _, rfl, ?_⟩
        refine ⟨_, rfl, g3.fa k', C.CF, g3.fx k', _, _, rfl, a5.fi hk3, T.cf, T.f1, rfl, ?_⟩
        have hw5 := a5.fw hk3
        rw [hW3] at hw5
        refine fun x dx nx ndx ndd => ⟨x, dx, g3.wa k', (M n j).map V.int, rfl, upd_same, .inl (SqL.of ?_), ne_of_none hw5 nx, fun H6 wA oA nw no nwo sx h1 h2 h3 => ⟨rfl, ?_⟩⟩
        · rw [upd_ne (ne_of_none hw5 nx), upd_ne (ne_of_none hw5 ndx)]; exact hw5
        obtain ⟨sm6, go6⟩ := go_make (ws := M n j) a5 frl3 nx ndx ndd nw no nwo sx h1 h2 h3
        have a6 := go6.at_
        refine ⟨_, rfl, _, rfl, newG g3 x dx wA oA (M n j), f, g3.nf, n, j, ?_, a6, hf3, Nat.lt_succ_self _, ?_, hn3, ?_, sp_len sh3.spn sh3.spl sh3.n100, fun t7 H7 go7 => ?_⟩
        · have e1 : (newG g3 x dx wA oA (M n j)).fa g3.nf = x := fset_same
          have e2 : (newG g3 x dx wA oA (M n j)).sa n = g.sa n := congrFun esa3 n
          rw [e1, e2]; rfl
        · have e1 : (newG g3 x dx wA oA (M n j)).O g3.nf = [] := fset_same
          rw [e1]; exact Nat.zero_le _
        · show j < (g3.T n).length
          rw [st3.tl n]; exact hj
        have dn : Done M g (cnt (shareG (frG (newG g3 x dx wA oA (M n j)) f (some g3.nf)) f g3.nf n j t7) g3.faults (g3.cp + 1)) n j f g3.nf := in_done (g := g) (g2 := g3) (x := x) (dx := dx) (wA := wA) (oA := oA) (t := t7) (fa := g3.faults) (cp := g3.cp + 1) iv3 (iv.m8 n j hj) fr3 st3 sh3 swl3 hn3 hj (by have := sh3.evf; omega)
        have hO7 : (shareG (frG (newG g3 x dx wA oA (M n j)) f (some g3.nf)) f g3.nf n j t7).O g3.nf = [(t7, (n, j))] := by
          show fset (fset g3.O g3.nf []) g3.nf (fset g3.O g3.nf [] g3.nf ++ [(t7, (n, j))]) g3.nf = _
          rw [fset_same, fset_same]; rfl
        have efa : (shareG (frG (newG g3 x dx wA oA (M n j)) f (some g3.nf)) f g3.nf n j t7).faults = g3.faults := rfl
        have ecp : (shareG (frG (newG g3 x dx wA oA (M n j)) f (some g3.nf)) f g3.nf n j t7).cp = g3.cp := rfl
        generalize shareG (frG (newG g3 x dx wA oA (M n j)) f (some g3.nf)) f g3.nf n j t7 = g7 at go7 dn efa ecp hO7
        have a7 := go7.at_
        have go07 := (go5.trans go6).trans go7
        refine ⟨_, rfl, C.p, C.CP, g7.px, _, _, rfl, a7.pg, T.cp, T.p9, rfl, _, _, rfl, rfl, _, rfl, C.p, C.CP, g7.px, _, rfl, a7.pg, T.cp, T.p9, (by show 9 < 1000; decide), ?_⟩
        have go8 : Go C g H (cnt g7 g3.faults (g3.cp + 1)) (upd H7 C.p (.ins C.CP g7.px (putF "copies" (.int ((g7.cp : Int) + 1)) (fsP g7)))) :=
          go07.trans (go_pg a7 SameX.upd upd_same (by rw [ecp, ← efa]; rfl) rfl)
        dsimp only
        have hO8 : (cnt g7 g3.faults (g3.cp + 1)).O g3.nf = [(t7, (n, j))] := hO7
        generalize cnt g7 g3.faults (g3.cp + 1) = g8 at dn go8 hO8
        generalize upd H7 C.p (.ins C.CP g7.px (putF "copies" (.int ((g7.cp : Int) + 1)) (fsP g7))) = H8 at go8 ⊢
        have a8 := go8.at_
        exact ⟨_, rfl, C.p, C.CP, g8.px, _, _, rfl, a8.pg, T.cp, T.p1, rfl, _, rfl, g8.fl, _, _, _, rfl, rfl, SqL.of a8.fl, atI_nat (frV dn.fk), kk f g3.nf g8 H8 t7 go8 dn hO8⟩
end
end K07
namespace K07
open PySem L2 HK
def tabG (g : G) (n : Nat) (q : Addr) (l : List (Option Nat)) : G := { g with ta := fset g.ta n q, T := fset g.T n l }
def fsSt (p : Addr) (n : Nat) (q : Addr) : List (Str × V) := [("pager", .ref p), ("number", .int ((n : Int) + 1)), ("table", .ref q)]
section
variable {C : CA} {g g' : G} {H H' : Hp}
theorem go_tab (s : At C g H) {n : Nat} (hn : n < g.ns) {q : Addr} {l : List (Option Nat)} (hq : H q = none) (hs : SameX (g.sa n) H H') (h1 : H' q = some (.lst (l.map tV)))
    (h2 : H' (g.sa n) = some (.ins C.CS (g.sx n) (fsSt C.p n q))) : Go C g H (tabG g n q l) H' := by
  have tk : ∀ t xs, H t = some (.tup xs) → H' t = some (.tup xs) := fun t xs h => hs t _ (fun e => s.ntup h ⟨.si n, .ins C.CS (g.sx n) (fsS C.p g n), by rw [e]; exact lay_si hn⟩) h
  have nqa : q ≠ g.sa n := fun e => by rw [e, s.si hn] at hq; cases hq
  have lsi : lay C (tabG g n q l) (.si n) = some (g.sa n, .ins C.CS (g.sx n) (fsSt C.p n q)) := by
    show (if n < g.ns then some (g.sa n, HO.ins C.CS (g.sx n) (fsSt C.p n (fset g.ta n q n))) else none) = _
    rw [if_pos hn, fset_same]
  have lst : lay C (tabG g n q l) (.st n) = some (q, .lst (l.map tV)) := by
    show (if n < g.ns then some (fset g.ta n q n, HO.lst ((fset g.T n l n).map tV)) else none) = _
    rw [if_pos hn, fset_same, fset_same]
  refine Go.gen s [.si n, .st n] (fun y hy => ?_) (fun b o hb m => hs b o (fun e => m (.si n) (by simp) (.ins C.CS (g.sx n) (fsS C.p g n)) (by rw [e]; exact lay_si hn)) hb) (fun y hy a o h => ?_) (fun i hi y hy => tk _ _ (s.tp1 i hi y hy)) (fun y hy => tk _ _ (s.tp2 y hy))
  · simp only [List.mem_cons, List.not_mem_nil, or_false, not_or] at hy
    cases y with
    | si i =>
      have : i ≠ n := fun e => hy.1 (by rw [e])
      show (if i < g.ns then some (g.sa i, HO.ins C.CS (g.sx i) (fsSt C.p i (fset g.ta n q i))) else none) = _
      rw [fset_ne this]; rfl
    | st i =>
      have : i ≠ n := fun e => hy.2 (by rw [e])
      show (if i < g.ns then some (fset g.ta n q i, HO.lst ((fset g.T n l i).map tV)) else none) = _
      rw [fset_ne this, fset_ne this]; rfl
    | _ => rfl
  · simp only [List.mem_cons, List.not_mem_nil, or_false] at hy
    rcases hy with rfl | rfl
    · rw [lsi] at h; cases h
      exact ⟨h2, .inl ⟨_, lay_si hn⟩⟩
    · rw [lst] at h; cases h
      refine ⟨h1, .inr ⟨hq, fun z hz o' e => ?_⟩⟩
      simp only [List.mem_cons, List.not_mem_nil, or_false] at hz
      rcases hz with rfl | rfl
      · rw [lsi] at e; cases e; exact absurd rfl nqa
      · rfl
end
/-- what all the calls leave as it is -/
structure Ste (g g' : G) : Prop where
  slots : g'.slots = g.slots
  frl : g'.fr.length = g.fr.length
  ns : g'.ns = g.ns
  sa : g'.sa = g.sa
theorem Sta.ste {g g' : G} (s : Sta g g') : Ste g g' := ⟨s.slots, s.frl, s.ns, s.sa⟩
def relN (g : G) (n : Nat) : G := { g with sp := g.sp.filter fun m => decide (m ≠ n) }
theorem spK_drop (g : G) (n : Nat) : dropK (spK g) (.inl ((n : Int) + 1)) = spK (relN g n) := by
  unfold dropK spK relN
  rw [List.filter_map]
  congr 1
  refine List.filter_congr fun m _ => ?_
  show decide ((Sum.inl ((m : Int) + 1) : Key) ≠ .inl ((n : Int) + 1)) = decide (m ≠ n)
  by_cases e : m = n
  · simp [e]
  · have : (Sum.inl ((m : Int) + 1) : Key) ≠ .inl ((n : Int) + 1) := fun z => e (by injection z with z; omega)
    simp [e, this]
theorem spK_none {g : G} {n : Nat} (h : n ∉ g.sp) : spK (relN g n) = spK g := by
  have e : g.sp.filter (fun m => decide (m ≠ n)) = g.sp := by
    rw [List.filter_eq_self]
    intro m hm
    exact decide_eq_true fun e => h (by rw [← e]; exact hm)
  unfold spK relN
  show (g.sp.filter fun m => decide (m ≠ n)).map _ = _
  rw [e]
/-- the state within release -/
def relW (g : G) (oa : Nat → Addr) (O : Nat → List (Addr × Key2)) (fr : List (Option Nat)) (sw : Sw) : G := { g with oa := oa, O := O, fr := fr, sw := sw }
structure Rl (L : Nat → Nat → Prop) (M : Nat → Nat → List Int) (g : G) (oa : Nat → Addr) (O : Nat → List (Addr × Key2)) (fr : List (Option Nat)) (sw : Sw) : Prop where
  frl : fr.length = g.fr.length
  swl : sw.length ≤ g.sw.length
  iv : Iv L M (relW g oa O fr sw)
def spRel (C : CA) : Sp := fun vs H Q _ => ∃ (g : G) (n : Nat) (M : Nat → Nat → List Int), vs = [.ref C.p, .ref (g.sa n)] ∧ At C g H ∧ Iv (Lv g) M g ∧ Sv g ∧ n < g.ns ∧
  ∀ g' H', Go C g H g' H' → Iv (Lv g') M g' → Sv g' → Ste g g' → (∀ m, (g'.T m).length = if m = n then 0 else (g.T m).length) → Q .non H'
theorem rel_iv {L : Nat → Nat → Prop} {M : Nat → Nat → List Int} {g : G} {oa : Nat → Addr} {O : Nat → List (Addr × Key2)} {fr : List (Option Nat)} {sw : Sw} {n i : Nat} (iv0 : Iv (fun a b => L a b ∧ ¬ (a = n ∧ b < i)) M (relW g oa O fr sw)) (D : Addr) (hL : ∀ a b, L a b ↔ Lv g a b) (hi : i = (g.T n).length) :
    Iv (Lv (relN (tabG (relW g oa O fr sw) n D []) n)) M (relN (tabG (relW g oa O fr sw) n D []) n) := by
  have lv : ∀ a b, Lv (relN (tabG (relW g oa O fr sw) n D []) n) a b ↔ (L a b ∧ ¬ (a = n ∧ b < i)) := fun a b => by
    show b < (fset g.T n [] a).length ↔ _
    rw [hL]
    by_cases e : a = n
    · subst e
      rw [fset_same]
      show b < 0 ↔ (b < (g.T a).length ∧ ¬ (a = a ∧ b < i))
      rw [hi]; simp
    · rw [fset_ne e]
      show b < (g.T a).length ↔ (b < (g.T a).length ∧ ¬ (a = n ∧ b < i))
      simp [e]
  have ne : ∀ a b, (L a b ∧ ¬ (a = n ∧ b < i)) → a ≠ n := fun a b z e => z.2 ⟨e, by
    have := (hL a b).mp z.1
    rw [hi, ← e]; exact this⟩
  have gt : ∀ a, a ≠ n → (relN (tabG (relW g oa O fr sw) n D []) n).T a = g.T a := fun a h => fset_ne h
  have iv := iv0.cong fun a b => (lv a b).symm
  have ne' : ∀ a b, Lv (relN (tabG (relW g oa O fr sw) n D []) n) a b → a ≠ n := fun a b z => ne a b ((lv a b).mp z)
  refine ⟨iv.fk, fun f k e x hx => ?_, fun a b f hl h => ?_, iv.sn, fun x hx => ?_, fun a b hl h => ?_, fun a b hl => ?_, iv.m8⟩
  · obtain ⟨h1, h2, h3, h4⟩ := iv.ow f k e x hx
    have m := ne' _ _ h1
    exact ⟨h1, by rw [gt _ m]; exact h2, List.mem_filter.mpr ⟨h3, by simpa using m⟩, h4⟩
  · rw [gt _ (ne' _ _ hl)] at h
    exact iv.tb a b f hl h
  · obtain ⟨h1, h2, h3⟩ := iv.sl x hx
    exact ⟨h1, by rw [gt _ (ne' _ _ h1)]; exact h2, h3⟩
  · rw [gt _ (ne' _ _ hl)] at h
    exact iv.nn a b hl h
  · rw [gt _ (ne' _ _ hl)]
    exact iv.lv a b hl
section
variable {P : Program} {w : World} {K : PySem.W.Frag} {mg : Str → Option Value} {base : Heap} {C : CA} {CE : Addr}
theorem scRel : FnScope ["self", "space", "page", "place", "key"] ["self", "space"] (defScope sRel) := ⟨rfl, rfl, rfl, by decide +kernel, rfl, by decide +kernel, by decide +kernel⟩
theorem ok_rel {f fL : Addr} {fd fdL : FuncData} (F : L2.Fun K "release" "Pager.release" sRel f fd) (T : PTxt K mg C CE)
    (FL : FnOk P w K mg base L2.CX0 1 fL fdL ["self", "place", "key"] (spLea C)) (bL : Binds K fdL ["self", "place", "key"] []) (mL : Meth K C.CP "leave_frame" fL) :
    FnOk P w K mg base L2.CX0 2 f fd ["self", "space"] (spRel C) := by
  refine F.ok scRel (fun vs H Q E h => ?_) (fun cdv A outer s H vs Q E hr h => ?_)
  · obtain ⟨g, n, M, rfl, _⟩ := h
    rfl
  · obtain ⟨g, n, M, rfl, st, iv, sv, hn, kk⟩ := h
    refine ⟨_, pss_cons (ps_for PassesOwn.never rfl (pi_enum (by rfl) T.enum (pa_cons (pe_fld (pv 1) rfl) pa_nil)) (pg_tup rfl (pgs_cons (pg_name (i := 2) scRel.nd rfl (Or.inl rfl)) (pgs_cons (pg_name (i := 3) scRel.nd rfl (Or.inl rfl)) pgs_nil)))
        (pss_cons (ps_set (i := 4) scRel.nd rfl (Or.inl rfl) (pe_tup (pa_cons (pe_fld (pv 1) rfl) (pa_cons (pv 2) pa_nil))))
        (pss_one (ps_if (pt_cmpR op_isN (pv 3) pe_non (nomark _)) (pss_one (ps_expr (pe_bm PySem.F.plainAttrs_dict PySem.F.slot_dict_pop PySem.F.type_dict_pop (L2.DX.mt_popT (hu_of hr)) (pe_fld (pv 0) rfl) (pa_cons (pv 4) (pa_cons pe_non pa_nil)))))
          (pss_one (ps_expr (pe_meth (pv 0) T.cp mL FL hr bL .nil pass0 (pa_cons (pv 3) (pa_cons (pv 4) pa_nil)))))))))
      (pss_cons (ps_fld (pv 1) (pe_lst pa_nil) rfl)
      (pss_one (ps_expr (pe_dpop2 (pe_fld (pv 0) rfl) (pe_fld (pv 1) rfl) pe_non ⟨rfl, rfl, rfl, rfl⟩)))), ?_⟩
    refine ⟨_, rfl, g.sa n, C.CS, g.sx n, _, _, rfl, st.si hn, T.cs, T.s3, rfl, g.ta n, _, rfl, SqL.of (st.st hn), ?_⟩
    refine for_it (walk_enum (K := K) (a := g.ta n) (xs := (g.T n).map tV)) (fun i σ H' => ∃ oa O fr sw, Go C g H (relW g oa O fr sw) H' ∧ Rl (fun a b => Lv g a b ∧ ¬ (a = n ∧ b < i)) M g oa O fr sw ∧ ∃ u2 u3 u4, σ = [some (.ref C.p), some (.ref (g.sa n)), u2, u3, u4])
      ⟨g.oa, g.O, g.fr, g.sw, Go.refl st, ⟨rfl, Nat.le_refl _, iv.cong fun a b => ⟨fun z => ⟨z, fun y => Nat.not_lt_zero _ y.2⟩, fun z => z.1⟩⟩, none, none, none, rfl⟩ (fun i σ H' hi q => ?_) (fun i x σ H' H'' hi q y => ?_) (fun σ H' q => ?_)
    · obtain ⟨oa, O, fr, sw, go, r, _⟩ := q
      exact SqL.of (go.at_.st (n := n) hn)
    · obtain ⟨oa, O, fr, sw, go, r, u2, u3, u4, rfl⟩ := q
      obtain ⟨Tu, x1, x2, rfl, nT, rfl, ex, hx⟩ := y
      have ex : V.int (i : Int) = x1 := Option.some.inj ex
      subst ex
      have hx : ((g.T n).map tV)[i]? = some x2 := hx
      rw [List.getElem?_map] at hx
      obtain ⟨e, he, rfl⟩ := Option.map_eq_some_iff.mp hx
      rw [List.length_map] at hi
      have a1 := go.at_
      have s1 : Same H' (upd H' Tu (.tup [.int (i : Int), tV e])) := same_upd nT
      have hT : (upd H' Tu (.tup [.int (i : Int), tV e])) Tu = some (.tup [.int (i : Int), tV e]) := upd_same
      have go1 := go.trans (Go.same a1 s1)
      generalize upd H' Tu (.tup [.int (i : Int), tV e]) = H1 at s1 hT go1 ⊢
      have a2 := go1.at_
      refine ⟨Tu, _, rfl, SqT.of hT, rfl, _, _, rfl, _, _, rfl, rfl, ?_⟩
      refine ⟨_, rfl, g.sa n, C.CS, g.sx n, _, _, rfl, a2.si (n := n) hn, T.cs, T.s2, rfl, _, rfl, (by show 2 ≤ sizeLine; decide), fun t nt => ?_⟩
      have s3 : Same H1 (upd H1 t (keyO (n, i))) := same_upd nt
      have ht : (upd H1 t (keyO (n, i))) t = some (keyO (n, i)) := upd_same
      have go3 := go1.trans (Go.same a2 s3)
      generalize upd H1 t (keyO (n, i)) = H3 at s3 ht go3 ⊢
      have a3 := go3.at_
      have lvn : ∀ a b, ((Lv g a b ∧ ¬ (a = n ∧ b < i)) ∧ (a, b) ≠ (n, i)) ↔ (Lv g a b ∧ ¬ (a = n ∧ b < i + 1)) := fun a b => by
        constructor
        · rintro ⟨⟨z1, z2⟩, z3⟩
          refine ⟨z1, fun y => ?_⟩
          by_cases d : b = i
          · exact z3 (by rw [y.1, d])
          · exact z2 ⟨y.1, by omega⟩
        · rintro ⟨z1, z2⟩
          refine ⟨⟨z1, fun y => z2 ⟨y.1, by omega⟩⟩, fun y => ?_⟩
          injection y with y1 y2
          exact z2 ⟨y1, by omega⟩
      refine ⟨_, rfl, rfl, _, rfl, ?_⟩
      cases e with
      | none =>
        refine iteT ?_
        refine ⟨_, rfl, C.p, C.CP, g.px, _, _, rfl, a3.pg, T.cp, T.p4, rfl, .inr (.inr (.inl ⟨rfl, .inr ⟨_, a3.sd⟩⟩)), _, rfl, ?_⟩
        have ivd := r.iv.drop_sw n i he
        refine ⟨g.sd, swK sw, keyL (n, i), t, .non, rfl, rfl, a3.sd, ht, fun v hv => ?_, fun hv => ?_⟩
        · refine ⟨oa, O, fr, swD sw (n, i), ?_, ⟨r.frl, Nat.le_trans (List.length_filter_le _ _) r.swl, ivd.cong lvn⟩, _, _, _, rfl⟩
          exact go3.trans (go_sw a3 (fun y hy => a3.tp2 y (List.mem_filter.mp hy).1) SameX.upd (upd_same.trans (by rw [swK_drop])))
        · have hni : (n, i) ∉ sw.map (·.1) := fun c => by
            obtain ⟨y, hy, ey, e⟩ := swK_some c
            rw [e] at hv; cases hv
          have esw : swD sw (n, i) = sw := by
            unfold swD
            rw [List.filter_eq_self]
            intro y hy
            exact decide_eq_true fun e => hni (by rw [← e]; exact List.mem_map_of_mem hy)
          refine ⟨oa, O, fr, sw, go3, ⟨r.frl, r.swl, ?_⟩, _, _, _, rfl⟩
          have ivd : Iv _ M (relW g oa O fr (swD sw (n, i))) := ivd
          rw [esw] at ivd
          exact ivd.cong lvn
      | some f =>
        refine iteF ?_
        obtain ⟨k, hk, hin⟩ := r.iv.tb n i f ⟨hi, fun y => Nat.lt_irrefl _ y.2⟩ he
        have hkn := (r.iv.fk f k hk).1
        have sv' : Sv (relW g oa O fr sw) := { sv with hnd := by show g.hand < fr.length; rw [r.frl]; exact sv.hnd, frl := by show fr.length ≤ 5; rw [r.frl]; exact sv.frl, swl := Nat.le_trans r.swl sv.swl }
        have len := own_len sv' (fun _ _ h => h.1) r.iv hk
        refine ⟨_, rfl, C.p, g.px, _, rfl, a3.pg, rfl, _, rfl, _, rfl, relW g oa O fr sw, f, k, (n, i), t, rfl, a3, hk, hkn, len, ht, fun q H4 nq go4 => ?_⟩
        refine ⟨fset oa k q, fset O k (oth (O k) (n, i)), if oth (O k) (n, i) = [] then fr.set f none else fr, sw, go3.trans go4, ⟨?_, r.swl, (leave_iv r.iv hk hin q).cong lvn⟩, _, _, _, rfl⟩
        split
        · rw [List.length_set]; exact r.frl
        · exact r.frl
    · obtain ⟨oa, O, fr, sw, go, r, u2, u3, u4, rfl⟩ := q
      have a1 := go.at_
      refine ⟨by show 0 ≤ sizeLine; decide, fun D nD => ?_⟩
      have s1 : Same H' (upd H' D (.lst [])) := same_upd nD
      have hD : (upd H' D (.lst [])) D = some (.lst []) := upd_same
      have nDa : g.sa n ≠ D := ne_of_none (a1.si (n := n) hn) nD
      refine ⟨_, rfl, g.sa n, C.CS, g.sx n, _, rfl, (a1.same s1).si (n := n) hn, T.cs, T.s3, (by show 3 < 1000; decide), ?_⟩
      have go2 : Go C (relW g oa O fr sw) H' (tabG (relW g oa O fr sw) n D []) (upd (upd H' D (.lst [])) (g.sa n) (.ins C.CS (g.sx n) (putF "table" (.ref D) (fsS C.p (relW g oa O fr sw) n)))) :=
        go_tab a1 (n := n) hn nD (fun b o hb h => (upd_ne (a := g.sa n) hb).trans (s1 _ _ h)) ((upd_ne (a := g.sa n) nDa.symm).trans hD) ((upd_same (a := g.sa n)).trans rfl)
      generalize upd (upd H' D (.lst [])) (g.sa n) (.ins C.CS (g.sx n) (putF "table" (.ref D) (fsS C.p (relW g oa O fr sw) n))) = H2 at go2 ⊢
      have a2 := go2.at_
      have fin : ∀ H3, Go C g H (relN (tabG (relW g oa O fr sw) n D []) n) H3 → Q .non H3 := fun H3 go3 => by
        refine kk _ H3 go3 (rel_iv r.iv D (fun _ _ => Iff.rfl) (by rw [List.length_map])) ?_ ⟨rfl, r.frl, rfl, rfl⟩ fun m => ?_
        · refine { spn := List.Sublist.nodup List.filter_sublist sv.spn, spl := fun m hm => sv.spl m (List.mem_filter.mp hm).1, las := sv.las, hnd := by show g.hand < fr.length; rw [r.frl]; exact sv.hnd, frl := by show fr.length ≤ 5; rw [r.frl]; exact sv.frl, t64 := fun m => ?_, tns := fun m hm => ?_, swl := Nat.le_trans r.swl sv.swl, evf := sv.evf, n100 := sv.n100 }
          · show (fset g.T n [] m).length ≤ 64
            by_cases e : m = n
            · rw [e, fset_same]; exact Nat.zero_le _
            · rw [fset_ne e]; exact sv.t64 m
          · show fset g.T n [] m = []
            by_cases e : m = n
            · rw [e, fset_same]
            · rw [fset_ne e]; exact sv.tns m hm
        · show (fset g.T n [] m).length = _
          by_cases e : m = n
          · rw [e, fset_same, if_pos rfl]; rfl
          · rw [fset_ne e, if_neg e]
      refine ⟨_, rfl, C.p, C.CP, g.px, _, _, rfl, a2.pg, T.cp, T.p5, rfl, g.pd, rfl, .inl ⟨_, .inl a2.pd⟩, _, rfl, g.sa n, C.CS, g.sx n, _, _, rfl, a2.si (n := n) hn, T.cs, T.s2, rfl, ?_⟩
      refine ⟨_, .inl ((n : Int) + 1), a2.pd, rfl, fun v hv => ?_, fun hv => ?_⟩
      · exact fin _ ((go.trans go2).trans (go_sp (g := tabG (relW g oa O fr sw) n D []) (l := g.sp.filter fun m => decide (m ≠ n)) a2 SameX.upd (upd_same.trans (congrArg (fun z => some (HO.dK z)) (spK_drop (tabG (relW g oa O fr sw) n D []) n)))))
      · have hns : n ∉ g.sp := fun z => by
          have := spK_val (g := tabG (relW g oa O fr sw) n D []) (n := n) z
          rw [this] at hv; cases hv
        refine fin _ ((go.trans go2).trans ?_)
        have e : relN (tabG (relW g oa O fr sw) n D []) n = tabG (relW g oa O fr sw) n D [] := by
          have e : g.sp.filter (fun m => decide (m ≠ n)) = g.sp := by
            rw [List.filter_eq_self]
            intro m hm
            exact decide_eq_true fun e => hns (by rw [← e]; exact hm)
          show { tabG (relW g oa O fr sw) n D [] with sp := g.sp.filter fun m => decide (m ≠ n) } = _
          rw [e]; rfl
        rw [e]
        exact Go.refl a2
end
end K07
namespace K07
open PySem L2 HK
/-! ### made anew: the pager -/
def newP (px fl sd pd : Addr) (slots many : Nat) : G :=
  { px := px, fl := fl, sd := sd, pd := pd, slots := slots, hand := 0, last := 0, faults := 0, ev := 0, cp := 0, fr := List.replicate many none, sw := [], sp := [], nf := 0, fa := fun _ => 0, fx := fun _ => 0, wa := fun _ => 0, oa := fun _ => 0, W := fun _ => [], O := fun _ => [], U := fun _ => false, ns := 0, sa := fun _ => 0, sx := fun _ => 0, ta := fun _ => 0, T := fun _ => [] }
def spPI (CP CF CS CE : Addr) : Sp := fun vs H Q E => ∃ (p px : Addr) (many : Int) (slots : Nat), vs = [.ref p, .int many, .int (slots : Int)] ∧ H p = some (.ins CP px []) ∧ many ≤ 5 ∧
  (many < 1 → E (.ref CE) none H) ∧
  (1 ≤ many → ∀ fl sd pd H', SameX p H H' → At ⟨CP, CF, CS, p⟩ (newP px fl sd pd slots many.toNat) H' → (∀ b o, H b = some o → b ≠ p → ¬ Own ⟨CP, CF, CS, p⟩ (newP px fl sd pd slots many.toNat) b) → Q .non H')
theorem new_sv {px fl sd pd : Addr} {slots many : Nat} (h1 : 1 ≤ many) (h5 : many ≤ 5) : Sv (newP px fl sd pd slots many) :=
  { spn := List.nodup_nil, spl := fun n h => (by cases h), las := rfl, hnd := by show 0 < (List.replicate many (none : Option Nat)).length; rw [List.length_replicate]; omega, frl := by show (List.replicate many (none : Option Nat)).length ≤ 5; rw [List.length_replicate]; omega, t64 := fun n => Nat.zero_le _, tns := fun n _ => rfl, swl := Nat.zero_le _, evf := Nat.le_refl _, n100 := Nat.zero_le _ }
theorem new_ivp {px fl sd pd : Addr} {slots many : Nat} (M : Nat → Nat → List Int) : Iv (Lv (newP px fl sd pd slots many)) M (newP px fl sd pd slots many) := by
  have no : ∀ f k : Nat, (List.replicate many (none : Option Nat))[f]? ≠ some (some k) := fun f k e => by
    have := List.mem_of_getElem? e
    rw [List.mem_replicate] at this
    cases this.2
  have nl : ∀ a b, ¬ Lv (newP px fl sd pd slots many) a b := fun a b h => absurd h (Nat.not_lt_zero b)
  exact { fk := fun f k e => absurd e (no f k), ow := fun f k e => absurd e (no f k), tb := fun a b f h => absurd h (nl a b), sn := List.nodup_nil, sl := fun x h => (by cases h), nn := fun a b h => absurd h (nl a b), lv := fun a b h => absurd h (nl a b), m8 := fun a b h => absurd h (nl a b) }
section
variable {P : Program} {w : World} {K : PySem.W.Frag} {mg : Str → Option Value} {base : Heap} {C : CA} {CE : Addr}
theorem scPI : FnScope ["self", "count", "slots"] ["self", "count", "slots"] (defScope sPI) := ⟨rfl, rfl, rfl, by decide +kernel, rfl, by decide +kernel, by decide +kernel⟩
abbrev FDP (K : PySem.W.Frag) (f : Addr) (fd : FuncData) : Prop := FunD K "__init__" "Pager.__init__" (defArgs sPI) (defBody sPI) (defScope sPI) [.int 1000] [] f fd
theorem ok_pi {f : Addr} {fd : FuncData} (F : FDP K f fd) (T : PTxt K mg C CE) : FnOk P w K mg base (L2.CX P w) 1 f fd ["self", "count", "slots"] (spPI C.CP C.CF C.CS CE) := by
  refine F.ok (CX := L2.CX P w) scPI (fun vs H Q E h => ?_) (fun cdv A outer s H vs Q E hr h => ?_)
  · obtain ⟨p, px, many, slots, rfl, _⟩ := h
    rfl
  · obtain ⟨p, px, many, slots, rfl, hp, h5, k0, k1⟩ := h
    refine ⟨_, pss_cons (ps_if (pt_cmpR op_lt (pv 1) pe_int (nomark _)) (pss_one (ps_raise rfl (takes_of rfl rfl rfl rfl) (pmk_own PySem.F.excBase_ValueError T.xE T.gE T.kE (raises_own T.bE T.tE) rfl))) pss_nil)
      (pss_cons (ps_fld (pv 0) (pe_op op_rep (pe_lst (pa_cons pe_non pa_nil)) (pv 1)) rfl)
      (pss_cons (ps_fld (pv 0) (pv 2) rfl)
      (pss_cons (ps_fld (pv 0) pe_int rfl)
      (pss_cons (ps_fld (pv 0) pe_dnewT rfl)
      (pss_cons (ps_fld (pv 0) pe_dnewK rfl)
      (pss_cons (ps_fld (pv 0) pe_int rfl)
      (pss_cons (ps_fld (pv 0) pe_int rfl)
      (pss_cons (ps_fld (pv 0) pe_int rfl)
      (pss_one (ps_fld (pv 0) pe_int rfl)))))))))), ?_⟩
    refine ⟨_, rfl, _, _, rfl, rfl, _, rfl, ite2 (fun c => k0 (by simpa using c)) (fun c => ?_)⟩
    have c : 1 ≤ many := by have : ¬ many < 1 := by simpa using c
                            omega
    have kf := k1 c
    clear k0 k1
    refine ⟨by show 1 ≤ sizeLine; decide, fun l nl => ?_⟩
    have npl : p ≠ l := ne_of_none hp nl
    refine ⟨_, rfl, l, many, _, rfl, rfl, upd_same, by omega, by omega, ?_, fun q nq => ?_⟩
    · show 1 * many.toNat ≤ sizeLine
      have := small (n := 5) (by decide)
      omega
    have fl8 : ∀ m : Nat, (List.replicate m [V.non]).flatten = (List.replicate m (none : Option Nat)).map (fV fun _ => 0) := fun m => by
      induction m with
      | zero => rfl
      | succ m ih => rw [List.replicate_succ, List.replicate_succ, List.flatten_cons, ih]; rfl
    have s1 : Same H (upd (upd H l (.lst [.non])) q (.lst (List.replicate many.toNat [V.non]).flatten)) := (same_upd nl).trans (same_upd nq)
    have hq : (upd (upd H l (.lst [.non])) q (.lst (List.replicate many.toNat [V.non]).flatten)) q = some (.lst ((List.replicate many.toNat (none : Option Nat)).map (fV fun _ => 0))) := by rw [upd_same, fl8]
    have nq0 : H q = none := (same_upd nl).free nq
    generalize upd (upd H l (.lst [.non])) q (.lst (List.replicate many.toNat [V.non]).flatten) = H1 at s1 hq ⊢
    have npq : q ≠ p := fun e => by rw [e, hp] at nq0; cases nq0
    refine ⟨_, rfl, p, C.CP, px, _, rfl, s1 _ _ hp, T.cp, T.p1, (by show 0 < 1000; decide), ?_⟩
    refine ⟨_, rfl, _, rfl, p, C.CP, px, _, rfl, upd_same, T.cp, T.p2, (by show 1 < 1000; decide), ?_⟩
    refine ⟨_, rfl, p, C.CP, px, _, rfl, upd_same, T.cp, T.p3, (by show 2 < 1000; decide), ?_⟩
    rw [upd_upd, upd_upd]
    refine fun sd nsd => ?_
    have nps : sd ≠ p := fun e => by rw [e, upd_same] at nsd; cases nsd
    rw [upd_ne nps] at nsd
    have nqs : q ≠ sd := ne_of_none hq nsd
    have nsd0 := s1.free nsd
    refine ⟨_, rfl, p, C.CP, px, _, rfl, (upd_ne nps.symm).trans upd_same, T.cp, T.p4, (by show 3 < 1000; decide), ?_⟩
    refine fun pd npd => ?_
    have npp : pd ≠ p := fun e => by rw [e, upd_same] at npd; cases npd
    rw [upd_ne npp] at npd
    have nsp : sd ≠ pd := fun e => by rw [← e, upd_same] at npd; cases npd
    rw [upd_ne nsp.symm, upd_ne npp] at npd
    have nqp : q ≠ pd := ne_of_none hq npd
    have npd0 := s1.free npd
    refine ⟨_, rfl, p, C.CP, px, _, rfl, (upd_ne npp.symm).trans upd_same, T.cp, T.p5, (by show 4 < 1000; decide), ?_⟩
    refine ⟨_, rfl, p, C.CP, px, _, rfl, upd_same, T.cp, T.p6, (by show 5 < 1000; decide), ?_⟩
    refine ⟨_, rfl, p, C.CP, px, _, rfl, upd_same, T.cp, T.p7, (by show 6 < 1000; decide), ?_⟩
    refine ⟨_, rfl, p, C.CP, px, _, rfl, upd_same, T.cp, T.p8, (by show 7 < 1000; decide), ?_⟩
    refine ⟨_, rfl, p, C.CP, px, _, rfl, upd_same, T.cp, T.p9, (by show 8 < 1000; decide), ?_⟩
    refine kf q sd pd _ (fun b o nb hb => ?_) ⟨fun x a o h => ?_, fun x y a o o' hx hy => ?_, fun i hi => absurd hi (Nat.not_lt_zero i), fun y hy => by cases hy⟩ (fun b o hb nb => ?_)
    · simp only [upd_ne nb]
      rw [upd_ne (ne_of_none hb npd0), upd_ne nb, upd_ne (ne_of_none hb nsd0), upd_ne nb]
      exact s1 _ _ hb
    · cases x with
      | pg => cases h; rw [upd_same]; rfl
      | fl => have h : some (q, HO.lst ((List.replicate many.toNat (none : Option Nat)).map (fV fun _ => 0))) = some (a, o) := h; cases h; simp only [upd_ne npq]; rw [upd_ne nqp, upd_ne npq, upd_ne nqs, upd_ne npq]; exact hq
      | sd => have h : some (sd, HO.dT (swK [])) = some (a, o) := h; cases h; simp only [upd_ne nps]; rw [upd_ne nsp, upd_ne nps, upd_same]; rfl
      | pd => have h : some (pd, HO.dK []) = some (a, o) := h; cases h; simp only [upd_ne npp]; rw [upd_same]
      | _ => simp [lay, newP] at h
    · have lz : ∀ z, (∀ e, lay ⟨C.CP, C.CF, C.CS, p⟩ (newP px q sd pd slots many.toNat) z = some e → z = .pg ∧ e.1 = p ∨ z = .fl ∧ e.1 = q ∨ z = .sd ∧ e.1 = sd ∨ z = .pd ∧ e.1 = pd) := fun z e h => by
        cases z with
        | pg => cases h; simp
        | fl => cases h; simp [newP]
        | sd => cases h; simp [newP]
        | pd => cases h; simp [newP]
        | _ => simp [lay, newP] at h
      have h1 := lz x _ hx
      have h2 := lz y _ hy
      dsimp only at h1 h2
      rcases h1 with ⟨rfl, e1⟩ | ⟨rfl, e1⟩ | ⟨rfl, e1⟩ | ⟨rfl, e1⟩ <;> rcases h2 with ⟨rfl, e2⟩ | ⟨rfl, e2⟩ | ⟨rfl, e2⟩ | ⟨rfl, e2⟩ <;> first
        | rfl
        | (exfalso; rw [e1] at e2; first | exact npq e2 | exact npq e2.symm | exact nps e2 | exact nps e2.symm | exact npp e2 | exact npp e2.symm | exact nqs e2 | exact nqs e2.symm | exact nqp e2 | exact nqp e2.symm | exact nsp e2 | exact nsp e2.symm)
    · rintro ⟨z, o', h⟩
      cases z with
      | pg => cases h; exact nb rfl
      | fl => have h : some (q, HO.lst ((List.replicate many.toNat (none : Option Nat)).map (fV fun _ => 0))) = some (b, o') := h; cases h; rw [nq0] at hb; cases hb
      | sd => have h : some (sd, HO.dT (swK [])) = some (b, o') := h; cases h; rw [nsd0] at hb; cases hb
      | pd => have h : some (pd, HO.dK []) = some (b, o') := h; cases h; rw [npd0] at hb; cases hb
      | _ => simp [lay, newP] at h
end
end K07
namespace K07
open PySem L2 HK
def lastG (g : G) : G := { g with last := g.last + 1 }
def spNext (C : CA) : Sp := fun vs H Q _ => ∃ g, vs = [.ref C.p] ∧ H C.p = some (.ins C.CP g.px (fsP g)) ∧ Q (.int ((g.last : Int) + 1)) (upd H C.p (.ins C.CP g.px (fsP (lastG g))))
/-- one more space -/
def spaceG (g : G) (a ax q : Addr) (pages : Nat) : G := { g with last := g.last + 1, ns := g.ns + 1, sa := fset g.sa g.ns a, sx := fset g.sx g.ns ax, ta := fset g.ta g.ns q, T := fset g.T g.ns (List.replicate pages none) }
def spSI (C : CA) : Sp := fun vs H Q _ => ∃ (a ax : Addr) (g : G) (pages : Nat) (H0 : Hp), vs = [.ref a, .ref C.p, .int (pages : Int)] ∧ H = upd (upd H0 ax (.own a)) a (.ins C.CS ax []) ∧ H0 a = none ∧ H0 ax = none ∧ ax ≠ a ∧ At C g H0 ∧ pages ≤ 64 ∧ g.last = g.ns ∧ (∀ n ∈ g.sp, n < g.ns) ∧
  ∀ q H', Go C g H0 (spaceG g a ax q pages) H' → Q .non H'
section
variable {C : CA} {g : G} {H H' : Hp}
theorem go_space (s : At C g H) {a ax q : Addr} {pages : Nat} (na : H a = none) (nq : H q = none) (naq : a ≠ q) (las : g.last = g.ns) (spl : ∀ n ∈ g.sp, n < g.ns) (sm : SameX C.p H H') (hp : H' C.p = some (.ins C.CP g.px (fsP (lastG g))))
    (h1 : H' a = some (.ins C.CS ax (fsSt C.p g.ns q))) (h2 : H' q = some (.lst ((List.replicate pages (none : Option Nat)).map tV))) : Go C g H (spaceG g a ax q pages) H' := by
  have l0 : lay C (spaceG g a ax q pages) .pg = some (C.p, .ins C.CP g.px (fsP (lastG g))) := rfl
  have l1 : lay C (spaceG g a ax q pages) (.si g.ns) = some (a, .ins C.CS ax (fsSt C.p g.ns q)) := by
    show (if g.ns < g.ns + 1 then some (fset g.sa g.ns a g.ns, HO.ins C.CS (fset g.sx g.ns ax g.ns) (fsSt C.p g.ns (fset g.ta g.ns q g.ns))) else none) = _
    rw [if_pos (Nat.lt_succ_self _), fset_same, fset_same, fset_same]
  have l2 : lay C (spaceG g a ax q pages) (.st g.ns) = some (q, .lst ((List.replicate pages (none : Option Nat)).map tV)) := by
    show (if g.ns < g.ns + 1 then some (fset g.ta g.ns q g.ns, HO.lst ((fset g.T g.ns (List.replicate pages none) g.ns).map tV)) else none) = _
    rw [if_pos (Nat.lt_succ_self _), fset_same, fset_same]
  have lt : ∀ i, i ≠ g.ns → (i < g.ns + 1 ↔ i < g.ns) := fun i h => by omega
  have hf : ∀ b o, H b = some o → b ≠ C.p → H' b = some o := fun b o hb n => sm b o n hb
  have npa : C.p ≠ a := fun e => by have := s.pg; rw [e, na] at this; cases this
  have npq : C.p ≠ q := fun e => by have := s.pg; rw [e, nq] at this; cases this
  have tk : ∀ t xs, H t = some (.tup xs) → H' t = some (.tup xs) := fun t xs h => hf t _ h (fun e => s.ntup h ⟨.pg, .ins C.CP g.px (fsP g), by rw [e]; rfl⟩)
  refine Go.gen s [.pg, .si g.ns, .st g.ns] (fun y hy => ?_) (fun b o hb n => hf b o hb (fun e => n .pg (by simp) (.ins C.CP g.px (fsP g)) (by rw [e]; rfl))) (fun y hy b o h => ?_) (fun i hi y hy => tk _ _ (s.tp1 i hi y hy)) (fun y hy => tk _ _ (s.tp2 y hy))
  · simp only [List.mem_cons, List.not_mem_nil, or_false, not_or] at hy
    cases y with
    | pg => exact absurd rfl hy.1
    | pd =>
      show some (g.pd, HO.dK (g.sp.map fun (n : Nat) => (Sum.inl ((n : Int) + 1), V.ref (fset g.sa g.ns a n)))) = some (g.pd, HO.dK (spK g))
      congr 3
      refine List.map_congr_left fun m hm => ?_
      rw [fset_ne (Nat.ne_of_lt (spl m hm))]
    | si i =>
      have : i ≠ g.ns := fun e => hy.2.1 (by rw [e])
      show (if i < g.ns + 1 then some (fset g.sa g.ns a i, HO.ins C.CS (fset g.sx g.ns ax i) (fsSt C.p i (fset g.ta g.ns q i))) else none) = _
      simp only [fset_ne this, lt i this]; rfl
    | st i =>
      have : i ≠ g.ns := fun e => hy.2.2 (by rw [e])
      show (if i < g.ns + 1 then some (fset g.ta g.ns q i, HO.lst ((fset g.T g.ns (List.replicate pages none) i).map tV)) else none) = _
      simp only [fset_ne this, lt i this]; rfl
    | _ => rfl
  · simp only [List.mem_cons, List.not_mem_nil, or_false] at hy
    rcases hy with rfl | rfl | rfl
    · rw [l0] at h; cases h
      exact ⟨hp, .inl ⟨.ins C.CP g.px (fsP g), rfl⟩⟩
    · rw [l1] at h; cases h
      refine ⟨h1, .inr ⟨na, fun z hz o' e => ?_⟩⟩
      simp only [List.mem_cons, List.not_mem_nil, or_false] at hz
      rcases hz with rfl | rfl | rfl
      · rw [l0] at e; cases e; exact absurd rfl npa
      · rfl
      · rw [l2] at e; cases e; exact absurd rfl naq
    · rw [l2] at h; cases h
      refine ⟨h2, .inr ⟨nq, fun z hz o' e => ?_⟩⟩
      simp only [List.mem_cons, List.not_mem_nil, or_false] at hz
      rcases hz with rfl | rfl | rfl
      · rw [l0] at e; cases e; exact absurd rfl npq
      · rw [l1] at e; cases e; exact absurd rfl naq
      · rfl
end
theorem sp_sv {g : G} {a ax q : Addr} {pages : Nat} (sv : Sv g) (hp : pages ≤ 64) (hn : g.ns < 100) : Sv (spaceG g a ax q pages) :=
  { spn := sv.spn, spl := fun n h => Nat.lt_succ_of_lt (sv.spl n h), las := by show g.last + 1 = g.ns + 1; rw [sv.las], hnd := sv.hnd, frl := sv.frl, t64 := fun m => by
      show (fset g.T g.ns (List.replicate pages none) m).length ≤ 64
      by_cases e : m = g.ns
      · rw [e, fset_same, List.length_replicate]; exact hp
      · rw [fset_ne e]; exact sv.t64 m
    tns := fun m hm => by
      have hm : g.ns + 1 ≤ m := hm
      show fset g.T g.ns (List.replicate pages none) m = []
      rw [fset_ne (by omega)]; exact sv.tns m (by omega)
    swl := sv.swl, evf := sv.evf, n100 := hn }
/-- the pages of the new space are not yet looked at -/
theorem sp_iv {L : Nat → Nat → Prop} {M : Nat → Nat → List Int} {g : G} {a ax q : Addr} {pages : Nat} (iv : Iv L M g) (hL : ∀ b, ¬ L g.ns b) : Iv L M (spaceG g a ax q pages) := by
  have gt : ∀ n j, L n j → fset g.T g.ns (List.replicate pages none) n = g.T n := fun n j h => fset_ne fun e => hL j (by rw [← e]; exact h)
  refine ⟨iv.fk, fun f k e x hx => ?_, fun n j f hl h => ?_, iv.sn, fun x hx => ?_, fun n j hl h => ?_, fun n j hl => ?_, iv.m8⟩
  · obtain ⟨h1, h2, h3, h4⟩ := iv.ow f k e x hx
    exact ⟨h1, by show (fset g.T g.ns (List.replicate pages none) x.2.1)[x.2.2]? = _; rw [gt _ _ h1]; exact h2, h3, h4⟩
  · have h : (fset g.T g.ns (List.replicate pages none) n)[j]? = some (some f) := h
    rw [gt _ _ hl] at h
    exact iv.tb n j f hl h
  · obtain ⟨h1, h2, h3⟩ := iv.sl x hx
    exact ⟨h1, by show (fset g.T g.ns (List.replicate pages none) x.1.1)[x.1.2]? = _; rw [gt _ _ h1]; exact h2, h3⟩
  · have h : (fset g.T g.ns (List.replicate pages none) n)[j]? = some none := h
    rw [gt _ _ hl] at h
    exact iv.nn n j hl h
  · show ∃ e : Option Nat, (fset g.T g.ns (List.replicate pages none) n)[j]? = some e
    rw [gt _ _ hl]; exact iv.lv n j hl
section
variable {P : Program} {w : World} {K : PySem.W.Frag} {mg : Str → Option Value} {base : Heap} {C : CA} {CE : Addr}
theorem scNext : FnScope ["self"] ["self"] (defScope sNext) := ⟨rfl, rfl, rfl, by decide +kernel, rfl, by decide +kernel, by decide +kernel⟩
theorem ok_next {f : Addr} {fd : FuncData} (F : L2.Fun K "next_number" "Pager.next_number" sNext f fd) (T : PTxt K mg C CE) : FnOk P w K mg base L2.CX0 1 f fd ["self"] (spNext C) := by
  refine F.ok scNext (fun vs H Q E h => ?_) (fun cdv A outer s H vs Q E hr h => ?_)
  · obtain ⟨g, rfl, _⟩ := h
    rfl
  · obtain ⟨g, rfl, hp, k⟩ := h
    refine ⟨_, pss_cons (ps_fld (pv 0) (pe_op op_add (pe_fld (pv 0) rfl) pe_int) rfl) (pss_one (ps_ret (pe_fld (pv 0) rfl))), ?_⟩
    refine ⟨_, rfl, C.p, C.CP, g.px, _, _, rfl, hp, T.cp, T.p6, rfl, _, _, rfl, rfl, _, rfl, C.p, C.CP, g.px, _, rfl, hp, T.cp, T.p6, (by show 9 < 1000; decide), ?_⟩
    exact ⟨_, rfl, C.p, C.CP, g.px, _, _, rfl, upd_same, T.cp, T.p6, rfl, k⟩
theorem scSI : FnScope ["self", "pager", "pages"] ["self", "pager", "pages"] (defScope sSI) := ⟨rfl, rfl, rfl, by decide +kernel, rfl, by decide +kernel, by decide +kernel⟩
theorem ok_si {f fN : Addr} {fd fdN : FuncData} (F : L2.Fun K "__init__" "Space.__init__" sSI f fd) (T : PTxt K mg C CE)
    (FN : FnOk P w K mg base L2.CX0 1 fN fdN ["self"] (spNext C)) (bN : Binds K fdN ["self"] []) (mN : Meth K C.CP "next_number" fN) : FnOk P w K mg base L2.CX0 2 f fd ["self", "pager", "pages"] (spSI C) := by
  refine F.ok scSI (fun vs H Q E h => ?_) (fun cdv A outer s H vs Q E hr h => ?_)
  · obtain ⟨a, ax, g, pages, H0, rfl, _⟩ := h
    rfl
  · obtain ⟨a, ax, g, pages, H0, rfl, rfl, na, nax, nxa, st, h64, las, spl, k⟩ := h
    obtain ⟨tm, hmp⟩ := T.mp
    refine ⟨_, pss_cons (ps_if (pt_not (pt_chain op_le op_le pe_int (pv 2) (pe_glob (v := .int 64) rfl hmp ⟨_, rfl⟩))) (pss_one ps_never) pss_nil)
      (pss_cons (ps_fld (pv 0) (pv 1) rfl)
      (pss_cons (ps_fld (pv 0) (pe_meth0 (pv 1) T.cp mN FN hr bN .nil pass0) rfl)
      (pss_one (ps_fld (pv 0) (pe_op op_rep (pe_lst (pa_cons pe_non pa_nil)) (pv 2)) rfl)))), ?_⟩
    have c0 : decide ((0 : Int) ≤ (pages : Int)) = true := by simp
    have c1 : decide ((pages : Int) ≤ 64) = true := by simp; omega
    refine ⟨_, rfl, _, _, rfl, rfl, _, rfl, ?_⟩
    rw [c0]
    refine iteT ⟨_, _, rfl, rfl, _, rfl, ?_⟩
    rw [c1]
    refine iteF ?_
    have ha : (upd (upd H0 ax (.own a)) a (.ins C.CS ax [])) a = some (.ins C.CS ax []) := upd_same
    have sm : Same H0 (upd (upd H0 ax (.own a)) a (.ins C.CS ax [])) := fun b o hb => by rw [upd_ne (ne_of_none hb na), upd_ne (ne_of_none hb nax)]; exact hb
    have a0 := st.same sm
    have npa : C.p ≠ a := fun e => by have := st.pg; rw [e, na] at this; cases this
    generalize upd (upd H0 ax (.own a)) a (.ins C.CS ax []) = H1 at ha sm a0 ⊢
    refine ⟨_, rfl, _, rfl, a, C.CS, ax, _, rfl, ha, T.cs, T.s1, (by show 0 < 1000; decide), ?_⟩
    refine ⟨_, rfl, C.p, g.px, _, rfl, (upd_ne npa).trans a0.pg, rfl, g, rfl, (upd_ne npa).trans a0.pg, ?_⟩
    refine ⟨_, rfl, a, C.CS, ax, _, rfl, (upd_ne npa.symm).trans upd_same, T.cs, T.s2, (by show 1 < 1000; decide), ?_⟩
    refine ⟨by show 1 ≤ sizeLine; decide, fun l nl => ?_⟩
    have nal : a ≠ l := fun e => by rw [← e, upd_same] at nl; cases nl
    refine ⟨_, rfl, l, (pages : Int), _, rfl, rfl, upd_same, by omega, by omega, ?_, fun q nq => ?_⟩
    · show 1 * (pages : Int).toNat ≤ sizeLine
      have := small (n := 64) (by decide)
      omega
    have naq : a ≠ q := fun e => by rw [← e, upd_ne nal, upd_same] at nq; cases nq
    have nlq : l ≠ q := fun e => by rw [← e, upd_same] at nq; cases nq
    have npl : C.p ≠ l := fun e => by rw [← e, upd_ne npa, upd_same] at nl; cases nl
    have npq : C.p ≠ q := fun e => by rw [← e, upd_ne npl, upd_ne npa, upd_same] at nq; cases nq
    refine ⟨_, rfl, a, C.CS, ax, _, rfl, (upd_ne naq).trans ((upd_ne nal).trans upd_same), T.cs, T.s3, (by show 2 < 1000; decide), ?_⟩
    have fl8 : ∀ m : Nat, (List.replicate m [V.non]).flatten = (List.replicate m (none : Option Nat)).map tV := fun m => by
      induction m with
      | zero => rfl
      | succ m ih => rw [List.replicate_succ, List.replicate_succ, List.flatten_cons, ih]; rfl
    have nlH : H1 l = none := by rw [upd_ne nal.symm, upd_ne npl.symm, upd_ne nal.symm] at nl; exact nl
    have nqH : H1 q = none := by rw [upd_ne nlq.symm, upd_ne naq.symm, upd_ne npq.symm, upd_ne naq.symm] at nq; exact nq
    have nqH0 : H0 q = none := sm.free nqH
    have nlH0 : H0 l = none := sm.free nlH
    refine k q _ (go_space st na nqH0 naq las spl (fun b o nb hb => ?_) ?_ ?_ ?_)
    · have nb1 := ne_of_none hb na
      rw [upd_ne nb1, upd_ne (ne_of_none hb nqH0), upd_ne (ne_of_none hb nlH0), upd_ne nb1, upd_ne nb, upd_ne nb1]
      exact sm _ _ hb
    · rw [upd_ne npa, upd_ne npq, upd_ne npl, upd_ne npa, upd_same]
    · rw [upd_same, las]; rfl
    · rw [upd_ne naq.symm, upd_same, ← fl8]; rfl
end
end K07
namespace K07
open PySem L2 HK
def inR (g : G) (n : Nat) (ad : Int) : Prop := 0 ≤ ad ∧ ad < ((8 * (g.T n).length : Nat) : Int)
def wAt (M : Nat → Nat → List Int) (n : Nat) (ad : Int) : Int := (M n (ad.toNat / 8)).getD (ad.toNat % 8) 0
def setW (M : Nat → Nat → List Int) (n : Nat) (ad : Int) (v : Int) : Nat → Nat → List Int := fun a b => if a = n ∧ b = ad.toNat / 8 then (M a b).set (ad.toNat % 8) v else M a b
def growG (g : G) (n more : Nat) : G := TN g n (g.T n ++ List.replicate more none)
def spWc (C : CA) : Sp := fun vs H Q _ => ∃ (g : G) (n : Nat), vs = [.ref (g.sa n)] ∧ At C g H ∧ n < g.ns ∧ (g.T n).length ≤ 64 ∧ Q (.int ((8 * (g.T n).length : Nat) : Int)) H
def spChk (C : CA) (CE : Addr) : Sp := fun vs H Q E => ∃ (g : G) (n : Nat) (ad : Int), vs = [.ref (g.sa n), .int ad] ∧ At C g H ∧ n < g.ns ∧ (g.T n).length ≤ 64 ∧ (inR g n ad → Q .non H) ∧ (¬ inR g n ad → E (.ref CE) none H)
def spLoad (C : CA) (CE : Addr) : Sp := fun vs H Q E => ∃ (g : G) (n : Nat) (ad : Int) (M : Nat → Nat → List Int), vs = [.ref (g.sa n), .int ad] ∧ At C g H ∧ Iv (Lv g) M g ∧ Sv g ∧ n < g.ns ∧ (¬ inR g n ad → E (.ref CE) none H) ∧
  (inR g n ad → (¬ Roomy g → ∀ H', Same H H' → E (.ref CE) none H') ∧ ∀ g' H', Go C g H g' H' → Iv (Lv g') M g' → Sv g' → Sta g g' → Q (.int (wAt M n ad)) H')
def spSto (C : CA) (CE : Addr) : Sp := fun vs H Q E => ∃ (g : G) (n : Nat) (ad v : Int) (M : Nat → Nat → List Int), vs = [.ref (g.sa n), .int ad, .int v] ∧ At C g H ∧ Iv (Lv g) M g ∧ Sv g ∧ n < g.ns ∧ (¬ inR g n ad → E (.ref CE) none H) ∧
  (inR g n ad → (¬ Roomy g → ∀ g' H', Go C g H g' H' → Iv (Lv g') M g' → Sv g' → Sta g g' → E (.ref CE) none H') ∧ ∀ g' H', Go C g H g' H' → Iv (Lv g') (setW M n ad v) g' → Sv g' → Sta g g' → Q .non H')
def spGrow (C : CA) (CE : Addr) : Sp := fun vs H Q E => ∃ (g : G) (n more : Nat), vs = [.ref (g.sa n), .int (more : Int)] ∧ At C g H ∧ n < g.ns ∧ (g.T n).length ≤ 64 ∧ more ≤ 64 ∧
  (64 < (g.T n).length + more → E (.ref CE) none H) ∧ ((g.T n).length + more ≤ 64 → ∀ H', Go C g H (growG g n more) H' → Q .non H')
theorem div_nat {ad : Int} (h : 0 ≤ ad) : ad / 8 = ((ad.toNat / 8 : Nat) : Int) := by omega
theorem mod_nat {ad : Int} (h : 0 ≤ ad) : ad % 8 = ((ad.toNat % 8 : Nat) : Int) := by omega
/-- a word is written in a frame of one's own -/
theorem set_iv {M : Nat → Nat → List Int} {g : G} {n j f k : Nat} {t : Addr} {ad v : Int} (iv : Iv (Lv g) M g) (fk : g.fr[f]? = some (some k)) (tn : (g.T n)[j]? = some (some f)) (hO : g.O k = [(t, (n, j))]) (hj : j = ad.toNat / 8) :
    Iv (Lv g) (setW M n ad v) (WN g k ((M n j).set (ad.toNat % 8) v)) := by
  have same : ∀ a b, (a, b) ≠ (n, j) → setW M n ad v a b = M a b := fun a b h => if_neg fun z => h (by rw [z.1, hj, z.2])
  have at_ : setW M n ad v n j = (M n j).set (ad.toNat % 8) v := if_pos ⟨rfl, hj⟩
  refine ⟨iv.fk, fun f' k' e x hx => ?_, iv.tb, iv.sn, fun x hx => ?_, fun a b hl h => ?_, iv.lv, fun a b hl => ?_⟩
  · obtain ⟨h1, h2, h3, h4⟩ := iv.ow f' k' e x hx
    refine ⟨h1, h2, h3, ?_⟩
    show fset g.W k ((M n j).set (ad.toNat % 8) v) k' = setW M n ad v x.2.1 x.2.2
    by_cases c : k' = k
    · subst c
      have hx : x ∈ g.O k' := hx
      rw [hO] at hx
      rw [List.mem_singleton.mp hx, fset_same]
      exact at_.symm
    · rw [fset_ne c, same _ _ (fun z => c ?_)]
      · exact h4
      · have z : x.2 = (n, j) := z
        have h2 : (g.T x.2.1)[x.2.2]? = some (some f') := h2
        rw [z, tn] at h2
        injection h2 with h2
        injection h2 with h2
        subst h2
        have e : g.fr[f]? = some (some k') := e
        rw [fk] at e
        injection e with e
        injection e with e
        exact e.symm
  · obtain ⟨h1, h2, h3⟩ := iv.sl x hx
    refine ⟨h1, h2, ?_⟩
    rw [same _ _ (fun z => ?_)]
    · exact h3
    · have z : x.1 = (n, j) := z
      have h2 : (g.T x.1.1)[x.1.2]? = some none := h2
      rw [z, tn] at h2; cases h2
  · have h : (g.T a)[b]? = some none := h
    rw [same _ _ (fun z => by injection z with z1 z2; rw [z1, z2, tn] at h; cases h)]
    exact iv.nn a b hl h
  · by_cases c : (a, b) = (n, j)
    · injection c with c1 c2
      subst c1 c2
      rw [at_, List.length_set]
      exact iv.m8 _ _ hl
    · rw [same _ _ c]; exact iv.m8 a b hl
section
variable {P : Program} {w : World} {K : PySem.W.Frag} {mg : Str → Option Value} {base : Heap} {C : CA} {CE : Addr}
theorem scWc : FnScope ["self"] ["self"] (defScope sWc) := ⟨rfl, rfl, rfl, by decide +kernel, rfl, by decide +kernel, by decide +kernel⟩
theorem ok_wc {f : Addr} {fd : FuncData} (F : L2.Fun K "word_count" "Space.word_count" sWc f fd) (T : PTxt K mg C CE) : FnOk P w K mg base L2.CX0 1 f fd ["self"] (spWc C) := by
  refine F.ok scWc (fun vs H Q E h => ?_) (fun cdv A outer s H vs Q E hr h => ?_)
  · obtain ⟨g, n, rfl, _⟩ := h
    rfl
  · obtain ⟨g, n, rfl, st, hn, h64, k⟩ := h
    obtain ⟨tw, hpw⟩ := T.pw
    refine ⟨_, pss_one (ps_ret (pe_op op_mul (pe_callB call_len_seq (by rfl) T.len PySem.boot_len (pa_cons (pe_fld (pv 0) rfl) pa_nil)) (pe_glob (v := .int 8) rfl hpw ⟨_, rfl⟩))), ?_⟩
    refine ⟨_, rfl, g.sa n, C.CS, g.sx n, _, _, rfl, st.si hn, T.cs, T.s3, rfl, g.ta n, _, rfl, .inl (SqL.of (st.st hn)), _, _, rfl, rfl, .inl ⟨by omega, by rw [List.length_map]; omega⟩, ?_⟩
    dsimp only
    rw [List.length_map, show ((g.T n).length : Int) * 8 = ((8 * (g.T n).length : Nat) : Int) by omega]
    exact k
theorem scChk : FnScope ["self", "address"] ["self", "address"] (defScope sChk) := ⟨rfl, rfl, rfl, by decide +kernel, rfl, by decide +kernel, by decide +kernel⟩
theorem ok_chk {f fW : Addr} {fd fdW : FuncData} (F : L2.Fun K "check_address" "Space.check_address" sChk f fd) (T : PTxt K mg C CE)
    (FW : FnOk P w K mg base L2.CX0 1 fW fdW ["self"] (spWc C)) (bW : Binds K fdW ["self"] []) (mW : Meth K C.CS "word_count" fW) : FnOk P w K mg base (L2.CX P w) 2 f fd ["self", "address"] (spChk C CE) := by
  refine F.okX scChk (fun vs H Q E h => ?_) (fun cdv A outer s H vs Q E hr h => ?_)
  · obtain ⟨g, n, ad, rfl, _⟩ := h
    rfl
  · obtain ⟨g, n, ad, rfl, st, hn, h64, k1, k2⟩ := h
    refine ⟨_, pss_one (ps_if (pt_not (pt_chain op_le op_lt pe_int (pv 1) (pe_meth0 (pv 0) T.cs mW FW hr bW .nil pass0))) (pss_one (ps_raise rfl (takes_of rfl rfl rfl rfl) (pmk_own PySem.F.excBase_ValueError T.xE T.gE T.kE (raises_own T.bE T.tE) rfl))) pss_nil), ?_⟩
    refine ⟨_, rfl, _, _, rfl, rfl, _, rfl, ite2 (fun c1 => ⟨_, rfl, g.sa n, g.sx n, _, rfl, st.si hn, rfl, g, n, rfl, st, hn, h64, _, _, rfl, rfl, _, rfl, ite2 (fun c2 => ?_) (fun c2 => ?_)⟩) (fun c1 => ⟨_, rfl, iteT ?_⟩)⟩
    · exact k2 fun z => by simp only [z.2, decide_true, Bool.not_true, Bool.false_eq_true] at c2
    · exact k1 ⟨by simpa using c1, by simpa using c2⟩
    · exact k2 fun z => by simp only [z.1, decide_true, not_true_eq_false] at c1
theorem scLoad : FnScope ["self", "address"] ["self", "address"] (defScope sLoad) := ⟨rfl, rfl, rfl, by decide +kernel, rfl, by decide +kernel, by decide +kernel⟩
theorem ok_load {f fC fF : Addr} {fd fdC fdF : FuncData} (F : L2.Fun K "load_word" "Space.load_word" sLoad f fd) (T : PTxt K mg C CE)
    (FC : FnOk P w K mg base (L2.CX P w) 2 fC fdC ["self", "address"] (spChk C CE)) (bC : Binds K fdC ["self", "address"] []) (mC : Meth K C.CS "check_address" fC)
    (FF : FnOk P w K mg base (L2.CX P w) 4 fF fdF ["self", "space", "page"] (spFof C CE)) (bF : Binds K fdF ["self", "space", "page"] []) (mF : Meth K C.CP "frame_of" fF) : FnOk P w K mg base (L2.CX P w) 5 f fd ["self", "address"] (spLoad C CE) := by
  refine F.okX scLoad (fun vs H Q E h => ?_) (fun cdv A outer s H vs Q E hr h => ?_)
  · obtain ⟨g, n, ad, M, rfl, _⟩ := h
    rfl
  · obtain ⟨g, n, ad, M, rfl, st, iv, sv, hn, k1, k2⟩ := h
    obtain ⟨tw, hpw⟩ := T.pw
    have rC := FC.mono (show 2 ≤ 4 by decide)
    refine ⟨_, pss_cons (ps_expr (pe_meth (pv 0) T.cs mC rC hr bC .nil (passes_call (takes_of rfl rfl rfl rfl) (fun _ _ _ _ h => h)) (pa_cons (pv 1) pa_nil)))
      (pss_one (ps_ret (pe_ix ix_list (pe_fld (pe_meth (pe_fld (pv 0) rfl) T.cp mF FF hr bF .nil (passes_call (takes_of rfl rfl rfl rfl) (fun _ _ _ _ h => h)) (pa_cons (pv 0) (pa_cons (pe_op op_fdiv (pv 1) (pe_glob (v := .int 8) rfl hpw ⟨_, rfl⟩)) pa_nil))) rfl)
        (pe_op op_mod (pv 1) (pe_glob (v := .int 8) rfl hpw ⟨_, rfl⟩)) (fun _ _ => rfl)))), ?_⟩
    refine ⟨_, rfl, g.sa n, g.sx n, _, rfl, st.si hn, rfl, _, rfl, g, n, ad, rfl, st, hn, sv.t64 n, fun c => ?_, k1⟩
    obtain ⟨k3, k4⟩ := k2 c
    obtain ⟨c1, c2⟩ := c
    refine ⟨_, rfl, g.sa n, C.CS, g.sx n, _, _, rfl, st.si hn, T.cs, T.s1, rfl, C.p, g.px, _, rfl, st.pg, rfl, _, rfl, _, rfl, _, _, rfl, rfl, ⟨by decide, by decide⟩, ?_⟩
    dsimp only
    rw [div_nat c1]
    have hj : Lv g n (ad.toNat / 8) := by show ad.toNat / 8 < (g.T n).length; omega
    refine ⟨g, n, ad.toNat / 8, M, rfl, st, iv, sv, hn, hj, k3, fun f k g1 H1 go d => ?_⟩
    have a1 := go.at_
    have hk := (d.iv.fk f k d.fk).1
    have hj1 : Lv g1 n (ad.toNat / 8) := by rw [d.sta.lv]; exact hj
    obtain ⟨k', hk', hin⟩ := d.iv.tb n _ f hj1 d.tn
    have ek : k' = k := by
      have := d.fk
      rw [hk'] at this
      injection this with this
      injection this
    subst ek
    obtain ⟨x, hx, ex⟩ := List.mem_map.mp hin
    have hW : g1.W k' = M n (ad.toNat / 8) := by
      have := (d.iv.ow f k' hk' x hx).2.2.2
      rw [ex] at this; exact this
    have h8 := d.iv.m8 n _ hj1
    refine ⟨g1.fa k', C.CF, g1.fx k', _, _, rfl, a1.fi hk, T.cf, T.f1, rfl, _, rfl, _, _, rfl, rfl, (by show (0 : Int) < 8; decide), ?_⟩
    refine ⟨g1.wa k', _, _, .int (wAt M n ad), rfl, rfl, SqL.of (a1.fw hk), ?_, k4 g1 H1 go d.iv d.sv d.sta⟩
    rw [mod_nat c1, hW]
    refine atI_nat ?_
    have lt : ad.toNat % 8 < (M n (ad.toNat / 8)).length := by rw [h8]; omega
    rw [List.getElem?_map, List.getElem?_eq_getElem lt]
    show some (V.int _) = some (V.int _)
    unfold wAt
    rw [List.getD_eq_getElem?_getD, List.getElem?_eq_getElem lt]; rfl
theorem scSto : FnScope ["self", "address", "word"] ["self", "address", "word"] (defScope sSto) := ⟨rfl, rfl, rfl, by decide +kernel, rfl, by decide +kernel, by decide +kernel⟩
theorem ok_sto {f fC fF : Addr} {fd fdC fdF : FuncData} (F : L2.Fun K "store_word" "Space.store_word" sSto f fd) (T : PTxt K mg C CE)
    (FC : FnOk P w K mg base (L2.CX P w) 2 fC fdC ["self", "address"] (spChk C CE)) (bC : Binds K fdC ["self", "address"] []) (mC : Meth K C.CS "check_address" fC)
    (FF : FnOk P w K mg base (L2.CX P w) 5 fF fdF ["self", "space", "page"] (spOwn C CE)) (bF : Binds K fdF ["self", "space", "page"] []) (mF : Meth K C.CP "own_frame" fF) : FnOk P w K mg base (L2.CX P w) 6 f fd ["self", "address", "word"] (spSto C CE) := by
  refine F.okX scSto (fun vs H Q E h => ?_) (fun cdv A outer s H vs Q E hr h => ?_)
  · obtain ⟨g, n, ad, v, M, rfl, _⟩ := h
    rfl
  · obtain ⟨g, n, ad, v, M, rfl, st, iv, sv, hn, k1, k2⟩ := h
    obtain ⟨tw, hpw⟩ := T.pw
    have rC := FC.mono (show 2 ≤ 5 by decide)
    refine ⟨_, pss_cons (ps_expr (pe_meth (pv 0) T.cs mC rC hr bC .nil (passes_call (takes_of rfl rfl rfl rfl) (fun _ _ _ _ h => h)) (pa_cons (pv 1) pa_nil)))
      (pss_one (ps_asg (pv 2) (pg_sub (pe_fld (pe_meth (pe_fld (pv 0) rfl) T.cp mF FF hr bF .nil (passes_call (takes_of rfl rfl rfl rfl) (fun _ _ _ _ h => h)) (pa_cons (pv 0) (pa_cons (pe_op op_fdiv (pv 1) (pe_glob (v := .int 8) rfl hpw ⟨_, rfl⟩)) pa_nil))) rfl)
        (pe_op op_mod (pv 1) (pe_glob (v := .int 8) rfl hpw ⟨_, rfl⟩)) set_list))), ?_⟩
    refine ⟨_, rfl, g.sa n, g.sx n, _, rfl, st.si hn, rfl, _, rfl, g, n, ad, rfl, st, hn, sv.t64 n, fun c => ?_, k1⟩
    obtain ⟨k3, k4⟩ := k2 c
    obtain ⟨c1, c2⟩ := c
    refine ⟨_, rfl, _, rfl, g.sa n, C.CS, g.sx n, _, _, rfl, st.si hn, T.cs, T.s1, rfl, C.p, g.px, _, rfl, st.pg, rfl, _, rfl, _, rfl, _, _, rfl, rfl, ⟨by decide, by decide⟩, ?_⟩
    dsimp only
    rw [div_nat c1]
    have hj : Lv g n (ad.toNat / 8) := by show ad.toNat / 8 < (g.T n).length; omega
    refine ⟨g, n, ad.toNat / 8, M, rfl, st, iv, sv, hn, hj, k3, fun f k g1 H1 t go d hO => ?_⟩
    have a1 := go.at_
    have hk := (d.iv.fk f k d.fk).1
    have hj1 : Lv g1 n (ad.toNat / 8) := by rw [d.sta.lv]; exact hj
    have hW : g1.W k = M n (ad.toNat / 8) := (d.iv.ow f k d.fk (t, (n, ad.toNat / 8)) (by rw [hO]; simp)).2.2.2
    have h8 := d.iv.m8 n _ hj1
    refine ⟨g1.fa k, C.CF, g1.fx k, _, _, rfl, a1.fi hk, T.cf, T.f1, rfl, _, rfl, _, _, rfl, rfl, (by show (0 : Int) < 8; decide), ?_⟩
    have lt : ad.toNat % 8 < (M n (ad.toNat / 8)).length := by rw [h8]; omega
    have hw := a1.fw hk
    rw [hW] at hw
    refine ⟨g1.wa k, _, _, ad.toNat % 8, rfl, rfl, hw, ?_, ?_⟩
    · rw [mod_nat c1, List.length_map]
      exact ixN_nat lt
    · refine k4 (WN g1 k ((M n (ad.toNat / 8)).set (ad.toNat % 8) v)) _ (go.trans (go_W a1 hk SameX.upd (upd_same.trans (by rw [List.map_set])))) ?_ { d.sv with } ⟨d.sta.px, d.sta.fl, d.sta.sd, d.sta.pd, d.sta.slots, d.sta.last, d.sta.frl, d.sta.ns, d.sta.sa, d.sta.sx, d.sta.ta, d.sta.tl⟩
      exact set_iv d.iv d.fk d.tn hO rfl
theorem scGrow : FnScope ["self", "pages"] ["self", "pages"] (defScope sGrow) := ⟨rfl, rfl, rfl, by decide +kernel, rfl, by decide +kernel, by decide +kernel⟩
theorem ok_grow {f : Addr} {fd : FuncData} (F : L2.Fun K "grow" "Space.grow" sGrow f fd) (T : PTxt K mg C CE) : FnOk P w K mg base (L2.CX P w) 1 f fd ["self", "pages"] (spGrow C CE) := by
  refine F.okX scGrow (fun vs H Q E h => ?_) (fun cdv A outer s H vs Q E hr h => ?_)
  · obtain ⟨g, n, more, rfl, _⟩ := h
    rfl
  · obtain ⟨g, n, more, rfl, st, hn, h64, m64, k1, k2⟩ := h
    obtain ⟨tm, hmp⟩ := T.mp
    refine ⟨_, pss_cons (ps_if (PW.pt (pw_or (pt_cmpR op_lt (pv 1) pe_int (nomark _)) (pw_or1 (pt_cmpR op_gt (pe_op op_add (pe_callB call_len_seq (by rfl) T.len PySem.boot_len (pa_cons (pe_fld (pv 0) rfl) pa_nil)) (pv 1)) (pe_glob (v := .int 64) rfl hmp ⟨_, rfl⟩) (nomark _)))))
        (pss_one (ps_raise rfl (takes_of rfl rfl rfl rfl) (pmk_own PySem.F.excBase_ValueError T.xE T.gE T.kE (raises_own T.bE T.tE) rfl))) pss_nil)
      (pss_one (ps_expr (pe_bm PySem.F.plainAttrs_list PySem.F.slot_list_extend PySem.F.type_list_extend mt_extend (pe_fld (pv 0) rfl) (pa_cons (pe_op op_rep (pe_lst (pa_cons pe_non pa_nil)) (pv 1)) pa_nil)))), ?_⟩
    have c0 : decide ((more : Int) < 0) = false := by simp
    refine ⟨_, rfl, _, _, rfl, rfl, _, rfl, ?_⟩
    rw [c0]
    refine iteF ⟨_, rfl, g.sa n, C.CS, g.sx n, _, _, rfl, st.si hn, T.cs, T.s3, rfl, g.ta n, _, rfl, .inl (SqL.of (st.st hn)), _, rfl, _, _, rfl, rfl, _, _, rfl, rfl, _, rfl, ?_⟩
    rw [List.length_map]
    refine ite2 (fun c => ?_) (fun c => ?_)
    · exact k1 (by have := of_decide_eq_true c; omega)
    · have c : ¬ ((g.T n).length : Int) + (more : Int) > 64 := fun z => c (decide_eq_true z)
      refine ⟨_, rfl, g.sa n, C.CS, g.sx n, _, _, rfl, st.si hn, T.cs, T.s3, rfl, .inl ⟨rfl, _, SqL.of (st.st hn)⟩, by show 1 ≤ sizeLine; decide, fun l nl => ?_⟩
      refine ⟨_, rfl, l, (more : Int), _, rfl, rfl, upd_same, by omega, by omega, ?_, fun q nq => ?_⟩
      · show 1 * (more : Int).toNat ≤ sizeLine
        have := small (n := 64) (by decide)
        omega
      have fl8 : ∀ m : Nat, (List.replicate m [V.non]).flatten = (List.replicate m (none : Option Nat)).map tV := fun m => by
        induction m with
        | zero => rfl
        | succ m ih => rw [List.replicate_succ, List.replicate_succ, List.flatten_cons, ih]; rfl
      have s1 : Same H (upd (upd H l (.lst [.non])) q (.lst (List.replicate (more : Int).toNat [V.non]).flatten)) := (same_upd nl).trans (same_upd nq)
      have hq : (upd (upd H l (.lst [.non])) q (.lst (List.replicate (more : Int).toNat [V.non]).flatten)) q = some (.lst ((List.replicate more (none : Option Nat)).map tV)) := by rw [upd_same, fl8]; rfl
      generalize upd (upd H l (.lst [.non])) q (.lst (List.replicate (more : Int).toNat [V.non]).flatten) = H1 at s1 hq ⊢
      have a1 := st.same s1
      refine ⟨g.ta n, q, _, _, rfl, rfl, a1.st hn, hq, ?_, ?_⟩
      · rw [List.length_map, List.length_map, List.length_replicate]
        have := small (n := 128) (by decide)
        omega
      · refine k2 (by omega) _ ((Go.same st s1).trans (go_T a1 hn SameX.upd (upd_same.trans (by rw [List.map_append]))))
end
end K07
namespace K07
open PySem L2 HK
theorem passL' {P : Program} {w : World} {X : Cx} : Passes (L2.CX P w) X E0 := fun _ _ _ _ _ _ _ h => by
  obtain ⟨_, _, _, _, _, _, _, _, _, _, _, _, z⟩ := h
  exact z.elim
section
variable {L : Nat → Nat → Prop} {M M' : Nat → Nat → List Int} {g : G}
theorem IvC.congM {nf : Nat} {fr : List (Option Nat)} {O : Nat → List (Addr × Key2)} {W : Nat → List Int} {T : Nat → List (Option Nat)} {sw : Sw} {sp : List Nat} (iv : IvC L M nf fr O W T sw sp) (h : ∀ n j, L n j → M n j = M' n j) : IvC L M' nf fr O W T sw sp :=
  ⟨iv.fk, fun f k e x hx => by obtain ⟨h1, h2, h3, h4⟩ := iv.ow f k e x hx; exact ⟨h1, h2, h3, by rw [h4]; exact h _ _ h1⟩, iv.tb, iv.sn, fun x hx => by obtain ⟨h1, h2, h3⟩ := iv.sl x hx; exact ⟨h1, h2, by rw [h3]; exact h _ _ h1⟩,
    fun n j hl e => by rw [← h n j hl]; exact iv.nn n j hl e, iv.lv, fun n j hl => by rw [← h n j hl]; exact iv.m8 n j hl⟩
theorem addsw_iv (iv : Iv L M g) {n j : Nat} {t : Addr} {ws : List Int} (nL : ¬ L n j) (tn : (g.T n)[j]? = some none) (hw : ws = M n j) (h8 : (M n j).length = 8) : Iv (fun a b => L a b ∨ (a, b) = (n, j)) M (swN g (g.sw ++ [((n, j), t, ws)])) := by
  refine ⟨iv.fk, fun f k e x hx => ?_, fun a b f hl h => ?_, ?_, fun x hx => ?_, fun a b hl h => ?_, fun a b hl => ?_, fun a b hl => ?_⟩
  · obtain ⟨h1, h2⟩ := iv.ow f k e x hx
    exact ⟨.inl h1, h2⟩
  · rcases hl with z | z
    · exact iv.tb a b f z h
    · injection z with z1 z2
      have h : (g.T a)[b]? = some (some f) := h
      rw [z1, z2, tn] at h; cases h
  · show ((g.sw ++ [((n, j), t, ws)]).map (·.1)).Nodup
    rw [List.map_append, List.nodup_append]
    refine ⟨iv.sn, by simp, fun a ha b hb e => ?_⟩
    obtain ⟨x, hx, ex⟩ := List.mem_map.mp ha
    have : b = (n, j) := by simpa using hb
    have h1 := (iv.sl x hx).1
    have e3 : x.1 = (n, j) := by rw [ex, e, this]
    rw [e3] at h1
    exact nL h1
  · rcases List.mem_append.mp hx with z | z
    · obtain ⟨h1, h2⟩ := iv.sl x z
      exact ⟨.inl h1, h2⟩
    · rw [List.mem_singleton.mp z]
      exact ⟨.inr rfl, tn, hw⟩
  · show (a, b) ∈ (g.sw ++ [((n, j), t, ws)]).map (·.1) ∨ _
    rw [List.map_append]
    rcases hl with z | z
    · exact (iv.nn a b z h).imp (fun y => List.mem_append_left _ y) id
    · exact .inl (List.mem_append_right _ (by rw [z]; simp))
  · rcases hl with z | z
    · exact iv.lv a b z
    · injection z with z1 z2
      rw [z1, z2]; exact ⟨_, tn⟩
  · rcases hl with z | z
    · exact iv.m8 a b z
    · injection z with z1 z2
      rw [z1, z2]; exact h8
theorem addz_iv (iv : Iv L M g) {n j : Nat} (tn : (g.T n)[j]? = some none) (hz : M n j = zero8) : Iv (fun a b => L a b ∨ (a, b) = (n, j)) M g := by
  refine ⟨iv.fk, fun f k e x hx => ?_, fun a b f hl h => ?_, iv.sn, fun x hx => ?_, fun a b hl h => ?_, fun a b hl => ?_, fun a b hl => ?_⟩
  · obtain ⟨h1, h2⟩ := iv.ow f k e x hx
    exact ⟨.inl h1, h2⟩
  · rcases hl with z | z
    · exact iv.tb a b f z h
    · injection z with z1 z2
      have h : (g.T a)[b]? = some (some f) := h
      rw [z1, z2, tn] at h; cases h
  · obtain ⟨h1, h2⟩ := iv.sl x hx
    exact ⟨.inl h1, h2⟩
  · rcases hl with z | z
    · exact iv.nn a b z h
    · injection z with z1 z2
      rw [z1, z2]; exact .inr hz
  · rcases hl with z | z
    · exact iv.lv a b z
    · injection z with z1 z2
      rw [z1, z2]; exact ⟨_, tn⟩
  · rcases hl with z | z
    · exact iv.m8 a b z
    · injection z with z1 z2
      rw [z1, z2, hz]; rfl
theorem frG_same {f k : Nat} (h : g.fr[f]? = some (some k)) : frG g f (some k) = g := by
  unfold frG
  have : g.fr.set f (some k) = g.fr := by
    obtain ⟨h1, h2⟩ := List.getElem?_eq_some_iff.mp h
    rw [← h2]
    exact List.set_getElem_self h1
  rw [this]
end
theorem share_sv {g : G} {f k n j : Nat} {t : Addr} (sv : Sv g) (hn : n < g.ns) : Sv (shareG g f k n j t) :=
  { spn := by
      show (addN g.sp n).Nodup
      unfold addN
      split
      · exact sv.spn
      · rename_i h
        rw [List.nodup_append]
        exact ⟨sv.spn, by simp, fun a ha b hb e => h (by rw [← List.mem_singleton.mp hb, ← e]; exact ha)⟩
    spl := fun m hm => by
      rcases mem_addN.mp hm with z | z
      · exact sv.spl m z
      · rw [z]; exact hn
    las := sv.las, hnd := sv.hnd, frl := sv.frl, t64 := fun m => by
      show (fset g.T n ((g.T n).set j (some f)) m).length ≤ 64
      by_cases e : m = n
      · rw [e, fset_same, List.length_set]; exact sv.t64 n
      · rw [fset_ne e]; exact sv.t64 m
    tns := fun m hm => by
      have hm : g.ns ≤ m := hm
      show fset g.T n ((g.T n).set j (some f)) m = []
      rw [fset_ne (by omega)]; exact sv.tns m hm
    swl := sv.swl, evf := sv.evf, n100 := sv.n100 }
/-- the child's pages are shared one by one -/
structure F2 (g : G) (n len i : Nat) (a ax q : Addr) (gi : G) : Prop where
  sv : Sv gi
  sa : gi.sa = fset g.sa g.ns a
  sx : gi.sx = fset g.sx g.ns ax
  ta : gi.ta = fset g.ta g.ns q
  ns : gi.ns = g.ns + 1
  slots : gi.slots = g.slots
  frl : gi.fr.length = g.fr.length
  Tn : gi.T n = g.T n
  Tm : ∀ b, i ≤ b → b < len → (gi.T g.ns)[b]? = some none
  tl : ∀ c, (gi.T c).length = if c = g.ns then len else (g.T c).length
/-- the pages of n in the swap space -/
def sws (g : G) (n : Nat) (l : Nat) : List Nat := (List.range l).filter fun j => decide ((n, j) ∈ g.sw.map (·.1))
theorem sws_snoc (g : G) (n i : Nat) : sws g n (i + 1) = sws g n i ++ if (n, i) ∈ g.sw.map (·.1) then [i] else [] := by
  unfold sws
  rw [List.range_succ, List.filter_append]
  congr 1
  show List.filter _ [i] = _
  rw [List.filter_cons, List.filter_nil]
  by_cases e : (n, i) ∈ g.sw.map (·.1) <;> simp [e]
theorem mem_sws {g : G} {n l j : Nat} : j ∈ sws g n l ↔ j < l ∧ (n, j) ∈ g.sw.map (·.1) := by
  unfold sws
  rw [List.mem_filter, List.mem_range, decide_eq_true_eq]
theorem sws_nd (g : G) (n l : Nat) : (sws g n l).Nodup := List.Sublist.nodup List.filter_sublist List.nodup_range
theorem sws_len (g : G) (n l : Nat) : (sws g n l).length ≤ l := by
  have := List.length_filter_le (fun j => decide ((n, j) ∈ g.sw.map (·.1))) (List.range l)
  rw [List.length_range] at this
  exact this
def forkM (M : Nat → Nat → List Int) (n m : Nat) : Nat → Nat → List Int := fun a b => if a = m then M n b else M a b
def spFork (C : CA) (CE : Addr) : Sp := fun vs H Q E => ∃ (g : G) (n : Nat) (M : Nat → Nat → List Int), vs = [.ref (g.sa n)] ∧ At C g H ∧ Iv (Lv g) M g ∧ Sv g ∧ n < g.ns ∧ g.ns < 100 ∧
  (¬ Roomy g → ∀ H', Same H H' → E (.ref CE) none H') ∧
  ∀ g' H', Go C g H g' H' → Iv (Lv g') (forkM M n g.ns) g' → Sv g' → g'.ns = g.ns + 1 → (∀ a, a < g.ns → g'.sa a = g.sa a) → g'.slots = g.slots → g'.fr.length = g.fr.length →
    (∀ a, (g'.T a).length = if a = g.ns then (g.T n).length else (g.T a).length) → Q (.ref (g'.sa g.ns)) H'
section
variable {P : Program} {w : World} {K : PySem.W.Frag} {mg : Str → Option Value} {base : Heap} {C : CA} {CE : Addr}
theorem scFork : FnScope ["self", "page", "swapped", "child", "place"] ["self"] (defScope sFork) := ⟨rfl, rfl, rfl, by decide +kernel, rfl, by decide +kernel, by decide +kernel⟩
theorem ok_fork {f fI fS : Addr} {fd fdI fdS : FuncData} (F : L2.Fun K "forked" "Space.forked" sFork f fd) (T : PTxt K mg C CE)
    (FI : FnOk P w K mg base L2.CX0 2 fI fdI ["self", "pager", "pages"] (spSI C)) (bI : Binds K fdI ["self", "pager", "pages"] []) (MI : Mk K C.CS fI)
    (FS : FnOk P w K mg base L2.CX0 1 fS fdS ["self", "place", "space", "page"] (spShare C)) (bS : Binds K fdS ["self", "place", "space", "page"] []) (mS : Meth K C.CP "share" fS) :
    FnOk P w K mg base (L2.CX P w) 4 f fd ["self"] (spFork C CE) := by
  refine F.okX scFork (fun vs H Q E h => ?_) (fun cdv A outer s H vs Q E hr h => ?_)
  · obtain ⟨g, n, M, rfl, _⟩ := h
    rfl
  · obtain ⟨g, n, M, rfl, st, iv, sv, hn, n100, kE, kk⟩ := h
    have rS := FS.mono (show 1 ≤ 3 by decide)
    refine ⟨_, pss_cons (ps_setLc (i := 2) (own := [("page", 1)]) (g := gName 1) (te := tVar 1) (tt := tB (tDIn (tTup (tCons (tFld K (tVar 0) "number") (tCons (tVar 1) tNil))) (tFld K (tFld K (tVar 0) "pager") "swapped"))) (by rfl) scFork.nd rfl rfl (sw_true rfl rfl rfl (by decide +kernel))
        (pi_range1 (by rfl) T.range (pa_cons (pe_callB call_len_seq (by rfl) T.len PySem.boot_len (pa_cons (pe_fld (pv 0) rfl) pa_nil)) pa_nil)) (blkOk_by (N := ["self", "page", "swapped", "child", "place"]) (sc := defScope sFork) (by decide +kernel))
        (fun _ _ _ _ _ => pg_name (i := 1) scFork.nd rfl (Or.inl rfl)) (fun _ _ _ _ _ => pts_one (pt_cmp (pc_din (by exact hu_of hr) (pe_tup (pa_cons (pe_fld (pv 0) rfl) (pa_cons (pv 1) pa_nil))) (pe_fld (pe_fld (pv 0) rfl) rfl)))) (fun _ _ _ _ _ => pv 1))
      (pss_cons (ps_if (pt_cmpR op_gt (pe_op op_add (pe_callB call_len_dT (by rfl) T.len PySem.boot_len (pa_cons (pe_fld (pe_fld (pv 0) rfl) rfl) pa_nil)) (pe_callB call_len_seq (by rfl) T.len PySem.boot_len (pa_cons (pv 2) pa_nil))) (pe_fld (pe_fld (pv 0) rfl) rfl) (nomark _))
        (pss_one (ps_raise rfl (takes_of rfl rfl rfl rfl) (pmk_own PySem.F.excBase_ValueError T.xE T.gE T.kE (raises_own T.bE T.tE) rfl))) pss_nil)
      (pss_cons (ps_set (i := 3) scFork.nd rfl (Or.inl rfl) (pe_make MI FI hr (by rfl) T.gS bI .nil pass0 (pa_cons (pe_fld (pv 0) rfl) (pa_cons (pe_callB call_len_seq (by rfl) T.len PySem.boot_len (pa_cons (pe_fld (pv 0) rfl) pa_nil)) pa_nil))))
      (pss_cons (ps_for (passes_of rfl) rfl (pi_list (pv 2)) (pg_name (i := 1) scFork.nd rfl (Or.inl rfl))
        (pss_one (ps_dput (hu_of hr) (pe_fld (pe_fld (pv 0) rfl) rfl) (pe_tup (pa_cons (pe_fld (pv 3) rfl) (pa_cons (pv 1) pa_nil))) (pe_dget (hu_of hr) (pe_fld (pe_fld (pv 0) rfl) rfl) (pe_tup (pa_cons (pe_fld (pv 0) rfl) (pa_cons (pv 1) pa_nil))) (fun _ _ => rfl)) rfl)))
      (pss_cons (ps_for (passes_of rfl) rfl (pi_enum (by rfl) T.enum (pa_cons (pe_fld (pv 0) rfl) pa_nil)) (pg_tup rfl (pgs_cons (pg_name (i := 1) scFork.nd rfl (Or.inl rfl)) (pgs_cons (pg_name (i := 4) scFork.nd rfl (Or.inl rfl)) pgs_nil)))
        (pss_one (ps_if (pt_cmpR op_notN (pv 4) pe_non (nomark _)) (pss_one (ps_expr (pe_meth (pe_fld (pv 0) rfl) T.cp mS rS hr bS .nil pass0 (pa_cons (pv 4) (pa_cons (pv 3) (pa_cons (pv 1) pa_nil)))))) pss_nil)))
      (pss_one (ps_ret (pv 3))))))), ?_⟩
    have h64 := sv.t64 n
    refine ⟨_, rfl, g.sa n, C.CS, g.sx n, _, _, rfl, st.si hn, T.cs, T.s3, rfl, g.ta n, _, rfl, .inl (SqL.of (st.st hn)), _, rfl, by rw [List.length_map]; omega, by rw [List.length_map]; omega, fun D nD => ?_⟩
    have en : ((((g.T n).map tV).length : Nat) : Int).toNat = (g.T n).length := by simp
    refine lc_range (lo := 0) (n := ((((g.T n).map tV).length : Nat) : Int).toNat) (fun i H' => Same H H' ∧ H' D = some (.lst (nV (sws g n i)))) ⟨same_upd nD, upd_same⟩ (fun i H' hi q => ?_) (fun H1 q => ?_)
    · obtain ⟨sm, hD⟩ := q
      rw [en] at hi
      rw [show (0 : Int) + (i : Int) = (i : Int) from Int.zero_add _]
      have a1 := st.same sm
      refine ⟨rfl, _, rfl, g.sa n, C.CS, g.sx n, _, _, rfl, a1.si hn, T.cs, T.s2, rfl, _, rfl, (by show 2 ≤ sizeLine; decide), fun t nt => ?_⟩
      have sm2 := sm.trans (same_upd (o := keyO (n, i)) nt)
      have ht : (upd H' t (keyO (n, i))) t = some (keyO (n, i)) := upd_same
      have hD2 : (upd H' t (keyO (n, i))) D = some (.lst (nV (sws g n i))) := by rw [upd_ne (ne_of_none hD nt)]; exact hD
      generalize upd H' t (keyO (n, i)) = H2 at sm2 ht hD2 ⊢
      have a2 := st.same sm2
      refine ⟨_, rfl, g.sa n, C.CS, g.sx n, _, _, rfl, a2.si hn, T.cs, T.s1, rfl, C.p, C.CP, g.px, _, _, rfl, a2.pg, T.cp, T.p4, rfl, g.sd, _, rfl, DGet.t (k := keyL (n, i)) a2.sd ht, _, rfl, ?_⟩
      rw [swK_isSome]
      have e1 := sws_snoc g n i
      have ln : (nV (sws g n i)).length < sizeLine := by
        have := sws_len g n i
        unfold nV
        rw [List.length_map]; exact small (by omega)
      refine ite2 (fun c => ?_) (fun c => ?_)
      · have c : (n, i) ∈ g.sw.map (·.1) := by simpa using c
        rw [if_pos c] at e1
        refine ⟨_, rfl, _, hD2, ln, fun b o h => by rw [upd_ne (ne_of_none h nD)]; exact sm2 b o h, ?_⟩
        rw [upd_same, e1]
        unfold nV
        rw [List.map_append]; rfl
      · have c : ¬ (n, i) ∈ g.sw.map (·.1) := by simpa using c
        rw [if_neg c, List.append_nil] at e1
        exact ⟨sm2, by rw [e1]; exact hD2⟩
    · obtain ⟨s1, hD⟩ := q
      rw [en] at hD
      obtain ⟨ss, ess⟩ : ∃ ss, ss = sws g n (g.T n).length := ⟨_, rfl⟩
      rw [← ess] at hD
      have ssl : ss.length ≤ 64 := by rw [ess]; exact Nat.le_trans (sws_len _ _ _) h64
      have a1 := st.same s1
      refine ⟨_, rfl, g.sa n, C.CS, g.sx n, _, _, rfl, a1.si hn, T.cs, T.s1, rfl, C.p, C.CP, g.px, _, _, rfl, a1.pg, T.cp, T.p4, rfl, g.sd, _, rfl, a1.sd, ?_⟩
      refine ⟨_, rfl, D, _, rfl, .inl (SqL.of hD), _, _, rfl, rfl, ?_⟩
      refine ⟨_, rfl, g.sa n, C.CS, g.sx n, _, _, rfl, a1.si hn, T.cs, T.s1, rfl, C.p, C.CP, g.px, _, _, rfl, a1.pg, T.cp, T.p2, rfl, _, _, rfl, rfl, _, rfl, ?_⟩
      have l1 : ((swK g.sw).length : Int) = g.sw.length := by unfold swK; rw [List.length_map]
      have l2 : ((nV ss).length : Int) = ss.length := by unfold nV; rw [List.length_map]
      refine ite2 (fun c => ?_) (fun c => ?_)
      · have c := of_decide_eq_true c
        rw [l1, l2] at c
        refine kE (fun room => ?_) H1 s1
        have r1 := room (g.sw.map (·.1)) iv.sn fun x hx => by
          obtain ⟨y, hy, rfl⟩ := List.mem_map.mp hx
          exact (iv.sl y hy).1
        have r2 := room (ss.map fun j => (n, j)) (by
          rw [ess]
          exact (sws_nd _ _ _).map _ fun a b h e => h (by injection e)) fun x hx => by
          obtain ⟨y, hy, rfl⟩ := List.mem_map.mp hx
          rw [ess] at hy
          exact (mem_sws.mp hy).1
        rw [List.length_map] at r1 r2
        omega
      · have c : ¬ ((swK g.sw).length : Int) + ((nV ss).length : Int) > (g.slots : Int) := fun z => c (decide_eq_true z)
        rw [l1, l2] at c
        refine ⟨_, rfl, g.sa n, C.CS, g.sx n, _, _, rfl, a1.si hn, T.cs, T.s1, rfl, _, rfl, g.sa n, C.CS, g.sx n, _, _, rfl, a1.si hn, T.cs, T.s3, rfl, g.ta n, _, rfl, .inl (SqL.of (a1.st hn)), ?_⟩
        refine fun a ax na nax nxa => ⟨a, ax, g, (g.T n).length, H1, by rw [List.length_map]; rfl, rfl, na, nax, nxa, a1, h64, sv.las, sv.spl, fun q H2 go2 => ⟨rfl, ?_⟩⟩
        have hne : n ≠ g.ns := Nat.ne_of_lt hn
        have hL0 : ∀ b, ¬ Lv g g.ns b := fun b h => by
          have h : b < (g.T g.ns).length := h
          rw [sv.tns _ (Nat.le_refl _)] at h
          exact Nat.not_lt_zero b h
        have nDO : ¬ Own C g D := fun ⟨x, o, e⟩ => by rw [st.get x D o e] at nD; cases nD
        have go02 := (Go.same st s1).trans go2
        have a2 := go2.at_
        have hsn : ∀ {gi : G} {HH : Hp}, At C gi HH → gi.sa = fset g.sa g.ns a → gi.sx = fset g.sx g.ns ax → gi.ta = fset g.ta g.ns q → gi.ns = g.ns + 1 → HH (g.sa n) = some (.ins C.CS (g.sx n) (fsSt C.p n (g.ta n))) ∧ HH a = some (.ins C.CS ax (fsSt C.p g.ns q)) := fun {gi HH} aa e1 e2 e3 e4 => by
          have h1 := aa.si (n := n) (by rw [e4]; omega)
          have h2 := aa.si (n := g.ns) (by rw [e4]; omega)
          have f1 : fsS C.p gi n = fsSt C.p n (g.ta n) := by
            show fsSt C.p n (gi.ta n) = _
            rw [e3, fset_ne hne]
          have f2 : fsS C.p gi g.ns = fsSt C.p g.ns q := by
            show fsSt C.p g.ns (gi.ta g.ns) = _
            rw [e3, fset_same]
          rw [f1, e1, e2, fset_ne hne, fset_ne hne] at h1
          rw [f2, e1, e2, fset_same, fset_same] at h2
          exact ⟨h1, h2⟩
        have iv1 : Iv (Lv g) (forkM M n g.ns) (spaceG g a ax q (g.T n).length) := (sp_iv iv hL0).congM fun c b hl => by
          unfold forkM
          rw [if_neg (fun e => hL0 b (by rw [← e]; exact hl))]
        have Tm : (spaceG g a ax q (g.T n).length).T g.ns = List.replicate (g.T n).length none := fset_same
        have Tn : (spaceG g a ax q (g.T n).length).T n = g.T n := fset_ne hne
        have sv1 : Sv (spaceG g a ax q (g.T n).length) := sp_sv sv h64 n100
        have eMm : ∀ j, forkM M n g.ns g.ns j = M n j := fun j => if_pos rfl
        have eMn : ∀ j, forkM M n g.ns n j = M n j := fun j => if_neg hne
        have esa : (spaceG g a ax q (g.T n).length).sa = fset g.sa g.ns a := rfl
        have esx : (spaceG g a ax q (g.T n).length).sx = fset g.sx g.ns ax := rfl
        have eta : (spaceG g a ax q (g.T n).length).ta = fset g.ta g.ns q := rfl
        have ens : (spaceG g a ax q (g.T n).length).ns = g.ns + 1 := rfl
        have esw : (spaceG g a ax q (g.T n).length).sw = g.sw := rfl
        have esd : (spaceG g a ax q (g.T n).length).sd = g.sd := rfl
        have epx : (spaceG g a ax q (g.T n).length).px = g.px := rfl
        have esl : (spaceG g a ax q (g.T n).length).slots = g.slots := rfl
        have efr : (spaceG g a ax q (g.T n).length).fr = g.fr := rfl
        have tl1 : ∀ c, ((spaceG g a ax q (g.T n).length).T c).length = if c = g.ns then (g.T n).length else (g.T c).length := fun c => by
          show (fset g.T g.ns (List.replicate (g.T n).length none) c).length = _
          by_cases e : c = g.ns
          · rw [e, fset_same, List.length_replicate, if_pos rfl]
          · rw [fset_ne e, if_neg e]
        have g1sv : ∀ sw : Sw, sw.length ≤ g.slots → Sv (swN (spaceG g a ax q (g.T n).length) sw) := fun sw h => { sv1 with swl := h, evf := sv1.evf }
        have hD2 := go2.nx D _ hD nDO
        generalize spaceG g a ax q (g.T n).length = g1 at go2 go02 a2 iv1 Tm Tn sv1 esa esx eta ens esw esd epx esl efr tl1 g1sv hD2
        refine ⟨_, rfl, D, rfl, ⟨_, SqL.of hD2.1⟩, ?_⟩
        have ssm : ∀ j ∈ ss, j < (g.T n).length ∧ (n, j) ∈ g.sw.map (·.1) := fun j hj => by rw [ess] at hj; exact mem_sws.mp hj
        have ssn : ss.Nodup := by rw [ess]; exact sws_nd _ _ _
        refine for_list (K := K) (a := D) (xs := nV ss) (fun i σ H' => ∃ ad : Sw, Go C g H (swN g1 (g.sw ++ ad)) H' ∧ Iv (fun c b => Lv g c b ∨ (c = g.ns ∧ b ∈ ss.take i)) (forkM M n g.ns) (swN g1 (g.sw ++ ad)) ∧ ad.length ≤ i ∧ (∃ u1 u4, σ = [some (.ref (g.sa n)), u1, some (.ref D), some (.ref a), u4]) ∧ H' D = some (.lst (nV ss)))
          ⟨[], by rw [List.append_nil]; rw [← esw]; exact go02, by
            rw [List.append_nil, ← esw]
            exact iv1.cong fun c b => ⟨.inl, fun z => z.elim id fun y => by cases y.2⟩, Nat.le_refl _, ⟨_, _, rfl⟩, hD2.1⟩ (fun i σ H' hi q => by obtain ⟨_, _, _, _, _, h⟩ := q; exact SqL.of h) (fun i z σ H' hx q => ?_) (fun σ H' q => ?_)
        · obtain ⟨ad, go, iv2, lad, ⟨u1, u4, rfl⟩, hDD⟩ := q
          rw [List.getElem?_map] at hx
          obtain ⟨j, hj, rfl⟩ := Option.map_eq_some_iff.mp hx
          have hi := (List.getElem?_eq_some_iff.mp hj).1
          have hjm := List.mem_of_getElem? hj
          obtain ⟨j1, j2⟩ := ssm j hjm
          have a3 := go.at_
          obtain ⟨hs1, hs2⟩ := hsn a3 esa esx eta ens
          have hpg : H' C.p = some (.ins C.CP g.px (fsP (swN g1 (g.sw ++ ad)))) := by
            have := a3.pg
            rw [show (swN g1 (g.sw ++ ad)).px = g.px from epx] at this
            exact this
          have hsd : H' g.sd = some (.dT (swK (g.sw ++ ad))) := by
            have := a3.sd
            rw [show (swN g1 (g.sw ++ ad)).sd = g.sd from esd] at this
            exact this
          have lsd : List.lookup ("swapped" : Str) (fsP (swN g1 (g.sw ++ ad))) = some (V.ref g.sd) := by
            show some (V.ref g1.sd) = _
            rw [esd]
          -- what is read
          refine ⟨_, rfl, g.sa n, C.CS, g.sx n, _, _, rfl, hs1, T.cs, T.s1, rfl, C.p, C.CP, g.px, _, _, rfl, hpg, T.cp, T.p4, lsd, ?_⟩
          refine ⟨_, rfl, g.sa n, C.CS, g.sx n, _, _, rfl, hs1, T.cs, T.s2, rfl, _, rfl, (by show 2 ≤ sizeLine; decide), fun t nt => ?_⟩
          have sm4 : Same H' (upd H' t (keyO (n, j))) := same_upd nt
          have ht : (upd H' t (keyO (n, j))) t = some (keyO (n, j)) := upd_same
          have go4 := go.trans (Go.same a3 sm4)
          have hs1' := sm4 _ _ hs1
          have hs2' := sm4 _ _ hs2
          have hpg' := sm4 _ _ hpg
          have hsd' := sm4 _ _ hsd
          have hDD' := sm4 _ _ hDD
          generalize upd H' t (keyO (n, j)) = H4 at ht go4 hs1' hs2' hpg' hsd' hDD' ⊢
          clear sm4 nt a3 hs1 hs2 hpg hsd hDD go
          obtain ⟨x, hxm, hxk, hxv⟩ := swK_some (k := (n, j)) (sw := g.sw ++ ad) (by rw [List.map_append]; exact List.mem_append_left _ j2)
          have hws := (iv2.sl x hxm).2.2
          have hxk : x.1 = (n, j) := hxk
          have hws : x.2.2 = M n j := by rw [hws, hxk]; exact eMn j
          refine ⟨g.sd, .ref x.2.1, rfl, by rw [← hxv]; exact DGet.t (k := keyL (n, j)) hsd' ht, ?_⟩
          have hxt := go4.at_.tp2 x hxm
          refine ⟨_, rfl, g.sa n, C.CS, g.sx n, _, _, rfl, hs1', T.cs, T.s1, rfl, C.p, C.CP, g.px, _, _, rfl, hpg', T.cp, T.p4, lsd, ?_⟩
          refine ⟨_, rfl, a, C.CS, ax, _, _, rfl, hs2', T.cs, T.s2, rfl, _, rfl, (by show 2 ≤ sizeLine; decide), fun t2 nt2 => ?_⟩
          have sm5 : Same H4 (upd H4 t2 (keyO (g.ns, j))) := same_upd nt2
          have ht2 : (upd H4 t2 (keyO (g.ns, j))) t2 = some (keyO (g.ns, j)) := upd_same
          have go5 := go4.trans (Go.same go4.at_ sm5)
          have hsd5 := sm5 _ _ hsd'
          have hDD5 := sm5 _ _ hDD'
          have hxt5 := sm5 _ _ hxt
          generalize upd H4 t2 (keyO (g.ns, j)) = H5 at ht2 go5 hsd5 hDD5 hxt5 ⊢
          have a5 := go5.at_
          have lsw : (g.sw ++ ad).length ≤ 20000 := by
            have := sw_len sv (fun _ _ h => h) iv
            rw [List.length_append]; omega
          have nin : (g.ns, j) ∉ (g.sw ++ ad).map (·.1) := fun z => by
            obtain ⟨y, hy, ey⟩ := List.mem_map.mp z
            have h1 := (iv2.sl y hy).1
            have ey : y.1 = (g.ns, j) := ey
            rw [ey] at h1
            rcases h1 with h1 | h1
            · exact hL0 _ h1
            · have nd2 : (ss.take (i + 1)).Nodup := List.Sublist.nodup (List.take_sublist _ _) ssn
              rw [List.take_add_one, hj] at nd2
              exact (List.nodup_append.mp nd2).2.2 _ h1.2 _ (by simp) rfl
          refine ⟨g.sd, _, rfl, DPut.t (k := keyL (g.ns, j)) hsd5 ht2 (by unfold swK; rw [List.length_map, sizeLine_eq]; omega), ?_⟩
          have go6 : Go C (swN g1 (g.sw ++ ad)) H5 (swN (swN g1 (g.sw ++ ad)) ((g.sw ++ ad) ++ [((g.ns, j), x.2.1, M n j)])) (upd H5 g.sd (.dT (putK (swK (g.sw ++ ad)) (keyL (g.ns, j)) (.ref x.2.1)))) := by
            refine go_sw a5 (fun y hy => ?_) ?_ ?_
            · rcases List.mem_append.mp hy with y1 | y1
              · exact a5.tp2 y y1
              · rw [List.mem_singleton.mp y1]
                show H5 x.2.1 = some (.tup ((M n j).map V.int))
                rw [← hws]; exact hxt5
            · rw [show (swN g1 (g.sw ++ ad)).sd = g.sd from esd]; exact SameX.upd
            · rw [show (swN g1 (g.sw ++ ad)).sd = g.sd from esd, upd_same, swK_put nin x.2.1 (M n j)]
          have tm : ((swN g1 (g.sw ++ ad)).T g.ns)[j]? = some none := by
            show (g1.T g.ns)[j]? = _
            rw [Tm, List.getElem?_replicate, if_pos j1]
          have iv3 := addsw_iv (t := x.2.1) (ws := M n j) iv2 (n := g.ns) (j := j) (fun z => nin (by
            rcases z with z | z
            · exact absurd z (hL0 _)
            · have nd2 : (ss.take (i + 1)).Nodup := List.Sublist.nodup (List.take_sublist _ _) ssn
              rw [List.take_add_one, hj] at nd2
              exact absurd rfl ((List.nodup_append.mp nd2).2.2 _ z.2 _ (by simp)))) tm (eMm j).symm (by rw [eMm]; exact iv.m8 n j j1)
          refine ⟨ad ++ [((g.ns, j), x.2.1, M n j)], ?_, ?_, ?_, ⟨_, _, rfl⟩, ?_⟩
          · rw [← List.append_assoc]
            exact go5.trans go6
          · rw [← List.append_assoc]
            refine iv3.cong fun c b => ?_
            rw [List.take_add_one, hj]
            constructor
            · rintro ((z | z) | z)
              · exact .inl z
              · exact .inr ⟨z.1, List.mem_append_left _ z.2⟩
              · injection z with z1 z2
                exact .inr ⟨z1, List.mem_append_right _ (by rw [z2]; simp)⟩
            · rintro (z | ⟨z1, z2⟩)
              · exact .inl (.inl z)
              · rcases List.mem_append.mp z2 with y | y
                · exact .inl (.inr ⟨z1, y⟩)
                · have : b = j := by simpa using y
                  exact .inr (by rw [z1, this])
          · rw [List.length_append]
            show ad.length + 1 ≤ i + 1
            omega
          · rw [upd_ne (ne_of hDD5 hsd5 (by intro z; cases z))]; exact hDD5
        · obtain ⟨ad, go, iv2, lad, ⟨u1, u4, rfl⟩, _⟩ := q
          rw [show (nV ss).length = ss.length by unfold nV; rw [List.length_map], List.take_length] at iv2
          have lad : ad.length ≤ ss.length := by
            unfold nV at lad; rw [List.length_map] at lad; exact lad
          have svA := g1sv (g.sw ++ ad) (by rw [List.length_append]; omega)
          have a3 := go.at_
          obtain ⟨hs1, hs2⟩ := hsn a3 esa esx eta ens
          have htab : ∀ {gi : G} {HH : Hp}, At C gi HH → gi.ta = fset g.ta g.ns q → gi.ns = g.ns + 1 → gi.T n = g.T n → HH (g.ta n) = some (.lst ((g.T n).map tV)) := fun {gi HH} aa e1 e2 e3 => by
            have h1 := aa.st (n := n) (by rw [e2]; omega)
            rw [e1, e3, fset_ne hne] at h1
            exact h1
          refine ⟨_, rfl, g.sa n, C.CS, g.sx n, _, _, rfl, hs1, T.cs, T.s3, rfl, g.ta n, _, rfl, SqL.of (htab a3 eta ens Tn), ?_⟩
          have f20 : F2 g n (g.T n).length 0 a ax q (swN g1 (g.sw ++ ad)) := ⟨svA, esa, esx, eta, ens, esl, (by show g1.fr.length = _; rw [efr]), Tn, fun b _ hb => by
            show (g1.T g.ns)[b]? = _
            rw [Tm, List.getElem?_replicate, if_pos hb], tl1⟩
          refine for_it (walk_enum (K := K) (a := g.ta n) (xs := (g.T n).map tV)) (fun i σ H' => ∃ gi, Go C g H gi H' ∧ F2 g n (g.T n).length i a ax q gi ∧ Iv (fun c b => Lv g c b ∨ (c = g.ns ∧ (b ∈ ss ∨ b < i))) (forkM M n g.ns) gi ∧ ∃ u1 u4, σ = [some (.ref (g.sa n)), u1, some (.ref D), some (.ref a), u4])
            ⟨_, go, f20, iv2.cong fun c b => ⟨fun z => z.imp id fun y => ⟨y.1, .inl y.2⟩, fun z => z.imp id fun y => ⟨y.1, y.2.resolve_right (Nat.not_lt_zero b)⟩⟩, u1, u4, rfl⟩ (fun i σ H' hi q => ?_) (fun i x σ H' H'' hi q y => ?_) (fun σ H' q => ?_)
          · obtain ⟨gi, go, f2, _⟩ := q
            exact SqL.of (htab go.at_ f2.ta f2.ns f2.Tn)
          · obtain ⟨gi, go, f2, ivi, u1, u4, rfl⟩ := q
            obtain ⟨Tu, x1, x2, rfl, nT, rfl, ex, hx⟩ := y
            have ex : V.int (i : Int) = x1 := Option.some.inj ex
            subst ex
            have hx : ((g.T n).map tV)[i]? = some x2 := hx
            rw [List.getElem?_map] at hx
            obtain ⟨e, he, rfl⟩ := Option.map_eq_some_iff.mp hx
            rw [List.length_map] at hi
            have s5 : Same H' (upd H' Tu (.tup [.int (i : Int), tV e])) := same_upd nT
            have hT : (upd H' Tu (.tup [.int (i : Int), tV e])) Tu = some (.tup [.int (i : Int), tV e]) := upd_same
            have go1 := go.trans (Go.same go.at_ s5)
            generalize upd H' Tu (.tup [.int (i : Int), tV e]) = H1' at s5 hT go1 ⊢
            have a4 := go1.at_
            obtain ⟨hs3, hs4⟩ := hsn a4 f2.sa f2.sx f2.ta f2.ns
            refine ⟨Tu, _, rfl, SqT.of hT, rfl, _, _, rfl, _, _, rfl, rfl, ?_⟩
            refine ⟨_, rfl, rfl, _, rfl, ?_⟩
            have lcong : ∀ c b, ((Lv g c b ∨ (c = g.ns ∧ (b ∈ ss ∨ b < i))) ∨ (c, b) = (g.ns, i)) ↔ (Lv g c b ∨ (c = g.ns ∧ (b ∈ ss ∨ b < i + 1))) := fun c b => by
              constructor
              · rintro ((z | ⟨z1, z2⟩) | z)
                · exact .inl z
                · exact .inr ⟨z1, z2.imp id (fun y => by omega)⟩
                · injection z with z1 z2
                  exact .inr ⟨z1, .inr (by omega)⟩
              · rintro (z | ⟨z1, z2 | z2⟩)
                · exact .inl (.inl z)
                · exact .inl (.inr ⟨z1, .inl z2⟩)
                · by_cases d : b = i
                  · exact .inr (by rw [z1, d])
                  · exact .inl (.inr ⟨z1, .inr (by omega)⟩)
            cases e with
            | none =>
              refine iteF ⟨gi, go1, ⟨f2.sv, f2.sa, f2.sx, f2.ta, f2.ns, f2.slots, f2.frl, f2.Tn, fun b hb => f2.Tm b (by omega), f2.tl⟩, ?_, _, _, rfl⟩
              by_cases d : i ∈ ss
              · refine ivi.cong fun c b => ⟨fun z => z.imp id fun y => ⟨y.1, y.2.imp id fun w => by omega⟩, fun z => z.imp id fun y => ⟨y.1, ?_⟩⟩
                rcases y.2 with w | w
                · exact .inl w
                · by_cases e : b = i
                  · exact .inl (by rw [e]; exact d)
                  · exact .inr (by omega)
              · have hz : M n i = zero8 := (iv.nn n i hi he).resolve_left fun z => d (by rw [ess]; exact mem_sws.mpr ⟨hi, z⟩)
                exact (addz_iv ivi (n := g.ns) (j := i) (f2.Tm i (Nat.le_refl _) hi) (by rw [eMm]; exact hz)).cong lcong
            | some f =>
              refine iteT ?_
              obtain ⟨k, hk, hin⟩ := ivi.tb n i f (.inl hi) (by rw [f2.Tn]; exact he)
              obtain ⟨hk1, hk2, hk3⟩ := ivi.fk f k hk
              obtain ⟨x, hxm, hxk⟩ := List.mem_map.mp hin
              have hW : gi.W k = M n i := by
                have := (ivi.ow f k hk x hxm).2.2.2
                rw [hxk] at this
                exact this.trans (eMn i)
              have lvi : ∀ c b, (Lv g c b ∨ (c = g.ns ∧ (b ∈ ss ∨ b < i))) → Lv gi c b := fun c b z => by
                show b < (gi.T c).length
                rw [f2.tl]
                rcases z with z | ⟨z1, z2⟩
                · rw [if_neg (fun e => hL0 b (by rw [← e]; exact z))]; exact z
                · rw [if_pos z1]
                  rcases z2 with z2 | z2
                  · exact (ssm b z2).1
                  · omega
              have lenO := own_len f2.sv lvi ivi hk
              have him : i < (gi.T g.ns).length := by rw [f2.tl, if_pos rfl]; exact hi
              refine ⟨_, rfl, g.sa n, C.CS, g.sx n, _, _, rfl, hs3, T.cs, T.s1, rfl, C.p, gi.px, _, rfl, a4.pg, rfl, _, rfl, _, rfl, _, rfl, gi, f, k, g.ns, i, ?_, a4, hk, hk1, lenO, by rw [f2.ns]; omega, him, sp_len f2.sv.spn f2.sv.spl f2.sv.n100, fun t H6 go6 => ?_⟩
              · rw [f2.sa, fset_same]; rfl
              · have nL : ¬ (Lv g g.ns i ∨ (g.ns = g.ns ∧ (i ∈ ss ∨ i < i))) := fun z => by
                  rcases z with z | ⟨_, z | z⟩
                  · exact hL0 _ z
                  · obtain ⟨y, hy, ey⟩ := List.mem_map.mp (ssm i z).2
                    have h2 := (iv.sl y hy).2.1
                    have ey : y.1 = (n, i) := ey
                    rw [ey] at h2
                    have h2 : (g.T n)[i]? = some none := h2
                    rw [he] at h2; cases h2
                  · omega
                have sh := share_iv (t := t) ivi (f := f) (k := k) (n := g.ns) (j := i) hk1 (List.getElem?_eq_some_iff.mp hk).1 (.inl hk) nL him (by rw [eMm]; exact hW) (by rw [eMm]; exact iv.m8 n i hi)
                rw [frG_same hk] at sh
                refine ⟨shareG gi f k g.ns i t, go1.trans go6, ⟨share_sv f2.sv (by rw [f2.ns]; omega), f2.sa, f2.sx, f2.ta, f2.ns, f2.slots, f2.frl, ?_, fun b hb hl => ?_, fun c => ?_⟩, sh.cong lcong, _, _, rfl⟩
                · show fset gi.T g.ns _ n = _
                  rw [fset_ne hne]; exact f2.Tn
                · show (fset gi.T g.ns ((gi.T g.ns).set i (some f)) g.ns)[b]? = _
                  rw [fset_same, List.getElem?_set_ne (by omega)]
                  exact f2.Tm b (by omega) hl
                · show (fset gi.T g.ns ((gi.T g.ns).set i (some f)) c).length = _
                  by_cases e : c = g.ns
                  · rw [e, fset_same, List.length_set, f2.tl]
                  · rw [fset_ne e]; exact f2.tl c
          · obtain ⟨gi, go, f2, ivi, u1, u4, rfl⟩ := q
            rw [List.length_map] at ivi
            refine ⟨_, rfl, ?_⟩
            have := kk gi H' go (ivi.cong fun c b => ?_) f2.sv f2.ns (fun c hc => by rw [f2.sa]; exact fset_ne (Nat.ne_of_lt hc)) f2.slots f2.frl f2.tl
            · rw [f2.sa, fset_same] at this
              exact this
            · show _ ↔ b < (gi.T c).length
              rw [f2.tl]
              by_cases e : c = g.ns
              · rw [if_pos e]
                constructor
                · rintro (z | ⟨_, z | z⟩)
                  · exact absurd (by rw [← e]; exact z) (hL0 b)
                  · exact (ssm b z).1
                  · exact z
                · exact fun z => .inr ⟨e, .inr z⟩
              · rw [if_neg e]
                constructor
                · rintro (z | z)
                  · exact z
                  · exact absurd z.1 e
                · exact .inl
end
end K07
namespace K07
open PySem L2 HK
theorem Go.off {C : CA} {g gi : G} {H H' : Hp} {D : Addr} {xs : List V} {o : HO} (go : Go C g H gi H') (hD : H D = none) (hx : H' D = some (.lst xs)) (nO : ¬ Own C gi D) : Go C g H gi (upd H' D o) := by
  have a := go.at_
  have tk : ∀ t ys, H' t = some (.tup ys) → (upd H' D o) t = some (.tup ys) := fun t ys h => by rw [upd_ne (ne_of h hx (by intro z; cases z))]; exact h
  refine ⟨⟨fun x b u h => ?_, a.inj, fun i hi y hy => tk _ _ (a.tp1 i hi y hy), fun y hy => tk _ _ (a.tp2 y hy)⟩, fun b u hb n => ?_⟩
  · rw [upd_ne (fun e => nO ⟨x, u, by rw [← e]; exact h⟩)]; exact a.get x b u h
  · obtain ⟨h1, h2⟩ := go.nx b u hb n
    exact ⟨by rw [upd_ne (ne_of_none hb hD)]; exact h1, h2⟩
def wordsOf (M : Nat → Nat → List Int) (n l : Nat) : List Int := (List.range l).map fun (i : Nat) => wAt M n (i : Int)
def spAll (C : CA) : Sp := fun vs H Q _ => ∃ (g : G) (n : Nat) (M : Nat → Nat → List Int), vs = [.ref (g.sa n)] ∧ At C g H ∧ Iv (Lv g) M g ∧ Sv g ∧ n < g.ns ∧ Roomy g ∧
  ∀ g' H' t, Go C g H g' H' → Iv (Lv g') M g' → Sv g' → Sta g g' → H' t = some (.tup ((wordsOf M n (8 * (g.T n).length)).map V.int)) → Q (.ref t) H'
section
variable {P : Program} {w : World} {K : PySem.W.Frag} {mg : Str → Option Value} {base : Heap} {C : CA} {CE : Addr}
theorem scAll : FnScope ["self", "address"] ["self"] (defScope sAll) := ⟨rfl, rfl, rfl, by decide +kernel, rfl, by decide +kernel, by decide +kernel⟩
theorem ok_all {f fL fW : Addr} {fd fdL fdW : FuncData} (F : L2.Fun K "all_words" "Space.all_words" sAll f fd) (T : PTxt K mg C CE)
    (FL : FnOk P w K mg base (L2.CX P w) 5 fL fdL ["self", "address"] (spLoad C CE)) (bL : Binds K fdL ["self", "address"] []) (mL : Meth K C.CS "load_word" fL)
    (FW : FnOk P w K mg base L2.CX0 1 fW fdW ["self"] (spWc C)) (bW : Binds K fdW ["self"] []) (mW : Meth K C.CS "word_count" fW) : FnOk P w K mg base L2.CX0 6 f fd ["self"] (spAll C) := by
  refine F.ok scAll (fun vs H Q E h => ?_) (fun cdv A outer s H vs Q E hr h => ?_)
  · obtain ⟨g, n, M, rfl, _⟩ := h
    rfl
  · obtain ⟨g, n, M, rfl, st, iv, sv, hn, room, kk⟩ := h
    have rW := FW.mono (show 1 ≤ 5 by decide)
    refine ⟨_, pss_one (ps_ret (pe_callTy call_tuple_of (by rfl) T.tup PyProof.Rows.Boot.«tuple» (pa_cons
      (pe_lc (own := [("address", 1)]) (g := gName 1) (te := tMeth C.CS "load_word" (spLoad C CE) [] E0 (tVar 0) (tCons (tVar 1) tNil)) (by rfl) scAll.nd (pi_range1 (by rfl) T.range (pa_cons (pe_meth0 (pv 0) T.cs mW rW hr bW .nil pass0) pa_nil)) (blkOk_by (N := ["self", "address"]) (sc := defScope sAll) (by decide +kernel))
        (fun _ _ _ _ _ => pg_name (i := 1) scAll.nd rfl (Or.inl rfl)) (fun _ _ _ _ _ => pts_nil) (fun _ _ _ _ _ => pe_meth (pv 0) T.cs mL FL hr bL .nil passL' (pa_cons (pv 1) pa_nil))) pa_nil))), ?_⟩
    have h64 := sv.t64 n
    refine ⟨_, rfl, g.sa n, g.sx n, _, rfl, st.si hn, rfl, g, n, rfl, st, hn, h64, ?_⟩
    refine ⟨_, rfl, by omega, by omega, fun D nD => ?_⟩
    have en : (((8 * (g.T n).length : Nat) : Int)).toNat = 8 * (g.T n).length := Int.toNat_natCast _
    have nDO : ¬ Own C g D := fun ⟨x, o, e⟩ => by rw [st.get x D o e] at nD; cases nD
    refine lc_range (lo := 0) (n := (((8 * (g.T n).length : Nat) : Int)).toNat) (fun i H' => ∃ gi, Go C g H gi H' ∧ Iv (Lv gi) M gi ∧ Sv gi ∧ Sta g gi ∧ ¬ Own C gi D ∧ H' D = some (.lst ((wordsOf M n i).map V.int)))
      ⟨g, (Go.same st (same_upd nD)), iv, sv, Sta.refl g, nDO, upd_same⟩ (fun i H' hi q => ?_) (fun H' q => ?_)
    · obtain ⟨gi, go, ivi, svi, sti, nO, hD⟩ := q
      rw [en] at hi
      rw [show (0 : Int) + (i : Int) = (i : Int) from Int.zero_add _]
      have a1 := go.at_
      have hni : n < gi.ns := by rw [sti.ns]; exact hn
      have hs : H' (g.sa n) = some (.ins C.CS (gi.sx n) (fsS C.p gi n)) := by
        have := a1.si (n := n) hni
        rw [sti.sa] at this; exact this
      have hin : inR gi n (i : Int) := ⟨by omega, by rw [sti.tl]; omega⟩
      refine ⟨rfl, _, rfl, g.sa n, gi.sx n, _, rfl, hs, rfl, _, rfl, gi, n, (i : Int), M, by rw [sti.sa]; rfl, a1, ivi, svi, hni, fun c => absurd hin c, fun _ => ⟨fun nr => absurd (sti.roomy.mpr room) nr, fun g2 H2 go2 iv2 sv2 st2 => ?_⟩⟩
      obtain ⟨hD2, nO2⟩ := go2.nx D _ hD nO
      refine ⟨_, hD2, ?_, g2, (go.trans go2).off nD hD2 nO2, iv2, sv2, sti.trans st2, nO2, ?_⟩
      · rw [List.length_map]
        unfold wordsOf
        rw [List.length_map, List.length_range]; exact small (by omega)
      · rw [upd_same]
        unfold wordsOf
        rw [List.range_succ, List.map_append, List.map_append]; rfl
    · obtain ⟨gi, go, ivi, svi, sti, nO, hD⟩ := q
      rw [en] at hD
      refine ⟨D, _, rfl, .inl ⟨SqL.of hD, fun t nt => ?_⟩⟩
      exact kk gi _ t (go.trans (Go.same go.at_ (same_upd nt))) ivi svi sti upd_same
end
end K07
/-! an instance without an own == beside a text -/
namespace HIS
open PySem PySem.Spec PyProof.Rows PySem.SeqAt
section
variable {M : Model} {prog : Program} {w : World} {A : Around} {E : Value → Shared → Prop} {s : Shared} {K : PySem.W.Frag} {x C : Addr} {ox : Obj} {od : Option Obj} {z : Str} {u : Tok}
theorem str_eq_declines_plain (b : Str) (u : Tok) (l : Addr) (c : Value) (dd : Option Addr) (sl : Array (Option Value)) :
    Meets (Builtin.«str.__eq__» ⟨[.str b u, .ref l], []⟩) (fun _ R s => s.heap.get? l = some { cls := c, dict := dd, data := .plain, slots := sl } ∧ R (.ok (.ret .notImplemented)) s) :=
  .of_wp fun prog w A R s h => by obtain ⟨hp, g, d, tk, os⟩ := s; obtain ⟨hl, h⟩ := h; wp_walk using wpAny_loadPart' hl, wpAny_load hl; exact ⟨_, rfl, h⟩
theorem str_ne_declines_plain (b : Str) (u : Tok) (l : Addr) (c : Value) (dd : Option Addr) (sl : Array (Option Value)) :
    Meets (Builtin.«str.__ne__» ⟨[.str b u, .ref l], []⟩) (fun _ R s => s.heap.get? l = some { cls := c, dict := dd, data := .plain, slots := sl } ∧ R (.ok (.ret .notImplemented)) s) :=
  .of_wp fun prog w A R s h => by obtain ⟨hp, g, d, tk, os⟩ := s; obtain ⟨hl, h⟩ := h; wp_walk using wpAny_loadPart' hl, wpAny_load hl; exact ⟨_, rfl, h⟩
theorem isSame_str {R : Bool → Shared → Prop} (h : R false s) : wpAny M A (isSame (.ref x) (.str z u)) R E s := wpAny_of_eq (rfl : isSame (.ref x) (.str z u) = pure false) h
theorem entry_str {Q : Fin → Shared → Prop} (hq : Q (.done (.ret .notImplemented)) s) : wpAny M A (Builtin.«object.__eq__» ⟨[.ref x, .str z u], []⟩) Q E s := by
  unfold Builtin.«object.__eq__»
  repeat (first | with_reducible refine isSame_str ?_ | wp_step)
  exact hq
theorem call_objEq {Q : Value → Shared → Prop} (X : K.In s.heap) (I : PySem.W.InstAt s.heap x ox C od) (hm : PySem.W.mroIn K C (.type "object") = some true) (hq : Q .notImplemented s) :
    wpAny (model prog w) A (call (.builtin "object.__eq__") [.ref x, .str z u]) Q E s :=
  wpAny_call (codeAny_call_builtin F.cmp_object.eq.plain F.cmpEntry_eq (PySem.W.check_slot F.cmpKind_eq F.cmpSplit_eq (I.type.andThen (PySem.W.looks_mroIn X hm)) (F.cmpArgs_eq _ _) (entry_str hq)))
theorem entry_ne {Q : Fin → Shared → Prop} (X : K.In s.heap) (I : PySem.W.InstAt s.heap x ox C od) (hm : PySem.W.mroIn K C (.type "object") = some true) (hs : PySem.W.findIn K (.ref C) "__eq__" = some (some (.builtin "object.__eq__"))) (hu : A.units < cLine)
    (hq : Q (.done (.ret .notImplemented)) s) : wpAny (model prog w) A (Builtin.«object.__ne__» ⟨[.ref x, .str z u], []⟩) Q E s := by
  unfold Builtin.«object.__ne__»
  repeat (first | with_reducible refine wpAny_cRoomFor hu ?_ | with_reducible refine HN.ifBound_objEq X I hs (call_objEq X I hm ?_) | wp_step)
  exact hq
theorem call_objNe {Q : Value → Shared → Prop} (X : K.In s.heap) (I : PySem.W.InstAt s.heap x ox C od) (hm : PySem.W.mroIn K C (.type "object") = some true) (hs : PySem.W.findIn K (.ref C) "__eq__" = some (some (.builtin "object.__eq__"))) (hu : A.units + 1 < cLine)
    (hq : Q .notImplemented s) : wpAny (model prog w) A (call (.builtin "object.__ne__") [.ref x, .str z u]) Q E s :=
  wpAny_call (codeAny_call_builtin F.cmp_object.ne.plain F.cmpEntry_ne (PySem.W.check_slot F.cmpKind_ne F.cmpSplit_ne (I.type.andThen (PySem.W.looks_mroIn X hm)) (F.cmpArgs_ne _ _) (entry_ne (A := A.in1) X I hm hs hu hq)))
theorem ifBound_objNe {args : List Value} {Q : Option Value → Shared → Prop} (X : K.In s.heap) (I : PySem.W.InstAt s.heap x ox C od) (hs : PySem.W.findIn K (.ref C) "__ne__" = some (some (.builtin "object.__ne__")))
    (h : wpAny M A (call (.builtin "object.__ne__") (.ref x :: args)) (fun v => Q (some v)) E s) : wpAny M A (callSpecialIfBound? (.ref x) "__ne__" args) Q E s := by
  simp only [callSpecialIfBound?, bindSpecialIfBound?]
  refine wpAny_holding (wpAny_bind (wpAny_bind (wpAny_bind (I.type.here ((PySem.W.looks_findIn X hs).here ?_)))))
  refine wpAny_bind (wpAny_askSetting (wpAny_ite ?_))
  have fin : wpAny M A (call (.builtin "object.__ne__") ([.ref x] ++ args) >>= fun v => pure (some v)) Q E s := wpAny_bind (wpAny_mono h (fun v s' h' => wpAny_pure h') fun _ _ h' => h')
  split
  · exact wpAny_bind (wpAny_of_eq (F.cmp_object.ne.bind _) (wpAny_pure (by exact fin)))
  · exact wpAny_tryCatch (wpAny_bind (wpAny_of_eq (F.cmp_object.ne.bind _) (wpAny_pure (by exact fin))))
theorem sub_str : PySem.W.subIn K (.type "str") (.ref C) = some false := by
  have e : fastBuiltinMro "str" = some [.type "str", .type "object"] := by decide +kernel
  show (fastBuiltinMro "str").map (·.contains (.ref C)) = some false
  rw [e]
  first
    | rfl
    | simp
theorem rc_eq {Q : Value → Shared → Prop} (hu : A.units < cLine) (X : K.In s.heap) (I : PySem.W.InstAt s.heap x ox C od) (hp : ox.data = .plain) (hm : PySem.W.mroIn K C (.type "object") = some true) (hs : PySem.W.findIn K (.ref C) "__eq__" = some (some (.builtin "object.__eq__")))
    (h : Q (.bool false) s) : wpAny (model prog w) A (richCompare .Eq (.ref x) (.str z u)) Q E s := by
  have one : wpAny (model prog w) A (tryCompare (.ref x) "__eq__" (.str z u)) (fun r s' => r = none ∧ s' = s) E s := by
    unfold tryCompare
    exact wpAny_bind (HN.ifBound_objEq X I hs (call_objEq X I hm (wpAny_pure ⟨rfl, rfl⟩)))
  obtain ⟨cls, dd, data, sl⟩ := ox
  simp only at hp
  subst hp
  have two : wpAny (model prog w) A (tryCompare (.str z u) "__eq__" (.ref x)) (fun r s' => r = none ∧ s' = s) E s :=
    wpAny_tryCompare_declines (typeIs_str s z u) F.slot_str_eq_refl (call_meets F.slot_str_eq_refl (typeIs_str s z u) F.entry_str_eq (F.args_str_eq_2 _ _) (str_eq_declines_plain z u x cls dd sl) ⟨I.at_, rfl, rfl, rfl⟩)
  simp only [richCompare, cmpInfo_Eq, oneThing_ref]
  refine wpAny_holding (wpAny_bind (wpAny_cRoomFor hu ?_))
  refine wpAny_bind (I.type.here ?_)
  refine wpAny_bind (wpAny_typeOf (typeIs_str s z u) ?_)
  split
  · refine wpAny_bind ((PySem.W.looks_subIn X sub_str).here ?_)
    simp only [Bool.false_eq_true, if_false, Bool.not_false, if_true]
    refine wpAny_bind (m := tryCompare (.ref x) _ (.str z u)) (wpAny_mono one (fun r s1 y => ?_) fun _ _ e => e)
    obtain ⟨z1, z2⟩ := y
    subst z1
    subst z2
    refine wpAny_bind (m := tryCompare (.str z u) _ (.ref x)) (wpAny_mono two (fun r s2 y => ?_) fun _ _ e => e)
    obtain ⟨z1, z2⟩ := y
    subst z1
    subst z2
    exact wpAny_bind (wpAny_rule (wpAny_bind (wpAny_of_eq (rfl : isSame (.ref x) (.str z u) = pure false) (wpAny_pure h))))
  · rename_i q
    exact absurd (by simp) q
theorem rc_ne {Q : Value → Shared → Prop} (hu : A.units + 1 < cLine) (X : K.In s.heap) (I : PySem.W.InstAt s.heap x ox C od) (hp : ox.data = .plain) (hm : PySem.W.mroIn K C (.type "object") = some true) (hs : PySem.W.findIn K (.ref C) "__eq__" = some (some (.builtin "object.__eq__")))
    (hn : PySem.W.findIn K (.ref C) "__ne__" = some (some (.builtin "object.__ne__"))) (h : Q (.bool true) s) : wpAny (model prog w) A (richCompare .NotEq (.ref x) (.str z u)) Q E s := by
  have hu0 : A.units < cLine := Nat.lt_of_succ_lt hu
  have one : wpAny (model prog w) A (tryCompare (.ref x) "__ne__" (.str z u)) (fun r s' => r = none ∧ s' = s) E s := by
    unfold tryCompare
    exact wpAny_bind (ifBound_objNe X I hn (call_objNe X I hm hs hu (wpAny_pure ⟨rfl, rfl⟩)))
  obtain ⟨cls, dd, data, sl⟩ := ox
  simp only at hp
  subst hp
  have two : wpAny (model prog w) A (tryCompare (.str z u) "__ne__" (.ref x)) (fun r s' => r = none ∧ s' = s) E s :=
    wpAny_tryCompare_declines (typeIs_str s z u) F.slot_str_ne_refl (call_meets F.slot_str_ne_refl (typeIs_str s z u) F.entry_str_ne (F.args_str_ne_2 _ _) (str_ne_declines_plain z u x cls dd sl) ⟨I.at_, rfl, rfl, rfl⟩)
  simp only [richCompare, cmpInfo_NotEq, oneThing_ref]
  refine wpAny_holding (wpAny_bind (wpAny_cRoomFor hu0 ?_))
  refine wpAny_bind (I.type.here ?_)
  refine wpAny_bind (wpAny_typeOf (typeIs_str s z u) ?_)
  split
  · refine wpAny_bind ((PySem.W.looks_subIn X sub_str).here ?_)
    simp only [Bool.false_eq_true, if_false, Bool.not_false, if_true]
    refine wpAny_bind (m := tryCompare (.ref x) _ (.str z u)) (wpAny_mono one (fun r s1 y => ?_) fun _ _ e => e)
    obtain ⟨z1, z2⟩ := y
    subst z1
    subst z2
    refine wpAny_bind (m := tryCompare (.str z u) _ (.ref x)) (wpAny_mono two (fun r s2 y => ?_) fun _ _ e => e)
    obtain ⟨z1, z2⟩ := y
    subst z1
    subst z2
    exact wpAny_bind (wpAny_rule (wpAny_bind (wpAny_of_eq (rfl : isSame (.ref x) (.str z u) = pure false) (wpAny_pure h))))
  · rename_i q
    exact absurd (by simp) q
end
end HIS
namespace L2
open PySem PySem.Spec PyProof.Rows
structure NoEq (K : PySem.W.Frag) (C : Addr) : Prop where
  m : PySem.W.mroIn K C (.type "object") = some true
  e : PySem.W.findIn K (.ref C) "__eq__" = some (some (.builtin "object.__eq__"))
  n : PySem.W.findIn K (.ref C) "__ne__" = some (some (.builtin "object.__ne__"))
/-- an instance or a text beside a text -/
def rEqIS (C : Addr) : R2 := fun x y H Q => (∃ a dx fs z, x = .ref a ∧ y = .str z ∧ H a = some (.ins C dx fs) ∧ Q (.bl false) H) ∨ ∃ z z', x = .str z ∧ y = .str z' ∧ Q (.bl (decide (z = z'))) H
def rNeIS (C : Addr) : R2 := fun x y H Q => (∃ a dx fs z, x = .ref a ∧ y = .str z ∧ H a = some (.ins C dx fs) ∧ Q (.bl true) H) ∨ ∃ z z', x = .str z ∧ y = .str z' ∧ Q (.bl (!decide (z = z'))) H
theorem op_eqIS {X : Cx} {C : Addr} (N : NoEq X.K C) (hu : X.A.units + 1 < cLine) : OpR X (compareOp .Eq) (rEqIS C) := by
  intro pins s σ H x y v u Q I rx ry h
  rcases h with ⟨a, dx, fs, z, rfl, rfl, ha, q⟩ | ⟨z, z', rfl, rfl, q⟩
  · cases rx
    obtain ⟨t, rfl⟩ := ry
    obtain ⟨mA, J, _⟩ := ins_get I.hok ha
    obtain ⟨od, J, _⟩ := J.look
    exact HIS.rc_eq (Nat.lt_of_succ_lt hu) I.kIn J rfl N.m N.e ⟨.bl false, H, I, rfl, q⟩
  · exact op_eq (X := X) pins s σ H (.str z) (.str z') v u Q I rx ry ⟨rfl, by
      have e : decide (V.str z = V.str z') = decide (z = z') := by
        by_cases c : z = z' <;> simp [c]
      rw [e]; exact q⟩
theorem op_neIS {X : Cx} {C : Addr} (N : NoEq X.K C) (hu : X.A.units + 1 < cLine) : OpR X (compareOp .NotEq) (rNeIS C) := by
  intro pins s σ H x y v u Q I rx ry h
  rcases h with ⟨a, dx, fs, z, rfl, rfl, ha, q⟩ | ⟨z, z', rfl, rfl, q⟩
  · cases rx
    obtain ⟨t, rfl⟩ := ry
    obtain ⟨mA, J, _⟩ := ins_get I.hok ha
    obtain ⟨od, J, _⟩ := J.look
    exact HIS.rc_ne hu I.kIn J rfl N.m N.e N.n ⟨.bl true, H, I, rfl, q⟩
  · exact op_ne (X := X) pins s σ H (.str z) (.str z') v u Q I rx ry ⟨rfl, by
      have e : decide (V.str z = V.str z') = decide (z = z') := by
        by_cases c : z = z' <;> simp [c]
      rw [e]; exact q⟩
/-- d != {} where d, whose keys are tuples, is empty -/
def rNeT0 : R2 := fun x y H Q => ∃ a b, x = .ref a ∧ y = .ref b ∧ H a = some (.dT []) ∧ H b = some (.dK []) ∧ Q (.bl false) H
theorem op_neT0 {X : Cx} (hu : X.A.units + 66 < cLine) : OpR X (compareOp .NotEq) rNeT0 := by
  intro pins s σ H x y v u Q I rx ry h
  obtain ⟨a, b, rfl, rfl, ha, hb, q⟩ := h
  obtain rfl : v = Value.ref a := rx
  obtain rfl : u = Value.ref b := ry
  obtain ⟨_, ya, xs, r0, o, es, ep, g1, g2, g3, g4, g5⟩ := (show ObjOk X.prog X.w H s.heap a (.dT []) from I.hok a _ ha)
  cases r0
  have da : s.heap.DictOf (mixKind X.prog X.w) a [] := by
    have e0 : es = #[] := by
      have : es.toList = [] := g4
      exact Array.toList_eq_nil_iff.mp this
    subst e0
    exact ⟨o, #[], ep, g1, g2, g3, (fun e h => absurd h (Array.not_mem_empty e)), .nil, List.nodup_nil⟩
  obtain ⟨_, yb, vb, rb, db⟩ := (show ObjOk X.prog X.w H s.heap b (.dK []) from I.hok b _ hb)
  cases rb
  exact PySem.W.keq_ne (r := true) (knd := mixKind X.prog X.w) ya yb da db (by omega) (fun _ => HKE.hits_of I (dk := fun _ => .none) (dl := fun _ => .none) (by show X.A.units + 1 + 64 < cLine; omega) (ks := []) (ls := []) .nil (fun k v h => by cases h) .nil (fun k v h => by cases h)) ⟨.bl _, H, I, rfl, q⟩
end L2
namespace K07
open PySem L2 HK
/-! ### words -/
theorem words_len (M : Nat → Nat → List Int) (n l : Nat) : (wordsOf M n l).length = l := by unfold wordsOf; rw [List.length_map, List.length_range]
theorem words_get (M : Nat → Nat → List Int) (n l i : Nat) (h : i < l) : (wordsOf M n l)[i]? = some (wAt M n (i : Int)) := by
  unfold wordsOf
  rw [List.getElem?_map, List.getElem?_range h]; rfl
theorem words_cong {M M' : Nat → Nat → List Int} {n n' : Nat} (l : Nat) (h : ∀ b, b < l → wAt M n (b : Int) = wAt M' n' (b : Int)) : wordsOf M n l = wordsOf M' n' l := by
  unfold wordsOf
  exact List.map_congr_left fun b hb => h b (List.mem_range.mp hb)
theorem wAt_nat (M : Nat → Nat → List Int) (n b : Nat) : wAt M n (b : Int) = (M n (b / 8)).getD (b % 8) 0 := by
  unfold wAt
  rw [Int.toNat_natCast]
theorem set_other {M : Nat → Nat → List Int} {n m : Nat} {ad v : Int} (h : m ≠ n) (l : Nat) : wordsOf (setW M n ad v) m l = wordsOf M m l := by
  refine words_cong l fun b _ => ?_
  unfold wAt setW
  rw [if_neg (fun z => h z.1)]
theorem set_words {M : Nat → Nat → List Int} {n : Nat} {ad v : Int} {l : Nat} (h0 : 0 ≤ ad) (h1 : ad.toNat < l) (h8 : (M n (ad.toNat / 8)).length = 8) : wordsOf (setW M n ad v) n l = (wordsOf M n l).set ad.toNat v := by
  refine List.ext_getElem? fun i => ?_
  rw [List.getElem?_set, words_len]
  by_cases hi : i < l
  · rw [words_get _ _ _ _ hi, words_get _ _ _ _ hi]
    by_cases e : ad.toNat = i
    · rw [if_pos e, if_pos h1, wAt_nat]
      unfold setW
      rw [if_pos ⟨rfl, by rw [e]⟩, ← e, List.getD_eq_getElem?_getD, List.getElem?_set_self (by rw [h8]; omega)]; rfl
    · rw [if_neg e]
      rw [wAt_nat, wAt_nat]
      unfold setW
      by_cases c : i / 8 = ad.toNat / 8
      · rw [if_pos ⟨rfl, c⟩, List.getD_eq_getElem?_getD, List.getD_eq_getElem?_getD, List.getElem?_set_ne (by omega)]
      · rw [if_neg (fun z => c z.2)]
  · have n1 : (wordsOf (setW M n ad v) n l)[i]? = none := List.getElem?_eq_none_iff.mpr (by rw [words_len]; omega)
    have n2 : (wordsOf M n l)[i]? = none := List.getElem?_eq_none_iff.mpr (by rw [words_len]; omega)
    rw [n1, n2]
    split
    · rename_i e
      exact absurd h1 (by omega)
    · rfl
def growM (M : Nat → Nat → List Int) (n l : Nat) : Nat → Nat → List Int := fun a b => if a = n ∧ l ≤ b then zero8 else M a b
theorem grow_other {M : Nat → Nat → List Int} {n m l0 : Nat} (h : m ≠ n) (l : Nat) : wordsOf (growM M n l0) m l = wordsOf M m l := by
  refine words_cong l fun b _ => ?_
  unfold wAt growM
  rw [if_neg (fun z => h z.1)]
theorem grow_words (M : Nat → Nat → List Int) (n l more : Nat) : wordsOf (growM M n l) n (8 * (l + more)) = wordsOf M n (8 * l) ++ List.replicate (8 * more) 0 := by
  refine List.ext_getElem? fun i => ?_
  by_cases h : i < 8 * l
  · rw [words_get _ _ _ _ (by omega), List.getElem?_append_left (by rw [words_len]; exact h), words_get _ _ _ _ h, wAt_nat, wAt_nat]
    unfold growM
    rw [if_neg (fun z => by omega)]
  · rw [List.getElem?_append_right (by rw [words_len]; omega), words_len, List.getElem?_replicate]
    by_cases h2 : i < 8 * (l + more)
    · rw [words_get _ _ _ _ h2, if_pos (by omega), wAt_nat]
      unfold growM
      rw [if_pos ⟨rfl, by omega⟩]
      have : i % 8 < 8 := by omega
      unfold zero8
      rw [List.getD_eq_getElem?_getD, List.getElem?_replicate, if_pos this]; rfl
    · rw [if_neg (by omega)]
      exact List.getElem?_eq_none_iff.mpr (by rw [words_len]; omega)
theorem fork_words (M : Nat → Nat → List Int) (n m l : Nat) : wordsOf (forkM M n m) m l = wordsOf M n l := by
  refine words_cong l fun b _ => ?_
  unfold wAt forkM
  rw [if_pos rfl]
theorem fork_other {M : Nat → Nat → List Int} {n m a : Nat} (h : a ≠ m) (l : Nat) : wordsOf (forkM M n m) a l = wordsOf M a l := by
  refine words_cong l fun b _ => ?_
  unfold wAt forkM
  rw [if_neg h]
/-- more pages, all zeros -/
theorem grow_iv {M : Nat → Nat → List Int} {g : G} {n more : Nat} (iv : Iv (Lv g) M g) : Iv (Lv (growG g n more)) (growM M n (g.T n).length) (growG g n more) := by
  have Tn : ∀ a b, (fset g.T n (g.T n ++ List.replicate more none) a)[b]? = if a = n ∧ (g.T n).length ≤ b then (if b < (g.T n).length + more then some none else none) else (g.T a)[b]? := fun a b => by
    by_cases e : a = n
    · subst e
      rw [fset_same]
      by_cases h : (g.T a).length ≤ b
      · rw [if_pos ⟨rfl, h⟩, List.getElem?_append_right h, List.getElem?_replicate]
        by_cases c : b < (g.T a).length + more
        · rw [if_pos c, if_pos (by omega)]
        · rw [if_neg c, if_neg (by omega)]
      · rw [if_neg (fun z => h z.2), List.getElem?_append_left (by omega)]
    · rw [fset_ne e, if_neg (fun z => e z.1)]
  have old : ∀ a b, Lv g a b → ¬ (a = n ∧ (g.T n).length ≤ b) := fun a b h z => by
    have h : b < (g.T a).length := h
    rw [z.1] at h; omega
  have eM : ∀ a b, Lv g a b → growM M n (g.T n).length a b = M a b := fun a b h => if_neg (old a b h)
  have lv1 : ∀ a b, Lv g a b → Lv (growG g n more) a b := fun a b h => by
    have h : b < (g.T a).length := h
    show b < (fset g.T n (g.T n ++ List.replicate more none) a).length
    by_cases e : a = n
    · subst e; rw [fset_same, List.length_append]; omega
    · rw [fset_ne e]; exact h
  have lv2 : ∀ a b, Lv (growG g n more) a b → Lv g a b ∨ (a = n ∧ (g.T n).length ≤ b) := fun a b h => by
    have h : b < (fset g.T n (g.T n ++ List.replicate more none) a).length := h
    by_cases e : a = n
    · subst e
      by_cases c : b < (g.T a).length
      · exact .inl c
      · exact .inr ⟨rfl, by omega⟩
    · rw [fset_ne e] at h; exact .inl h
  refine ⟨iv.fk, fun f k e x hx => ?_, fun a b f hl h => ?_, iv.sn, fun x hx => ?_, fun a b hl h => ?_, fun a b hl => ?_, fun a b hl => ?_⟩
  · obtain ⟨h1, h2, h3, h4⟩ := iv.ow f k e x hx
    refine ⟨lv1 _ _ h1, ?_, h3, by rw [eM _ _ h1]; exact h4⟩
    show (fset g.T n (g.T n ++ List.replicate more none) x.2.1)[x.2.2]? = _
    rw [Tn, if_neg (old _ _ h1)]; exact h2
  · have h : (fset g.T n (g.T n ++ List.replicate more none) a)[b]? = some (some f) := h
    rw [Tn] at h
    by_cases c : a = n ∧ (g.T n).length ≤ b
    · rw [if_pos c] at h
      split at h <;> cases h
    · rw [if_neg c] at h
      exact iv.tb a b f ((lv2 a b hl).resolve_right c) h
  · obtain ⟨h1, h2, h3⟩ := iv.sl x hx
    refine ⟨lv1 _ _ h1, ?_, by rw [eM _ _ h1]; exact h3⟩
    show (fset g.T n (g.T n ++ List.replicate more none) x.1.1)[x.1.2]? = _
    rw [Tn, if_neg (old _ _ h1)]; exact h2
  · have h : (fset g.T n (g.T n ++ List.replicate more none) a)[b]? = some none := h
    rcases lv2 a b hl with z | z
    · rw [Tn, if_neg (old _ _ z)] at h
      rw [eM _ _ z]
      exact iv.nn a b z h
    · exact .inr (if_pos z)
  · show ∃ e : Option Nat, (fset g.T n (g.T n ++ List.replicate more none) a)[b]? = some e
    have h : b < (fset g.T n (g.T n ++ List.replicate more none) a).length := hl
    exact ⟨_, List.getElem?_eq_getElem h⟩
  · rcases lv2 a b hl with z | z
    · rw [eM _ _ z]; exact iv.m8 a b z
    · show (growM M n (g.T n).length a b).length = 8
      unfold growM
      rw [if_pos z]; rfl
theorem grow_sv {g : G} {n more : Nat} (sv : Sv g) (hn : n < g.ns) (h : (g.T n).length + more ≤ 64) : Sv (growG g n more) :=
  { sv with
    t64 := fun m => by
      show (fset g.T n (g.T n ++ List.replicate more none) m).length ≤ 64
      by_cases e : m = n
      · rw [e, fset_same, List.length_append, List.length_replicate]; exact h
      · rw [fset_ne e]; exact sv.t64 m
    tns := fun m hm => by
      show fset g.T n (g.T n ++ List.replicate more none) m = []
      have hm : g.ns ≤ m := hm
      rw [fset_ne (by omega)]; exact sv.tns m hm }
theorem grow_tl (g : G) (n more m : Nat) : ((growG g n more).T m).length = if m = n then (g.T n).length + more else (g.T m).length := by
  show (fset g.T n (g.T n ++ List.replicate more none) m).length = _
  by_cases e : m = n
  · rw [e, fset_same, List.length_append, List.length_replicate, if_pos rfl]
  · rw [fset_ne e, if_neg e]
/-- four memories: room enough -/
theorem roomy_of {g : G} (sv : Sv g) {ids : List Nat} (l4 : ids.length ≤ 4) (liv : ∀ n, g.T n ≠ [] → n ∈ ids) (h : g.slots = 1000) : Roomy g := fun l nd hl => by
  have aux : ∀ (l m : List Key2), l.Nodup → (∀ x ∈ l, x ∈ m) → l.length ≤ m.length := by
    intro l
    induction l with
    | nil => intro m _ _; exact Nat.zero_le _
    | cons x r ih =>
      intro m nd h
      obtain ⟨s, t, e⟩ := List.append_of_mem (h x (by simp))
      subst e
      have z := ih (s ++ t) (List.nodup_cons.mp nd).2 fun y hy => by
        have hm := h y (by simp [hy])
        have ne : y ≠ x := fun z => (List.nodup_cons.mp nd).1 (z ▸ hy)
        rcases List.mem_append.mp hm with z | z
        · exact List.mem_append_left _ z
        · rcases List.mem_cons.mp z with z | z
          · exact absurd z ne
          · exact List.mem_append_right _ z
      rw [List.length_append] at z
      rw [List.length_append, List.length_cons, List.length_cons]
      omega
  have h1 := aux l (ids.flatMap fun x => (List.range 64).map fun y => ((x, y) : Key2)) nd fun x hx => by
    have hv : x.2 < (g.T x.1).length := hl x hx
    refine List.mem_flatMap.mpr ⟨x.1, liv _ (fun e => by rw [e] at hv; exact Nat.not_lt_zero _ hv), List.mem_map.mpr ⟨x.2, List.mem_range.mpr (Nat.lt_of_lt_of_le hv (sv.t64 _)), rfl⟩⟩
  have h2 : (ids.flatMap fun x => (List.range 64).map fun y => ((x, y) : Key2)).length = ids.length * 64 := by
    clear h1 l4 liv
    induction ids with
    | nil => rfl
    | cons a r ih => rw [List.flatMap_cons, List.length_append, ih, List.length_map, List.length_range, List.length_cons]; omega
  rw [h]
  omega
end K07
namespace K07
open PySem L2 HK
abbrev sTold : Stmt := top 14
abbrev sLaw : Stmt := top 15
structure ToldTxt (K : PySem.W.Frag) (mg : Str → Option Value) (CE g : Addr) : Prop where
  m : mg "_law_told" = some (.ref g)
  k : PySem.W.keepIn K (.ref g) = true
  fn : ∃ (oc kV doc pm cdv ct : Value) (od an : Option Addr) (osl : Array (Option Value)),
    K.lookup g = some ⟨oc, od, .func (PySem.W.fnOf "_law_told" "_law_told" (defArgs sTold) (defBody sTold) (defScope sTold) .none kV doc pm an cdv ct), osl⟩ ∧ PySem.W.codeIn K cdv "_law_told" = true
  mF : mg "SpaceFault" = some (.ref CE)
theorem scTold : FnScope ["what"] ["what"] (defScope sTold) := ⟨rfl, rfl, rfl, by decide +kernel, rfl, by decide +kernel, by decide +kernel⟩
theorem pe_told {X : Cx} {C g c P : Addr} {k : Nat} {params : Arguments} {body : Expr} {scope : Scope} {t : XK → TE} {p lpos pos : Pos} (TT : ToldTxt X.K X.mg C g) (TB : LamX.TabB X.base X.mg c P) (hcode : X.env.code = .ref c)
    (hg : Gl X "_law_told") (hr : Room (k + 2) X.A) (L : LamX.LamS X.env.scope scope) (hdef : defaultsOf params X.env = ([], []))
    (hbind : ∀ (q : Str) (cl : List (Str × Addr)) (pm cv ctv : Value), bindArgs (PySem.W.kla_fn "<lambda>" q params body scope cl pm cv ctv) ⟨[], []⟩ = pure [])
    (hbody : ∀ (A : Around) (outer : List Env) (s : Shared) (H : Hp) (E : XK) (f c' : Addr), Room k (A.deeper (LamX.lamEnv X scope s.heap.objs.size f c')) → PE (LamX.lamCx X A outer s H E scope f c') body (t E)) :
    PE X (.Call (.Name "_law_told" p) [.Lambda params body scope lpos] [] pos) (LamX.tLam [(P, X.env.qual ++ "<lambda>")] (LamX.TTold X.K C "SpaceFault") t) := by
  obtain ⟨oc, kV, doc, pm, cdv, ct, od, an, osl, lk, hcd⟩ := TT.fn
  refine LamX.pe_lamcall (Ng := ["what"]) (a := "what") hg TT.m TT.k lk hcd (.all fun us hl => match us, hl with | [_], _ => rfl) scTold rfl (Or.inl rfl) (LamX.told_gives (e := "SpaceFault") rfl TT.mF rfl (fun _ => rfl)) TB hcode List.mem_cons_self (fun q hq _ => ?_) hr L hdef hbind hbody
  rw [List.mem_singleton.mp hq]
/-! ### the law's own things -/
abbrev lamQ : Str := "law.<locals>.<lambda>"
structure LS where
  D : Addr
  R : Addr
  l : Addr
  ids : List Nat
  ra : Nat → Addr
  wa : Nat → Addr
  sa : Nat → Addr
  ws : Nat → List Int
  dc : Dice
inductive LL where
  | d | r | l | ra (n : Nat) | wa (n : Nat)
def cont (s : LS) : LL → Option (Addr × HO)
  | .d => some (s.D, .lst s.dc.vs)
  | .r => some (s.R, .lst [.ref s.D])
  | .l => some (s.l, .lst (s.ids.map fun n => V.ref (s.ra n)))
  | .ra n => if n ∈ s.ids then some (s.ra n, .lst [.ref (s.sa n), .ref (s.wa n)]) else none
  | .wa n => if n ∈ s.ids then some (s.wa n, .lst ((s.ws n).map V.int)) else none
theorem ite_some {α : Type} {c : Prop} [Decidable c] {x e : α} (h : (if c then some x else none) = some e) : x = e := by
  split at h
  · exact Option.some.inj h
  · cases h
theorem cont_lst {s : LS} {x : LL} {a : Addr} {o : HO} (h : cont s x = some (a, o)) : ∃ xs, o = .lst xs := by
  cases x with
  | d => cases h; exact ⟨_, rfl⟩
  | r => cases h; exact ⟨_, rfl⟩
  | l => cases h; exact ⟨_, rfl⟩
  | ra n => cases ite_some (show (if n ∈ s.ids then some _ else none) = some (a, o) from h); exact ⟨_, rfl⟩
  | wa n => cases ite_some (show (if n ∈ s.ids then some _ else none) = some (a, o) from h); exact ⟨_, rfl⟩
structure WL (C : CA) (PT : Addr) (s : LS) (g : G) (H : Hp) : Prop where
  at_ : At C g H
  get : ∀ x a o, cont s x = some (a, o) → H a = some o
  inj : ∀ x y a o o', cont s x = some (a, o) → cont s y = some (a, o') → x = y
  off : ∀ x a o, cont s x = some (a, o) → ¬ Own C g a
  tabs : LamX.Tabs [(PT, lamQ)] H
/-- what is no tuple, no table, no code object -/
def Soft (o : Option HO) : Prop := (∃ xs, o = some (.lst xs)) ∨ (∃ k, o = some (.dK k)) ∨ (∃ k, o = some (.dT k)) ∨ (∃ C dx fs, o = some (.ins C dx fs)) ∨ o = none
theorem Soft.not_tbl {o : Option HO} (h : Soft o) (ps : Array Value) : o ≠ some (.tbl ps) := by
  rcases h with ⟨_, h⟩ | ⟨_, h⟩ | ⟨_, h⟩ | ⟨_, _, _, h⟩ | h <;> rw [h] <;> intro z <;> cases z
theorem Soft.not_code {o : Option HO} (h : Soft o) (c : Addr) (q : Str) : o ≠ some (LamX.CodeO c q) := by
  rcases h with ⟨_, h⟩ | ⟨_, h⟩ | ⟨_, h⟩ | ⟨_, _, _, h⟩ | h <;> rw [h] <;> intro z <;> unfold LamX.CodeO at z <;> cases z
theorem lay_soft {C : CA} {g : G} {x : Lab} {a : Addr} {o : HO} (h : lay C g x = some (a, o)) : Soft (some o) := by
  cases x with
  | pg => cases h; exact .inr (.inr (.inr (.inl ⟨_, _, _, rfl⟩)))
  | fl => cases h; exact .inl ⟨_, rfl⟩
  | sd => cases h; exact .inr (.inr (.inl ⟨_, rfl⟩))
  | pd => cases h; exact .inr (.inl ⟨_, rfl⟩)
  | fi i => cases ite_some (show (if i < g.nf then some _ else none) = some (a, o) from h); exact .inr (.inr (.inr (.inl ⟨_, _, _, rfl⟩)))
  | fw i => cases ite_some (show (if i < g.nf then some _ else none) = some (a, o) from h); exact .inl ⟨_, rfl⟩
  | fo i => cases ite_some (show (if i < g.nf then some _ else none) = some (a, o) from h); exact .inl ⟨_, rfl⟩
  | si n => cases ite_some (show (if n < g.ns then some _ else none) = some (a, o) from h); exact .inr (.inr (.inr (.inl ⟨_, _, _, rfl⟩)))
  | st n => cases ite_some (show (if n < g.ns then some _ else none) = some (a, o) from h); exact .inl ⟨_, rfl⟩
/-- all stands but what is soft -/
def MvT (H H' : Hp) : Prop := ∀ b o, H b = some o → ¬ Soft (some o) → H' b = some o
theorem MvT.tabs {H H' : Hp} {T : List (Addr × Str)} (m : MvT H H') (h : LamX.Tabs T H) : LamX.Tabs T H' := fun p hp => by
  obtain ⟨ps, h1, h2, h3⟩ := h p hp
  refine ⟨ps, m _ _ h1 (fun z => z.not_tbl ps rfl), h2, fun pos cv hc => ?_⟩
  obtain ⟨c, e1, e2⟩ := h3 pos cv hc
  exact ⟨c, e1, m _ _ e2 (fun z => z.not_code c _ rfl)⟩
section
variable {C : CA} {PT : Addr} {s s' : LS} {g g' : G} {H H' : Hp}
theorem Go.mvt (st : At C g H) (go : Go C g H g' H') : MvT H H' := fun b o hb ns => (go.nx b o hb fun ⟨x, o', e⟩ => by
  have := st.get x b o' e
  rw [hb] at this
  cases this
  exact ns (lay_soft e)).1
/-- the program goes on -/
theorem WL.prog (x : WL C PT s g H) (go : Go C g H g' H') : WL C PT s g' H' :=
  ⟨go.at_, fun y a o e => (go.nx a o (x.get y a o e) (x.off y a o e)).1, x.inj, fun y a o e => (go.nx a o (x.get y a o e) (x.off y a o e)).2, (go.mvt x.at_).tabs x.tabs⟩
theorem WL.same (x : WL C PT s g H) (e : Same H H') : WL C PT s g H' := x.prog (Go.same x.at_ e)
theorem At.ext (x : At C g H) (e : LamX.ExtN H H') : At C g H' := by
  have nt : ∀ o, Soft (some o) → ∀ ps, o ≠ .tbl ps := fun o h ps z => h.not_tbl ps (by rw [z])
  exact ⟨fun y a o h => e _ _ (x.get y a o h) (nt o (lay_soft h)), x.inj, fun i hi y hy => e _ _ (x.tp1 i hi y hy) (fun ps z => by cases z), fun y hy => e _ _ (x.tp2 y hy) (fun ps z => by cases z)⟩
theorem WL.ext (x : WL C PT s g H) (e : LamX.ExtN H H') (t : LamX.Tabs [(PT, lamQ)] H') : WL C PT s g H' :=
  ⟨x.at_.ext e, fun y a o h => e _ _ (x.get y a o h) (fun ps z => by obtain ⟨xs, rfl⟩ := cont_lst h; cases z), x.inj, x.off, t⟩
/-- the law's own things at some labels change; new ones are nobody's -/
theorem WL.gen (x : WL C PT s g H) (ls : List LL) (he : ∀ y, y ∉ ls → ∀ e, cont s' y = some e → cont s y = some e) (hf : ∀ b o, H b = some o → (∀ y ∈ ls, ∀ o', cont s y ≠ some (b, o')) → H' b = some o)
    (hn : ∀ y ∈ ls, ∀ a o, cont s' y = some (a, o) → H' a = some o ∧ ((∃ o', cont s y = some (a, o')) ∨ (H a = none ∧ ∀ z ∈ ls, ∀ o', cont s' z = some (a, o') → z = y))) : WL C PT s' g H' := by
  have key : ∀ y a o, cont s' y = some (a, o) → (∃ o', cont s y = some (a, o')) ∨ (H a = none ∧ y ∈ ls ∧ ∀ z ∈ ls, ∀ o', cont s' z = some (a, o') → z = y) := fun y a o h => by
    rcases Classical.em (y ∈ ls) with m | m
    · exact (hn y m a o h).2.imp id fun z => ⟨z.1, m, z.2⟩
    · exact .inl ⟨o, he y m _ h⟩
  have hl : ∀ b o, H b = some o → ¬ (∃ xs, o = .lst xs) → H' b = some o := fun b o hb nl => hf b o hb fun y _ o' e => by
    have := x.get y b o' e
    rw [hb] at this
    cases this
    exact nl (cont_lst e)
  have own : ∀ b o, Own C g b → H b = some o → H' b = some o := fun b o ow hb => hf b o hb fun y _ o' e => x.off y b o' e ow
  refine ⟨⟨fun y a o h => own a o ⟨y, o, h⟩ (x.at_.get y a o h), x.at_.inj, fun i hi y hy => hl _ _ (x.at_.tp1 i hi y hy) (fun ⟨_, z⟩ => by cases z), fun y hy => hl _ _ (x.at_.tp2 y hy) (fun ⟨_, z⟩ => by cases z)⟩, fun y a o h => ?_, fun y z a o o' hy hz => ?_, fun y a o h => ?_, MvT.tabs (fun b o hb ns => hl b o hb fun ⟨xs, z⟩ => ns (by rw [z]; exact .inl ⟨_, rfl⟩)) x.tabs⟩
  · rcases Classical.em (y ∈ ls) with m | m
    · exact (hn y m a o h).1
    · have h' := he y m _ h
      refine hf a o (x.get y a o h') fun z hz o' e => m ?_
      rw [x.inj y z a o o' h' e]; exact hz
  · rcases key y a o hy with ⟨o1, h1⟩ | ⟨n1, m1, u1⟩
    · rcases key z a o' hz with ⟨o2, h2⟩ | ⟨n2, m2, u2⟩
      · exact x.inj y z a o1 o2 h1 h2
      · rw [x.get y a o1 h1] at n2; cases n2
    · rcases key z a o' hz with ⟨o2, h2⟩ | ⟨n2, m2, u2⟩
      · rw [x.get z a o2 h2] at n1; cases n1
      · exact (u1 z m2 o' hz).symm
  · rcases key y a o h with ⟨o1, h1⟩ | ⟨n1, _⟩
    · exact x.off y a o1 h1
    · rintro ⟨z, o2, e⟩
      rw [x.at_.get z a o2 e] at n1; cases n1
theorem WL.dice (x : WL C PT s g H) : H s.D = some (.lst s.dc.vs) := x.get .d _ _ rfl
theorem WL.row (x : WL C PT s g H) : H s.R = some (.lst [.ref s.D]) := x.get .r _ _ rfl
theorem WL.lst (x : WL C PT s g H) : H s.l = some (.lst (s.ids.map fun n => V.ref (s.ra n))) := x.get .l _ _ rfl
theorem cont_ra {n : Nat} (h : n ∈ s.ids) : cont s (.ra n) = some (s.ra n, .lst [.ref (s.sa n), .ref (s.wa n)]) := if_pos h
theorem cont_wa {n : Nat} (h : n ∈ s.ids) : cont s (.wa n) = some (s.wa n, .lst ((s.ws n).map V.int)) := if_pos h
theorem WL.ra (x : WL C PT s g H) {n : Nat} (h : n ∈ s.ids) : H (s.ra n) = some (.lst [.ref (s.sa n), .ref (s.wa n)]) := x.get _ _ _ (cont_ra h)
theorem WL.wa (x : WL C PT s g H) {n : Nat} (h : n ∈ s.ids) : H (s.wa n) = some (.lst ((s.ws n).map V.int)) := x.get _ _ _ (cont_wa h)
/-- the thing at one label changes -/
theorem WL.set (x : WL C PT s g H) {y : LL} {a : Addr} {o o' : HO} (hy : cont s y = some (a, o)) (hy' : cont s' y = some (a, o')) (he : ∀ z, z ≠ y → cont s' z = cont s z) (hs : SameX a H H') (ha : H' a = some o') : WL C PT s' g H' := by
  refine x.gen [y] (fun z hz e h => by rw [← he z (fun c => hz (by rw [c]; simp))]; exact h) (fun b u hb n => hs b u (fun e => n y (by simp) o (by rw [e]; exact hy)) hb) (fun z hz b u h => ?_)
  rw [List.mem_singleton] at hz
  subst hz
  rw [hy'] at h
  cases h
  exact ⟨ha, .inl ⟨o, hy⟩⟩
def LS.roll (s : LS) (dc : Dice) : LS := { s with dc := dc }
theorem WL.rolled (x : WL C PT s g H) (dc : Dice) (hs : SameX s.D H H') (h : H' s.D = some (.lst dc.vs)) : WL C PT (s.roll dc) g H' := by
  refine x.set (y := .d) rfl rfl (fun z hz => ?_) hs h
  cases z <;> first | rfl | exact absurd rfl hz
def LS.setW (s : LS) (n : Nat) (l : List Int) : LS := { s with ws := fset s.ws n l }
theorem WL.setW (x : WL C PT s g H) {n : Nat} (hn : n ∈ s.ids) {l : List Int} (hs : SameX (s.wa n) H H') (h : H' (s.wa n) = some (.lst (l.map V.int))) : WL C PT (s.setW n l) g H' := by
  refine x.set (y := .wa n) (cont_wa hn) (o' := .lst (l.map V.int)) ?_ (fun z hz => ?_) hs h
  · show (if n ∈ s.ids then some (s.wa n, HO.lst ((fset s.ws n l n).map V.int)) else none) = _
    rw [if_pos hn, fset_same]
  · cases z with
    | wa m =>
      have : m ≠ n := fun e => hz (by rw [e])
      show (if m ∈ s.ids then some (s.wa m, HO.lst ((fset s.ws n l m).map V.int)) else none) = _
      rw [fset_ne this]; rfl
    | _ => rfl
/-- another list of words at a row -/
def LS.newW (s : LS) (n : Nat) (q : Addr) (l : List Int) : LS := { s with wa := fset s.wa n q, ws := fset s.ws n l }
theorem WL.newW (x : WL C PT s g H) {n : Nat} (hn : n ∈ s.ids) {q : Addr} {l : List Int} (hq : H q = none) (hs : SameX (s.ra n) H H') (h1 : H' q = some (.lst (l.map V.int))) (h2 : H' (s.ra n) = some (.lst [.ref (s.sa n), .ref q])) : WL C PT (s.newW n q l) g H' := by
  have l1 : cont (s.newW n q l) (.ra n) = some (s.ra n, .lst [.ref (s.sa n), .ref q]) := by
    show (if n ∈ s.ids then some (s.ra n, HO.lst [.ref (s.sa n), .ref (fset s.wa n q n)]) else none) = _
    rw [if_pos hn, fset_same]
  have l2 : cont (s.newW n q l) (.wa n) = some (q, .lst (l.map V.int)) := by
    show (if n ∈ s.ids then some (fset s.wa n q n, HO.lst ((fset s.ws n l n).map V.int)) else none) = _
    rw [if_pos hn, fset_same, fset_same]
  have nqr : q ≠ s.ra n := fun e => by rw [e, x.ra hn] at hq; cases hq
  refine x.gen [.ra n, .wa n] (fun z hz e h => ?_) (fun b o hb m => hs b o (fun e => m (.ra n) (by simp) (.lst [.ref (s.sa n), .ref (s.wa n)]) (by rw [e]; exact cont_ra hn)) hb) (fun z hz a o h => ?_)
  · simp only [List.mem_cons, List.not_mem_nil, or_false, not_or] at hz
    cases z with
    | ra m =>
      have : m ≠ n := fun e => hz.1 (by rw [e])
      have h : (if m ∈ s.ids then some (s.ra m, HO.lst [.ref (s.sa m), .ref (fset s.wa n q m)]) else none) = some e := h
      rw [fset_ne this] at h; exact h
    | wa m =>
      have : m ≠ n := fun e => hz.2 (by rw [e])
      have h : (if m ∈ s.ids then some (fset s.wa n q m, HO.lst ((fset s.ws n l m).map V.int)) else none) = some e := h
      rw [fset_ne this, fset_ne this] at h; exact h
    | _ => exact h
  · simp only [List.mem_cons, List.not_mem_nil, or_false] at hz
    rcases hz with rfl | rfl
    · rw [l1] at h; cases h
      exact ⟨h2, .inl ⟨_, cont_ra hn⟩⟩
    · rw [l2] at h; cases h
      refine ⟨h1, .inr ⟨hq, fun z hz o' e => ?_⟩⟩
      simp only [List.mem_cons, List.not_mem_nil, or_false] at hz
      rcases hz with rfl | rfl
      · rw [l1] at e; cases e; exact absurd rfl nqr
      · rfl
/-- one more row -/
def LS.more (s : LS) (n : Nat) (ra wa sa : Addr) (l : List Int) : LS := { s with ids := s.ids ++ [n], ra := fset s.ra n ra, wa := fset s.wa n wa, sa := fset s.sa n sa, ws := fset s.ws n l }
theorem WL.more (x : WL C PT s g H) {n : Nat} (hn : n ∉ s.ids) {ra wa sa : Addr} {l : List Int} (n1 : H ra = none) (n2 : H wa = none) (n12 : ra ≠ wa) (hs : SameX s.l H H') (h1 : H' ra = some (.lst [.ref sa, .ref wa])) (h2 : H' wa = some (.lst (l.map V.int)))
    (h3 : H' s.l = some (.lst ((s.ids.map fun n => V.ref (s.ra n)) ++ [.ref ra]))) : WL C PT (s.more n ra wa sa l) g H' := by
  have hm : n ∈ s.ids ++ [n] := by simp
  have l0 : cont (s.more n ra wa sa l) .l = some (s.l, .lst ((s.ids.map fun n => V.ref (s.ra n)) ++ [.ref ra])) := by
    show some (s.l, HO.lst ((s.ids ++ [n]).map fun m => V.ref (fset s.ra n ra m))) = _
    rw [List.map_append]
    congr 4
    · refine List.map_congr_left fun m hm => ?_
      rw [fset_ne (fun e => hn (by rw [← e]; exact hm))]
    · show [V.ref (fset s.ra n ra n)] = _
      rw [fset_same]
  have l1 : cont (s.more n ra wa sa l) (.ra n) = some (ra, .lst [.ref sa, .ref wa]) := by
    show (if n ∈ s.ids ++ [n] then some (fset s.ra n ra n, HO.lst [.ref (fset s.sa n sa n), .ref (fset s.wa n wa n)]) else none) = _
    rw [if_pos hm, fset_same, fset_same, fset_same]
  have l2 : cont (s.more n ra wa sa l) (.wa n) = some (wa, .lst (l.map V.int)) := by
    show (if n ∈ s.ids ++ [n] then some (fset s.wa n wa n, HO.lst ((fset s.ws n l n).map V.int)) else none) = _
    rw [if_pos hm, fset_same, fset_same]
  have nl1 : s.l ≠ ra := fun e => by rw [← e, x.lst] at n1; cases n1
  have nl2 : s.l ≠ wa := fun e => by rw [← e, x.lst] at n2; cases n2
  refine x.gen [.l, .ra n, .wa n] (fun z hz e h => ?_) (fun b o hb m => hs b o (fun e => m .l (by simp) (.lst (s.ids.map fun n => V.ref (s.ra n))) (by rw [e]; rfl)) hb) (fun z hz a o h => ?_)
  · simp only [List.mem_cons, List.not_mem_nil, or_false, not_or] at hz
    cases z with
    | l => exact absurd rfl hz.1
    | ra m =>
      have ne : m ≠ n := fun e => hz.2.1 (by rw [e])
      have h : (if m ∈ s.ids ++ [n] then some (fset s.ra n ra m, HO.lst [.ref (fset s.sa n sa m), .ref (fset s.wa n wa m)]) else none) = some e := h
      rw [fset_ne ne, fset_ne ne, fset_ne ne] at h
      split at h
      · rename_i hm
        have : m ∈ s.ids := by
          rcases List.mem_append.mp hm with y | y
          · exact y
          · exact absurd (List.mem_singleton.mp y) ne
        rw [cont_ra this]; exact h
      · cases h
    | wa m =>
      have ne : m ≠ n := fun e => hz.2.2 (by rw [e])
      have h : (if m ∈ s.ids ++ [n] then some (fset s.wa n wa m, HO.lst ((fset s.ws n l m).map V.int)) else none) = some e := h
      rw [fset_ne ne, fset_ne ne] at h
      split at h
      · rename_i hm
        have : m ∈ s.ids := by
          rcases List.mem_append.mp hm with y | y
          · exact y
          · exact absurd (List.mem_singleton.mp y) ne
        rw [cont_wa this]; exact h
      · cases h
    | _ => exact h
  · simp only [List.mem_cons, List.not_mem_nil, or_false] at hz
    rcases hz with rfl | rfl | rfl
    · rw [l0] at h; cases h
      exact ⟨h3, .inl ⟨_, rfl⟩⟩
    · rw [l1] at h; cases h
      refine ⟨h1, .inr ⟨n1, fun z hz o' e => ?_⟩⟩
      simp only [List.mem_cons, List.not_mem_nil, or_false] at hz
      rcases hz with rfl | rfl | rfl
      · rw [l0] at e; cases e; exact absurd rfl nl1
      · rfl
      · rw [l2] at e; cases e; exact absurd rfl n12
    · rw [l2] at h; cases h
      refine ⟨h2, .inr ⟨n2, fun z hz o' e => ?_⟩⟩
      simp only [List.mem_cons, List.not_mem_nil, or_false] at hz
      rcases hz with rfl | rfl | rfl
      · rw [l0] at e; cases e; exact absurd rfl nl2
      · rw [l1] at e; cases e; exact absurd rfl n12
      · rfl
theorem erase_map {α β : Type} (f : α → β) : ∀ (l : List α) (i : Nat), (l.map f).eraseIdx i = (l.eraseIdx i).map f
  | [], _ => rfl
  | _ :: _, 0 => rfl
  | a :: l, i + 1 => by
    show f a :: (l.map f).eraseIdx i = f a :: (l.eraseIdx i).map f
    rw [erase_map f l i]
/-- a row goes -/
def LS.less (s : LS) (i : Nat) : LS := { s with ids := s.ids.eraseIdx i }
theorem WL.less (x : WL C PT s g H) {i : Nat} (hs : SameX s.l H H') (h : H' s.l = some (.lst ((s.ids.map fun n => V.ref (s.ra n)).eraseIdx i))) : WL C PT (s.less i) g H' := by
  refine x.gen [.l] (fun z hz e h => ?_) (fun b o hb m => hs b o (fun e => m .l (by simp) (.lst (s.ids.map fun n => V.ref (s.ra n))) (by rw [e]; rfl)) hb) (fun z hz a o h' => ?_)
  · simp only [List.mem_cons, List.not_mem_nil, or_false] at hz
    cases z with
    | l => exact absurd rfl hz
    | ra m =>
      have h : (if m ∈ s.ids.eraseIdx i then some (s.ra m, HO.lst [.ref (s.sa m), .ref (s.wa m)]) else none) = some e := h
      split at h
      · rename_i hm
        rw [cont_ra (List.mem_of_mem_eraseIdx hm)]; exact h
      · cases h
    | wa m =>
      have h : (if m ∈ s.ids.eraseIdx i then some (s.wa m, HO.lst ((s.ws m).map V.int)) else none) = some e := h
      split at h
      · rename_i hm
        rw [cont_wa (List.mem_of_mem_eraseIdx hm)]; exact h
      · cases h
    | _ => exact h
  · simp only [List.mem_cons, List.not_mem_nil, or_false] at hz
    subst hz
    have h' : some (s.l, HO.lst ((s.ids.eraseIdx i).map fun n => V.ref (s.ra n))) = some (a, o) := h'
    cases h'
    refine ⟨?_, .inl ⟨_, rfl⟩⟩
    rw [h, erase_map]
end
end K07
namespace K07
open PySem L2 HK
def exP (CP CF CS : Addr) (sp : CA → Sp) : Sp := fun vs H Q E => ∃ p, sp ⟨CP, CF, CS, p⟩ vs H Q E
theorem fnok_exP {P : Program} {w : World} {K : PySem.W.Frag} {mg : Str → Option Value} {base : Heap} {CX : CXT} {k : Nat} {f : Addr} {fd : FuncData} {ps : List Str} {CP CF CS : Addr} {sp : CA → Sp} (F : ∀ p, FnOk P w K mg base CX k f fd ps (sp ⟨CP, CF, CS, p⟩)) :
    FnOk P w K mg base CX k f fd ps (exP CP CF CS sp) :=
  ⟨fun vs H Q E ⟨p, h⟩ => (F p).len vs H Q E h, fun A outer s H args us vs Q E hr he hb hv ⟨p, h⟩ => (F p).run A outer s H args us vs Q E hr he hb hv h⟩
structure LTxt (P : Program) (w : World) (K : PySem.W.Frag) (mg : Str → Option Value) (base : Heap) (CP CF CS CE g : Addr) : Prop where
  told : ToldTxt K mg CE g
  e11 : PySem.W.exmOne K (.ref CE) (.ref CE) = some true
  N : NoEq K CS
  T : ∀ p, PTxt K mg ⟨CP, CF, CS, p⟩ CE
  int : mg "int" = none
  rounds : ∃ f fd, FnOk P w K mg base L2.CX0 2 f fd ["script", "most"] (spRounds K) ∧ mg "_law_rounds" = some (.ref f) ∧ PySem.W.keepIn K (.ref f) = true ∧ Binds K fd ["script", "most"] []
  roll : ∃ f fd, FnOk P w K mg base L2.CX0 1 f fd ["dice", "many"] spRoll ∧ mg "_law_roll" = some (.ref f) ∧ PySem.W.keepIn K (.ref f) = true ∧ Binds K fd ["dice", "many"] []
  pinit : ∃ f fd, FnOk P w K mg base (L2.CX P w) 1 f fd ["self", "count", "slots"] (spPI CP CF CS CE) ∧ Mk K CP f ∧ Binds K fd ["self", "count", "slots"] [] ∧ ∃ ds, L2.Vals [V.int 1000] ds ∧ Binds K fd ["self", "count", "slots"] ds
  sinit : ∃ f fd, FnOk P w K mg base L2.CX0 2 f fd ["self", "pager", "pages"] (exP CP CF CS spSI) ∧ Mk K CS f ∧ Binds K fd ["self", "pager", "pages"] []
  load : ∃ f fd, FnOk P w K mg base (L2.CX P w) 5 f fd ["self", "address"] (exP CP CF CS fun C => spLoad C CE) ∧ Meth K CS "load_word" f ∧ Binds K fd ["self", "address"] []
  sto : ∃ f fd, FnOk P w K mg base (L2.CX P w) 6 f fd ["self", "address", "word"] (exP CP CF CS fun C => spSto C CE) ∧ Meth K CS "store_word" f ∧ Binds K fd ["self", "address", "word"] []
  fork : ∃ f fd, FnOk P w K mg base (L2.CX P w) 4 f fd ["self"] (exP CP CF CS fun C => spFork C CE) ∧ Meth K CS "forked" f ∧ Binds K fd ["self"] []
  grow : ∃ f fd, FnOk P w K mg base (L2.CX P w) 1 f fd ["self", "pages"] (exP CP CF CS fun C => spGrow C CE) ∧ Meth K CS "grow" f ∧ Binds K fd ["self", "pages"] []
  all : ∃ f fd, FnOk P w K mg base L2.CX0 6 f fd ["self"] (exP CP CF CS spAll) ∧ Meth K CS "all_words" f ∧ Binds K fd ["self"] []
  wc : ∃ f fd, FnOk P w K mg base L2.CX0 1 f fd ["self"] (exP CP CF CS spWc) ∧ Meth K CS "word_count" f ∧ Binds K fd ["self"] []
  rel : ∃ f fd, FnOk P w K mg base L2.CX0 2 f fd ["self", "space"] (exP CP CF CS spRel) ∧ Meth K CP "release" f ∧ Binds K fd ["self", "space"] []
def forBody : Stmt → List Stmt
  | .For _ _ b _ _ => b
  | _ => []
def ifBody : Stmt → List Stmt
  | .If _ b _ _ => b
  | _ => []
def elseBody : Stmt → List Stmt
  | .If _ _ b _ => b
  | _ => []
abbrev noS : Stmt := .Pass ⟨0, 0, 0, 0⟩
abbrev lawBody : List Stmt := defBody sLaw
abbrev diceBody : List Stmt := forBody (lawBody.getD 0 noS)
abbrev stepBody : List Stmt := forBody (diceBody.getD 5 noS)
abbrev if1 : Stmt := stepBody.getD 3 noS
abbrev if2 : Stmt := (elseBody if1).getD 0 noS
abbrev if3 : Stmt := (elseBody if2).getD 0 noS
abbrev if4 : Stmt := (elseBody if3).getD 0 noS
abbrev if5 : Stmt := (elseBody if4).getD 0 noS
abbrev NL : List Str := ["script", "dice", "slots", "many", "pager", "rows", "step", "sort", "place", "words", "told_now", "child", "used", "address", "more", "one", "space", "word", "frame"]
theorem scLaw : FnScope NL ["script"] (defScope sLaw) := ⟨rfl, rfl, rfl, by decide +kernel, rfl, by decide +kernel, by decide +kernel⟩
abbrev LCx (P : Program) (w : World) (K : PySem.W.Frag) (mg : Str → Option Value) (base : Heap) (f c : Addr) (A : Around) (outer : List Env) (s : Shared) (H : Hp) (E : XK) : Cx := (cxOf L2.CX0 P w K mg base NL "law" (defScope sLaw) f (.ref c) A outer s H E).nox
/-- the law's own reckoning and the program's are in step -/
structure WI (D R l : Addr) (slots many step : Nat) (s : LS) (g : G) (M : Nat → Nat → List Int) : Prop where
  iv : Iv (Lv g) M g
  sv : Sv g
  lt : ∀ n ∈ s.ids, n < g.ns
  sa : ∀ n ∈ s.ids, s.sa n = g.sa n
  ws : ∀ n ∈ s.ids, s.ws n = wordsOf M n (8 * (g.T n).length)
  nd : s.ids.Nodup
  l4 : s.ids.length ≤ 4
  ne : s.ids ≠ []
  liv : ∀ n, g.T n ≠ [] → n ∈ s.ids
  sl : g.slots = slots
  fr : g.fr.length = many
  nsb : g.ns ≤ step + 1
  eD : s.D = D
  eR : s.R = R
  el : s.l = l
structure WS (C : CA) (PT D R l : Addr) (slots many step : Nat) (s : LS) (g : G) (M : Nat → Nat → List Int) (H : Hp) : Prop where
  wl : WL C PT s g H
  wi : WI D R l slots many step s g M
/-- the slots -/
def Six (a D l p : Addr) (slots many : Nat) (σ : L2.St) : Prop := ∃ u6 u7 u8 u9 u10 u11 u12 u13 u14 u15 u16 u17 u18, σ = [some (.ref a), some (.ref D), some (.int (slots : Int)), some (.int (many : Int)), some (.ref p), some (.ref l), u6, u7, u8, u9, u10, u11, u12, u13, u14, u15, u16, u17, u18]
section
variable {C : CA} {PT D R l : Addr} {slots many step : Nat} {s : LS} {g g' : G} {M M' : Nat → Nat → List Int} {H H' : Hp}
theorem WI.room (x : WI D R l slots many step s g M) (h : slots = 1000) : Roomy g := roomy_of x.sv x.l4 x.liv (by rw [x.sl]; exact h)
theorem tlne {g g' : G} (h : ∀ n, (g'.T n).length = (g.T n).length) {n : Nat} (z : g'.T n ≠ []) : g.T n ≠ [] := fun e => z (List.eq_nil_of_length_eq_zero (by rw [h, e]; rfl))
/-- a page was loaded or moved -/
theorem WI.load (x : WI D R l slots many step s g M) (iv : Iv (Lv g') M g') (sv : Sv g') (st : Sta g g') : WI D R l slots many step s g' M :=
  { x with iv := iv, sv := sv, lt := fun n hn => by rw [st.ns]; exact x.lt n hn, sa := fun n hn => by rw [st.sa]; exact x.sa n hn, ws := fun n hn => by rw [st.tl]; exact x.ws n hn, liv := fun n hn => x.liv n (tlne st.tl hn), sl := by rw [st.slots]; exact x.sl, fr := by rw [st.frl]; exact x.fr, nsb := by rw [st.ns]; exact x.nsb }
theorem WI.roll (x : WI D R l slots many step s g M) (dc : Dice) : WI D R l slots many step (s.roll dc) g M := { x with }
theorem WI.next (x : WI D R l slots many step s g M) : WI D R l slots many (step + 1) s g M := { x with nsb := by have := x.nsb; omega }
theorem WS.rolled (x : WS C PT D R l slots many step s g M H) (dc : Dice) (hs : SameX D H H') (h : H' D = some (.lst dc.vs)) : WS C PT D R l slots many step (s.roll dc) g M H' :=
  ⟨x.wl.rolled dc (by rw [x.wi.eD]; exact hs) (by rw [x.wi.eD]; exact h), x.wi.roll dc⟩
theorem WS.same (x : WS C PT D R l slots many step s g M H) (e : Same H H') : WS C PT D R l slots many step s g M H' := ⟨x.wl.same e, x.wi⟩
theorem WS.ext (x : WS C PT D R l slots many step s g M H) (e : LamX.ExtN H H') (t : LamX.Tabs [(PT, lamQ)] H') : WS C PT D R l slots many step s g M H' := ⟨x.wl.ext e t, x.wi⟩
theorem WS.dice (x : WS C PT D R l slots many step s g M H) : H D = some (.lst s.dc.vs) := by have := x.wl.dice; rw [x.wi.eD] at this; exact this
theorem WS.len (x : WI D R l slots many step s g M) {n : Nat} (hn : n ∈ s.ids) : (s.ws n).length = 8 * (g.T n).length := by rw [x.ws n hn, words_len]
end
theorem soF : PyData.strOk ("SpaceFault" : Str) = true := by decide +kernel
section
variable {P : Program} {w : World} {K : PySem.W.Frag} {mg : Str → Option Value} {base : Heap} {CP CF CS CE g0 : Addr}
/-- load -/
theorem load_ok (L : LTxt P w K mg base CP CF CS CE g0) {f c0 PT : Addr} {A : Around} {outer : List Env} {s0 : Shared} {H0 : Hp} {E9 : XK} (TB : LamX.TabB base mg c0 PT) (hr : Room 8 (LCx P w K mg base f c0 A outer s0 H0 E9).A) :
    ∃ t, PSs (LCx P w K mg base f c0 A outer s0 H0 E9) (ifBody if1) t ∧ ∀ (p a D R l : Addr) (slots many step n : Nat) (ad wd : Int) (s : LS) (g : G) (M : Nat → Nat → List Int) (Dn : Ends) (H : Hp) (u6 u7 u8 u10 u11 u12 u14 u15 u18 : Option V),
      WS ⟨CP, CF, CS, p⟩ PT D R l slots many step s g M H → n ∈ s.ids → 0 ≤ ad →
      (∀ σ H' g' s' M', Six a D l p slots many σ → WS ⟨CP, CF, CS, p⟩ PT D R l slots many (step + 1) s' g' M' H' → Dn.nx σ H') →
      t Dn [some (.ref a), some (.ref D), some (.int (slots : Int)), some (.int (many : Int)), some (.ref p), some (.ref l), u6, u7, u8, some (.ref (s.wa n)), u10, u11, u12, some (.int ad), u14, u15, some (.ref (s.sa n)), some (.int wd), u18] H := by
  have lexm := L.e11
  obtain ⟨fL, dL, FL, mL, bL⟩ := L.load
  have rL := FL.mono (show 5 ≤ 6 by decide)
  have T0 := L.T 0
  refine ⟨_, pss_cons (ps_set (i := 10) scLaw.nd rfl (Or.inl rfl) (pe_told (k := 6) L.told TB rfl (by rfl) hr (LamX.lamS_by (sc := defScope sLaw) (by decide +kernel)) rfl (fun _ _ _ _ _ => rfl)
        (fun A1 o1 s1 H1 E1 f1 c1 hr6 => pe_meth (pv 16) T0.cs mL rL hr6 bL .nil (passes_call (takes_of rfl rfl rfl rfl) (fun _ _ _ _ h => h)) (pa_cons (pv 13) pa_nil))))
    (pss_one (ps_if (PW.pt (pw_and (pt_cmpR op_ne (pv 10) (pe_ifExp (pt_cmpR op_lt (pv 13) (pe_callB call_len_seq (by rfl) T0.len PySem.boot_len (pa_cons (pv 9) pa_nil)) (nomark _)) (pe_ix ix_list (pv 9) (pv 13) (fun _ _ => rfl)) pe_str) (nomark _))
        (pw_and1 (PW.pt (pw_or (pt_cmpR op_ne (pv 10) pe_str (nomark _)) (pw_or1 (pt_cmpR op_eq (pv 2) pe_int (nomark _)))))))) (pss_one (ps_ret pe_bl)) pss_nil)), ?_⟩
  intro p a D R l slots many step n ad wd s g M Dn H u6 u7 u8 u10 u11 u12 u14 u15 u18 x hn h0 knx
  refine ⟨x.wl.tabs, fun H1 e1 t1 => ?_⟩
  have x1 := x.ext e1 t1
  clear x
  have hln := WS.len x1.wi hn
  have hsa := x1.wi.sa n hn
  have hlt := x1.wi.lt n hn
  have hin : inR g n ad ↔ ad < ((s.ws n).length : Int) := by
    unfold inR
    rw [hln]
    exact ⟨fun z => z.2, fun z => ⟨h0, z⟩⟩
  rw [hsa]
  refine ⟨_, rfl, g.sa n, g.sx n, _, rfl, x1.wl.at_.si hlt, rfl, _, rfl, p, g, n, ad, M, rfl, x1.wl.at_, x1.wi.iv, x1.wi.sv, hlt, fun c => ?_, fun c => ⟨fun nr H' s' => ?_, fun g' H' go iv sv st => ?_⟩⟩
  · refine ⟨true, lexm, fun _ => ?_, fun z => Bool.noConfusion z⟩
    refine ⟨_, rfl, _, rfl, _, rfl, s.wa n, _, rfl, .inl (SqL.of (x1.wl.wa hn)), _, _, rfl, rfl, _, rfl, ?_⟩
    have c2 : decide (ad < (((s.ws n).map V.int).length : Int)) = false := by
      rw [List.length_map]
      exact decide_eq_false fun z => c (hin.mpr z)
    rw [c2]
    exact iteF ⟨rfl, _, rfl, ite2 (fun c => absurd c (by simp)) (fun _ => knx _ _ g s M ⟨_, _, _, _, _, _, _, _, _, _, _, _, _, rfl⟩ ⟨x1.wl, x1.wi.next⟩)⟩
  · refine ⟨true, lexm, fun _ => ?_, fun z => Bool.noConfusion z⟩
    have x2 := x1.same s'
    refine ⟨_, rfl, _, rfl, _, rfl, s.wa n, _, rfl, .inl (SqL.of (x2.wl.wa hn)), _, _, rfl, rfl, _, rfl, ?_⟩
    have c1 := hin.mp c
    have c2 : decide (ad < (((s.ws n).map V.int).length : Int)) = true := by
      rw [List.length_map]
      exact decide_eq_true c1
    rw [c2]
    have hat : atI ((s.ws n).map V.int) ad = some (.int (wAt M n ad)) := by
      have e : ad = ((ad.toNat : Nat) : Int) := by omega
      rw [e]
      refine atI_nat ?_
      rw [List.getElem?_map, x1.wi.ws n hn, words_get _ _ _ _ (by omega)]; rfl
    refine iteT ⟨_, rfl, _, rfl, s.wa n, _, _, _, rfl, rfl, SqL.of (x2.wl.wa hn), hat, rfl, _, rfl, ite2 (fun _ => ?_) (fun c => absurd (by simp) c)⟩
    refine ⟨_, rfl, rfl, _, rfl, ite2 (fun c => absurd c (by simp)) (fun _ => ⟨_, rfl, rfl, _, rfl, ite2 (fun c => ?_) (fun _ => ?_)⟩)⟩
    · have c : slots = 1000 := by
        have : ((slots : Int)) = 1000 := by simpa using c
        omega
      exact absurd (x1.wi.room c) nr
    · exact knx _ _ g s M ⟨_, _, _, _, _, _, _, _, _, _, _, _, _, rfl⟩ ⟨x2.wl, x2.wi.next⟩
  · have x2 : WS ⟨CP, CF, CS, p⟩ PT D R l slots many step s g' M H' := ⟨x1.wl.prog go, x1.wi.load iv sv st⟩
    refine ⟨_, rfl, _, rfl, _, rfl, s.wa n, _, rfl, .inl (SqL.of (x2.wl.wa hn)), _, _, rfl, rfl, _, rfl, ?_⟩
    have c1 := hin.mp c
    have c2 : decide (ad < (((s.ws n).map V.int).length : Int)) = true := by
      rw [List.length_map]
      exact decide_eq_true c1
    rw [c2]
    have hat : atI ((s.ws n).map V.int) ad = some (.int (wAt M n ad)) := by
      have e : ad = ((ad.toNat : Nat) : Int) := by omega
      rw [e]
      refine atI_nat ?_
      rw [List.getElem?_map, x1.wi.ws n hn, words_get _ _ _ _ (by omega)]; rfl
    refine iteT ⟨_, rfl, _, rfl, s.wa n, _, _, _, rfl, rfl, SqL.of (x2.wl.wa hn), hat, rfl, _, rfl, ite2 (fun c => absurd c (by simp)) (fun _ => ?_)⟩
    exact knx _ _ g' s M ⟨_, _, _, _, _, _, _, _, _, _, _, _, _, rfl⟩ ⟨x2.wl, x2.wi.next⟩
end
end K07
namespace K07
open PySem L2 HK
theorem WI.store {D R l : Addr} {slots many step : Nat} {s : LS} {g g' : G} {M : Nat → Nat → List Int} {n : Nat} {ad v : Int} (x : WI D R l slots many step s g M) (hn : n ∈ s.ids) (h0 : 0 ≤ ad) (h1 : ad < ((s.ws n).length : Int))
    (iv : Iv (Lv g') (setW M n ad v) g') (sv : Sv g') (st : Sta g g') : WI D R l slots many step (s.setW n ((s.ws n).set ad.toNat v)) g' (setW M n ad v) := by
  have hln := WS.len x hn
  refine { x with iv := iv, sv := sv, lt := fun n hn => by rw [st.ns]; exact x.lt n hn, sa := fun n hn => by rw [st.sa]; exact x.sa n hn, ws := fun m hm => ?_, liv := fun n hn => x.liv n (tlne st.tl hn), sl := by rw [st.slots]; exact x.sl, fr := by rw [st.frl]; exact x.fr, nsb := by rw [st.ns]; exact x.nsb }
  show fset s.ws n ((s.ws n).set ad.toNat v) m = _
  rw [st.tl]
  by_cases e : m = n
  · subst e
    rw [fset_same, x.ws m hn, set_words h0 (by omega) (x.iv.m8 m _ (by show ad.toNat / 8 < (g.T m).length; omega))]
  · rw [fset_ne e, set_other e]
    exact x.ws m hm
section
variable {P : Program} {w : World} {K : PySem.W.Frag} {mg : Str → Option Value} {base : Heap} {CP CF CS CE g0 : Addr}
/-- store -/
theorem sto_ok (L : LTxt P w K mg base CP CF CS CE g0) {f c0 PT : Addr} {A : Around} {outer : List Env} {s0 : Shared} {H0 : Hp} {E9 : XK} (TB : LamX.TabB base mg c0 PT) (hr : Room 8 (LCx P w K mg base f c0 A outer s0 H0 E9).A) :
    ∃ t, PSs (LCx P w K mg base f c0 A outer s0 H0 E9) (ifBody if2) t ∧ ∀ (p a D R l : Addr) (slots many step n : Nat) (ad wd : Int) (s : LS) (g : G) (M : Nat → Nat → List Int) (Dn : Ends) (H : Hp) (u6 u7 u8 u10 u11 u12 u14 u15 u18 : Option V),
      WS ⟨CP, CF, CS, p⟩ PT D R l slots many step s g M H → n ∈ s.ids → 0 ≤ ad →
      (∀ σ H' g' s' M', Six a D l p slots many σ → WS ⟨CP, CF, CS, p⟩ PT D R l slots many (step + 1) s' g' M' H' → Dn.nx σ H') →
      t Dn [some (.ref a), some (.ref D), some (.int (slots : Int)), some (.int (many : Int)), some (.ref p), some (.ref l), u6, u7, u8, some (.ref (s.wa n)), u10, u11, u12, some (.int ad), u14, u15, some (.ref (s.sa n)), some (.int wd), u18] H := by
  have lexm := L.e11
  obtain ⟨fL, dL, FL, mL, bL⟩ := L.sto
  have T0 := L.T 0
  refine ⟨_, pss_cons (ps_set (i := 10) scLaw.nd rfl (Or.inl rfl) (pe_told (k := 6) L.told TB rfl (by rfl) hr (LamX.lamS_by (sc := defScope sLaw) (by decide +kernel)) rfl (fun _ _ _ _ _ => rfl)
        (fun A1 o1 s1 H1 E1 f1 c1 hr6 => pe_meth (pv 16) T0.cs mL FL hr6 bL .nil (passes_call (takes_of rfl rfl rfl rfl) (fun _ _ _ _ h => h)) (pa_cons (pv 13) (pa_cons (pv 17) pa_nil)))))
    (pss_cons (ps_if (PW.pt (pw_and (pt_cmpR op_ne (pe_cmpR op_eq (pv 10) pe_str (nomark _)) (pe_cmpR op_ge (pv 13) (pe_callB call_len_seq (by rfl) T0.len PySem.boot_len (pa_cons (pv 9) pa_nil)) (nomark _)) (nomark _))
        (pw_and1 (PW.pt (pw_or (pt_cmpR op_ne (pv 10) pe_str (nomark _)) (pw_or1 (pt_cmpR op_eq (pv 2) pe_int (nomark _)))))))) (pss_one (ps_ret pe_bl)) pss_nil)
    (pss_one (ps_if (pt_cmpR op_ne (pv 10) pe_str (nomark _)) (pss_one (ps_asg (pv 17) (pg_sub (pv 9) (pv 13) set_list))) pss_nil))), ?_⟩
  intro p a D R l slots many step n ad wd s g M Dn H u6 u7 u8 u10 u11 u12 u14 u15 u18 x hn h0 knx
  refine ⟨x.wl.tabs, fun H1 e1 t1 => ?_⟩
  have x1 := x.ext e1 t1
  clear x
  have hln := WS.len x1.wi hn
  have hsa := x1.wi.sa n hn
  have hlt := x1.wi.lt n hn
  have hin : inR g n ad ↔ ad < ((s.ws n).length : Int) := by
    unfold inR
    rw [hln]
    exact ⟨fun z => z.2, fun z => ⟨h0, z⟩⟩
  rw [hsa]
  refine ⟨_, rfl, g.sa n, g.sx n, _, rfl, x1.wl.at_.si hlt, rfl, _, rfl, _, rfl, p, g, n, ad, wd, M, rfl, x1.wl.at_, x1.wi.iv, x1.wi.sv, hlt, fun c => ?_, fun c => ⟨fun nr g' H' go iv sv st => ?_, fun g' H' go iv sv st => ?_⟩⟩
  · refine ⟨true, lexm, fun _ => ?_, fun z => Bool.noConfusion z⟩
    refine ⟨_, rfl, rfl, _, rfl, _, rfl, s.wa n, _, rfl, .inl (SqL.of (x1.wl.wa hn)), _, _, rfl, rfl, rfl, ?_⟩
    have c2 : ((s.ws n).length : Int) ≤ ad := by have : ¬ ad < ((s.ws n).length : Int) := fun z => c (hin.mpr z)
                                                 omega
    refine ⟨_, rfl, ite2 (fun c => absurd c (by simp [c2])) (fun _ => ?_)⟩
    exact ⟨_, rfl, rfl, _, rfl, ite2 (fun c => absurd c (by simp)) (fun _ => knx _ _ g s M ⟨_, _, _, _, _, _, _, _, _, _, _, _, _, rfl⟩ ⟨x1.wl, x1.wi.next⟩)⟩
  · refine ⟨true, lexm, fun _ => ?_, fun z => Bool.noConfusion z⟩
    have x2 : WS ⟨CP, CF, CS, p⟩ PT D R l slots many step s g' M H' := ⟨x1.wl.prog go, x1.wi.load iv sv st⟩
    refine ⟨_, rfl, rfl, _, rfl, _, rfl, s.wa n, _, rfl, .inl (SqL.of (x2.wl.wa hn)), _, _, rfl, rfl, rfl, ?_⟩
    have c2 : ¬ ((s.ws n).length : Int) ≤ ad := by have := hin.mp c; omega
    refine ⟨_, rfl, ite2 (fun _ => ?_) (fun c => absurd (by simp [c2]) c)⟩
    refine ⟨_, rfl, rfl, _, rfl, ite2 (fun c => absurd c (by simp)) (fun _ => ⟨_, rfl, rfl, _, rfl, ite2 (fun c => ?_) (fun _ => ?_)⟩)⟩
    · have c : slots = 1000 := by
        have : ((slots : Int)) = 1000 := by simpa using c
        omega
      exact absurd (x1.wi.room c) nr
    · exact ⟨_, rfl, rfl, _, rfl, ite2 (fun c => absurd c (by simp)) (fun _ => knx _ _ g' s M ⟨_, _, _, _, _, _, _, _, _, _, _, _, _, rfl⟩ ⟨x2.wl, x2.wi.next⟩)⟩
  · have w2 := x1.wl.prog go
    have c1 := hin.mp c
    refine ⟨_, rfl, rfl, _, rfl, _, rfl, s.wa n, _, rfl, .inl (SqL.of (w2.wa hn)), _, _, rfl, rfl, rfl, ?_⟩
    have c2 : ¬ ((s.ws n).length : Int) ≤ ad := by omega
    refine ⟨_, rfl, ite2 (fun c => absurd c (by simp [c2])) (fun _ => ?_)⟩
    refine ⟨_, rfl, rfl, _, rfl, ite2 (fun _ => ?_) (fun c => absurd (by simp) c)⟩
    refine ⟨_, rfl, _, rfl, _, rfl, s.wa n, _, _, ad.toNat, rfl, rfl, w2.wa hn, ?_, ?_⟩
    · rw [List.length_map]
      have e : ad = ((ad.toNat : Nat) : Int) := by omega
      rw [e]
      exact ixN_nat (by omega)
    · exact knx _ _ g' _ _ ⟨_, _, _, _, _, _, _, _, _, _, _, _, _, rfl⟩ ⟨w2.setW hn SameX.upd (upd_same.trans (by rw [List.map_set])), (x1.wi.store hn h0 c1 iv sv st).next⟩
end
end K07
namespace K07
open PySem L2 HK
theorem WI.fork {D R l : Addr} {slots many step : Nat} {s : LS} {g g' : G} {M : Nat → Nat → List Int} {n : Nat} {ra wa : Addr} (x : WI D R l slots many step s g M) (hn : n ∈ s.ids) (h4 : s.ids.length < 4)
    (iv : Iv (Lv g') (forkM M n g.ns) g') (sv : Sv g') (hns : g'.ns = g.ns + 1) (hsa : ∀ a, a < g.ns → g'.sa a = g.sa a) (hsl : g'.slots = g.slots) (hfr : g'.fr.length = g.fr.length)
    (tl : ∀ a, (g'.T a).length = if a = g.ns then (g.T n).length else (g.T a).length) : WI D R l slots many (step + 1) (s.more g.ns ra wa (g'.sa g.ns) (s.ws n)) g' (forkM M n g.ns) := by
  have nin : g.ns ∉ s.ids := fun z => Nat.lt_irrefl _ (x.lt _ z)
  have mem : ∀ m, m ∈ s.ids ++ [g.ns] → (m ∈ s.ids ∧ m ≠ g.ns) ∨ m = g.ns := fun m hm => by
    rcases List.mem_append.mp hm with y | y
    · exact .inl ⟨y, fun e => nin (by rw [← e]; exact y)⟩
    · exact .inr (List.mem_singleton.mp y)
  refine { iv := iv, sv := sv, lt := fun m hm => ?_, sa := fun m hm => ?_, ws := fun m hm => ?_, nd := ?_, l4 := ?_, ne := ?_, liv := fun m hm => ?_, sl := by rw [hsl]; exact x.sl, fr := by rw [hfr]; exact x.fr, nsb := by rw [hns]; have := x.nsb; omega, eD := x.eD, eR := x.eR, el := x.el }
  · rw [hns]
    rcases mem m hm with y | y
    · exact Nat.lt_succ_of_lt (x.lt m y.1)
    · rw [y]; exact Nat.lt_succ_self _
  · show fset s.sa g.ns (g'.sa g.ns) m = _
    rcases mem m hm with y | y
    · rw [fset_ne y.2, hsa m (x.lt m y.1)]; exact x.sa m y.1
    · rw [y, fset_same]
  · show fset s.ws g.ns (s.ws n) m = _
    rw [tl]
    rcases mem m hm with y | y
    · rw [fset_ne y.2, if_neg y.2, fork_other y.2]; exact x.ws m y.1
    · rw [y, fset_same, if_pos rfl, fork_words]; exact x.ws n hn
  · show (s.ids ++ [g.ns]).Nodup
    rw [List.nodup_append]
    exact ⟨x.nd, by simp, fun a ha b hb e => nin (by rw [← List.mem_singleton.mp hb, ← e]; exact ha)⟩
  · show (s.ids ++ [g.ns]).length ≤ 4
    rw [List.length_append]
    show s.ids.length + 1 ≤ 4
    omega
  · show s.ids ++ [g.ns] ≠ []
    simp
  · show m ∈ s.ids ++ [g.ns]
    by_cases e : m = g.ns
    · exact List.mem_append_right _ (by rw [e]; simp)
    · refine List.mem_append_left _ (x.liv m fun z => hm (List.eq_nil_of_length_eq_zero ?_))
      rw [tl, if_neg e, z]; rfl
theorem mem_erase {m n : Nat} : ∀ {l : List Nat} {i : Nat}, m ∈ l → l[i]? = some n → m ≠ n → m ∈ l.eraseIdx i
  | a :: r, 0, h, e, ne => by
    have e : a = n := by simpa using e
    rcases List.mem_cons.mp h with z | z
    · exact absurd (z.trans e) ne
    · exact z
  | a :: r, i + 1, h, e, ne => by
    show m ∈ a :: r.eraseIdx i
    rcases List.mem_cons.mp h with z | z
    · rw [z]; exact List.mem_cons_self
    · exact List.mem_cons_of_mem _ (mem_erase z (by simpa using e) ne)
theorem WI.rel {D R l : Addr} {slots many step : Nat} {s : LS} {g g' : G} {M : Nat → Nat → List Int} {n i : Nat} (x : WI D R l slots many step s g M) (hi : s.ids[i]? = some n) (h1 : 1 < s.ids.length)
    (iv : Iv (Lv g') M g') (sv : Sv g') (st : Ste g g') (tl : ∀ m, (g'.T m).length = if m = n then 0 else (g.T m).length) : WI D R l slots many step (s.less i) g' M := by
  have hl := (List.getElem?_eq_some_iff.mp hi).1
  have nn : n ∉ s.ids.eraseIdx i := fun z => by
    have key : ∀ {l : List Nat} {i : Nat}, l.Nodup → l[i]? = some n → n ∉ l.eraseIdx i := by
      intro l
      induction l with
      | nil => intro i _ e; simp at e
      | cons a r ih =>
        intro i nd e
        obtain ⟨n1, n2⟩ := List.nodup_cons.mp nd
        cases i with
        | zero =>
          have e : a = n := by simpa using e
          rw [← e]; exact n1
        | succ i =>
          have e : r[i]? = some n := by simpa using e
          show n ∉ a :: r.eraseIdx i
          intro z
          rcases List.mem_cons.mp z with y | y
          · exact n1 (by rw [← y]; exact List.mem_of_getElem? e)
          · exact ih n2 e y
    exact key x.nd hi z
  have sub : ∀ m, m ∈ s.ids.eraseIdx i → m ∈ s.ids ∧ m ≠ n := fun m hm => ⟨List.mem_of_mem_eraseIdx hm, fun e => nn (by rw [← e]; exact hm)⟩
  refine { iv := iv, sv := sv, lt := fun m hm => by rw [st.ns]; exact x.lt m (sub m hm).1, sa := fun m hm => by rw [st.sa]; exact x.sa m (sub m hm).1, ws := fun m hm => ?_, nd := List.Sublist.nodup (List.eraseIdx_sublist _ _) x.nd, l4 := ?_, ne := ?_, liv := fun m hm => ?_, sl := by rw [st.slots]; exact x.sl, fr := by rw [st.frl]; exact x.fr, nsb := by rw [st.ns]; exact x.nsb, eD := x.eD, eR := x.eR, el := x.el }
  · rw [tl, if_neg (sub m hm).2]; exact x.ws m (sub m hm).1
  · show (s.ids.eraseIdx i).length ≤ 4
    rw [List.length_eraseIdx_of_lt hl]
    have := x.l4
    omega
  · show s.ids.eraseIdx i ≠ []
    intro z
    have := congrArg List.length z
    rw [List.length_eraseIdx_of_lt hl] at this
    have : s.ids.length - 1 = 0 := this
    omega
  · have ne : m ≠ n := fun e => hm (List.eq_nil_of_length_eq_zero (by rw [tl, if_pos e]))
    refine mem_erase (x.liv m fun z => hm (List.eq_nil_of_length_eq_zero ?_)) hi ne
    rw [tl, if_neg ne, z]; rfl
section
variable {P : Program} {w : World} {K : PySem.W.Frag} {mg : Str → Option Value} {base : Heap} {CP CF CS CE g0 : Addr}
/-- fork -/
theorem fork_ok (L : LTxt P w K mg base CP CF CS CE g0) {f c0 PT : Addr} {A : Around} {outer : List Env} {s0 : Shared} {H0 : Hp} {E9 : XK} (TB : LamX.TabB base mg c0 PT) (hr : Room 8 (LCx P w K mg base f c0 A outer s0 H0 E9).A) :
    ∃ t, PSs (LCx P w K mg base f c0 A outer s0 H0 E9) (ifBody if3) t ∧ ∀ (p a D R l : Addr) (slots many step n : Nat) (ad wd : Int) (s : LS) (g : G) (M : Nat → Nat → List Int) (Dn : Ends) (H : Hp) (u6 u7 u8 u10 u11 u12 u14 u15 u18 : Option V),
      WS ⟨CP, CF, CS, p⟩ PT D R l slots many step s g M H → n ∈ s.ids → s.ids.length < 4 → step ≤ 60 →
      (∀ σ H' g' s' M', Six a D l p slots many σ → WS ⟨CP, CF, CS, p⟩ PT D R l slots many (step + 1) s' g' M' H' → Dn.nx σ H') →
      t Dn [some (.ref a), some (.ref D), some (.int (slots : Int)), some (.int (many : Int)), some (.ref p), some (.ref l), u6, u7, u8, some (.ref (s.wa n)), u10, u11, u12, some (.int ad), u14, u15, some (.ref (s.sa n)), some (.int wd), u18] H := by
  have lexm := L.e11
  obtain ⟨fL, dL, FL, mL, bL⟩ := L.fork
  have rL := FL.mono (show 4 ≤ 6 by decide)
  have T0 := L.T 0
  refine ⟨_, pss_cons (ps_set (i := 11) scLaw.nd rfl (Or.inl rfl) (pe_told (k := 6) L.told TB rfl (by rfl) hr (LamX.lamS_by (sc := defScope sLaw) (by decide +kernel)) rfl (fun _ _ _ _ _ => rfl)
        (fun A1 o1 s1 H1 E1 f1 c1 hr6 => pe_meth0 (pv 16) T0.cs mL rL hr6 bL .nil (passes_call (takes_of rfl rfl rfl rfl) (fun _ _ _ _ h => h)))))
    (pss_cons (ps_if (PW.pt (pw_and (pt_cmpR (op_eqIS L.N (hu_of hr)) (pv 11) pe_str (nomark _)) (pw_and1 (pt_cmpR op_eq (pv 2) pe_int (nomark _))))) (pss_one (ps_ret pe_bl)) pss_nil)
    (pss_one (ps_if (pt_cmpR (op_neIS L.N (hu_of hr)) (pv 11) pe_str (nomark _)) (pss_one (ps_expr (pe_bm PySem.F.plainAttrs_list PySem.F.slot_list_append PySem.F.type_list_append mt_append (pv 5)
      (pa_cons (pe_lst (pa_cons (pv 11) (pa_cons (pe_callTy call_list_of (by rfl) T0.list PyProof.Rows.Boot.«list» (pa_cons (pv 9) pa_nil)) pa_nil))) pa_nil)))) pss_nil))), ?_⟩
  intro p a D R l slots many step n ad wd s g M Dn H u6 u7 u8 u10 u11 u12 u14 u15 u18 x hn h4 h60 knx
  refine ⟨x.wl.tabs, fun H1 e1 t1 => ?_⟩
  have x1 := x.ext e1 t1
  clear x
  have hsa := x1.wi.sa n hn
  have hlt := x1.wi.lt n hn
  have n100 : g.ns < 100 := by have := x1.wi.nsb; omega
  rw [hsa]
  refine ⟨_, rfl, g.sa n, g.sx n, _, rfl, x1.wl.at_.si hlt, rfl, p, g, n, M, rfl, x1.wl.at_, x1.wi.iv, x1.wi.sv, hlt, n100, fun nr H' s' => ?_, fun g' H' go iv sv hns hsa' hsl hfr tl => ?_⟩
  · refine ⟨true, lexm, fun _ => ?_, fun z => Bool.noConfusion z⟩
    have x2 := x1.same s'
    refine ⟨_, rfl, .inr ⟨_, _, rfl, rfl, _, rfl, ite2 (fun _ => ?_) (fun c => absurd (by simp) c)⟩⟩
    refine ⟨_, rfl, rfl, _, rfl, ite2 (fun c => ?_) (fun _ => ?_)⟩
    · have c : slots = 1000 := by
        have : ((slots : Int)) = 1000 := by simpa using c
        omega
      exact absurd (x1.wi.room c) nr
    · exact ⟨_, rfl, .inr ⟨_, _, rfl, rfl, _, rfl, ite2 (fun c => absurd c (by simp)) (fun _ => knx _ _ g s M ⟨_, _, _, _, _, _, _, _, _, _, _, _, _, rfl⟩ ⟨x2.wl, x2.wi.next⟩)⟩⟩
  · have w2 := x1.wl.prog go
    have hi := go.at_.si (n := g.ns) (by rw [hns]; exact Nat.lt_succ_self _)
    refine ⟨_, rfl, .inl ⟨_, _, _, _, rfl, rfl, hi, _, rfl, iteF ?_⟩⟩
    refine ⟨_, rfl, .inl ⟨_, _, _, _, rfl, rfl, hi, _, rfl, iteT ?_⟩⟩
    have nin : g.ns ∉ s.ids := fun z => Nat.lt_irrefl _ (x1.wi.lt _ z)
    have hl := w2.lst
    rw [x1.wi.el] at hl
    refine ⟨_, rfl, .inl ⟨rfl, _, SqL.of hl⟩, _, rfl, _, rfl, s.wa n, _, rfl, .inl (SqL.of (w2.wa hn)), fun q nq => ⟨by show 2 ≤ sizeLine; decide, fun r nr => ?_⟩⟩
    have s3 : Same H' (upd (upd H' q (.lst ((s.ws n).map V.int))) r (.lst [.ref (g'.sa g.ns), .ref q])) := (same_upd nq).trans (same_upd nr)
    have hq : (upd (upd H' q (.lst ((s.ws n).map V.int))) r (.lst [.ref (g'.sa g.ns), .ref q])) q = some (.lst ((s.ws n).map V.int)) := by
      rw [upd_ne (fun e => by rw [← e, upd_same] at nr; cases nr), upd_same]
    have hr' : (upd (upd H' q (.lst ((s.ws n).map V.int))) r (.lst [.ref (g'.sa g.ns), .ref q])) r = some (.lst [.ref (g'.sa g.ns), .ref q]) := upd_same
    have nqr : r ≠ q := fun e => by rw [e, upd_same] at nr; cases nr
    have nr0 : H' r = none := (same_upd nq).free nr
    generalize upd (upd H' q (.lst ((s.ws n).map V.int))) r (.lst [.ref (g'.sa g.ns), .ref q]) = H3 at s3 hq hr' ⊢
    have hl3 := s3 _ _ hl
    refine ⟨l, _, _, rfl, rfl, hl3, by rw [List.length_map]; exact small (by omega), ?_⟩
    refine knx _ _ g' _ _ ⟨_, _, _, _, _, _, _, _, _, _, _, _, _, rfl⟩ ⟨?_, x1.wi.fork (ra := r) (wa := q) hn h4 iv sv hns hsa' hsl hfr tl⟩
    have nlq : q ≠ l := fun e => by rw [e, hl] at nq; cases nq
    have nlr : r ≠ l := fun e => by rw [e, hl] at nr0; cases nr0
    refine w2.more nin nr0 nq nqr (fun b o nb hb => ?_) ?_ ?_ ?_
    · rw [x1.wi.el] at nb
      rw [upd_ne nb]; exact s3 _ _ hb
    · rw [upd_ne nlr]; exact hr'
    · rw [upd_ne nlq]; exact hq
    · rw [x1.wi.el, upd_same]
end
end K07
namespace K07
open PySem L2 HK
theorem WI.same_w {D R l : Addr} {slots many step : Nat} {s : LS} {g : G} {M : Nat → Nat → List Int} {n : Nat} {q : Addr} (x : WI D R l slots many step s g M) : WI D R l slots many step (s.newW n q (s.ws n)) g M := by
  have hw : ∀ m, m ∈ s.ids → (s.newW n q (s.ws n)).ws m = wordsOf M m (8 * (g.T m).length) := fun m hm => by
    show fset s.ws n (s.ws n) m = _
    rw [fset_id]; exact x.ws m hm
  exact { x with ws := hw }
theorem WI.grow {D R l : Addr} {slots many step : Nat} {s : LS} {g : G} {M : Nat → Nat → List Int} {n more : Nat} {q : Addr} (x : WI D R l slots many step s g M) (hn : n ∈ s.ids) (h : (g.T n).length + more ≤ 64) :
    WI D R l slots many step (s.newW n q (s.ws n ++ List.replicate (8 * more) 0)) (growG g n more) (growM M n (g.T n).length) := by
  refine { iv := grow_iv x.iv, sv := grow_sv x.sv (x.lt n hn) h, lt := x.lt, sa := x.sa, ws := fun m hm => ?_, nd := x.nd, l4 := x.l4, ne := x.ne, liv := fun m hm => ?_, sl := x.sl, fr := x.fr, nsb := x.nsb, eD := x.eD, eR := x.eR, el := x.el }
  · show fset s.ws n (s.ws n ++ List.replicate (8 * more) 0) m = _
    rw [grow_tl]
    by_cases e : m = n
    · rw [e, fset_same, if_pos rfl, grow_words, x.ws n hn]
    · rw [fset_ne e, if_neg e, grow_other e]; exact x.ws m hm
  · by_cases e : m = n
    · rw [e]; exact hn
    · refine x.liv m fun z => hm (List.eq_nil_of_length_eq_zero ?_)
      rw [grow_tl, if_neg e, z]; rfl
theorem rep_int (k : Nat) : (List.replicate k [V.int 0]).flatten = (List.replicate k (0 : Int)).map V.int := by
  induction k with
  | zero => rfl
  | succ m ih => rw [List.replicate_succ, List.replicate_succ, List.flatten_cons, ih]; rfl
section
variable {P : Program} {w : World} {K : PySem.W.Frag} {mg : Str → Option Value} {base : Heap} {CP CF CS CE g0 : Addr}
/-- release -/
theorem rel_ok (L : LTxt P w K mg base CP CF CS CE g0) {f c0 PT : Addr} {A : Around} {outer : List Env} {s0 : Shared} {H0 : Hp} {E9 : XK} (hr : Room 8 (LCx P w K mg base f c0 A outer s0 H0 E9).A) :
    ∃ t, PSs (LCx P w K mg base f c0 A outer s0 H0 E9) (ifBody if5) t ∧ ∀ (p a D R l : Addr) (slots many step n pl : Nat) (s : LS) (g : G) (M : Nat → Nat → List Int) (Dn : Ends) (H : Hp) (u6 u7 u9 u10 u11 u12 u13 u14 u15 u17 u18 : Option V),
      WS ⟨CP, CF, CS, p⟩ PT D R l slots many step s g M H → s.ids[pl]? = some n → 1 < s.ids.length →
      (∀ σ H' g' s' M', Six a D l p slots many σ → WS ⟨CP, CF, CS, p⟩ PT D R l slots many (step + 1) s' g' M' H' → Dn.nx σ H') →
      t Dn [some (.ref a), some (.ref D), some (.int (slots : Int)), some (.int (many : Int)), some (.ref p), some (.ref l), u6, u7, some (.int (pl : Int)), u9, u10, u11, u12, u13, u14, u15, some (.ref (s.sa n)), u17, u18] H := by
  obtain ⟨fL, dL, FL, mL, bL⟩ := L.rel
  have rL := FL.mono (show 2 ≤ 8 by decide)
  have T0 := L.T 0
  refine ⟨_, pss_cons (ps_expr (pe_meth (pv 4) T0.cp mL rL hr bL .nil pass0 (pa_cons (pv 16) pa_nil)))
    (pss_one (ps_expr (pe_bm PySem.F.plainAttrs_list PySem.F.slot_list_pop PySem.F.type_list_pop mt_popAt (pv 5) (pa_cons (pv 8) pa_nil)))), ?_⟩
  intro p a D R l slots many step n pl s g M Dn H u6 u7 u9 u10 u11 u12 u13 u14 u15 u17 u18 x hi h1 knx
  have hn := List.mem_of_getElem? hi
  have hl := (List.getElem?_eq_some_iff.mp hi).1
  have hsa := x.wi.sa n hn
  have hlt := x.wi.lt n hn
  rw [hsa]
  refine ⟨_, rfl, p, g.px, _, rfl, x.wl.at_.pg, rfl, _, rfl, p, g, n, M, rfl, x.wl.at_, x.wi.iv, x.wi.sv, hlt, fun g' H' go iv sv st tl => ?_⟩
  have w2 := x.wl.prog go
  have hL := w2.lst
  rw [x.wi.el] at hL
  have e : (((s.ids.map fun n => V.ref (s.ra n)).length : Nat)) = s.ids.length := List.length_map _
  refine ⟨_, rfl, .inl ⟨rfl, _, SqL.of hL⟩, _, rfl, l, _, _, pl, .ref (s.ra n), rfl, rfl, hL, by omega, by have := x.wi.l4; omega, ?_, by rw [List.getElem?_map, hi]; rfl, ?_⟩
  · rw [e]
    exact (ixN_seq (ixN_nat hl)).1
  · exact knx _ _ g' _ M ⟨_, _, _, _, _, _, _, _, _, _, _, _, _, rfl⟩ ⟨w2.less (i := pl) (by rw [x.wi.el]; exact SameX.upd) (by rw [x.wi.el, upd_same]), (x.wi.rel hi h1 iv sv st tl).next⟩
/-- grow -/
theorem grow_ok (L : LTxt P w K mg base CP CF CS CE g0) {f c0 PT : Addr} {A : Around} {outer : List Env} {s0 : Shared} {H0 : Hp} {E9 : XK} (TB : LamX.TabB base mg c0 PT) (hr : Room 8 (LCx P w K mg base f c0 A outer s0 H0 E9).A) :
    ∃ t, PSs (LCx P w K mg base f c0 A outer s0 H0 E9) (ifBody if4) t ∧ ∀ (p a D R l : Addr) (slots many step n pl : Nat) (s : LS) (g : G) (M : Nat → Nat → List Int) (Dn : Ends) (H : Hp) (u6 u7 u10 u11 u12 u13 u14 u15 u17 u18 : Option V),
      WS ⟨CP, CF, CS, p⟩ PT D R l slots many step s g M H → s.ids[pl]? = some n →
      (∀ σ H' g' s' M', Six a D l p slots many σ → WS ⟨CP, CF, CS, p⟩ PT D R l slots many (step + 1) s' g' M' H' → Dn.nx σ H') →
      t Dn [some (.ref a), some (.ref D), some (.int (slots : Int)), some (.int (many : Int)), some (.ref p), some (.ref l), u6, u7, some (.int (pl : Int)), some (.ref (s.wa n)), u10, u11, u12, u13, u14, u15, some (.ref (s.sa n)), u17, u18] H := by
  have lexm := L.e11
  obtain ⟨fO, dO, FO, mO, kO, bO⟩ := L.roll
  obtain ⟨fL, dL, FL, mL, bL⟩ := L.grow
  have rL := FL.mono (show 1 ≤ 6 by decide)
  have rO := FO.mono (show 1 ≤ 8 by decide)
  have T0 := L.T 0
  refine ⟨_, pss_cons (ps_set (i := 14) scLaw.nd rfl (Or.inr rfl) (pe_call rO hr (by rfl) mO kO bO .nil pass0 (pa_cons (pv 1) (pa_cons pe_int pa_nil))))
    (pss_cons (ps_set (i := 10) scLaw.nd rfl (Or.inl rfl) (pe_told (k := 6) L.told TB rfl (by rfl) hr (LamX.lamS_by (sc := defScope sLaw) (by decide +kernel)) rfl (fun _ _ _ _ _ => rfl)
        (fun A1 o1 s1 H1 E1 f1 c1 hr6 => pe_meth (pv 16) T0.cs mL rL hr6 bL .nil (passes_call (takes_of rfl rfl rfl rfl) (fun _ _ _ _ h => h)) (pa_cons (pv 14) pa_nil))))
    (pss_cons (ps_if (pt_cmpR op_ne (pe_cmpR op_eq (pv 10) pe_str (nomark _)) (pe_cmpR op_gt (pe_op op_add (pe_op op_fdiv (pe_callB call_len_seq (by rfl) T0.len PySem.boot_len (pa_cons (pv 9) pa_nil)) pe_int) (pv 14)) pe_int (nomark _)) (nomark _)) (pss_one (ps_ret pe_bl)) pss_nil)
    (pss_one (ps_asg (pe_op op_cat (pv 9) (pe_op op_rep (pe_lst (pa_cons pe_int pa_nil)) (pe_op op_mul (pe_op op_mul pe_int (pv 14)) (pe_callTy call_int1 (by rfl) L.int PyProof.Rows.Boot.«int» (pa_cons (pe_cmpR op_ne (pv 10) pe_str (nomark _)) pa_nil)))))
      (pg_sub (pe_ix ix_list (pv 5) (pv 8) (fun _ _ => rfl)) pe_int set_list))))), ?_⟩
  intro p a D R l slots many step n pl s g M Dn H u6 u7 u10 u11 u12 u13 u14 u15 u17 u18 x hi knx
  have hn := List.mem_of_getElem? hi
  obtain ⟨m0, m1⟩ := roll_range s.dc (m := 3) (by decide)
  refine ⟨_, rfl, D, s.dc, 3, rfl, x.dice, by decide, by decide, ?_⟩
  have x1 := x.rolled (roll s.dc 3).2 (SameX.upd (o := .lst (roll s.dc 3).2.vs)) upd_same
  generalize upd H D (.lst (roll s.dc 3).2.vs) = H1 at x1 ⊢
  obtain ⟨mo, hmo⟩ : ∃ mo : Nat, (roll s.dc 3).1 = (mo : Int) := ⟨(roll s.dc 3).1.toNat, by omega⟩
  rw [hmo] at m0 m1 ⊢
  have mo2 : mo ≤ 2 := by omega
  have e1 : s.wa n = (s.roll (roll s.dc 3).2).wa n := rfl
  have e2 : s.sa n = (s.roll (roll s.dc 3).2).sa n := rfl
  rw [e1, e2]
  have hi : (s.roll (roll s.dc 3).2).ids[pl]? = some n := hi
  have hn : n ∈ (s.roll (roll s.dc 3).2).ids := hn
  generalize s.roll (roll s.dc 3).2 = s1 at x1 hi hn ⊢
  clear x m0 m1 hmo e1 e2
  refine ⟨x1.wl.tabs, fun H2 e2 t2 => ?_⟩
  have x2 := x1.ext e2 t2
  clear x1
  have hln := WS.len x2.wi hn
  have hsa := x2.wi.sa n hn
  have hlt := x2.wi.lt n hn
  have h64 := x2.wi.sv.t64 n
  rw [hsa]
  refine ⟨_, rfl, g.sa n, g.sx n, _, rfl, x2.wl.at_.si hlt, rfl, _, rfl, p, g, n, mo, rfl, x2.wl.at_, hlt, h64, by omega, fun c => ?_, fun c H' go => ?_⟩
  · refine ⟨true, lexm, fun _ => ?_, fun z => Bool.noConfusion z⟩
    refine ⟨_, rfl, rfl, _, rfl, s1.wa n, _, rfl, .inl (SqL.of (x2.wl.wa hn)), _, _, rfl, rfl, ⟨by decide, by decide⟩, _, rfl, _, _, rfl, rfl, _, _, rfl, rfl, rfl, ?_⟩
    have el : ((s1.ws n).length : Int) / 8 = ((g.T n).length : Int) := by rw [hln]; omega
    have c' : (64 : Int) < ((g.T n).length : Int) + (mo : Int) := by omega
    refine ⟨_, rfl, ite2 (fun cc => absurd cc (by simp [el, c'])) (fun _ => ?_)⟩
    refine ⟨_, rfl, by show 1 ≤ sizeLine; decide, fun z nz => ?_⟩
    have x3 := x2.same (same_upd (o := .lst [.int 0]) nz)
    have hz : (upd H2 z (.lst [.int 0])) z = some (.lst [.int 0]) := upd_same
    generalize upd H2 z (.lst [.int 0]) = H3 at x3 hz ⊢
    refine ⟨_, rfl, _, _, rfl, rfl, .inl ⟨by decide, by decide⟩, _, rfl, rfl, .inr ⟨_, rfl, _, _, rfl, rfl, ?_⟩⟩
    refine ⟨.inl ⟨by omega, by omega⟩, ?_⟩
    have ek : (8 * (mo : Int) * if (!decide (V.str ("SpaceFault" : Str) = V.str "SpaceFault")) = true then 1 else 0) = ((0 : Nat) : Int) := by simp
    refine ⟨z, _, _, rfl, rfl, hz, by rw [ek]; omega, by rw [ek]; omega, ?_, fun q nq => ?_⟩
    · rw [ek, Int.toNat_natCast]
      have := small (n := 0) (by omega)
      show 1 * (0) ≤ sizeLine
      omega
    rw [ek, Int.toNat_natCast, rep_int]
    have x4 := x3.wl.same (same_upd (o := .lst ((List.replicate (0) (0 : Int)).map V.int)) nq)
    have hq : (upd H3 q (.lst ((List.replicate (0) (0 : Int)).map V.int))) q = some (.lst ((List.replicate (0) (0 : Int)).map V.int)) := upd_same
    generalize upd H3 q (.lst ((List.replicate (0) (0 : Int)).map V.int)) = H4 at x4 hq ⊢
    refine ⟨s1.wa n, q, _, _, rfl, rfl, x4.wa hn, hq, ?_, fun r nr => ?_⟩
    · rw [List.length_map, List.length_map, List.length_replicate, hln]
      have := small (n := 8 * (g.T n).length + 0) (by omega)
      omega
    have s5 : Same H4 (upd H4 r (.lst ((s1.ws n).map V.int ++ (List.replicate (0) (0 : Int)).map V.int))) := same_upd nr
    have hr5 : (upd H4 r (.lst ((s1.ws n).map V.int ++ (List.replicate (0) (0 : Int)).map V.int))) r = some (.lst ((s1.ws n ++ List.replicate (0) 0).map V.int)) := by rw [upd_same, List.map_append]
    generalize upd H4 r (.lst ((s1.ws n).map V.int ++ (List.replicate (0) (0 : Int)).map V.int)) = H5 at s5 hr5 ⊢
    have x5 := x4.same s5
    have hL := x5.lst
    rw [x2.wi.el] at hL
    refine ⟨_, rfl, _, rfl, l, _, _, _, rfl, rfl, SqL.of hL, atI_nat (by rw [List.getElem?_map, hi]; rfl), s1.ra n, _, _, 1, rfl, rfl, x5.ra hn, rfl, ?_⟩
    refine knx _ _ g _ M ⟨_, _, _, _, _, _, _, _, _, _, _, _, _, rfl⟩ ⟨x4.newW hn nr (q := r) (l := s1.ws n ++ List.replicate (0) 0) (fun b o nb hb => by rw [upd_ne nb]; exact s5 _ _ hb) ?_ upd_same, ?_⟩
    · rw [upd_ne (fun e => by rw [e, x4.ra hn] at nr; cases nr)]; exact hr5
    · have e0 : s1.ws n ++ List.replicate 0 0 = s1.ws n := List.append_nil _
      rw [e0]
      exact x2.wi.same_w.next
  · have w2 := x2.wl.prog go
    refine ⟨_, rfl, rfl, _, rfl, s1.wa n, _, rfl, .inl (SqL.of (w2.wa hn)), _, _, rfl, rfl, ⟨by decide, by decide⟩, _, rfl, _, _, rfl, rfl, _, _, rfl, rfl, rfl, ?_⟩
    have el : ((s1.ws n).length : Int) / 8 = ((g.T n).length : Int) := by rw [hln]; omega
    have c' : ¬ (64 : Int) < ((g.T n).length : Int) + (mo : Int) := by omega
    refine ⟨_, rfl, ite2 (fun cc => absurd cc (by simp [el, c'])) (fun _ => ?_)⟩
    refine ⟨_, rfl, by show 1 ≤ sizeLine; decide, fun z nz => ?_⟩
    have x3 := w2.same (same_upd (o := .lst [.int 0]) nz)
    have hz : (upd H' z (.lst [.int 0])) z = some (.lst [.int 0]) := upd_same
    generalize upd H' z (.lst [.int 0]) = H3 at x3 hz ⊢
    refine ⟨_, rfl, _, _, rfl, rfl, .inl ⟨by decide, by decide⟩, _, rfl, rfl, .inr ⟨_, rfl, _, _, rfl, rfl, ?_⟩⟩
    refine ⟨.inl ⟨by omega, by omega⟩, ?_⟩
    have ek : (8 * (mo : Int) * if (!decide (V.non = V.str "SpaceFault")) = true then 1 else 0) = ((8 * mo : Nat) : Int) := by simp
    refine ⟨z, _, _, rfl, rfl, hz, by rw [ek]; omega, by rw [ek]; omega, ?_, fun q nq => ?_⟩
    · rw [ek, Int.toNat_natCast]
      have := small (n := 8 * mo) (by omega)
      show 1 * (8 * mo) ≤ sizeLine
      omega
    rw [ek, Int.toNat_natCast, rep_int]
    have x4 := x3.same (same_upd (o := .lst ((List.replicate (8 * mo) (0 : Int)).map V.int)) nq)
    have hq : (upd H3 q (.lst ((List.replicate (8 * mo) (0 : Int)).map V.int))) q = some (.lst ((List.replicate (8 * mo) (0 : Int)).map V.int)) := upd_same
    generalize upd H3 q (.lst ((List.replicate (8 * mo) (0 : Int)).map V.int)) = H4 at x4 hq ⊢
    refine ⟨s1.wa n, q, _, _, rfl, rfl, x4.wa hn, hq, ?_, fun r nr => ?_⟩
    · rw [List.length_map, List.length_map, List.length_replicate, hln]
      have := small (n := 8 * (g.T n).length + 8 * mo) (by omega)
      omega
    have s5 : Same H4 (upd H4 r (.lst ((s1.ws n).map V.int ++ (List.replicate (8 * mo) (0 : Int)).map V.int))) := same_upd nr
    have hr5 : (upd H4 r (.lst ((s1.ws n).map V.int ++ (List.replicate (8 * mo) (0 : Int)).map V.int))) r = some (.lst ((s1.ws n ++ List.replicate (8 * mo) 0).map V.int)) := by rw [upd_same, List.map_append]
    generalize upd H4 r (.lst ((s1.ws n).map V.int ++ (List.replicate (8 * mo) (0 : Int)).map V.int)) = H5 at s5 hr5 ⊢
    have x5 := x4.same s5
    have hL := x5.lst
    rw [x2.wi.el] at hL
    refine ⟨_, rfl, _, rfl, l, _, _, _, rfl, rfl, SqL.of hL, atI_nat (by rw [List.getElem?_map, hi]; rfl), s1.ra n, _, _, 1, rfl, rfl, x5.ra hn, rfl, ?_⟩
    refine knx _ _ (growG g n mo) _ (growM M n (g.T n).length) ⟨_, _, _, _, _, _, _, _, _, _, _, _, _, rfl⟩ ⟨x4.newW hn nr (q := r) (l := s1.ws n ++ List.replicate (8 * mo) 0) (fun b o nb hb => by rw [upd_ne nb]; exact s5 _ _ hb) ?_ upd_same, ?_⟩
    · rw [upd_ne (fun e => by rw [e, x4.ra hn] at nr; cases nr)]; exact hr5
    · exact (x2.wi.grow hn c).next
end
end K07
namespace K07
open PySem L2 HK
section
variable {P : Program} {w : World} {K : PySem.W.Frag} {mg : Str → Option Value} {base : Heap} {CP CF CS CE g0 : Addr}
/-- the look at the frames -/
theorem look_ok (L : LTxt P w K mg base CP CF CS CE g0) {f c0 : Addr} {A : Around} {outer : List Env} {s0 : Shared} {H0 : Hp} {E9 : XK} (hr : Room 8 (LCx P w K mg base f c0 A outer s0 H0 E9).A) :
    ∃ t, PSs (LCx P w K mg base f c0 A outer s0 H0 E9) (stepBody.drop 4) t ∧ ∀ (p a D R l PT : Addr) (slots many step : Nat) (s : LS) (g : G) (M : Nat → Nat → List Int) (Dn : Ends) (H : Hp) (σ : L2.St),
      WS ⟨CP, CF, CS, p⟩ PT D R l slots many step s g M H → Six a D l p slots many σ →
      (∀ σ H', Six a D l p slots many σ → WS ⟨CP, CF, CS, p⟩ PT D R l slots many step s g M H' → Dn.nx σ H') →
      t Dn σ H := by
  have T0 := L.T 0
  refine ⟨_, pss_cons (ps_setLc (i := 12) (own := [("frame", 18)]) (g := gName 18) (te := tVar 18) (by rfl) scLaw.nd rfl rfl (sw_true rfl rfl rfl (by decide +kernel)) (pi_list (pe_fld (pv 4) rfl)) (blkOk_by (N := NL) (sc := defScope sLaw) (by decide +kernel))
        (fun _ _ _ _ _ => pg_name (i := 18) scLaw.nd rfl (Or.inl rfl)) (fun _ _ _ _ _ => pts_one (pt_cmpR op_notN (pv 18) pe_non (nomark _))) (fun _ _ _ _ _ => pv 18))
    (pss_one (ps_if (PW.pt (pw_or (pt_cmpR op_ne (pe_callB call_len_seq (by rfl) T0.len PySem.boot_len (pa_cons (pe_fld (pv 4) rfl) pa_nil)) (pv 3) (nomark _))
      (pw_or (pt_cmpR op_gt (pe_callB call_len_dT (by rfl) T0.len PySem.boot_len (pa_cons (pe_fld (pv 4) rfl) pa_nil)) (pv 2) (nomark _))
      (pw_or1 (pt_cmpR (op_neD hr.units) (pe_lc (own := [("frame", 18)]) (g := gName 18) (te := tVar 18) (tt := tTest (tOp (rEqD K) (tFld K (tVar 18) "owners") (tLst tNil))) (by rfl) scLaw.nd (pi_list (pv 12)) (blkOk_by (N := NL) (sc := defScope sLaw) (by decide +kernel))
        (fun _ _ _ _ _ => pg_name (i := 18) scLaw.nd rfl (Or.inl rfl)) (fun _ _ _ _ _ => pts_one (pt_cmpR (r := rEqD K) (by exact op_eqD hr.units) (pe_fld (pv 18) rfl) (pe_lst pa_nil) (nomark _))) (fun _ _ _ _ _ => pv 18)) (pe_lst pa_nil) (nomark _)))))) (pss_one (ps_ret pe_bl)) pss_nil)), ?_⟩
  intro p a D R l PT slots many step s g M Dn H σ x hσ knx
  obtain ⟨u6, u7, u8, u9, u10, u11, u12, u13, u14, u15, u16, u17, u18, rfl⟩ := hσ
  have at1 := x.wl.at_
  refine ⟨_, rfl, p, CP, g.px, _, _, rfl, at1.pg, T0.cp, T0.p1, rfl, g.fl, rfl, ⟨_, SqL.of at1.fl⟩, fun D1 nD1 => ?_⟩
  have hfr5 := x.wi.sv.frl
  refine lc_list (K := K) (a := g.fl) (xs := g.fr.map (fV g.fa)) (fun i H' => Same H H' ∧ H' D1 = some (.lst (((g.fr.take i).filterMap id).map fun k => V.ref (g.fa k)))) ⟨same_upd nD1, upd_same⟩ (fun i H' hi q => SqL.of (q.1 _ _ at1.fl)) (fun i z H' hx q => ?_) (fun H1 q => ?_)
  · obtain ⟨sm, hD⟩ := q
    rw [List.getElem?_map] at hx
    obtain ⟨o, ho, rfl⟩ := Option.map_eq_some_iff.mp hx
    have et : (g.fr.take (i + 1)).filterMap id = (g.fr.take i).filterMap id ++ o.toList := by
      rw [List.take_add_one, ho, List.filterMap_append]
      congr 1
    refine ⟨rfl, _, rfl, rfl, _, rfl, ?_⟩
    cases o with
    | none => exact iteF ⟨sm, by rw [et]; exact (by rw [show (none : Option Nat).toList = [] from rfl, List.append_nil]; exact hD)⟩
    | some k =>
      refine iteT ⟨_, rfl, _, hD, ?_, fun b u h => by rw [upd_ne (ne_of_none h nD1)]; exact sm b u h, ?_⟩
      · rw [List.length_map]
        refine small (Nat.le_trans (List.length_filterMap_le _ _) ?_)
        rw [List.length_take]; omega
      · rw [upd_same, et, List.map_append]; rfl
  · obtain ⟨sm, hD⟩ := q
    rw [List.length_map, List.take_length] at hD
    have x1 := x.same sm
    have at2 := x1.wl.at_
    have c1 : ((((g.fr.map (fV g.fa)).length : Nat) : Int)) = (many : Int) := by rw [List.length_map, x.wi.fr]
    refine ⟨_, rfl, p, CP, g.px, _, _, rfl, at2.pg, T0.cp, T0.p1, rfl, g.fl, _, rfl, .inl (SqL.of at2.fl), _, rfl, rfl, _, rfl, ite2 (fun c => absurd c (by simp [x.wi.fr])) (fun _ => ?_)⟩
    have c2 : ¬ ((((swK g.sw).length : Nat) : Int)) > (slots : Int) := by
      have := x.wi.sv.swl
      rw [x.wi.sl] at this
      unfold swK
      rw [List.length_map]; omega
    refine ⟨_, rfl, p, CP, g.px, _, _, rfl, at2.pg, T0.cp, T0.p4, rfl, g.sd, _, rfl, at2.sd, _, rfl, _, _, rfl, rfl, _, rfl, ite2 (fun c => absurd (of_decide_eq_true c) c2) (fun _ => ?_)⟩
    refine ⟨_, rfl, D1, rfl, ⟨_, SqL.of hD⟩, fun D2 nD2 => ?_⟩
    refine lc_list (K := K) (a := D1) (xs := (g.fr.filterMap id).map fun k => V.ref (g.fa k)) (fun i H' => Same H1 H' ∧ H' D2 = some (.lst [])) ⟨same_upd nD2, upd_same⟩ (fun i H' hi q => SqL.of (q.1 _ _ hD)) (fun i z H' hx q => ?_) (fun H2 q => ?_)
    · obtain ⟨sm2, hD2⟩ := q
      rw [List.getElem?_map] at hx
      obtain ⟨k, hk, rfl⟩ := Option.map_eq_some_iff.mp hx
      have hkm := List.mem_of_getElem? hk
      obtain ⟨o, ho, eo⟩ := List.mem_filterMap.mp hkm
      have eo : o = some k := eo
      subst eo
      obtain ⟨ff, hff⟩ := List.getElem?_of_mem ho
      obtain ⟨k1, k2, _⟩ := x.wi.iv.fk ff k hff
      have at3 := (x1.same sm2).wl.at_
      refine ⟨rfl, _, rfl, g.fa k, CF, g.fx k, _, _, rfl, at3.fi k1, T0.cf, T0.f2, rfl, by show 0 ≤ sizeLine; decide, fun e ne => ?_⟩
      have s4 : Same H' (upd H' e (.lst [])) := same_upd ne
      refine ⟨.list ((g.O k).map fun y => kD y.2), .list [], Dp.lst (SqL.of (s4 _ _ (at3.fo k1))) (dps_keys fun y hy => s4 _ _ (at3.tp1 k k1 y hy)), Dp.lst (SqL.of upd_same) .nil, keys_shaped _, rfl, _, rfl, ?_⟩
      rw [keys_nil, decide_eq_false k2]
      exact iteF ⟨sm2.trans s4, s4 _ _ hD2⟩
    · obtain ⟨sm2, hD2⟩ := q
      refine ⟨by show 0 ≤ sizeLine; decide, fun e ne => ?_⟩
      have s4 : Same H2 (upd H2 e (.lst [])) := same_upd ne
      refine ⟨.list [], .list [], Dp.lst (SqL.of (s4 _ _ hD2)) .nil, Dp.lst (SqL.of upd_same) .nil, rfl, rfl, _, rfl, iteF ?_⟩
      exact knx _ _ ⟨_, _, _, _, _, _, _, _, _, _, _, _, _, rfl⟩ (x1.same (sm2.trans s4))
end
end K07
namespace K07
open PySem L2 HK
section
variable {P : Program} {w : World} {K : PySem.W.Frag} {mg : Str → Option Value} {base : Heap} {CP CF CS CE g0 : Addr}
theorem step_ok (L : LTxt P w K mg base CP CF CS CE g0) {f c0 PT : Addr} {A : Around} {outer : List Env} {s0 : Shared} {H0 : Hp} {E9 : XK} (TB : LamX.TabB base mg c0 PT) (hr : Room 8 (LCx P w K mg base f c0 A outer s0 H0 E9).A) :
    ∃ t, PSs (LCx P w K mg base f c0 A outer s0 H0 E9) stepBody t ∧ ∀ (p a D R l : Addr) (slots many step : Nat) (s : LS) (g : G) (M : Nat → Nat → List Int) (Dn : Ends) (H : Hp) (σ : L2.St),
      WS ⟨CP, CF, CS, p⟩ PT D R l slots many step s g M H → Six a D l p slots many σ → step ≤ 60 →
      (∀ σ H' g' s' M', Six a D l p slots many σ → WS ⟨CP, CF, CS, p⟩ PT D R l slots many (step + 1) s' g' M' H' → Dn.nx σ H') →
      t Dn σ H := by
  have T0 := L.T 0
  obtain ⟨fO, dO, FO, mO, kO, bO⟩ := L.roll
  have rO := FO.mono (show 1 ≤ 8 by decide)
  obtain ⟨tL, htL, qL⟩ := load_ok (s0 := s0) (H0 := H0) (E9 := E9) L TB hr
  obtain ⟨tS, htS, qS⟩ := sto_ok (s0 := s0) (H0 := H0) (E9 := E9) L TB hr
  obtain ⟨tF, htF, qF⟩ := fork_ok (s0 := s0) (H0 := H0) (E9 := E9) L TB hr
  obtain ⟨tG, htG, qG⟩ := grow_ok (s0 := s0) (H0 := H0) (E9 := E9) L TB hr
  obtain ⟨tR, htR, qR⟩ := rel_ok (s0 := s0) (H0 := H0) (E9 := E9) L hr
  obtain ⟨tK, htK, qK⟩ := look_ok (s0 := s0) (H0 := H0) (E9 := E9) L hr
  refine ⟨_, pss_cons (ps_par (i := 7) (j := 8) rfl scLaw.nd rfl rfl (by decide) rfl rfl (pa_cons (pe_call rO hr (by rfl) mO kO bO .nil pass0 (pa_cons (pv 1) (pa_cons pe_int pa_nil))) (pa_cons (pe_call rO hr (by rfl) mO kO bO .nil pass0 (pa_cons (pv 1) (pa_cons (pe_callB call_len_seq (by rfl) T0.len PySem.boot_len (pa_cons (pv 5) pa_nil)) pa_nil))) pa_nil)) (by rfl))
    (pss_cons (ps_asg (pe_ix ix_list (pv 5) (pv 8) (fun _ _ => rfl)) (pg_unl rfl (pgs_cons (pg_name (i := 16) scLaw.nd rfl (Or.inr rfl)) (pgs_cons (pg_name (i := 9) scLaw.nd rfl (Or.inl rfl)) pgs_nil))))
    (pss_cons (ps_asg (pe_tup (pa_cons (pe_call rO hr (by rfl) mO kO bO .nil pass0 (pa_cons (pv 1) (pa_cons (pe_op op_add (pe_callB call_len_seq (by rfl) T0.len PySem.boot_len (pa_cons (pv 9) pa_nil)) pe_int) pa_nil))) (pa_cons (pe_call rO hr (by rfl) mO kO bO .nil pass0 (pa_cons (pv 1) (pa_cons pe_int pa_nil))) pa_nil)))
      (pg_tup rfl (pgs_cons (pg_name (i := 13) scLaw.nd rfl (Or.inr rfl)) (pgs_cons (pg_name (i := 17) scLaw.nd rfl (Or.inr rfl)) pgs_nil))))
    (pss_cons (ps_if (pt_cmpR op_lt (pv 7) pe_int (nomark _)) htL (pss_one (ps_if (pt_cmpR op_lt (pv 7) pe_int (nomark _)) htS
      (pss_one (ps_if (PW.pt (pw_and (pt_cmpR op_eq (pv 7) pe_int (nomark _)) (pw_and1 (pt_cmpR op_lt (pe_callB call_len_seq (by rfl) T0.len PySem.boot_len (pa_cons (pv 5) pa_nil)) pe_int (nomark _))))) htF
      (pss_one (ps_if (pt_cmpR op_eq (pv 7) pe_int (nomark _)) htG
      (pss_one (ps_if (PW.pt (pw_and (pt_cmpR op_eq (pv 7) pe_int (nomark _)) (pw_and1 (pt_cmpR op_gt (pe_callB call_len_seq (by rfl) T0.len PySem.boot_len (pa_cons (pv 5) pa_nil)) pe_int (nomark _))))) htR pss_nil)))))))))
    htK))), ?_⟩
  intro p a D R l slots many step s g M Dn H σ x hσ h60 knx
  obtain ⟨u6, u7, u8, u9, u10, u11, u12, u13, u14, u15, u16, u17, u18, rfl⟩ := hσ
  have fin : ∀ σ H' g' s' M', Six a D l p slots many σ → WS ⟨CP, CF, CS, p⟩ PT D R l slots many (step + 1) s' g' M' H' → tK Dn σ H' := fun σ H' g' s' M' h1 h2 =>
    qK p a D R l PT slots many (step + 1) s' g' M' Dn H' σ h2 h1 fun σ' H'' h3 h4 => knx σ' H'' g' s' M' h3 h4
  -- sort, place
  obtain ⟨a0, a1⟩ := roll_range s.dc (m := 9) (by decide)
  refine ⟨_, rfl, D, s.dc, 9, rfl, x.dice, by decide, by decide, ?_⟩
  have x1 := x.rolled (roll s.dc 9).2 (SameX.upd (o := .lst (roll s.dc 9).2.vs)) upd_same
  generalize upd H D (.lst (roll s.dc 9).2.vs) = H1 at x1 ⊢
  generalize (roll s.dc 9).1 = so at a0 a1 ⊢
  generalize s.roll (roll s.dc 9).2 = s1 at x1
  clear x
  have hL := x1.wl.lst
  rw [x1.wi.el] at hL
  have i4 := x1.wi.l4
  have ine : 0 < s1.ids.length := List.length_pos_iff.mpr x1.wi.ne
  have elen : (((s1.ids.map fun n => V.ref (s1.ra n)).length : Nat) : Int) = (s1.ids.length : Int) := by rw [List.length_map]
  obtain ⟨b0, b1⟩ := roll_range s1.dc (m := (s1.ids.length : Int)) (by omega)
  refine ⟨_, rfl, _, rfl, l, _, rfl, .inl (SqL.of hL), ?_⟩
  rw [elen]
  refine ⟨D, s1.dc, (s1.ids.length : Int), rfl, x1.dice, by omega, by omega, ?_⟩
  have x2 := x1.rolled (roll s1.dc (s1.ids.length : Int)).2 (SameX.upd (o := .lst (roll s1.dc (s1.ids.length : Int)).2.vs)) upd_same
  generalize upd H1 D (.lst (roll s1.dc (s1.ids.length : Int)).2.vs) = H2 at x2 ⊢
  obtain ⟨pl, hpl⟩ : ∃ pl : Nat, (roll s1.dc (s1.ids.length : Int)).1 = (pl : Int) := ⟨(roll s1.dc (s1.ids.length : Int)).1.toNat, by omega⟩
  rw [hpl] at b0 b1 ⊢
  have plt : pl < s1.ids.length := by omega
  have eids : (s1.roll (roll s1.dc (s1.ids.length : Int)).2).ids = s1.ids := rfl
  rw [← eids] at plt
  generalize s1.roll (roll s1.dc (s1.ids.length : Int)).2 = s2 at x2 plt
  clear x1 hpl b0 b1 eids hL elen i4 ine
  refine ⟨_, _, rfl, ?_⟩
  have x3 := x2
  generalize H2 = H3 at x3 ⊢
  clear x2
  -- space, words
  have hL := x3.wl.lst
  rw [x3.wi.el] at hL
  obtain ⟨n, hi⟩ : ∃ n, s2.ids[pl]? = some n := ⟨_, List.getElem?_eq_getElem plt⟩
  have hn := List.mem_of_getElem? hi
  refine ⟨_, rfl, _, rfl, l, _, _, _, rfl, rfl, SqL.of hL, atI_nat (by rw [List.getElem?_map, hi]; rfl), ?_⟩
  refine ⟨s2.ra n, _, rfl, SqL.of (x3.wl.ra hn), rfl, _, _, rfl, _, _, rfl, rfl, ?_⟩
  -- address, word
  have hln := WS.len x3.wi hn
  have h64 := x3.wi.sv.t64 n
  have elw : ((((s2.ws n).map V.int).length : Nat) : Int) = ((s2.ws n).length : Int) := by rw [List.length_map]
  refine ⟨_, rfl, _, rfl, s2.wa n, _, rfl, .inl (SqL.of (x3.wl.wa hn)), _, _, rfl, rfl, ?_⟩
  dsimp only
  rw [elw]
  obtain ⟨d0, d1⟩ := roll_range s2.dc (m := ((s2.ws n).length : Int) + 3) (by omega)
  refine ⟨D, s2.dc, ((s2.ws n).length : Int) + 3, rfl, x3.dice, by omega, by omega, ?_⟩
  have x4 := x3.rolled (roll s2.dc (((s2.ws n).length : Int) + 3)).2 (SameX.upd (o := .lst (roll s2.dc (((s2.ws n).length : Int) + 3)).2.vs)) upd_same
  generalize upd H3 D (.lst (roll s2.dc (((s2.ws n).length : Int) + 3)).2.vs) = H4 at x4 ⊢
  generalize (roll s2.dc (((s2.ws n).length : Int) + 3)).1 = ad at d0 ⊢
  have f1 : s2.wa n = (s2.roll (roll s2.dc (((s2.ws n).length : Int) + 3)).2).wa n := rfl
  have f2 : s2.sa n = (s2.roll (roll s2.dc (((s2.ws n).length : Int) + 3)).2).sa n := rfl
  have hi : (s2.roll (roll s2.dc (((s2.ws n).length : Int) + 3)).2).ids[pl]? = some n := hi
  have hn : n ∈ (s2.roll (roll s2.dc (((s2.ws n).length : Int) + 3)).2).ids := hn
  rw [f1, f2]
  generalize s2.roll (roll s2.dc (((s2.ws n).length : Int) + 3)).2 = s3 at x4 hi hn ⊢
  clear x3 d1 f1 f2 hln h64 elw hL plt
  refine ⟨_, rfl, D, s3.dc, 1000, rfl, x4.dice, by decide, by decide, ?_⟩
  have x5 := x4.rolled (roll s3.dc 1000).2 (SameX.upd (o := .lst (roll s3.dc 1000).2.vs)) upd_same
  generalize upd H4 D (.lst (roll s3.dc 1000).2.vs) = H5 at x5 ⊢
  generalize (roll s3.dc 1000).1 = wd
  have f1 : s3.wa n = (s3.roll (roll s3.dc 1000).2).wa n := rfl
  have f2 : s3.sa n = (s3.roll (roll s3.dc 1000).2).sa n := rfl
  have hi : (s3.roll (roll s3.dc 1000).2).ids[pl]? = some n := hi
  have hn : n ∈ (s3.roll (roll s3.dc 1000).2).ids := hn
  rw [f1, f2]
  generalize s3.roll (roll s3.dc 1000).2 = s4 at x5 hi hn ⊢
  clear x4 f1 f2
  refine ⟨by show 2 ≤ sizeLine; decide, fun T2 nT2 => ⟨T2, _, rfl, SqT.of upd_same, rfl, _, _, rfl, _, _, rfl, rfl, ?_⟩⟩
  have x6 := x5.same (same_upd (o := .tup [.int ad, .int wd]) nT2)
  generalize upd H5 T2 (.tup [.int ad, .int wd]) = H6 at x6 ⊢
  clear x5 nT2
  have hL := x6.wl.lst
  rw [x6.wi.el] at hL
  -- what is done
  refine ⟨_, rfl, _, _, rfl, rfl, _, rfl, ite2 (fun _ => ?_) (fun _ => ?_)⟩
  · exact qL p a D R l slots many step n ad wd s4 g M _ H6 _ _ _ _ _ _ _ _ _ x6 hn d0 fin
  refine ⟨_, rfl, _, _, rfl, rfl, _, rfl, ite2 (fun _ => ?_) (fun _ => ?_)⟩
  · exact qS p a D R l slots many step n ad wd s4 g M _ H6 _ _ _ _ _ _ _ _ _ x6 hn d0 fin
  refine ⟨_, rfl, rfl, _, rfl, ite2 (fun _ => ⟨_, rfl, l, _, rfl, .inl (SqL.of hL), _, _, rfl, rfl, _, rfl, ite2 (fun c => ?F) (fun _ => ?X1)⟩) (fun _ => iteF ?X2)⟩
  case F =>
    have c : s4.ids.length < 4 := by
      have : ((((s4.ids.map fun n => V.ref (s4.ra n)).length : Nat) : Int)) < 4 := of_decide_eq_true c
      rw [List.length_map] at this
      omega
    exact qF p a D R l slots many step n ad wd s4 g M _ H6 _ _ _ _ _ _ _ _ _ x6 hn c h60 fin
  all_goals
    refine ⟨_, rfl, rfl, _, rfl, ite2 (fun _ => ?_) (fun _ => ?_)⟩
    · exact qG p a D R l slots many step n pl s4 g M _ H6 _ _ _ _ _ _ _ _ _ _ x6 hi fin
    · refine ⟨_, rfl, rfl, _, rfl, ite2 (fun _ => ⟨_, rfl, l, _, rfl, .inl (SqL.of hL), _, _, rfl, rfl, _, rfl, ite2 (fun c => ?_) (fun _ => ?_)⟩) (fun _ => iteF ?_)⟩
      · have c : 1 < s4.ids.length := by
          have : ((((s4.ids.map fun n => V.ref (s4.ra n)).length : Nat) : Int)) > 1 := of_decide_eq_true c
          rw [List.length_map] at this
          omega
        exact qR p a D R l slots many step n pl s4 g M _ H6 _ _ _ _ _ _ _ _ _ _ _ x6 hi c fin
      · exact fin _ H6 g s4 M ⟨_, _, _, _, _, _, _, _, _, _, _, _, _, rfl⟩ ⟨x6.wl, x6.wi.next⟩
      · exact fin _ H6 g s4 M ⟨_, _, _, _, _, _, _, _, _, _, _, _, _, rfl⟩ ⟨x6.wl, x6.wi.next⟩
end
end K07
namespace K07
open PySem L2 HK
theorem dps_ints {K : PySem.W.Frag} {H : Hp} : ∀ l : List Int, DpAll K H (l.map V.int) (l.map PyData.int)
  | [] => .nil
  | i :: r => .cons (.int i) (dps_ints r)
theorem dp_ints {K : PySem.W.Frag} {H : Hp} {a : Addr} {l : List Int} (h : H a = some (.lst (l.map V.int))) : Dp K H (.ref a) (.list (l.map PyData.int)) := .lst (SqL.of h) (dps_ints l)
theorem shaped_ints (l : List Int) : SeqAt.shaped (.list (l.map PyData.int)) = true := by
  have := PySem.W.ke_shaped_ints l
  unfold SeqAt.shaped at this ⊢
  simpa [PyData.canLay0, PyData.depth] using this
theorem room66 {k : Nat} {A : Around} (hr : Room k A) : A.units + 66 < cLine := by have := hr.un; omega
section
variable {P : Program} {w : World} {K : PySem.W.Frag} {mg : Str → Option Value} {base : Heap} {CP CF CS CE g0 : Addr}
/-- what is left in the end -/
theorem end_ok (L : LTxt P w K mg base CP CF CS CE g0) {f c0 PT : Addr} {A : Around} {outer : List Env} {s0 : Shared} {H0 : Hp} {E9 : XK} (hr : Room 8 (LCx P w K mg base f c0 A outer s0 H0 E9).A) :
    ∃ t, PSs (LCx P w K mg base f c0 A outer s0 H0 E9) (diceBody.drop 6) t ∧ ∀ (p a D R l : Addr) (slots many step : Nat) (s : LS) (g : G) (M : Nat → Nat → List Int) (Dn : Ends) (H : Hp) (σ : L2.St),
      WS ⟨CP, CF, CS, p⟩ PT D R l slots many step s g M H → Six a D l p slots many σ →
      (∀ σ H', Six a D l p slots many σ → H' R = some (.lst [.ref D]) → LamX.Tabs [(PT, lamQ)] H' → Dn.nx σ H') →
      t Dn σ H := by
  have T0 := L.T 0
  obtain ⟨fA, dA, FA, mA, bA⟩ := L.all
  obtain ⟨fW, dW, FW, mW, bW⟩ := L.wc
  obtain ⟨fL, dL, FL, mL, bL⟩ := L.rel
  have rA := FA.mono (show 6 ≤ 8 by decide)
  have rW := FW.mono (show 1 ≤ 8 by decide)
  have rL := FL.mono (show 2 ≤ 8 by decide)
  refine ⟨_, pss_cons (ps_if (pt_cmpR op_eq (pv 2) pe_int (nomark _)) (pss_one (ps_for PassesOwn.never rfl (pi_list (pv 5)) (pg_unl rfl (pgs_cons (pg_name (i := 16) scLaw.nd rfl (Or.inr rfl)) (pgs_cons (pg_name (i := 9) scLaw.nd rfl (Or.inl rfl)) pgs_nil)))
        (pss_one (ps_if (PW.pt (pw_or (pt_cmpR (op_neD hr.units) (pe_callTy call_list_of (by rfl) T0.list PyProof.Rows.Boot.«list» (pa_cons (pe_meth0 (pv 16) T0.cs mA rA hr bA .nil pass0) pa_nil)) (pv 9) (nomark _))
          (pw_or1 (pt_cmpR op_ne (pe_meth0 (pv 16) T0.cs mW rW hr bW .nil pass0) (pe_callB call_len_seq (by rfl) T0.len PySem.boot_len (pa_cons (pv 9) pa_nil)) (nomark _))))) (pss_one (ps_ret pe_bl)) pss_nil)))) pss_nil)
    (pss_cons (ps_for PassesOwn.never rfl (pi_list (pv 5)) (pg_unl rfl (pgs_cons (pg_name (i := 16) scLaw.nd rfl (Or.inr rfl)) (pgs_cons (pg_name (i := 9) scLaw.nd rfl (Or.inl rfl)) pgs_nil)))
        (pss_one (ps_expr (pe_meth (pv 4) T0.cp mL rL hr bL .nil pass0 (pa_cons (pv 16) pa_nil)))))
    (pss_cons (ps_if (PW.pt (pw_or (pt_cmpR (op_neD hr.units) (pe_lc (own := [("frame", 18)]) (g := gName 18) (te := tVar 18) (by rfl) scLaw.nd (pi_list (pe_fld (pv 4) rfl)) (blkOk_by (N := NL) (sc := defScope sLaw) (by decide +kernel))
        (fun _ _ _ _ _ => pg_name (i := 18) scLaw.nd rfl (Or.inl rfl)) (fun _ _ _ _ _ => pts_one (pt_cmpR op_notN (pv 18) pe_non (nomark _))) (fun _ _ _ _ _ => pv 18)) (pe_lst pa_nil) (nomark _))
      (pw_or1 (pt_cmpR (op_neT0 (room66 hr)) (pe_fld (pv 4) rfl) pe_dnewK (nomark _))))) (pss_one (ps_ret pe_bl)) pss_nil)
    (pss_one (ps_if (pt_cmpR op_gt (pe_fld (pv 4) rfl) (pe_op op_add (pe_fld (pv 4) rfl) (pe_fld (pv 4) rfl)) (nomark _)) (pss_one (ps_ret pe_bl)) pss_nil)))), ?_⟩
  intro p a D R l slots many step s g M Dn H σ x hσ knx
  obtain ⟨u6, u7, u8, u9, u10, u11, u12, u13, u14, u15, u16, u17, u18, rfl⟩ := hσ
  have hlen : ∀ n, n ∈ s.ids → (s.ws n).length = 8 * (g.T n).length := fun n hn => WS.len x.wi hn
  refine ⟨_, rfl, rfl, _, rfl, ite2 (fun c => ?A) (fun _ => ?B)⟩
  case' A =>
    have c : slots = 1000 := by
      have : ((slots : Int)) = 1000 := by simpa using c
      omega
    have hL := x.wl.lst
    rw [x.wi.el] at hL
    refine ⟨_, rfl, l, rfl, ⟨_, SqL.of hL⟩, ?_⟩
    refine for_list (K := K) (a := l) (xs := s.ids.map fun n => V.ref (s.ra n)) (fun i σ H' => ∃ g', WS ⟨CP, CF, CS, p⟩ PT D R l slots many step s g' M H' ∧ Six a D l p slots many σ) ⟨g, x, _, _, _, _, _, _, _, _, _, _, _, _, _, rfl⟩ (fun i σ H' hi q => ?_) (fun i z σ H' hx q => ?_) (fun σ H' q => ?_)
    · obtain ⟨g', x', _⟩ := q
      have := x'.wl.lst
      rw [x'.wi.el] at this
      exact SqL.of this
    · obtain ⟨g', x', u6, u7, u8, u9, u10, u11, u12, u13, u14, u15, u16, u17, u18, rfl⟩ := q
      rw [List.getElem?_map] at hx
      obtain ⟨n, hn', rfl⟩ := Option.map_eq_some_iff.mp hx
      have hn := List.mem_of_getElem? hn'
      have hsa := x'.wi.sa n hn
      have hlt := x'.wi.lt n hn
      refine ⟨s.ra n, _, rfl, SqL.of (x'.wl.ra hn), rfl, _, _, rfl, _, _, rfl, rfl, ?_⟩
      rw [hsa]
      refine ⟨_, rfl, g'.sa n, g'.sx n, _, rfl, x'.wl.at_.si hlt, rfl, p, g', n, M, rfl, x'.wl.at_, x'.wi.iv, x'.wi.sv, hlt, x'.wi.room c, fun g2 H2 t go iv sv st ht => ?_⟩
      have x2 : WS ⟨CP, CF, CS, p⟩ PT D R l slots many step s g2 M H2 := ⟨x'.wl.prog go, x'.wi.load iv sv st⟩
      refine ⟨t, _, rfl, .inr (SqT.of ht), fun q nq => ?_⟩
      have x3 := x2.same (same_upd (o := .lst ((wordsOf M n (8 * (g'.T n).length)).map V.int)) nq)
      have hq : (upd H2 q (.lst ((wordsOf M n (8 * (g'.T n).length)).map V.int))) q = some (.lst ((wordsOf M n (8 * (g'.T n).length)).map V.int)) := upd_same
      generalize upd H2 q (.lst ((wordsOf M n (8 * (g'.T n).length)).map V.int)) = H3 at x3 hq ⊢
      have hw := x3.wl.wa hn
      have ew : s.ws n = wordsOf M n (8 * (g'.T n).length) := x'.wi.ws n hn
      refine ⟨_, rfl, _, _, dp_ints hq, dp_ints hw, shaped_ints _, shaped_ints _, _, rfl, ?_⟩
      rw [ew, SeqAt.eqv_refl _ (SeqAt.canLay_of_shaped (shaped_ints _))]
      have esa2 : g'.sa n = g2.sa n := by rw [← hsa]; exact x2.wi.sa n hn
      rw [esa2]
      have hlt2 := x2.wi.lt n hn
      refine iteF ⟨_, rfl, g2.sa n, g2.sx n, _, rfl, x3.wl.at_.si hlt2, rfl, p, g2, n, rfl, x3.wl.at_, hlt2, x2.wi.sv.t64 n, _, rfl, s.wa n, _, rfl, .inl (SqL.of hw), rfl, _, rfl, ite2 (fun cc => ?_) (fun _ => ?_)⟩
      · refine absurd cc ?_
        rw [List.length_map, WS.len x2.wi hn]
        simp
      · exact ⟨g2, x3, _, _, _, _, _, _, _, _, _, _, _, _, _, rfl⟩
    clear x hlen hL
    obtain ⟨g, x, u6, u7, u8, u9, u10, u11, u12, u13, u14, u15, u16, u17, u18, rfl⟩ := q
  case' B => clear hlen
  all_goals
    have hL := x.wl.lst
    rw [x.wi.el] at hL
    refine ⟨_, rfl, l, rfl, ⟨_, SqL.of hL⟩, ?_⟩
    refine for_list (K := K) (a := l) (xs := s.ids.map fun n => V.ref (s.ra n)) (fun i σ H' => ∃ g', WL ⟨CP, CF, CS, p⟩ PT s g' H' ∧ Iv (Lv g') M g' ∧ Sv g' ∧ g'.sa = g.sa ∧ g'.ns = g.ns ∧ (∀ m, g'.T m ≠ [] → m ∈ s.ids.drop i) ∧ Six a D l p slots many σ)
      ⟨g, x.wl, x.wi.iv, x.wi.sv, rfl, rfl, x.wi.liv, _, _, _, _, _, _, _, _, _, _, _, _, _, rfl⟩ (fun i σ H' hi q => ?_) (fun i z σ H' hx q => ?_) (fun σ H' q => ?_)
    · obtain ⟨g', x', _⟩ := q
      have := x'.lst
      rw [x.wi.el] at this
      exact SqL.of this
    · obtain ⟨g', x', iv, sv, esa, ens, liv, u6, u7, u8, u9, u10, u11, u12, u13, u14, u15, u16, u17, u18, rfl⟩ := q
      rw [List.getElem?_map] at hx
      obtain ⟨n, hn', rfl⟩ := Option.map_eq_some_iff.mp hx
      have hn := List.mem_of_getElem? hn'
      have hsa : s.sa n = g'.sa n := by rw [esa]; exact x.wi.sa n hn
      have hlt : n < g'.ns := by rw [ens]; exact x.wi.lt n hn
      refine ⟨s.ra n, _, rfl, SqL.of (x'.ra hn), rfl, _, _, rfl, _, _, rfl, rfl, ?_⟩
      rw [hsa]
      refine ⟨_, rfl, p, g'.px, _, rfl, x'.at_.pg, rfl, _, rfl, p, g', n, M, rfl, x'.at_, iv, sv, hlt, fun g2 H2 go iv2 sv2 st2 tl => ?_⟩
      refine ⟨g2, x'.prog go, iv2, sv2, by rw [st2.sa]; exact esa, by rw [st2.ns]; exact ens, fun m hm => ?_, _, _, _, _, _, _, _, _, _, _, _, _, _, rfl⟩
      have ne : m ≠ n := fun e => hm (List.eq_nil_of_length_eq_zero (by rw [tl, if_pos e]))
      have hm' : g'.T m ≠ [] := fun z => hm (List.eq_nil_of_length_eq_zero (by rw [tl, if_neg ne, z]; rfl))
      have := liv m hm'
      obtain ⟨hil, hie⟩ := List.getElem?_eq_some_iff.mp hn'
      rw [List.drop_eq_getElem_cons hil, hie] at this
      exact (List.mem_cons.mp this).resolve_left ne
    · obtain ⟨g', x', iv, sv, esa, ens, liv, u6, u7, u8, u9, u10, u11, u12, u13, u14, u15, u16, u17, u18, rfl⟩ := q
      rw [List.length_map, List.drop_length] at liv
      have noL : ∀ m b, ¬ Lv g' m b := fun m b h => by
        have h : b < (g'.T m).length := h
        have := liv m (fun e => by rw [e] at h; exact Nat.not_lt_zero _ h)
        cases this
      have noF : ∀ ff k : Nat, g'.fr[ff]? ≠ some (some k) := fun ff k e => by
        obtain ⟨_, ne, _⟩ := iv.fk ff k e
        cases eo : g'.O k with
        | nil => exact ne eo
        | cons y r => exact noL _ _ (iv.ow ff k e y (by rw [eo]; simp)).1
      have noS : g'.sw = [] := by
        cases es : g'.sw with
        | nil => rfl
        | cons y r => exact absurd (iv.sl y (by rw [es]; simp)).1 (noL _ _)
      have at1 := x'.at_
      refine ⟨_, rfl, p, CP, g'.px, _, _, rfl, at1.pg, T0.cp, T0.p1, rfl, g'.fl, rfl, ⟨_, SqL.of at1.fl⟩, fun D1 nD1 => ?_⟩
      refine lc_list (K := K) (a := g'.fl) (xs := g'.fr.map (fV g'.fa)) (fun i H2 => Same H' H2 ∧ H2 D1 = some (.lst [])) ⟨same_upd nD1, upd_same⟩ (fun i H2 hi q => SqL.of (q.1 _ _ at1.fl)) (fun i z H2 hx q => ?_) (fun H2 q => ?_)
      · obtain ⟨sm, hD⟩ := q
        rw [List.getElem?_map] at hx
        obtain ⟨o, ho, rfl⟩ := Option.map_eq_some_iff.mp hx
        refine ⟨rfl, _, rfl, rfl, _, rfl, ?_⟩
        cases o with
        | none => exact iteF ⟨sm, hD⟩
        | some k => exact absurd ho (noF i k)
      · obtain ⟨sm, hD⟩ := q
        refine ⟨by show 0 ≤ sizeLine; decide, fun e ne => ?_⟩
        have s4 : Same H2 (upd H2 e (.lst [])) := same_upd ne
        have x2 := x'.same (sm.trans s4)
        refine ⟨.list [], .list [], Dp.lst (SqL.of (s4 _ _ hD)) .nil, Dp.lst (SqL.of upd_same) .nil, rfl, rfl, _, rfl, iteF ?_⟩
        generalize upd H2 e (.lst []) = H3 at x2 ⊢
        refine ⟨_, rfl, p, CP, g'.px, _, _, rfl, x2.at_.pg, T0.cp, T0.p4, rfl, fun d nd => ?_⟩
        have x3 := x2.same (same_upd (o := .dK []) nd)
        have hd : (upd H3 d (.dK [])) d = some (.dK []) := upd_same
        generalize upd H3 d (.dK []) = H4 at x3 hd ⊢
        have hsd := x3.at_.sd
        rw [noS] at hsd
        refine ⟨g'.sd, d, rfl, rfl, hsd, hd, _, rfl, iteF ?_⟩
        have c9 : ¬ ((g'.ev : Int) > (g'.faults : Int) + (g'.cp : Int)) := by have := sv.evf; omega
        refine ⟨_, rfl, p, CP, g'.px, _, _, rfl, x3.at_.pg, T0.cp, T0.p8, rfl, _, rfl, p, CP, g'.px, _, _, rfl, x3.at_.pg, T0.cp, T0.p7, rfl, _, rfl, p, CP, g'.px, _, _, rfl, x3.at_.pg, T0.cp, T0.p9, rfl, _, _, rfl, rfl, _, _, rfl, rfl, _, rfl, ite2 (fun c => absurd (of_decide_eq_true c) c9) (fun _ => ?_)⟩
        have hrow := x3.row
        rw [x.wi.eR, x.wi.eD] at hrow
        exact knx _ _ ⟨_, _, _, _, _, _, _, _, _, _, _, _, _, rfl⟩ hrow x3.tabs
end
end K07
namespace K07
open PySem L2 HK
theorem mvt_upd {H : Hp} {D : Addr} {xs ys : List V} (h : H D = some (.lst xs)) : MvT H (upd H D (.lst ys)) := fun b o hb ns => by
  rw [upd_ne (fun e => ns (by rw [e, h] at hb; rw [← hb]; exact .inl ⟨_, rfl⟩))]; exact hb
theorem mvt_same {H H' : Hp} (h : Same H H') : MvT H H' := fun b o hb _ => h b o hb
theorem at_upd {C : CA} {g : G} {H : Hp} {D : Addr} {xs ys : List V} (a : At C g H) (hx : H D = some (.lst xs)) (nO : ¬ Own C g D) : At C g (upd H D (.lst ys)) := by
  have tk : ∀ t zs, H t = some (.tup zs) → (upd H D (.lst ys)) t = some (.tup zs) := fun t zs h => by rw [upd_ne (ne_of h hx (by intro z; cases z))]; exact h
  refine ⟨fun x b u h => ?_, a.inj, fun i hi y hy => tk _ _ (a.tp1 i hi y hy), fun y hy => tk _ _ (a.tp2 y hy)⟩
  rw [upd_ne (fun e => nO ⟨x, u, by rw [← e]; exact h⟩)]; exact a.get x b u h
/-- what is read of pages never written -/
theorem words_zero (n l : Nat) : wordsOf (fun _ _ => zero8) n l = List.replicate l 0 := by
  refine List.eq_replicate_iff.mpr ⟨words_len _ _ _, fun y hy => ?_⟩
  unfold wordsOf at hy
  obtain ⟨b, _, rfl⟩ := List.mem_map.mp hy
  rw [wAt_nat]
  have : b % 8 < 8 := by omega
  unfold zero8
  rw [List.getD_eq_getElem?_getD, List.getElem?_replicate, if_pos this]; rfl
theorem first_iv {px fl sd pd a ax q : Addr} {slots many pages : Nat} : Iv (Lv (spaceG (newP px fl sd pd slots many) a ax q pages)) (fun _ _ => zero8) (spaceG (newP px fl sd pd slots many) a ax q pages) := by
  have no : ∀ f k : Nat, (List.replicate many (none : Option Nat))[f]? ≠ some (some k) := fun f k e => by
    have := List.mem_of_getElem? e
    rw [List.mem_replicate] at this
    cases this.2
  have tn : ∀ n j f : Nat, (fset (fun _ => ([] : List (Option Nat))) 0 (List.replicate pages none) n)[j]? ≠ some (some f) := fun n j f e => by
    have := List.mem_of_getElem? e
    unfold fset at this
    split at this
    · rw [List.mem_replicate] at this
      cases this.2
    · cases this
  exact { fk := fun f k e => absurd e (no f k), ow := fun f k e => absurd e (no f k), tb := fun a b f _ h => absurd h (tn a b f), sn := List.nodup_nil, sl := fun x h => (by cases h), nn := fun a b _ _ => .inr rfl, lv := fun n j h => ⟨_, List.getElem?_eq_getElem h⟩, m8 := fun a b h => rfl }
/-- the law's own things, made anew -/
theorem first_wl {C : CA} {PT D R l ra z a : Addr} {dc : Dice} {g : G} {H H' : Hp} (at_ : At C g H) (hD : H D = some (.lst dc.vs)) (hR : H R = some (.lst [.ref D])) (nRD : R ≠ D) (oD : ¬ Own C g D) (oR : ¬ Own C g R) (tb : LamX.Tabs [(PT, lamQ)] H) (sm : Same H H')
    (nz : H z = none) (nr : H ra = none) (nl : H l = none) (n1 : ra ≠ z) (n2 : l ≠ z) (n3 : l ≠ ra) (hz : H' z = some (.lst [])) (hr : H' ra = some (.lst [.ref a, .ref z])) (hl : H' l = some (.lst [.ref ra])) :
    WL C PT ⟨D, R, l, [0], fun _ => ra, fun _ => z, fun _ => a, fun _ => [], dc⟩ g H' := by
  have own : ∀ b, H b = none → ¬ Own C g b := fun b hb ⟨x, o, e⟩ => by rw [at_.get x b o e] at hb; cases hb
  have aD : ∀ b, H b = none → b ≠ D := fun b hb e => by rw [e, hD] at hb; cases hb
  have aR : ∀ b, H b = none → b ≠ R := fun b hb e => by rw [e, hR] at hb; cases hb
  have key : ∀ (y : LL) (b : Addr) (o : HO), cont ⟨D, R, l, [0], fun _ => ra, fun _ => z, fun _ => a, fun _ => [], dc⟩ y = some (b, o) → (y = .d ∧ b = D ∧ o = .lst dc.vs) ∨ (y = .r ∧ b = R ∧ o = .lst [.ref D]) ∨ (y = .l ∧ b = l ∧ o = .lst [.ref ra]) ∨ (y = .ra 0 ∧ b = ra ∧ o = .lst [.ref a, .ref z]) ∨ (y = .wa 0 ∧ b = z ∧ o = .lst []) := fun y b o h => by
    cases y with
    | d => cases h; exact .inl ⟨rfl, rfl, rfl⟩
    | r => cases h; exact .inr (.inl ⟨rfl, rfl, rfl⟩)
    | l => cases h; exact .inr (.inr (.inl ⟨rfl, rfl, rfl⟩))
    | ra n =>
      have h : (if n ∈ [0] then some (ra, HO.lst [.ref a, .ref z]) else none) = some (b, o) := h
      split at h
      · rename_i hn
        cases List.mem_singleton.mp hn
        cases h; exact .inr (.inr (.inr (.inl ⟨rfl, rfl, rfl⟩)))
      · cases h
    | wa n =>
      have h : (if n ∈ [0] then some (z, HO.lst []) else none) = some (b, o) := h
      split at h
      · rename_i hn
        cases List.mem_singleton.mp hn
        cases h; exact .inr (.inr (.inr (.inr ⟨rfl, rfl, rfl⟩)))
      · cases h
  refine ⟨at_.same sm, fun y b o h => ?_, fun y y' b o o' h h' => ?_, fun y b o h => ?_, (mvt_same sm).tabs tb⟩
  · rcases key y b o h with ⟨_, rfl, rfl⟩ | ⟨_, rfl, rfl⟩ | ⟨_, rfl, rfl⟩ | ⟨_, rfl, rfl⟩ | ⟨_, rfl, rfl⟩
    · exact sm _ _ hD
    · exact sm _ _ hR
    · exact hl
    · exact hr
    · exact hz
  · rcases key y b o h with ⟨rfl, e, _⟩ | ⟨rfl, e, _⟩ | ⟨rfl, e, _⟩ | ⟨rfl, e, _⟩ | ⟨rfl, e, _⟩ <;> rcases key y' b o' h' with ⟨rfl, e', _⟩ | ⟨rfl, e', _⟩ | ⟨rfl, e', _⟩ | ⟨rfl, e', _⟩ | ⟨rfl, e', _⟩ <;> first
      | rfl
      | (exfalso; rw [e] at e'; first | exact nRD e' | exact nRD e'.symm | exact n1 e' | exact n1 e'.symm | exact n2 e' | exact n2 e'.symm | exact n3 e' | exact n3 e'.symm | exact aD _ nz e' | exact aD _ nz e'.symm | exact aD _ nr e' | exact aD _ nr e'.symm | exact aD _ nl e' | exact aD _ nl e'.symm | exact aR _ nz e' | exact aR _ nz e'.symm | exact aR _ nr e' | exact aR _ nr e'.symm | exact aR _ nl e' | exact aR _ nl e'.symm)
  · rcases key y b o h with ⟨_, rfl, _⟩ | ⟨_, rfl, _⟩ | ⟨_, rfl, _⟩ | ⟨_, rfl, _⟩ | ⟨_, rfl, _⟩
    · exact oD
    · exact oR
    · exact own _ nl
    · exact own _ nr
    · exact own _ nz
theorem first_wi {D R l ra wa z px fl sd pd a ax q : Addr} {slots many pages : Nat} {dc : Dice} (h1 : 1 ≤ many) (h5 : many ≤ 5) (hp : pages ≤ 64) (p1 : 1 ≤ pages) :
    WI D R l slots many 0 ⟨D, R, l, [0], fun _ => ra, fset (fun _ => z) 0 wa, fun _ => a, fset (fun _ => []) 0 (List.replicate (8 * pages) 0), dc⟩ (spaceG (newP px fl sd pd slots many) a ax q pages) (fun _ _ => zero8) :=
  { iv := first_iv, sv := sp_sv (new_sv h1 h5) hp (Nat.zero_lt_succ _), lt := fun n hn => by rw [List.mem_singleton.mp hn]; exact Nat.zero_lt_succ _
    sa := fun n hn => by rw [List.mem_singleton.mp hn]; rfl
    ws := fun n hn => by
      rw [List.mem_singleton.mp hn, words_zero]
      show fset (fun _ => []) 0 (List.replicate (8 * pages) (0 : Int)) 0 = List.replicate (8 * (fset (fun _ => []) 0 (List.replicate pages (none : Option Nat)) 0).length) 0
      rw [fset_same, fset_same, List.length_replicate]
    nd := by simp, l4 := by show 1 ≤ 4; decide, ne := by simp
    liv := fun n hn => by
      have hn : fset (fun _ => []) 0 (List.replicate pages (none : Option Nat)) n ≠ [] := hn
      by_cases e : n = 0
      · rw [e]; simp
      · rw [fset_ne e] at hn; exact absurd rfl hn
    sl := rfl, fr := List.length_replicate, nsb := Nat.le_refl _, eD := rfl, eR := rfl, el := rfl }
section
variable {P : Program} {w : World} {K : PySem.W.Frag} {mg : Str → Option Value} {base : Heap} {CP CF CS CE g0 : Addr}
/-- what is made at first -/
theorem init_ok (L : LTxt P w K mg base CP CF CS CE g0) {f c0 : Addr} {A : Around} {outer : List Env} {s0 : Shared} {H0 : Hp} {E9 : XK} (hr : Room 8 (LCx P w K mg base f c0 A outer s0 H0 E9).A) :
    ∃ t, PSs (LCx P w K mg base f c0 A outer s0 H0 E9) (diceBody.take 5) t ∧ ∀ (a D R PT : Addr) (dc : Dice) (Dn : Ends) (H : Hp) (u2 u3 u4 u5 u6 u7 u8 u9 u10 u11 u12 u13 u14 u15 u16 u17 u18 : Option V),
      H D = some (.lst dc.vs) → H R = some (.lst [.ref D]) → R ≠ D → LamX.Tabs [(PT, lamQ)] H →
      (∀ σ H' p l slots many s g M, Six a D l p slots many σ → WS ⟨CP, CF, CS, p⟩ PT D R l slots many 0 s g M H' → Dn.nx σ H') →
      t Dn [some (.ref a), some (.ref D), u2, u3, u4, u5, u6, u7, u8, u9, u10, u11, u12, u13, u14, u15, u16, u17, u18] H := by
  have T0 := L.T 0
  obtain ⟨fO, dO, FO, mO, kO, bO⟩ := L.roll
  obtain ⟨fP, dP, FP, MP, bP, _⟩ := L.pinit
  obtain ⟨fS, dS, FS, MS, bS⟩ := L.sinit
  obtain ⟨fW, dW, FW, mW, bW⟩ := L.wc
  have rO := FO.mono (show 1 ≤ 8 by decide)
  have rP := FP.mono (show 1 ≤ 7 by decide)
  have rS := FS.mono (show 2 ≤ 7 by decide)
  have rW := FW.mono (show 1 ≤ 8 by decide)
  refine ⟨_, pss_cons (ps_set (i := 2) scLaw.nd rfl (Or.inl rfl) (pe_ix ix_list (pe_lst (pa_cons pe_int (pa_cons pe_int (pa_cons (pe_call rO hr (by rfl) mO kO bO .nil pass0 (pa_cons (pv 1) (pa_cons pe_int pa_nil))) pa_nil)))) (pe_call rO hr (by rfl) mO kO bO .nil pass0 (pa_cons (pv 1) (pa_cons pe_int pa_nil))) (fun _ _ => rfl)))
    (pss_cons (ps_set (i := 3) scLaw.nd rfl (Or.inl rfl) (pe_op op_add pe_int (pe_call rO hr (by rfl) mO kO bO .nil pass0 (pa_cons (pv 1) (pa_cons pe_int pa_nil)))))
    (pss_cons (ps_set (i := 4) scLaw.nd rfl (Or.inl rfl) (pe_make MP rP hr (by rfl) T0.gP bP .nil passL' (pa_cons (pv 3) (pa_cons (pv 2) pa_nil))))
    (pss_cons (ps_set (i := 5) scLaw.nd rfl (Or.inl rfl) (pe_lst (pa_cons (pe_lst (pa_cons (pe_make MS rS hr (by rfl) T0.gS bS .nil pass0 (pa_cons (pv 4) (pa_cons (pe_op op_add pe_int (pe_call rO hr (by rfl) mO kO bO .nil pass0 (pa_cons (pv 1) (pa_cons pe_int pa_nil)))) pa_nil))) (pa_cons (pe_lst pa_nil) pa_nil))) pa_nil)))
    (pss_one (ps_asg (pe_op op_rep (pe_lst (pa_cons pe_int pa_nil)) (pe_meth0 (pe_ix ix_list (pe_ix ix_list (pv 5) pe_int (fun _ _ => rfl)) pe_int (fun _ _ => rfl)) T0.cs mW rW hr bW .nil pass0))
      (pg_sub (pe_ix ix_list (pv 5) pe_int (fun _ _ => rfl)) pe_int set_list)))))), ?_⟩
  intro a D R PT dc Dn H u2 u3 u4 u5 u6 u7 u8 u9 u10 u11 u12 u13 u14 u15 u16 u17 u18 hD hR nRD hT knx
  -- the slots
  obtain ⟨a0, a1⟩ := roll_range dc (m := 6) (by decide)
  refine ⟨_, rfl, D, dc, 6, rfl, hD, by decide, by decide, ?_⟩
  have hT := (mvt_upd (ys := (roll dc 6).2.vs) hD).tabs hT
  have hR : (upd H D (.lst (roll dc 6).2.vs)) R = some (.lst [.ref D]) := by rw [upd_ne nRD]; exact hR
  have hD : (upd H D (.lst (roll dc 6).2.vs)) D = some (.lst (roll dc 6).2.vs) := upd_same
  generalize upd H D (.lst (roll dc 6).2.vs) = H1 at hD hR hT ⊢
  generalize (roll dc 6).2 = dc1 at hD
  generalize (roll dc 6).1 = r6 at a0 a1 ⊢
  refine ⟨by show 3 ≤ sizeLine; decide, fun l3 nl3 => ?_⟩
  have s2 : Same H1 (upd H1 l3 (.lst [.int 1000, .int 1000, .int r6])) := same_upd nl3
  have hl3 : (upd H1 l3 (.lst [.int 1000, .int 1000, .int r6])) l3 = some (.lst [.int 1000, .int 1000, .int r6]) := upd_same
  have nlD : l3 ≠ D := fun e => by rw [e, hD] at nl3; cases nl3
  generalize upd H1 l3 (.lst [.int 1000, .int 1000, .int r6]) = H2 at s2 hl3 ⊢
  have hD := s2 _ _ hD
  have hR := s2 _ _ hR
  have hT := (mvt_same s2).tabs hT
  obtain ⟨b0, b1⟩ := roll_range dc1 (m := 3) (by decide)
  refine ⟨_, rfl, D, dc1, 3, rfl, hD, by decide, by decide, ?_⟩
  have hl3 : (upd H2 D (.lst (roll dc1 3).2.vs)) l3 = some (.lst [.int 1000, .int 1000, .int r6]) := by rw [upd_ne nlD]; exact hl3
  have hT := (mvt_upd (ys := (roll dc1 3).2.vs) hD).tabs hT
  have hR : (upd H2 D (.lst (roll dc1 3).2.vs)) R = some (.lst [.ref D]) := by rw [upd_ne nRD]; exact hR
  have hD : (upd H2 D (.lst (roll dc1 3).2.vs)) D = some (.lst (roll dc1 3).2.vs) := upd_same
  generalize upd H2 D (.lst (roll dc1 3).2.vs) = H3 at hD hR hT hl3 ⊢
  generalize (roll dc1 3).2 = dc2 at hD
  generalize (roll dc1 3).1 = r3 at b0 b1 ⊢
  obtain ⟨slots, hsl⟩ : ∃ slots : Nat, atI [V.int 1000, .int 1000, .int r6] r3 = some (.int (slots : Int)) := by
    rcases (by omega : r3 = 0 ∨ r3 = 1 ∨ r3 = 2) with e | e | e <;> rw [e]
    · exact ⟨1000, rfl⟩
    · exact ⟨1000, rfl⟩
    · exact ⟨r6.toNat, by rw [Int.toNat_of_nonneg a0]; rfl⟩
  refine ⟨l3, _, _, _, rfl, rfl, SqL.of hl3, hsl, ?_⟩
  clear hsl a0 a1 b0 b1 hl3 nlD s2 nl3
  -- the frames
  obtain ⟨c0, c1⟩ := roll_range dc2 (m := 5) (by decide)
  refine ⟨_, rfl, D, dc2, 5, rfl, hD, by decide, by decide, ?_⟩
  have hT := (mvt_upd (ys := (roll dc2 5).2.vs) hD).tabs hT
  have hR : (upd H3 D (.lst (roll dc2 5).2.vs)) R = some (.lst [.ref D]) := by rw [upd_ne nRD]; exact hR
  have hD : (upd H3 D (.lst (roll dc2 5).2.vs)) D = some (.lst (roll dc2 5).2.vs) := upd_same
  generalize upd H3 D (.lst (roll dc2 5).2.vs) = H4 at hD hR hT ⊢
  generalize (roll dc2 5).2 = dc3 at hD
  obtain ⟨many, hmany⟩ : ∃ many : Nat, 1 + (roll dc2 5).1 = (many : Int) := ⟨(1 + (roll dc2 5).1).toNat, by omega⟩
  refine ⟨_, _, rfl, rfl, ?_⟩
  dsimp only
  rw [hmany]
  have m1 : 1 ≤ many := by omega
  have m5 : many ≤ 5 := by omega
  clear hmany c0 c1
  -- the pager
  refine ⟨_, rfl, _, rfl, fun p px np npx npp => ⟨p, px, (many : Int), slots, rfl, upd_same, by omega, fun c => absurd c (by omega), fun _ fl sd pd H5 sX at5 off => ⟨rfl, ?_⟩⟩⟩
  have hb : ∀ b o, H4 b = some o → H5 b = some o ∧ ¬ Own ⟨CP, CF, CS, p⟩ (newP px fl sd pd slots ((many : Int)).toNat) b := fun b o h => by
    have n1 := ne_of_none h np
    have e : (upd (upd H4 px (.own p)) p (.ins CP px [])) b = some o := by rw [upd_ne n1, upd_ne (ne_of_none h npx)]; exact h
    exact ⟨sX _ _ n1 e, off b o e n1⟩
  rw [Int.toNat_natCast] at at5 hb
  obtain ⟨hD5, oD5⟩ := hb _ _ hD
  obtain ⟨hR5, oR5⟩ := hb _ _ hR
  have hT5 := MvT.tabs (fun b o h _ => (hb b o h).1) hT
  clear hb sX off np npx npp hD hR hT
  -- the first memory
  refine ⟨_, rfl, ?_⟩
  obtain ⟨d0, d1⟩ := roll_range dc3 (m := 4) (by decide)
  refine ⟨_, rfl, D, dc3, 4, rfl, hD5, by decide, by decide, ?_⟩
  have at6 := at_upd (ys := (roll dc3 4).2.vs) at5 hD5 oD5
  have hT6 := (mvt_upd (ys := (roll dc3 4).2.vs) hD5).tabs hT5
  have hR6 : (upd H5 D (.lst (roll dc3 4).2.vs)) R = some (.lst [.ref D]) := by rw [upd_ne nRD]; exact hR5
  have hD6 : (upd H5 D (.lst (roll dc3 4).2.vs)) D = some (.lst (roll dc3 4).2.vs) := upd_same
  generalize upd H5 D (.lst (roll dc3 4).2.vs) = H6 at at6 hD6 hR6 hT6 ⊢
  generalize (roll dc3 4).2 = dc4 at hD6
  obtain ⟨pages, hpages⟩ : ∃ pages : Nat, 1 + (roll dc3 4).1 = (pages : Int) := ⟨(1 + (roll dc3 4).1).toNat, by omega⟩
  clear at5 hD5 hR5 hT5
  refine ⟨_, _, rfl, rfl, ?_⟩
  dsimp only
  rw [hpages]
  have g1 : 1 ≤ pages := by omega
  have g4 : pages ≤ 4 := by omega
  clear hpages d0 d1
  refine fun sa sx nsa nsx nsxa => ⟨p, sa, sx, newP px fl sd pd slots many, pages, H6, rfl, rfl, nsa, nsx, nsxa, at6, by omega, rfl, (fun n h => by cases h), fun q H7 go => ⟨rfl, ?_⟩⟩
  obtain ⟨hD7, oD7⟩ := go.nx _ _ hD6 oD5
  obtain ⟨hR7, oR7⟩ := go.nx _ _ hR6 oR5
  have hT7 := (go.mvt at6).tabs hT6
  have at7 := go.at_
  clear go at6 hD6 hR6 hT6 oD5 oR5 nsa nsx
  have hsi := at7.si (n := 0) (Nat.zero_lt_one)
  have wi := fun l ra wa z => first_wi (D := D) (R := R) (l := l) (ra := ra) (wa := wa) (z := z) (px := px) (fl := fl) (sd := sd) (pd := pd) (a := sa) (ax := sx) (q := q) (slots := slots) (dc := dc4) m1 m5 (show pages ≤ 64 by omega) g1
  have et : (spaceG (newP px fl sd pd slots many) sa sx q pages).T 0 = List.replicate pages none := fset_same (f := fun _ => []) (k := 0)
  have es : (spaceG (newP px fl sd pd slots many) sa sx q pages).sa 0 = sa := fset_same (f := fun _ => 0) (k := 0)
  have hns : 0 < (spaceG (newP px fl sd pd slots many) sa sx q pages).ns := Nat.zero_lt_succ _
  generalize spaceG (newP px fl sd pd slots many) sa sx q pages = g at at7 oD7 oR7 hsi wi et es hns
  refine ⟨by show 0 ≤ sizeLine; decide, fun z nz => ⟨by show 2 ≤ sizeLine; decide, fun ra nra => ⟨by show 1 ≤ sizeLine; decide, fun l nl => ?_⟩⟩⟩
  have s1 : Same H7 (upd (upd (upd H7 z (.lst [])) ra (.lst [.ref sa, .ref z])) l (.lst [.ref ra])) := ((same_upd nz).trans (same_upd nra)).trans (same_upd nl)
  have n1 : ra ≠ z := fun e => by rw [e, upd_same] at nra; cases nra
  have n3 : l ≠ ra := fun e => by rw [e, upd_same] at nl; cases nl
  have n2 : l ≠ z := fun e => by rw [e, upd_ne n1.symm, upd_same] at nl; cases nl
  have nra0 : H7 ra = none := (same_upd nz).free nra
  have nl0 : H7 l = none := ((same_upd nz).trans (same_upd nra)).free nl
  have hz : (upd (upd (upd H7 z (.lst [])) ra (.lst [.ref sa, .ref z])) l (.lst [.ref ra])) z = some (.lst []) := by rw [upd_ne n2.symm, upd_ne n1.symm, upd_same]
  have hra : (upd (upd (upd H7 z (.lst [])) ra (.lst [.ref sa, .ref z])) l (.lst [.ref ra])) ra = some (.lst [.ref sa, .ref z]) := by rw [upd_ne n3.symm, upd_same]
  have hl : (upd (upd (upd H7 z (.lst [])) ra (.lst [.ref sa, .ref z])) l (.lst [.ref ra])) l = some (.lst [.ref ra]) := upd_same
  generalize upd (upd (upd H7 z (.lst [])) ra (.lst [.ref sa, .ref z])) l (.lst [.ref ra]) = H8 at s1 hz hra hl ⊢
  have w8 := first_wl at7 hD7 hR7 nRD oD7 oR7 hT7 s1 nz nra0 nl0 n1 n2 n3 hz hra hl
  clear at7 hD7 hR7 hT7 oD7 oR7 hsi nz nra nl nra0 nl0 s1 hz hra hl
  -- its words
  refine ⟨by show 1 ≤ sizeLine; decide, fun e ne => ?_⟩
  have s9 : Same H8 (upd H8 e (.lst [.int 0])) := same_upd ne
  have he : (upd H8 e (.lst [.int 0])) e = some (.lst [.int 0]) := upd_same
  generalize upd H8 e (.lst [.int 0]) = H9 at s9 he ⊢
  have w9 := w8.same s9
  have m0 : (0 : Nat) ∈ [0] := List.mem_singleton.mpr rfl
  have hsa := w9.at_.si hns
  rw [es] at hsa
  refine ⟨_, rfl, l, _, _, _, rfl, rfl, SqL.of w9.lst, rfl, ra, _, _, _, rfl, rfl, SqL.of (w9.ra m0), rfl, sa, _, _, rfl, hsa, rfl, p, g, 0, by rw [es]; rfl, w9.at_, hns, by rw [et, List.length_replicate]; omega, ?_⟩
  rw [et, List.length_replicate]
  refine ⟨e, _, _, rfl, rfl, he, by omega, by omega, ?_, fun r nr => ?_⟩
  · rw [Int.toNat_natCast]
    have := small (n := 8 * pages) (by omega)
    show 1 * (8 * pages) ≤ sizeLine
    omega
  rw [Int.toNat_natCast, rep_int]
  have s10 : Same H9 (upd H9 r (.lst ((List.replicate (8 * pages) (0 : Int)).map V.int))) := same_upd nr
  have hr10 : (upd H9 r (.lst ((List.replicate (8 * pages) (0 : Int)).map V.int))) r = some (.lst ((List.replicate (8 * pages) (0 : Int)).map V.int)) := upd_same
  generalize upd H9 r (.lst ((List.replicate (8 * pages) (0 : Int)).map V.int)) = H10 at s10 hr10 ⊢
  have w10 := w9.same s10
  refine ⟨_, rfl, l, _, _, _, rfl, rfl, SqL.of w10.lst, rfl, ra, _, _, 1, rfl, rfl, w10.ra m0, rfl, ?_⟩
  refine knx _ _ p l slots many _ g _ ⟨_, _, _, _, _, _, _, _, _, _, _, _, _, rfl⟩ ⟨w9.newW m0 nr (q := r) (l := List.replicate (8 * pages) 0) (fun b o nb hb => by rw [upd_ne nb]; exact s10 _ _ hb) ?_ upd_same, wi l ra r z⟩
  rw [upd_ne (fun e => by rw [e] at nr; have := w9.ra m0; rw [nr] at this; cases this)]; exact hr10
end
end K07
namespace K07
open PySem L2 HK
theorem execs_app (env : Env) (b : List Stmt) : ∀ a : List Stmt, execs (a ++ b) env = (execs a env >>= fun f => match f with | .next => execs b env | f => pure f)
  | [] => rfl
  | s :: r => by
    rw [List.cons_append, execs_cons, execs_cons, bind_assoc]
    refine congrArg (fun k => exec s env >>= k) (funext fun f => ?_)
    cases f with
    | next => exact execs_app env b r
    | _ => rfl
theorem pss_app {X : Cx} {a b : List Stmt} {t u : TS} (h1 : PSs X a t) (h2 : PSs X b u) : PSs X (a ++ b) (tSeq t u) := by
  refine ⟨fun pins s σ H D I h => ?_⟩
  rw [execs_app]
  refine wpAny_bind (thn (h1.run pins s σ H { D with nx := u D } I h) fun f s1 q => ?_)
  cases f with
  | next =>
    obtain ⟨σ', H', I', q⟩ := q
    exact h2.run pins s1 σ' H' D I' q
  | _ => exact wpAny_pure q
theorem dice_cut : diceBody = diceBody.take 5 ++ diceBody.drop 5 := rfl
def spLaw (K : PySem.W.Frag) (P : Addr) : Sp := fun vs H Q _ => ∃ (a : Addr) (ns : List Int), vs = [.ref a] ∧ SqL K H a (ns.map V.int) ∧ LamX.Tabs [(P, lamQ)] H ∧ ∀ H', Q (.bl true) H'
section
variable {P : Program} {w : World} {K : PySem.W.Frag} {mg : Str → Option Value} {base : Heap} {CP CF CS CE g0 : Addr}
/-- one round -/
theorem dice_ok (L : LTxt P w K mg base CP CF CS CE g0) {f c0 PT : Addr} {A : Around} {outer : List Env} {s0 : Shared} {H0 : Hp} {E9 : XK} (TB : LamX.TabB base mg c0 PT) (hr : Room 8 (LCx P w K mg base f c0 A outer s0 H0 E9).A) :
    ∃ t, PSs (LCx P w K mg base f c0 A outer s0 H0 E9) diceBody t ∧ ∀ (a D R : Addr) (dc : Dice) (Dn : Ends) (H : Hp) (u2 u3 u4 u5 u6 u7 u8 u9 u10 u11 u12 u13 u14 u15 u16 u17 u18 : Option V),
      H D = some (.lst dc.vs) → H R = some (.lst [.ref D]) → R ≠ D → LamX.Tabs [(PT, lamQ)] H →
      (∀ H' p l slots many σ, Six a D l p slots many σ → H' R = some (.lst [.ref D]) → LamX.Tabs [(PT, lamQ)] H' → Dn.nx σ H') →
      t Dn [some (.ref a), some (.ref D), u2, u3, u4, u5, u6, u7, u8, u9, u10, u11, u12, u13, u14, u15, u16, u17, u18] H := by
  have T0 := L.T 0
  obtain ⟨fO, dO, FO, mO, kO, bO⟩ := L.roll
  have rO := FO.mono (show 1 ≤ 8 by decide)
  obtain ⟨tI, htI, qI⟩ := init_ok (s0 := s0) (H0 := H0) (E9 := E9) L hr
  obtain ⟨tS, htS, qS⟩ := step_ok (s0 := s0) (H0 := H0) (E9 := E9) L TB hr
  obtain ⟨tE, htE, qE⟩ := end_ok (PT := PT) (s0 := s0) (H0 := H0) (E9 := E9) L hr
  refine ⟨_, by rw [dice_cut]; exact pss_app htI (pss_cons (ps_for PassesOwn.never rfl (pi_range1 (by rfl) T0.range (pa_cons (pe_call rO hr (by rfl) mO kO bO .nil pass0 (pa_cons (pv 1) (pa_cons pe_int pa_nil))) pa_nil)) (pg_name (i := 6) scLaw.nd rfl (Or.inl rfl)) htS) htE), ?_⟩
  intro a D R dc Dn H u2 u3 u4 u5 u6 u7 u8 u9 u10 u11 u12 u13 u14 u15 u16 u17 u18 hD hR nRD hT knx
  refine qI a D R PT dc _ H u2 u3 u4 u5 u6 u7 u8 u9 u10 u11 u12 u13 u14 u15 u16 u17 u18 hD hR nRD hT fun σ H1 p l slots many s g M hσ x => ?_
  obtain ⟨v6, v7, v8, v9, v10, v11, v12, v13, v14, v15, v16, v17, v18, rfl⟩ := hσ
  obtain ⟨t0, t1⟩ := roll_range s.dc (m := 61) (by decide)
  refine ⟨_, rfl, D, s.dc, 61, rfl, x.dice, by decide, by decide, ?_⟩
  have x1 := x.rolled (roll s.dc 61).2 (SameX.upd (o := .lst (roll s.dc 61).2.vs)) upd_same
  generalize upd H1 D (.lst (roll s.dc 61).2.vs) = H2 at x1 ⊢
  generalize s.roll (roll s.dc 61).2 = s1 at x1
  generalize (roll s.dc 61).1 = tn at t0 t1 ⊢
  refine ⟨_, rfl, by omega, by omega, ?_⟩
  refine for_range (n := tn.toNat) (fun i σ H' => ∃ s g M, Six a D l p slots many σ ∧ WS ⟨CP, CF, CS, p⟩ PT D R l slots many i s g M H') ⟨s1, g, M, ⟨_, _, _, _, _, _, _, _, _, _, _, _, _, rfl⟩, x1⟩ (fun i σ H' hi q => ?_) (fun σ H' q => ?_)
  · obtain ⟨s, g, M, hσ, x⟩ := q
    obtain ⟨v6, v7, v8, v9, v10, v11, v12, v13, v14, v15, v16, v17, v18, rfl⟩ := hσ
    exact qS p a D R l slots many i s g M _ H' _ x ⟨_, _, _, _, _, _, _, _, _, _, _, _, _, rfl⟩ (by omega) fun σ H2 g' s' M' hσ x' => ⟨s', g', M', hσ, x'⟩
  · obtain ⟨s, g, M, hσ, x⟩ := q
    exact qE p a D R l slots many _ s g M _ H' σ x hσ fun σ' H2 h1 h2 h3 => knx H2 p l slots many σ' h1 h2 h3
end
end K07
namespace K07
open PySem L2 HK
section
variable {P : Program} {w : World} {K : PySem.W.Frag} {mg : Str → Option Value} {base : Heap} {CP CF CS CE g0 : Addr}
theorem ok_law {f c0 PT : Addr} {oc kV doc pm ct : Value} {od an : Option Addr} {osl : Array (Option Value)}
    (lk : K.lookup f = some ⟨oc, od, .func (PySem.W.fnOf "law" "law" (defArgs sLaw) (defBody sLaw) (defScope sLaw) .none kV doc pm an (.ref c0) ct), osl⟩) (hcd : PySem.W.codeIn K (.ref c0) "law" = true) (TB : LamX.TabB base mg c0 PT) (L : LTxt P w K mg base CP CF CS CE g0) :
    FnOk P w K mg base L2.CX0 9 f (PySem.W.fnOf "law" "law" (defArgs sLaw) (defBody sLaw) (defScope sLaw) .none kV doc pm an (.ref c0) ct) ["script"] (spLaw K PT) := by
  have T0 := L.T 0
  have lexm := L.e11
  obtain ⟨f2, d2, F2, m2, k2, b2⟩ := L.rounds
  obtain ⟨fP, dP, FP, MP, bP, ds, vds, bP1⟩ := L.pinit
  obtain ⟨fS, dS, FS, MS, bS⟩ := L.sinit
  obtain ⟨fL, dL, FL, mL, bL⟩ := L.load
  obtain ⟨fG, dG, FG, mG, bG⟩ := L.grow
  have r2 := F2.mono (show 2 ≤ 8 by decide)
  have rP := FP.mono (show 1 ≤ 7 by decide)
  have rP5 := FP.mono (show 1 ≤ 5 by decide)
  have rS := FS.mono (show 2 ≤ 7 by decide)
  have rL := FL.mono (show 5 ≤ 6 by decide)
  have rG := FG.mono (show 1 ≤ 6 by decide)
  refine fn_of lk hcd scLaw (fun vs H Q E h => ?_) (fun A outer s H vs Q E hr h => ?_)
  · obtain ⟨a, ns, rfl, _⟩ := h
    rfl
  · obtain ⟨a, ns, rfl, ha, hT, k⟩ := h
    suffices hX : ∃ t, PSs (cxOf L2.CX0 P w K mg base NL "law" (defScope sLaw) f (.ref c0) A outer s H E).nox (defBody sLaw) t ∧ t { nx := fun _ H' => Q .non H', rt := Q } (L2.start NL [.ref a]) H by
      obtain ⟨t, h1, h2⟩ := hX
      exact ⟨t, h1.nox, h2⟩
    have hr : Room 8 (cxOf L2.CX0 P w K mg base NL "law" (defScope sLaw) f (.ref c0) A outer s H E).nox.A := hr
    obtain ⟨td, htd, qd⟩ := dice_ok (s0 := s) (H0 := H) (E9 := E) L TB hr
    refine ⟨_, pss_cons (ps_for PassesOwn.never rfl (pi_list (pe_call r2 hr (by rfl) m2 k2 b2 .nil pass0 (pa_cons (pv 0) (pa_cons pe_int pa_nil)))) (pg_name (i := 1) scLaw.nd rfl (Or.inl rfl)) htd)
      (pss_cons (ps_set (i := 15) scLaw.nd rfl (Or.inr rfl) (pe_make MS rS hr (by rfl) T0.gS bS .nil pass0 (pa_cons (pe_make MP rP hr (by rfl) T0.gP bP1 vds passL' (pa_cons pe_int pa_nil)) (pa_cons pe_int pa_nil))))
      (pss_one (ps_ret (pe_and (pe_cmpR op_eq (pe_told (k := 6) L.told TB rfl (by rfl) hr (LamX.lamS_by (sc := defScope sLaw) (by decide +kernel)) rfl (fun _ _ _ _ _ => rfl)
          (fun A1 o1 s1 H1 E1 f1 c1 hr6 => pe_meth (pv 15) T0.cs mG rG hr6 bG .nil (passes_call (takes_of rfl rfl rfl rfl) (fun _ _ _ _ h => h)) (pa_cons pe_int pa_nil))) pe_str (nomark _))
        (pe_and (pe_cmpR op_eq (pe_told (k := 6) L.told TB rfl (by rfl) hr (LamX.lamS_by (sc := defScope sLaw) (by decide +kernel)) rfl (fun _ _ _ _ _ => rfl)
          (fun A1 o1 s1 H1 E1 f1 c1 hr6 => pe_make MP rP5 hr6 (by rfl) T0.gP bP1 vds (passes_call (takes_of rfl rfl rfl rfl) (fun _ _ _ _ h => h)) (pa_cons pe_int pa_nil))) pe_str (nomark _))
        (pe_one (pe_cmpR op_eq (pe_told (k := 6) L.told TB rfl (by rfl) hr (LamX.lamS_by (sc := defScope sLaw) (by decide +kernel)) rfl (fun _ _ _ _ _ => rfl)
          (fun A1 o1 s1 H1 E1 f1 c1 hr6 => pe_meth (pv 15) T0.cs mL rL hr6 bL .nil (passes_call (takes_of rfl rfl rfl rfl) (fun _ _ _ _ h => h)) (pa_cons (pe_op op_sub pe_int pe_int) pa_nil))) pe_str (nomark _)))))))), ?_⟩
    refine ⟨_, rfl, a, ns, rfl, ha, fun H1 R D s1 nR nD nRD hR hD => ?_⟩
    refine ⟨R, rfl, ⟨_, SqL.of hR⟩, ?_⟩
    generalize mkDice (cell0 ns) = dc0 at hD
    refine for_list (K := K) (a := R) (xs := [.ref D]) (fun i σ H' => H' R = some (.lst [.ref D]) ∧ LamX.Tabs [(PT, lamQ)] H' ∧ (i = 0 → σ = L2.start NL [.ref a] ∧ H' = H1) ∧ ∃ u1 u2 u3 u4 u5 u6 u7 u8 u9 u10 u11 u12 u13 u14 u15 u16 u17 u18 : Option V, σ = [some (.ref a), u1, u2, u3, u4, u5, u6, u7, u8, u9, u10, u11, u12, u13, u14, u15, u16, u17, u18])
      ⟨hR, hT.ext s1, fun _ => ⟨rfl, rfl⟩, _, _, _, _, _, _, _, _, _, _, _, _, _, _, _, _, _, _, rfl⟩ (fun i σ H' hi q => SqL.of q.1) (fun i x σ H' hx q => ?_) (fun σ H' q => ?_)
    · match i, hx with
      | 0, hx =>
        obtain rfl : V.ref D = x := Option.some.inj hx
        obtain ⟨rfl, rfl⟩ := q.2.2.1 rfl
        have hT1 := hT.ext s1
        refine qd a D R dc0 _ H' none none none none none none none none none none none none none none none none none hD hR nRD hT1 fun H2 p l slots many σ hσ hR2 hT2 => ?_
        obtain ⟨v6, v7, v8, v9, v10, v11, v12, v13, v14, v15, v16, v17, v18, rfl⟩ := hσ
        exact ⟨hR2, hT2, (fun z => by cases z), _, _, _, _, _, _, _, _, _, _, _, _, _, _, _, _, _, _, rfl⟩
      | i + 1, hx => cases hx
    · obtain ⟨_, hT', _, u1, u2, u3, u4, u5, u6, u7, u8, u9, u10, u11, u12, u13, u14, u15, u16, u17, u18, rfl⟩ := q
      clear hT ha hR hD s1 nR nD
      -- one memory more
      refine fun p px np npx npp => ⟨p, px, 2, 1000, rfl, upd_same, by decide, fun c => absurd c (by decide), fun _ fl sd pd H5 sX at5 off => ⟨rfl, ?_⟩⟩
      have hb : ∀ b o, H' b = some o → H5 b = some o := fun b o h => sX _ _ (ne_of_none h np) (by rw [upd_ne (ne_of_none h np), upd_ne (ne_of_none h npx)]; exact h)
      have hT5 := MvT.tabs (fun b o h _ => hb b o h) hT'
      clear hb sX off np npx npp hT'
      refine fun sa sx nsa nsx nsxa => ⟨p, sa, sx, newP px fl sd pd 1000 (2 : Int).toNat, 1, H5, rfl, rfl, nsa, nsx, nsxa, at5, by decide, rfl, (fun n h => by cases h), fun q H7 go => ⟨rfl, ?_⟩⟩
      have hT7 := (go.mvt at5).tabs hT5
      have at7 := go.at_
      clear go at5 hT5 nsa nsx
      have iv := first_iv (px := px) (fl := fl) (sd := sd) (pd := pd) (a := sa) (ax := sx) (q := q) (slots := 1000) (many := (2 : Int).toNat) (pages := 1)
      have sv := sp_sv (a := sa) (ax := sx) (q := q) (pages := 1) (new_sv (px := px) (fl := fl) (sd := sd) (pd := pd) (slots := 1000) (many := (2 : Int).toNat) (by decide) (by decide)) (by decide) (show (newP px fl sd pd 1000 (2 : Int).toNat).ns < 100 by show 0 < 100; decide)
      have et : ((spaceG (newP px fl sd pd 1000 (2 : Int).toNat) sa sx q 1).T 0).length = 1 := by
        show (fset (fun _ => []) 0 (List.replicate 1 (none : Option Nat)) 0).length = 1
        rw [fset_same]; rfl
      have es : (spaceG (newP px fl sd pd 1000 (2 : Int).toNat) sa sx q 1).sa 0 = sa := fset_same (f := fun _ => 0) (k := 0)
      have hns : 0 < (spaceG (newP px fl sd pd 1000 (2 : Int).toNat) sa sx q 1).ns := Nat.zero_lt_succ _
      generalize spaceG (newP px fl sd pd 1000 (2 : Int).toNat) sa sx q 1 = g at at7 iv sv et es hns
      -- grown too much
      refine ⟨hT7, fun H8 e8 t8 => ?_⟩
      have at8 := at7.ext e8
      have hsi := at8.si hns
      rw [es] at hsi
      refine ⟨_, rfl, sa, _, _, rfl, hsi, rfl, p, g, 0, 64, by rw [es]; rfl, at8, hns, by omega, by decide, fun _ => ?_, fun c => absurd c (by omega)⟩
      refine ⟨true, lexm, fun _ => ?_, fun z => Bool.noConfusion z⟩
      refine ⟨rfl, _, rfl, ite2 (fun _ => ?_) (fun c => absurd (by simp) c)⟩
      -- no frames
      refine ⟨t8, fun H9 e9 t9 => ?_⟩
      have at9 := at8.ext e9
      refine fun p2 px2 n1 n2 n3 => ⟨p2, px2, 0, 1000, rfl, upd_same, by decide, fun _ => ?_, fun c => absurd c (by decide)⟩
      have sm : Same H9 (upd (upd H9 px2 (.own p2)) p2 (.ins CP px2 [])) := fun b o h => by rw [upd_ne (ne_of_none h n1), upd_ne (ne_of_none h n2)]; exact h
      have at10 := at9.same sm
      have t10 := (mvt_same sm).tabs t9
      generalize upd (upd H9 px2 (.own p2)) p2 (.ins CP px2 []) = H10 at at10 t10 ⊢
      refine ⟨true, lexm, fun _ => ?_, fun z => Bool.noConfusion z⟩
      refine ⟨rfl, _, rfl, ite2 (fun _ => ?_) (fun c => absurd (by simp) c)⟩
      -- a word that is not there
      refine ⟨t10, fun H11 e11 t11 => ?_⟩
      have at11 := at10.ext e11
      have hsi := at11.si hns
      rw [es] at hsi
      refine ⟨_, rfl, sa, _, _, rfl, hsi, rfl, _, _, rfl, rfl, p, g, 0, -1, _, by rw [es]; rfl, at11, iv, sv, hns, fun _ => ?_, fun c => absurd c.1 (by decide)⟩
      refine ⟨true, lexm, fun _ => ?_, fun z => Bool.noConfusion z⟩
      exact ⟨rfl, k _⟩
end
end K07
namespace HK
open PySem PySem.Spec PyProof.Rows L2 LamX
theorem tabIn_of {K : PySem.W.Frag} {x : Str} {f c P : Addr} {fd : FuncData} {oc c1 : Value} {od c2 : Option Addr} {sl c3 : Array (Option Value)} {vs : Array Value} (a : PySem.W.nsIn K mainGlobals x = some (some (.ref f))) (l : K.lookup f = some ⟨oc, od, .func fd, sl⟩) (hc : fd.code = .ref c)
    (lc : K.lookup c = some ⟨c1, c2, .fields vs, c3⟩) (hv : vs[11]? = some (.ref P)) : PySem.W.tabIn K x = some (c, P) := by
  unfold PySem.W.tabIn
  rw [a]
  dsimp only
  rw [l]
  dsimp only
  rw [hc]
  dsimp only
  rw [lc]
  dsimp only
  rw [hv]
/-- the end of a law's row, the law's own table of code objects told -/
theorem walk_TT {l : PySem.W.OpenLaw} {n k : Nat} {q : Program} {loose : List Str} {XP : (Str → Option Value) → Heap → Prop} {YP : World → Heap → Prop} {d : DefRec} {K : Params → PySem.W.Frag} {CX : World → CXT} {x : Str}
    (hn : l.most = some n) (hn2 : n ≤ sizeLine) (hdf : d.params.defaults = []) (hr : Room k callerA) (hY : ∀ (w : World) (h : Heap), YP w h → (K w.params).In h) (hrec : (recsOf q).find? (fun e => e.name == d.name) = some d)
    (F : ∀ (w : World) (mg : Str → Option Value) (fa : Addr) (h : Heap), (∀ c P, PySem.W.tabIn (K w.params) d.name = some (c, P) → PySem.W.CodeHd h c P ∧ h.get? P = some ({ cls := .none, data := .fields #[] } : Obj)) → (K w.params).In h → h.Ns mainGlobals mg → mg d.name = some (.ref fa) → LawAtS l w (K w.params) (CX w) k n x mg fa h)
    (hCX : ∀ (w : World) (H : Hp) (s : Shared) (e : Value) (s' : Shared), CX w [] H s (fun _ _ _ => False) e s' → False) :
    PySem.W.WalkO q loose XP YP l.row.toRowW d [] (fun f vs => PySem.call f vs) := by
  refine Att.attach_callB hn hdf fun w s0 s1 mg mb fa o pm cd doc a vs ns G Y ho hd hcd hmg hobj hints hlen hbits hg => ?_
  have KX := hY w _ Y
  obtain ⟨fd, cs, sp, hT, nT, C, hb, hsp, hF⟩ := F w mg fa _ (fun c P ht => PySem.W.tab_of G.T KX hrec ht) KX G.T.g hmg
  exact law_callTs KX G.T.g G.T.b G.T.builtins G.T.nolimit hg hT nT C G.T.bmain hobj hints (Nat.le_trans hlen hn2) hr hF hb (fun H hH hS => hsp H a ns hlen hbits hH hS) fun H e s' => hCX w H s1 e s'
theorem exm_same {K : PySem.W.Frag} {C : Addr} (h1 : PySem.W.subIn K (.ref C) (.type "BaseException") = some true) (h2 : PySem.W.isClsIn K C = true) (h3 : PySem.W.typeIn K (.ref C) = some (.type "type")) (h4 : PySem.W.subIn K (.ref C) (.ref C) = some true) : PySem.W.exmOne K (.ref C) (.ref C) = some true :=
  by
  have e1 : (PySem.W.subIn K (.ref C) (.type "BaseException") == some true) = true := by rw [h1]; rfl
  unfold PySem.W.exmOne
  rw [if_pos e1]
  show (if ((PySem.W.clsIn K C).isSome && PySem.W.typeIn K (.ref C) == some (.type "type")) = true then PySem.W.subIn K (.ref C) (.ref C) else none) = some true
  have e2 : (PySem.W.clsIn K C).isSome = true := h2
  rw [e2, h3, h4]
  rfl
end HK
namespace K07
open PySem L2 HK
theorem all_mk {l : PySem.W.OpenLaw} {w : World} {K : PySem.W.Frag} {h : Heap} {mg : Str → Option Value} {fa : Addr} (X : K.In h) (G : h.Ns mainGlobals mg) (hfa : mg "law" = some (.ref fa))
    (tabs : ∀ c P, PySem.W.tabIn K "law" = some (c, P) → PySem.W.CodeHd h c P ∧ h.get? P = some ({ cls := .none, data := .fields #[] } : Obj))
    {fDice : Addr} {odDice anDice : Option Addr} {slDice : Array (Option Value)} {ocDice kVDice dcDice pmDice cdDice ctDice : Value}
    {fRoll : Addr} {odRoll anRoll : Option Addr} {slRoll : Array (Option Value)} {ocRoll kVRoll dcRoll pmRoll cdRoll ctRoll : Value}
    {fRounds : Addr} {odRounds anRounds : Option Addr} {slRounds : Array (Option Value)} {ocRounds kVRounds dcRounds pmRounds cdRounds ctRounds : Value}
    {fTold : Addr} {odTold anTold : Option Addr} {slTold : Array (Option Value)} {ocTold kVTold dcTold pmTold cdTold ctTold : Value}
    {fFI : Addr} {odFI anFI : Option Addr} {slFI : Array (Option Value)} {ocFI kVFI dcFI pmFI cdFI ctFI : Value}
    {fNext : Addr} {odNext anNext : Option Addr} {slNext : Array (Option Value)} {ocNext kVNext dcNext pmNext cdNext ctNext : Value}
    {fFof : Addr} {odFof anFof : Option Addr} {slFof : Array (Option Value)} {ocFof kVFof dcFof pmFof cdFof ctFof : Value}
    {fOwn : Addr} {odOwn anOwn : Option Addr} {slOwn : Array (Option Value)} {ocOwn kVOwn dcOwn pmOwn cdOwn ctOwn : Value}
    {fPut : Addr} {odPut anPut : Option Addr} {slPut : Array (Option Value)} {ocPut kVPut dcPut pmPut cdPut ctPut : Value}
    {fShare : Addr} {odShare anShare : Option Addr} {slShare : Array (Option Value)} {ocShare kVShare dcShare pmShare cdShare ctShare : Value}
    {fFree : Addr} {odFree anFree : Option Addr} {slFree : Array (Option Value)} {ocFree kVFree dcFree pmFree cdFree ctFree : Value}
    {fRnd : Addr} {odRnd anRnd : Option Addr} {slRnd : Array (Option Value)} {ocRnd kVRnd dcRnd pmRnd cdRnd ctRnd : Value}
    {fNtg : Addr} {odNtg anNtg : Option Addr} {slNtg : Array (Option Value)} {ocNtg kVNtg dcNtg pmNtg cdNtg ctNtg : Value}
    {fMov : Addr} {odMov anMov : Option Addr} {slMov : Array (Option Value)} {ocMov kVMov dcMov pmMov cdMov ctMov : Value}
    {fEvi : Addr} {odEvi anEvi : Option Addr} {slEvi : Array (Option Value)} {ocEvi kVEvi dcEvi pmEvi cdEvi ctEvi : Value}
    {fRel : Addr} {odRel anRel : Option Addr} {slRel : Array (Option Value)} {ocRel kVRel dcRel pmRel cdRel ctRel : Value}
    {fLea : Addr} {odLea anLea : Option Addr} {slLea : Array (Option Value)} {ocLea kVLea dcLea pmLea cdLea ctLea : Value}
    {fSI : Addr} {odSI anSI : Option Addr} {slSI : Array (Option Value)} {ocSI kVSI dcSI pmSI cdSI ctSI : Value}
    {fWc : Addr} {odWc anWc : Option Addr} {slWc : Array (Option Value)} {ocWc kVWc dcWc pmWc cdWc ctWc : Value}
    {fChk : Addr} {odChk anChk : Option Addr} {slChk : Array (Option Value)} {ocChk kVChk dcChk pmChk cdChk ctChk : Value}
    {fLoad : Addr} {odLoad anLoad : Option Addr} {slLoad : Array (Option Value)} {ocLoad kVLoad dcLoad pmLoad cdLoad ctLoad : Value}
    {fSto : Addr} {odSto anSto : Option Addr} {slSto : Array (Option Value)} {ocSto kVSto dcSto pmSto cdSto ctSto : Value}
    {fGrow : Addr} {odGrow anGrow : Option Addr} {slGrow : Array (Option Value)} {ocGrow kVGrow dcGrow pmGrow cdGrow ctGrow : Value}
    {fFork : Addr} {odFork anFork : Option Addr} {slFork : Array (Option Value)} {ocFork kVFork dcFork pmFork cdFork ctFork : Value}
    {fAll : Addr} {odAll anAll : Option Addr} {slAll : Array (Option Value)} {ocAll kVAll dcAll pmAll cdAll ctAll : Value}
    {fL cL PT : Addr} {odL anL cdL2 : Option Addr} {slL cslL : Array (Option Value)} {ocL kVL dcL pmL ctL ccL : Value} {vsL : Array Value}
    {fI TI : Addr} {odI anI : Option Addr} {slI : Array (Option Value)} {ocI kVI dcI pmI cdI ctI : Value} {oTI : Obj} {nTI : Nat} {tTI tW tM : PySem.Tok} {CF CP CS CE : Addr}
    (aDice : PySem.W.nsIn K mainGlobals "_law_dice" = some (some (.ref fDice)))
    (lDice : K.lookup fDice = some ⟨ocDice, odDice, .func (PySem.W.fnOf "_law_dice" "_law_dice" (defArgs sDice) (defBody sDice) (defScope sDice) .none kVDice dcDice pmDice anDice cdDice ctDice), slDice⟩)
    (cDice : PySem.W.codeIn K cdDice "_law_dice" = true)
    (kDice : PySem.W.keepIn K (.ref fDice) = true)
    (aRoll : PySem.W.nsIn K mainGlobals "_law_roll" = some (some (.ref fRoll)))
    (lRoll : K.lookup fRoll = some ⟨ocRoll, odRoll, .func (PySem.W.fnOf "_law_roll" "_law_roll" (defArgs sRoll) (defBody sRoll) (defScope sRoll) .none kVRoll dcRoll pmRoll anRoll cdRoll ctRoll), slRoll⟩)
    (cRoll : PySem.W.codeIn K cdRoll "_law_roll" = true)
    (kRoll : PySem.W.keepIn K (.ref fRoll) = true)
    (aRounds : PySem.W.nsIn K mainGlobals "_law_rounds" = some (some (.ref fRounds)))
    (lRounds : K.lookup fRounds = some ⟨ocRounds, odRounds, .func (PySem.W.fnOf "_law_rounds" "_law_rounds" (defArgs sRounds) (defBody sRounds) (defScope sRounds) .none kVRounds dcRounds pmRounds anRounds cdRounds ctRounds), slRounds⟩)
    (cRounds : PySem.W.codeIn K cdRounds "_law_rounds" = true)
    (kRounds : PySem.W.keepIn K (.ref fRounds) = true)
    (aTold : PySem.W.nsIn K mainGlobals "_law_told" = some (some (.ref fTold)))
    (lTold : K.lookup fTold = some ⟨ocTold, odTold, .func (PySem.W.fnOf "_law_told" "_law_told" (defArgs sTold) (defBody sTold) (defScope sTold) .none kVTold dcTold pmTold anTold cdTold ctTold), slTold⟩)
    (cTold : PySem.W.codeIn K cdTold "_law_told" = true)
    (kTold : PySem.W.keepIn K (.ref fTold) = true)
    (aCF : PySem.W.nsIn K mainGlobals "Frame" = some (some (.ref CF)))
    (aCP : PySem.W.nsIn K mainGlobals "Pager" = some (some (.ref CP)))
    (aCS : PySem.W.nsIn K mainGlobals "Space" = some (some (.ref CS)))
    (aFI : PySem.W.findIn K (.ref CF) "__init__" = some (some (.ref fFI)))
    (iFI : PySem.W.isFn K (.ref fFI) = true)
    (lFI : K.lookup fFI = some ⟨ocFI, odFI, .func (PySem.W.fnOf "__init__" "Frame.__init__" (defArgs sFI) (defBody sFI) (defScope sFI) .none kVFI dcFI pmFI anFI cdFI ctFI), slFI⟩)
    (cFI : PySem.W.codeIn K cdFI "Frame.__init__" = true)
    (kFI : PySem.W.keepIn K (.ref fFI) = true)
    (aNext : PySem.W.findIn K (.ref CP) "next_number" = some (some (.ref fNext)))
    (iNext : PySem.W.isFn K (.ref fNext) = true)
    (lNext : K.lookup fNext = some ⟨ocNext, odNext, .func (PySem.W.fnOf "next_number" "Pager.next_number" (defArgs sNext) (defBody sNext) (defScope sNext) .none kVNext dcNext pmNext anNext cdNext ctNext), slNext⟩)
    (cNext : PySem.W.codeIn K cdNext "Pager.next_number" = true)
    (kNext : PySem.W.keepIn K (.ref fNext) = true)
    (aFof : PySem.W.findIn K (.ref CP) "frame_of" = some (some (.ref fFof)))
    (iFof : PySem.W.isFn K (.ref fFof) = true)
    (lFof : K.lookup fFof = some ⟨ocFof, odFof, .func (PySem.W.fnOf "frame_of" "Pager.frame_of" (defArgs sFof) (defBody sFof) (defScope sFof) .none kVFof dcFof pmFof anFof cdFof ctFof), slFof⟩)
    (cFof : PySem.W.codeIn K cdFof "Pager.frame_of" = true)
    (kFof : PySem.W.keepIn K (.ref fFof) = true)
    (aOwn : PySem.W.findIn K (.ref CP) "own_frame" = some (some (.ref fOwn)))
    (iOwn : PySem.W.isFn K (.ref fOwn) = true)
    (lOwn : K.lookup fOwn = some ⟨ocOwn, odOwn, .func (PySem.W.fnOf "own_frame" "Pager.own_frame" (defArgs sOwn) (defBody sOwn) (defScope sOwn) .none kVOwn dcOwn pmOwn anOwn cdOwn ctOwn), slOwn⟩)
    (cOwn : PySem.W.codeIn K cdOwn "Pager.own_frame" = true)
    (kOwn : PySem.W.keepIn K (.ref fOwn) = true)
    (aPut : PySem.W.findIn K (.ref CP) "put_frame" = some (some (.ref fPut)))
    (iPut : PySem.W.isFn K (.ref fPut) = true)
    (lPut : K.lookup fPut = some ⟨ocPut, odPut, .func (PySem.W.fnOf "put_frame" "Pager.put_frame" (defArgs sPut) (defBody sPut) (defScope sPut) .none kVPut dcPut pmPut anPut cdPut ctPut), slPut⟩)
    (cPut : PySem.W.codeIn K cdPut "Pager.put_frame" = true)
    (kPut : PySem.W.keepIn K (.ref fPut) = true)
    (aShare : PySem.W.findIn K (.ref CP) "share" = some (some (.ref fShare)))
    (iShare : PySem.W.isFn K (.ref fShare) = true)
    (lShare : K.lookup fShare = some ⟨ocShare, odShare, .func (PySem.W.fnOf "share" "Pager.share" (defArgs sShare) (defBody sShare) (defScope sShare) .none kVShare dcShare pmShare anShare cdShare ctShare), slShare⟩)
    (cShare : PySem.W.codeIn K cdShare "Pager.share" = true)
    (kShare : PySem.W.keepIn K (.ref fShare) = true)
    (aFree : PySem.W.findIn K (.ref CP) "free_place" = some (some (.ref fFree)))
    (iFree : PySem.W.isFn K (.ref fFree) = true)
    (lFree : K.lookup fFree = some ⟨ocFree, odFree, .func (PySem.W.fnOf "free_place" "Pager.free_place" (defArgs sFree) (defBody sFree) (defScope sFree) .none kVFree dcFree pmFree anFree cdFree ctFree), slFree⟩)
    (cFree : PySem.W.codeIn K cdFree "Pager.free_place" = true)
    (kFree : PySem.W.keepIn K (.ref fFree) = true)
    (aRnd : PySem.W.findIn K (.ref CP) "round_from_hand" = some (some (.ref fRnd)))
    (iRnd : PySem.W.isFn K (.ref fRnd) = true)
    (lRnd : K.lookup fRnd = some ⟨ocRnd, odRnd, .func (PySem.W.fnOf "round_from_hand" "Pager.round_from_hand" (defArgs sRnd) (defBody sRnd) (defScope sRnd) .none kVRnd dcRnd pmRnd anRnd cdRnd ctRnd), slRnd⟩)
    (cRnd : PySem.W.codeIn K cdRnd "Pager.round_from_hand" = true)
    (kRnd : PySem.W.keepIn K (.ref fRnd) = true)
    (aNtg : PySem.W.findIn K (.ref CP) "next_to_go" = some (some (.ref fNtg)))
    (iNtg : PySem.W.isFn K (.ref fNtg) = true)
    (lNtg : K.lookup fNtg = some ⟨ocNtg, odNtg, .func (PySem.W.fnOf "next_to_go" "Pager.next_to_go" (defArgs sNtg) (defBody sNtg) (defScope sNtg) .none kVNtg dcNtg pmNtg anNtg cdNtg ctNtg), slNtg⟩)
    (cNtg : PySem.W.codeIn K cdNtg "Pager.next_to_go" = true)
    (kNtg : PySem.W.keepIn K (.ref fNtg) = true)
    (aMov : PySem.W.findIn K (.ref CP) "move_hand" = some (some (.ref fMov)))
    (iMov : PySem.W.isFn K (.ref fMov) = true)
    (lMov : K.lookup fMov = some ⟨ocMov, odMov, .func (PySem.W.fnOf "move_hand" "Pager.move_hand" (defArgs sMov) (defBody sMov) (defScope sMov) .none kVMov dcMov pmMov anMov cdMov ctMov), slMov⟩)
    (cMov : PySem.W.codeIn K cdMov "Pager.move_hand" = true)
    (kMov : PySem.W.keepIn K (.ref fMov) = true)
    (aEvi : PySem.W.findIn K (.ref CP) "evict" = some (some (.ref fEvi)))
    (iEvi : PySem.W.isFn K (.ref fEvi) = true)
    (lEvi : K.lookup fEvi = some ⟨ocEvi, odEvi, .func (PySem.W.fnOf "evict" "Pager.evict" (defArgs sEvi) (defBody sEvi) (defScope sEvi) .none kVEvi dcEvi pmEvi anEvi cdEvi ctEvi), slEvi⟩)
    (cEvi : PySem.W.codeIn K cdEvi "Pager.evict" = true)
    (kEvi : PySem.W.keepIn K (.ref fEvi) = true)
    (aRel : PySem.W.findIn K (.ref CP) "release" = some (some (.ref fRel)))
    (iRel : PySem.W.isFn K (.ref fRel) = true)
    (lRel : K.lookup fRel = some ⟨ocRel, odRel, .func (PySem.W.fnOf "release" "Pager.release" (defArgs sRel) (defBody sRel) (defScope sRel) .none kVRel dcRel pmRel anRel cdRel ctRel), slRel⟩)
    (cRel : PySem.W.codeIn K cdRel "Pager.release" = true)
    (kRel : PySem.W.keepIn K (.ref fRel) = true)
    (aLea : PySem.W.findIn K (.ref CP) "leave_frame" = some (some (.ref fLea)))
    (iLea : PySem.W.isFn K (.ref fLea) = true)
    (lLea : K.lookup fLea = some ⟨ocLea, odLea, .func (PySem.W.fnOf "leave_frame" "Pager.leave_frame" (defArgs sLea) (defBody sLea) (defScope sLea) .none kVLea dcLea pmLea anLea cdLea ctLea), slLea⟩)
    (cLea : PySem.W.codeIn K cdLea "Pager.leave_frame" = true)
    (kLea : PySem.W.keepIn K (.ref fLea) = true)
    (aSI : PySem.W.findIn K (.ref CS) "__init__" = some (some (.ref fSI)))
    (iSI : PySem.W.isFn K (.ref fSI) = true)
    (lSI : K.lookup fSI = some ⟨ocSI, odSI, .func (PySem.W.fnOf "__init__" "Space.__init__" (defArgs sSI) (defBody sSI) (defScope sSI) .none kVSI dcSI pmSI anSI cdSI ctSI), slSI⟩)
    (cSI : PySem.W.codeIn K cdSI "Space.__init__" = true)
    (kSI : PySem.W.keepIn K (.ref fSI) = true)
    (aWc : PySem.W.findIn K (.ref CS) "word_count" = some (some (.ref fWc)))
    (iWc : PySem.W.isFn K (.ref fWc) = true)
    (lWc : K.lookup fWc = some ⟨ocWc, odWc, .func (PySem.W.fnOf "word_count" "Space.word_count" (defArgs sWc) (defBody sWc) (defScope sWc) .none kVWc dcWc pmWc anWc cdWc ctWc), slWc⟩)
    (cWc : PySem.W.codeIn K cdWc "Space.word_count" = true)
    (kWc : PySem.W.keepIn K (.ref fWc) = true)
    (aChk : PySem.W.findIn K (.ref CS) "check_address" = some (some (.ref fChk)))
    (iChk : PySem.W.isFn K (.ref fChk) = true)
    (lChk : K.lookup fChk = some ⟨ocChk, odChk, .func (PySem.W.fnOf "check_address" "Space.check_address" (defArgs sChk) (defBody sChk) (defScope sChk) .none kVChk dcChk pmChk anChk cdChk ctChk), slChk⟩)
    (cChk : PySem.W.codeIn K cdChk "Space.check_address" = true)
    (kChk : PySem.W.keepIn K (.ref fChk) = true)
    (aLoad : PySem.W.findIn K (.ref CS) "load_word" = some (some (.ref fLoad)))
    (iLoad : PySem.W.isFn K (.ref fLoad) = true)
    (lLoad : K.lookup fLoad = some ⟨ocLoad, odLoad, .func (PySem.W.fnOf "load_word" "Space.load_word" (defArgs sLoad) (defBody sLoad) (defScope sLoad) .none kVLoad dcLoad pmLoad anLoad cdLoad ctLoad), slLoad⟩)
    (cLoad : PySem.W.codeIn K cdLoad "Space.load_word" = true)
    (kLoad : PySem.W.keepIn K (.ref fLoad) = true)
    (aSto : PySem.W.findIn K (.ref CS) "store_word" = some (some (.ref fSto)))
    (iSto : PySem.W.isFn K (.ref fSto) = true)
    (lSto : K.lookup fSto = some ⟨ocSto, odSto, .func (PySem.W.fnOf "store_word" "Space.store_word" (defArgs sSto) (defBody sSto) (defScope sSto) .none kVSto dcSto pmSto anSto cdSto ctSto), slSto⟩)
    (cSto : PySem.W.codeIn K cdSto "Space.store_word" = true)
    (kSto : PySem.W.keepIn K (.ref fSto) = true)
    (aGrow : PySem.W.findIn K (.ref CS) "grow" = some (some (.ref fGrow)))
    (iGrow : PySem.W.isFn K (.ref fGrow) = true)
    (lGrow : K.lookup fGrow = some ⟨ocGrow, odGrow, .func (PySem.W.fnOf "grow" "Space.grow" (defArgs sGrow) (defBody sGrow) (defScope sGrow) .none kVGrow dcGrow pmGrow anGrow cdGrow ctGrow), slGrow⟩)
    (cGrow : PySem.W.codeIn K cdGrow "Space.grow" = true)
    (kGrow : PySem.W.keepIn K (.ref fGrow) = true)
    (aFork : PySem.W.findIn K (.ref CS) "forked" = some (some (.ref fFork)))
    (iFork : PySem.W.isFn K (.ref fFork) = true)
    (lFork : K.lookup fFork = some ⟨ocFork, odFork, .func (PySem.W.fnOf "forked" "Space.forked" (defArgs sFork) (defBody sFork) (defScope sFork) .none kVFork dcFork pmFork anFork cdFork ctFork), slFork⟩)
    (cFork : PySem.W.codeIn K cdFork "Space.forked" = true)
    (kFork : PySem.W.keepIn K (.ref fFork) = true)
    (aAll : PySem.W.findIn K (.ref CS) "all_words" = some (some (.ref fAll)))
    (iAll : PySem.W.isFn K (.ref fAll) = true)
    (lAll : K.lookup fAll = some ⟨ocAll, odAll, .func (PySem.W.fnOf "all_words" "Space.all_words" (defArgs sAll) (defBody sAll) (defScope sAll) .none kVAll dcAll pmAll anAll cdAll ctAll), slAll⟩)
    (cAll : PySem.W.codeIn K cdAll "Space.all_words" = true)
    (kAll : PySem.W.keepIn K (.ref fAll) = true)
    (aI : PySem.W.findIn K (.ref CP) "__init__" = some (some (.ref fI)))
    (iI : PySem.W.isFn K (.ref fI) = true)
    (lI : K.lookup fI = some ⟨ocI, odI, .func (PySem.W.fnOf "__init__" "Pager.__init__" (defArgs sPI) (defBody sPI) (defScope sPI) (.ref TI) kVI dcI pmI anI cdI ctI), slI⟩)
    (cI : PySem.W.codeIn K cdI "Pager.__init__" = true)
    (kI : PySem.W.keepIn K (.ref fI) = true)
    (lT : K.lookup TI = some oTI)
    (dT : oTI.data = .seq ([Value.int 1000 tTI] : List Value).toArray nTI)
    (aL : PySem.W.nsIn K mainGlobals "law" = some (some (.ref fL)))
    (lL : K.lookup fL = some ⟨ocL, odL, .func (PySem.W.fnOf "law" "law" (defArgs sLaw) (defBody sLaw) (defScope sLaw) .none kVL dcL pmL anL (.ref cL) ctL), slL⟩)
    (cL1 : PySem.W.codeIn K (.ref cL) "law" = true)
    (lcL : K.lookup cL = some ⟨ccL, cdL2, .fields vsL, cslL⟩)
    (vL : vsL[11]? = some (.ref PT))
    (nP : K.lookup PT = none)
    (pgCF : PySem.W.plainGet K CF Str.empty = true)
    (hdCF : PySem.W.hasDictIn K CF = true)
    (poCF : PySem.W.plainOver K CF = true)
    (saCF : PySem.W.findIn K (.ref CF) "__setattr__" = some (some (.builtin "object.__setattr__")))
    (mkCF : PySem.W.makesIn K CF = true)
    (kCF : PySem.W.keepIn K (.ref CF) = true)
    (nCF1 : PySem.W.findIn K (.ref CF) "words" = some none)
    (nCF2 : PySem.W.findIn K (.ref CF) "owners" = some none)
    (nCF3 : PySem.W.findIn K (.ref CF) "used" = some none)
    (pgCP : PySem.W.plainGet K CP Str.empty = true)
    (hdCP : PySem.W.hasDictIn K CP = true)
    (poCP : PySem.W.plainOver K CP = true)
    (saCP : PySem.W.findIn K (.ref CP) "__setattr__" = some (some (.builtin "object.__setattr__")))
    (mkCP : PySem.W.makesIn K CP = true)
    (kCP : PySem.W.keepIn K (.ref CP) = true)
    (nCP1 : PySem.W.findIn K (.ref CP) "frames" = some none)
    (nCP2 : PySem.W.findIn K (.ref CP) "slots" = some none)
    (nCP3 : PySem.W.findIn K (.ref CP) "hand" = some none)
    (nCP4 : PySem.W.findIn K (.ref CP) "swapped" = some none)
    (nCP5 : PySem.W.findIn K (.ref CP) "spaces" = some none)
    (nCP6 : PySem.W.findIn K (.ref CP) "last" = some none)
    (nCP7 : PySem.W.findIn K (.ref CP) "faults" = some none)
    (nCP8 : PySem.W.findIn K (.ref CP) "evictions" = some none)
    (nCP9 : PySem.W.findIn K (.ref CP) "copies" = some none)
    (pgCS : PySem.W.plainGet K CS Str.empty = true)
    (hdCS : PySem.W.hasDictIn K CS = true)
    (poCS : PySem.W.plainOver K CS = true)
    (saCS : PySem.W.findIn K (.ref CS) "__setattr__" = some (some (.builtin "object.__setattr__")))
    (mkCS : PySem.W.makesIn K CS = true)
    (kCS : PySem.W.keepIn K (.ref CS) = true)
    (nCS1 : PySem.W.findIn K (.ref CS) "pager" = some none)
    (nCS2 : PySem.W.findIn K (.ref CS) "number" = some none)
    (nCS3 : PySem.W.findIn K (.ref CS) "table" = some none)
    (nm : PySem.W.mroIn K CS (.type "object") = some true)
    (ne : PySem.W.findIn K (.ref CS) "__eq__" = some (some (.builtin "object.__eq__")))
    (nn : PySem.W.findIn K (.ref CS) "__ne__" = some (some (.builtin "object.__ne__")))
    (aE : PySem.W.nsIn K mainGlobals "SpaceFault" = some (some (.ref CE)))
    (xE : PySem.W.excIn K CE [.type "ValueError", .type "Exception", .type "BaseException", .type "object"] "ValueError.__new__" = true)
    (kE : PySem.W.keepIn K (.ref CE) = true)
    (bE : PySem.W.subIn K (.ref CE) (.type "BaseException") = some true)
    (tE : PySem.W.typeIn K (.ref CE) = some (.type "type"))
    (isE : PySem.W.isClsIn K CE = true)
    (ssE : PySem.W.subIn K (.ref CE) (.ref CE) = some true)
    (mW : PySem.W.nsIn K mainGlobals "PAGE_WORDS" = some (some (.int 8 tW)))
    (mM : PySem.W.nsIn K mainGlobals "MOST_PAGES" = some (some (.int 64 tM)))
    (z_list : PySem.W.nsIn K mainGlobals "list" = some none)
    (z_len : PySem.W.nsIn K mainGlobals "len" = some none)
    (z_range : PySem.W.nsIn K mainGlobals "range" = some none)
    (z_enumerate : PySem.W.nsIn K mainGlobals "enumerate" = some none)
    (z_tuple : PySem.W.nsIn K mainGlobals "tuple" = some none)
    (z_int : PySem.W.nsIn K mainGlobals "int" = some none)
    (z_abs : PySem.W.nsIn K mainGlobals "abs" = some none)
    : LamX.LawAtS l w K L2.CX0 9 63 "script" mg fa h := by
  have e := hfa.symm.trans (PySem.W.mg_of X G aL)
  cases e
  obtain ⟨hd', ht⟩ := tabs cL PT (tabIn_of aL lL rfl lcL vL)
  have T : ∀ p, PTxt K mg ⟨CP, CF, CS, p⟩ CE := fun p => ⟨⟨pgCF, hdCF, poCF, saCF⟩, ⟨pgCP, hdCP, poCP, saCP⟩, ⟨pgCS, hdCS, poCS, saCS⟩, nCF1, nCF2, nCF3, nCP1, nCP2, nCP3, nCP4, nCP5, nCP6, nCP7, nCP8, nCP9, nCS1, nCS2, nCS3, PySem.W.mg_of X G aCF, PySem.W.mg_of X G aCP, PySem.W.mg_of X G aCS, PySem.W.mg_of X G aE, xE, kE, bE, tE, ⟨_, PySem.W.mg_of X G mW⟩, ⟨_, PySem.W.mg_of X G mM⟩, PySem.W.mg_none_of X G z_list, PySem.W.mg_none_of X G z_len, PySem.W.mg_none_of X G z_range, PySem.W.mg_none_of X G z_enumerate, PySem.W.mg_none_of X G z_tuple⟩
  have mI := PySem.W.mg_none_of X G z_int
  have mA := PySem.W.mg_none_of X G z_abs
  have GDice := fun_mk (st := sDice) lDice cDice kDice
  have mDice := PySem.W.mg_of X G aDice
  have GRoll := fun_mk (st := sRoll) lRoll cRoll kRoll
  have mRoll := PySem.W.mg_of X G aRoll
  have GRounds := fun_mk (st := sRounds) lRounds cRounds kRounds
  have mRounds := PySem.W.mg_of X G aRounds
  have GTold := fun_mk (st := sTold) lTold cTold kTold
  have mTold := PySem.W.mg_of X G aTold
  have GFI := fun_mk (st := sFI) lFI cFI kFI
  have GNext := fun_mk (st := sNext) lNext cNext kNext
  have GFof := fun_mk (st := sFof) lFof cFof kFof
  have GOwn := fun_mk (st := sOwn) lOwn cOwn kOwn
  have GPut := fun_mk (st := sPut) lPut cPut kPut
  have GShare := fun_mk (st := sShare) lShare cShare kShare
  have GFree := fun_mk (st := sFree) lFree cFree kFree
  have GRnd := fun_mk (st := sRnd) lRnd cRnd kRnd
  have GNtg := fun_mk (st := sNtg) lNtg cNtg kNtg
  have GMov := fun_mk (st := sMov) lMov cMov kMov
  have GEvi := fun_mk (st := sEvi) lEvi cEvi kEvi
  have GRel := fun_mk (st := sRel) lRel cRel kRel
  have GLea := fun_mk (st := sLea) lLea cLea kLea
  have GSI := fun_mk (st := sSI) lSI cSI kSI
  have GWc := fun_mk (st := sWc) lWc cWc kWc
  have GChk := fun_mk (st := sChk) lChk cChk kChk
  have GLoad := fun_mk (st := sLoad) lLoad cLoad kLoad
  have GSto := fun_mk (st := sSto) lSto cSto kSto
  have GGrow := fun_mk (st := sGrow) lGrow cGrow kGrow
  have GFork := fun_mk (st := sFork) lFork cFork kFork
  have GAll := fun_mk (st := sAll) lAll cAll kAll
  have bDice := GDice.binds (ps := ["cell"]) fun _ _ _ _ _ _ us hl => match us, hl with | [_], _ => rfl
  have bRoll := GRoll.binds (ps := ["dice", "many"]) fun _ _ _ _ _ _ us hl => match us, hl with | [_, _], _ => rfl
  have bRounds := GRounds.binds (ps := ["script", "most"]) fun _ _ _ _ _ _ us hl => match us, hl with | [_, _], _ => rfl
  have bFI := GFI.binds (ps := ["self", "words"]) fun _ _ _ _ _ _ us hl => match us, hl with | [_, _], _ => rfl
  have bNext := GNext.binds (ps := ["self"]) fun _ _ _ _ _ _ us hl => match us, hl with | [_], _ => rfl
  have bFof := GFof.binds (ps := ["self", "space", "page"]) fun _ _ _ _ _ _ us hl => match us, hl with | [_, _, _], _ => rfl
  have bOwn := GOwn.binds (ps := ["self", "space", "page"]) fun _ _ _ _ _ _ us hl => match us, hl with | [_, _, _], _ => rfl
  have bPut := GPut.binds (ps := ["self", "place", "frame", "space", "page"]) fun _ _ _ _ _ _ us hl => match us, hl with | [_, _, _, _, _], _ => rfl
  have bShare := GShare.binds (ps := ["self", "place", "space", "page"]) fun _ _ _ _ _ _ us hl => match us, hl with | [_, _, _, _], _ => rfl
  have bFree := GFree.binds (ps := ["self", "key"]) fun _ _ _ _ _ _ us hl => match us, hl with | [_, _], _ => rfl
  have bRnd := GRnd.binds (ps := ["self"]) fun _ _ _ _ _ _ us hl => match us, hl with | [_], _ => rfl
  have bNtg := GNtg.binds (ps := ["self"]) fun _ _ _ _ _ _ us hl => match us, hl with | [_], _ => rfl
  have bMov := GMov.binds (ps := ["self", "place"]) fun _ _ _ _ _ _ us hl => match us, hl with | [_, _], _ => rfl
  have bEvi := GEvi.binds (ps := ["self", "place", "owners"]) fun _ _ _ _ _ _ us hl => match us, hl with | [_, _, _], _ => rfl
  have bRel := GRel.binds (ps := ["self", "space"]) fun _ _ _ _ _ _ us hl => match us, hl with | [_, _], _ => rfl
  have bLea := GLea.binds (ps := ["self", "place", "key"]) fun _ _ _ _ _ _ us hl => match us, hl with | [_, _, _], _ => rfl
  have bSI := GSI.binds (ps := ["self", "pager", "pages"]) fun _ _ _ _ _ _ us hl => match us, hl with | [_, _, _], _ => rfl
  have bWc := GWc.binds (ps := ["self"]) fun _ _ _ _ _ _ us hl => match us, hl with | [_], _ => rfl
  have bChk := GChk.binds (ps := ["self", "address"]) fun _ _ _ _ _ _ us hl => match us, hl with | [_, _], _ => rfl
  have bLoad := GLoad.binds (ps := ["self", "address"]) fun _ _ _ _ _ _ us hl => match us, hl with | [_, _], _ => rfl
  have bSto := GSto.binds (ps := ["self", "address", "word"]) fun _ _ _ _ _ _ us hl => match us, hl with | [_, _, _], _ => rfl
  have bGrow := GGrow.binds (ps := ["self", "pages"]) fun _ _ _ _ _ _ us hl => match us, hl with | [_, _], _ => rfl
  have bFork := GFork.binds (ps := ["self"]) fun _ _ _ _ _ _ us hl => match us, hl with | [_], _ => rfl
  have bAll := GAll.binds (ps := ["self"]) fun _ _ _ _ _ _ us hl => match us, hl with | [_], _ => rfl
  have GI : FDP K fI (PySem.W.fnOf "__init__" "Pager.__init__" (defArgs sPI) (defBody sPI) (defScope sPI) (.ref TI) kVI dcI pmI anI cdI ctI) :=
    ⟨⟨ocI, odI, .ref TI, kVI, dcI, pmI, anI, cdI, ctI, slI, rfl, lI, cI, .inr ⟨(fun z => by cases z), TI, oTI, [.int 1000 tTI], nTI, rfl, lT, dT, .cons ⟨_, rfl⟩ .nil⟩, .inl rfl⟩, kI⟩
  obtain ⟨ds, vds, bI⟩ := GI.binds1 (ps := ["self", "count", "slots"]) 2 0 (fun z => by cases z) rfl (fun _ _ _ _ _ _ _ us its h1 h2 => match us, its, h1, h2 with | [_, _], [_], _, _ => ⟨_, rfl, rfl⟩)
  obtain ⟨ds3, vds3, bI3⟩ := GI.binds1 (ps := ["self", "count", "slots"]) 3 1 (fun z => by cases z) rfl (fun _ _ _ _ _ _ _ us its h1 h2 => match us, its, h1, h2 with | [_, _, _], [_], _, _ => ⟨_, rfl, rfl⟩)
  cases vds3
  have bits : ∀ base : Heap, LTxt l.prog w K mg base CP CF CS CE fTold := fun base => by
    have oDice := ok_dice (P := l.prog) (w := w) (mg := mg) (base := base) GDice mA mI
    have oRoll := ok_roll (P := l.prog) (w := w) (mg := mg) (base := base) GRoll mI
    have oRounds := ok_rounds (P := l.prog) (w := w) (mg := mg) (base := base) GRounds oDice mDice kDice bDice
    have MF : Mk K CF fFI := ⟨mkCF, aFI, iFI, kCF⟩
    have MS : Mk K CS fSI := ⟨mkCS, aSI, iSI, kCS⟩
    have MP : Mk K CP fI := ⟨mkCP, aI, iI, kCP⟩
    have oFI := fun p => ok_fi (P := l.prog) (w := w) (base := base) GFI (T p) 
    have oLea := fun p => ok_lea (P := l.prog) (w := w) (base := base) GLea (T p) 
    have oShare := fun p => ok_share (P := l.prog) (w := w) (base := base) GShare (T p) 
    have oPut := fun p => ok_put (P := l.prog) (w := w) (base := base) GPut (T p) (oShare p) bShare ⟨aShare, iShare, kShare⟩
    have oRnd := fun p => ok_rnd (P := l.prog) (w := w) (base := base) GRnd (T p) 
    have oNtg := fun p => ok_ntg (P := l.prog) (w := w) (base := base) GNtg (T p) (oRnd p) bRnd ⟨aRnd, iRnd, kRnd⟩
    have oMov := fun p => ok_mov (P := l.prog) (w := w) (base := base) GMov (T p) (oRnd p) bRnd ⟨aRnd, iRnd, kRnd⟩
    have oEvi := fun p => ok_evi (P := l.prog) (w := w) (base := base) GEvi (T p) 
    have oFree := fun p => ok_free (P := l.prog) (w := w) (base := base) GFree (T p) (oNtg p) bNtg ⟨aNtg, iNtg, kNtg⟩ (oMov p) bMov ⟨aMov, iMov, kMov⟩ (oEvi p) bEvi ⟨aEvi, iEvi, kEvi⟩
    have oFof := fun p => ok_fof (P := l.prog) (w := w) (base := base) GFof (T p) (oFree p) bFree ⟨aFree, iFree, kFree⟩ (oPut p) bPut ⟨aPut, iPut, kPut⟩ (oFI p) bFI MF
    have oOwn := fun p => ok_own (P := l.prog) (w := w) (base := base) GOwn (T p) (oFof p) bFof ⟨aFof, iFof, kFof⟩ (oFree p) bFree ⟨aFree, iFree, kFree⟩ (oPut p) bPut ⟨aPut, iPut, kPut⟩ (oFI p) bFI MF
    have oRel := fun p => ok_rel (P := l.prog) (w := w) (base := base) GRel (T p) (oLea p) bLea ⟨aLea, iLea, kLea⟩
    have oPI := ok_pi (P := l.prog) (w := w) (base := base) GI (T 0)
    have oNext := fun p => ok_next (P := l.prog) (w := w) (base := base) GNext (T p) 
    have oSI := fun p => ok_si (P := l.prog) (w := w) (base := base) GSI (T p) (oNext p) bNext ⟨aNext, iNext, kNext⟩
    have oWc := fun p => ok_wc (P := l.prog) (w := w) (base := base) GWc (T p) 
    have oChk := fun p => ok_chk (P := l.prog) (w := w) (base := base) GChk (T p) (oWc p) bWc ⟨aWc, iWc, kWc⟩
    have oLoad := fun p => ok_load (P := l.prog) (w := w) (base := base) GLoad (T p) (oChk p) bChk ⟨aChk, iChk, kChk⟩ (oFof p) bFof ⟨aFof, iFof, kFof⟩
    have oSto := fun p => ok_sto (P := l.prog) (w := w) (base := base) GSto (T p) (oChk p) bChk ⟨aChk, iChk, kChk⟩ (oOwn p) bOwn ⟨aOwn, iOwn, kOwn⟩
    have oGrow := fun p => ok_grow (P := l.prog) (w := w) (base := base) GGrow (T p) 
    have oFork := fun p => ok_fork (P := l.prog) (w := w) (base := base) GFork (T p) (oSI p) bSI MS (oShare p) bShare ⟨aShare, iShare, kShare⟩
    have oAll := fun p => ok_all (P := l.prog) (w := w) (base := base) GAll (T p) (oLoad p) bLoad ⟨aLoad, iLoad, kLoad⟩ (oWc p) bWc ⟨aWc, iWc, kWc⟩
    exact ⟨⟨mTold, kTold, ⟨_, _, _, _, _, _, _, _, _, lTold, cTold⟩, PySem.W.mg_of X G aE⟩, exm_same bE isE tE ssE, ⟨nm, ne, nn⟩, T, mI, ⟨_, _, oRounds, mRounds, kRounds, bRounds⟩, ⟨_, _, oRoll, mRoll, kRoll, bRoll⟩, ⟨_, _, oPI, MP, bI3, ds, vds, bI⟩, ⟨_, _, fnok_exP oSI, MS, bSI⟩, ⟨_, _, fnok_exP oLoad, ⟨aLoad, iLoad, kLoad⟩, bLoad⟩, ⟨_, _, fnok_exP oSto, ⟨aSto, iSto, kSto⟩, bSto⟩, ⟨_, _, fnok_exP oFork, ⟨aFork, iFork, kFork⟩, bFork⟩, ⟨_, _, fnok_exP oGrow, ⟨aGrow, iGrow, kGrow⟩, bGrow⟩, ⟨_, _, fnok_exP oAll, ⟨aAll, iAll, kAll⟩, bAll⟩, ⟨_, _, fnok_exP oWc, ⟨aWc, iWc, kWc⟩, bWc⟩, ⟨_, _, fnok_exP oRel, ⟨aRel, iRel, kRel⟩, bRel⟩⟩
  refine ⟨_, [(cL, PT)], spLaw K PT, fun p hp => ?_, fun p hp => ?_, fun p hp => ?_, fun s u => .of_eq rfl, fun H a ns _ _ hH hS => ⟨a, ns, rfl, hS, fun p hp => ?_, fun _ => rfl⟩, fun base _ _ TB => ok_law lL cL1 (TB _ List.mem_cons_self) (bits base)⟩
  · rw [List.mem_singleton.mp hp]
    exact ht
  · rw [List.mem_singleton.mp hp]
    exact nP
  · rw [List.mem_singleton.mp hp]
    exact hd'
  · rw [List.mem_singleton.mp hp]
    exact LamX.TabS.nil (hH _ List.mem_cons_self)
end K07
open PySem PySem.W PyProof.Rows
set_option maxRecDepth 100000 in
set_option maxHeartbeats 0 in
theorem PySem.Challenge.cw_hoststack_k07_memories_in_few_frames_holds : PySem.Challenge.rw_hoststack_k07_memories_in_few_frames.Holds := by
  w_on; o_law; k_head; (case hw => w_witness2)
  k_fill
  refine HK.walk_TT (l := PySem.Challenge.rw_hoststack_k07_memories_in_few_frames) (n := 63) (k := 9) (x := "script") (CX := fun _ => L2.CX0) rfl (by decide) rfl ⟨rfl, by decide, by decide⟩ (fun w h Y => PySem.W.km_in_of Y) (by rfl) ?F (fun _ _ _ _ _ z => z)
  case F =>
    intro w mg fa h tabs KX G hmg
    refine' K07.all_mk KX G hmg tabs ?aDice ?lDice ?cDice ?kDice ?aRoll ?lRoll ?cRoll ?kRoll ?aRounds ?lRounds ?cRounds ?kRounds ?aTold ?lTold ?cTold ?kTold ?aCF ?aCP ?aCS ?aFI ?iFI ?lFI ?cFI ?kFI ?aNext ?iNext ?lNext ?cNext ?kNext ?aFof ?iFof ?lFof ?cFof ?kFof ?aOwn ?iOwn ?lOwn ?cOwn ?kOwn ?aPut ?iPut ?lPut ?cPut ?kPut ?aShare ?iShare ?lShare ?cShare ?kShare ?aFree ?iFree ?lFree ?cFree ?kFree ?aRnd ?iRnd ?lRnd ?cRnd ?kRnd ?aNtg ?iNtg ?lNtg ?cNtg ?kNtg ?aMov ?iMov ?lMov ?cMov ?kMov ?aEvi ?iEvi ?lEvi ?cEvi ?kEvi ?aRel ?iRel ?lRel ?cRel ?kRel ?aLea ?iLea ?lLea ?cLea ?kLea ?aSI ?iSI ?lSI ?cSI ?kSI ?aWc ?iWc ?lWc ?cWc ?kWc ?aChk ?iChk ?lChk ?cChk ?kChk ?aLoad ?iLoad ?lLoad ?cLoad ?kLoad ?aSto ?iSto ?lSto ?cSto ?kSto ?aGrow ?iGrow ?lGrow ?cGrow ?kGrow ?aFork ?iFork ?lFork ?cFork ?kFork ?aAll ?iAll ?lAll ?cAll ?kAll ?aI ?iI ?lI ?cI ?kI ?lT ?dT ?aL ?lL ?cL1 ?lcL ?vL ?nP ?pgCF ?hdCF ?poCF ?saCF ?mkCF ?kCF ?nCF1 ?nCF2 ?nCF3 ?pgCP ?hdCP ?poCP ?saCP ?mkCP ?kCP ?nCP1 ?nCP2 ?nCP3 ?nCP4 ?nCP5 ?nCP6 ?nCP7 ?nCP8 ?nCP9 ?pgCS ?hdCS ?poCS ?saCS ?mkCS ?kCS ?nCS1 ?nCS2 ?nCS3 ?nm ?ne ?nn ?aE ?xE ?kE ?bE ?tE ?isE ?ssE ?mW ?mM ?z_list ?z_len ?z_range ?z_enumerate ?z_tuple ?z_int ?z_abs
    (case aDice => k_is)
    (case aRoll => k_is)
    (case aRounds => k_is)
    (case aTold => k_is)
    (case aCF => k_is)
    (case aCP => k_is)
    (case aCS => k_is)
    (case aL => k_is)
    (case aE => k_is)
    (case mW => k_is)
    (case mM => k_is)
    (case z_list => k_is)
    (case z_len => k_is)
    (case z_range => k_is)
    (case z_enumerate => k_is)
    (case z_tuple => k_is)
    (case z_int => k_is)
    (case z_abs => k_is)
    (case lDice => k_is)
    (case cDice => k_is)
    (case kDice => k_is)
    (case lRoll => k_is)
    (case cRoll => k_is)
    (case kRoll => k_is)
    (case lRounds => k_is)
    (case cRounds => k_is)
    (case kRounds => k_is)
    (case lTold => k_is)
    (case cTold => k_is)
    (case kTold => k_is)
    (case aFI => k_is)
    (case iFI => k_is)
    (case lFI => k_is)
    (case cFI => k_is)
    (case kFI => k_is)
    (case aNext => k_is)
    (case iNext => k_is)
    (case lNext => k_is)
    (case cNext => k_is)
    (case kNext => k_is)
    (case aFof => k_is)
    (case iFof => k_is)
    (case lFof => k_is)
    (case cFof => k_is)
    (case kFof => k_is)
    (case aOwn => k_is)
    (case iOwn => k_is)
    (case lOwn => k_is)
    (case cOwn => k_is)
    (case kOwn => k_is)
    (case aPut => k_is)
    (case iPut => k_is)
    (case lPut => k_is)
    (case cPut => k_is)
    (case kPut => k_is)
    (case aShare => k_is)
    (case iShare => k_is)
    (case lShare => k_is)
    (case cShare => k_is)
    (case kShare => k_is)
    (case aFree => k_is)
    (case iFree => k_is)
    (case lFree => k_is)
    (case cFree => k_is)
    (case kFree => k_is)
    (case aRnd => k_is)
    (case iRnd => k_is)
    (case lRnd => k_is)
    (case cRnd => k_is)
    (case kRnd => k_is)
    (case aNtg => k_is)
    (case iNtg => k_is)
    (case lNtg => k_is)
    (case cNtg => k_is)
    (case kNtg => k_is)
    (case aMov => k_is)
    (case iMov => k_is)
    (case lMov => k_is)
    (case cMov => k_is)
    (case kMov => k_is)
    (case aEvi => k_is)
    (case iEvi => k_is)
    (case lEvi => k_is)
    (case cEvi => k_is)
    (case kEvi => k_is)
    (case aRel => k_is)
    (case iRel => k_is)
    (case lRel => k_is)
    (case cRel => k_is)
    (case kRel => k_is)
    (case aLea => k_is)
    (case iLea => k_is)
    (case lLea => k_is)
    (case cLea => k_is)
    (case kLea => k_is)
    (case aSI => k_is)
    (case iSI => k_is)
    (case lSI => k_is)
    (case cSI => k_is)
    (case kSI => k_is)
    (case aWc => k_is)
    (case iWc => k_is)
    (case lWc => k_is)
    (case cWc => k_is)
    (case kWc => k_is)
    (case aChk => k_is)
    (case iChk => k_is)
    (case lChk => k_is)
    (case cChk => k_is)
    (case kChk => k_is)
    (case aLoad => k_is)
    (case iLoad => k_is)
    (case lLoad => k_is)
    (case cLoad => k_is)
    (case kLoad => k_is)
    (case aSto => k_is)
    (case iSto => k_is)
    (case lSto => k_is)
    (case cSto => k_is)
    (case kSto => k_is)
    (case aGrow => k_is)
    (case iGrow => k_is)
    (case lGrow => k_is)
    (case cGrow => k_is)
    (case kGrow => k_is)
    (case aFork => k_is)
    (case iFork => k_is)
    (case lFork => k_is)
    (case cFork => k_is)
    (case kFork => k_is)
    (case aAll => k_is)
    (case iAll => k_is)
    (case lAll => k_is)
    (case cAll => k_is)
    (case kAll => k_is)
    (case aI => k_is)
    (case iI => k_is)
    (case lI => k_is)
    (case cI => k_is)
    (case kI => k_is)
    (case lT => k_is)
    (case dT => rfl)
    (case lL => k_is)
    (case cL1 => k_is)
    (case lcL => k_is)
    (case vL => rfl)
    (case nP => kernel_rfl)
    (case pgCF => k_is)
    (case hdCF => k_is)
    (case poCF => k_is)
    (case saCF => k_is)
    (case mkCF => k_is)
    (case kCF => k_is)
    (case nCF1 => k_is)
    (case nCF2 => k_is)
    (case nCF3 => k_is)
    (case pgCP => k_is)
    (case hdCP => k_is)
    (case poCP => k_is)
    (case saCP => k_is)
    (case mkCP => k_is)
    (case kCP => k_is)
    (case nCP1 => k_is)
    (case nCP2 => k_is)
    (case nCP3 => k_is)
    (case nCP4 => k_is)
    (case nCP5 => k_is)
    (case nCP6 => k_is)
    (case nCP7 => k_is)
    (case nCP8 => k_is)
    (case nCP9 => k_is)
    (case pgCS => k_is)
    (case hdCS => k_is)
    (case poCS => k_is)
    (case saCS => k_is)
    (case mkCS => k_is)
    (case kCS => k_is)
    (case nCS1 => k_is)
    (case nCS2 => k_is)
    (case nCS3 => k_is)
    (case nm => k_is)
    (case ne => k_is)
    (case nn => k_is)
    (case xE => k_exc)
    (case kE => k_is)
    (case bE => k_is)
    (case tE => k_is)
    (case isE => k_is)
    (case ssE => first | rfl | k_is)
