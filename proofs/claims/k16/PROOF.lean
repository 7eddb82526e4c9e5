import PyProof.Rows.All
import Wide.All
import OpenK.AllK
import Wide.FinOn
import HandS.ForMost
import HandS.Iter
import HandS.Codes
import HandS.StrMore
import HandS.ForExc
import HandS.ExcInit
import HandS.Lambda
import HandS.EndTab
import HandS.Deep
import HandS.SetFor
import KE.DataFind
import HandS.DictComp
import HandS.DeepEq
import KE.KEqDict
import HandS.Conv
import HandS.Walk
import HandS.SetKeys
import HandS.AnyAll
import HandS.Style
import HandS.CallRecv
import PySem.Challenge.RW_hoststack_k16_locks_and_rings
set_option Elab.async false
set_option linter.all false
set_option maxRecDepth 100000
set_option maxHeartbeats 8000000
namespace HK
open PySem PySem.Spec PyProof.Rows L2 PySem.StrLaws TL
/-- the text of codes; of one code -/
def T (l : List Nat) : Str := ⟨l.toArray⟩
theorem T_len (l : List Nat) : (T l).length = l.length := rfl
theorem T_inj {a b : List Nat} (h : T a = T b) : a = b := by
  have z := congrArg (fun x : Str => x.cps.toList) h
  exact z
/-- the codes of the 95 letters -/
def ls : List Nat := 10 :: 32 :: 33 :: 34 :: 35 :: 36 :: (List.range 89).map (· + 38)
theorem ls_len : ls.length = 95 := by decide
theorem ls_nodup : ls.Nodup := by decide +kernel
theorem ls_text : Str.ofString "\n !\"#$&'()*+,-./0123456789:;<=>?@ABCDEFGHIJKLMNOPQRSTUVWXYZ[\\]^_`abcdefghijklmnopqrstuvwxyz{|}~" = T ls := by decide +kernel
/-- the first place of a code -/
def pos (l : List Nat) (c : Nat) : Option Nat := l.findIdx? (· == c)
theorem at_one (l : List Nat) (c i : Nat) : At (T l) (T [c]) (T l).length i ↔ l[i]? = some c := by
  have hc : (T [c]).length = 1 := rfl
  have hl : (T l).length = l.length := rfl
  unfold At
  rw [hc, hl]
  have key : Builtin.Str.subAt (T l) (T [c]) i = ((l.drop i).take 1 == [c]) := by
    have e : (T l).cps.extract i (i + 1) = ((l.drop i).take 1).toArray := by
      apply Array.ext'
      simp [T, List.extract_eq_drop_take]
    show ((T l).cps.extract i (i + 1) == [c].toArray) = _
    rw [e]
    simp
  rw [key]
  constructor
  · rintro ⟨h1, h2⟩
    have h3 : (l.drop i).take 1 = [c] := eq_of_beq h2
    have h4 : ((l.drop i).take 1)[0]? = some c := by rw [h3]; rfl
    simpa using h4
  · intro h
    obtain ⟨hi, e⟩ := List.getElem?_eq_some_iff.mp h
    refine ⟨by omega, ?_⟩
    rw [List.drop_eq_getElem_cons hi, e]
    simp
theorem occ_pos (l : List Nat) (c : Nat) : (pos l c = none ∧ Builtin.Str.occurrences (T l) (T [c]) 0 (T l).length 1 = []) ∨ ∃ k r, pos l c = some k ∧ Builtin.Str.occurrences (T l) (T [c]) 0 (T l).length 1 = k :: r := by
  rcases occ_head (T l) (T [c]) 1 (Nat.le_refl _) with ⟨e, hn⟩ | ⟨i, r, e, hi, hn⟩
  · refine .inl ⟨?_, e⟩
    unfold pos
    rw [List.findIdx?_eq_none_iff]
    intro x hx
    obtain ⟨j, hj⟩ := List.getElem?_of_mem hx
    cases q : (x == c) with
    | false => rfl
    | true =>
      have e2 : x = c := eq_of_beq q
      rw [e2] at hj
      exact absurd ((at_one l c j).mpr hj) (hn j)
  · refine .inr ⟨i, r, ?_, e⟩
    have h1 := (at_one l c i).mp hi
    obtain ⟨hl, e1⟩ := List.getElem?_eq_some_iff.mp h1
    unfold pos
    rw [List.findIdx?_eq_some_iff_getElem]
    refine ⟨hl, by simp [e1], fun j hj => ?_⟩
    have hjl : j < l.length := Nat.lt_trans hj hl
    intro q
    have e2 : l[j] = c := eq_of_beq q
    exact hn j hj ((at_one l c j).mpr (by rw [List.getElem?_eq_getElem hjl, e2]))
theorem index_one (l : List Nat) (c : Nat) : Txt.index0 (T l) (T [c]) = pos l c := by
  unfold Txt.index0
  rcases occ_pos l c with ⟨h, e⟩ | ⟨k, r, h, e⟩ <;> rw [e, h] <;> rfl
theorem find_one (l : List Nat) (c : Nat) : Txt.find (T l) (T [c]) = match pos l c with | some k => (k : Int) | none => -1 := by
  unfold Txt.find
  rcases occ_pos l c with ⟨h, e⟩ | ⟨k, r, h, e⟩ <;> rw [e, h]
theorem pos_some {l : List Nat} {c k : Nat} (h : pos l c = some k) : l[k]? = some c := by
  unfold pos at h
  rw [List.findIdx?_eq_some_iff_getElem] at h
  obtain ⟨hl, e, _⟩ := h
  rw [List.getElem?_eq_getElem hl, eq_of_beq e]
theorem pos_mem {l : List Nat} {c : Nat} (h : c ∈ l) : ∃ k, pos l c = some k := by
  cases q : pos l c with
  | some k => exact ⟨k, rfl⟩
  | none =>
    unfold pos at q
    rw [List.findIdx?_eq_none_iff] at q
    have := q c h
    simp at this
theorem pos_none {l : List Nat} {c : Nat} (h : c ∉ l) : pos l c = none := by
  cases q : pos l c with
  | none => rfl
  | some k => exact absurd (List.mem_of_getElem? (pos_some q)) h
theorem pos_at {l : List Nat} (nd : l.Nodup) {k c : Nat} (h : l[k]? = some c) : pos l c = some k := by
  obtain ⟨j, e⟩ := pos_mem (List.mem_of_getElem? h)
  have h2 := pos_some e
  rw [e, (nd_ix nd h2 h)]
/-- a comprehension over the signs of a text -/
theorem lc_str {l : List Nat} {g : TG} {tt : TT} {te : TE} {vs : List Nat} {σ : L2.St} {H1 : Hp} {D : Addr} {Qd : Hp → Prop} (Pv : Nat → Hp → Prop) (h0 : Pv 0 (upd H1 D (.lst [])))
    (hs : ∀ i c H, l[i]? = some c → Pv i H → g (.str (T [c])) (wipe σ vs) H fun σ2 H2 => wipe σ2 vs = wipe σ vs ∧ tt σ2 H2 fun b H3 =>
      if b = true then te σ2 H3 fun y H4 => ∃ acc, H4 D = some (.lst acc) ∧ acc.length < sizeLine ∧ Pv (i + 1) (upd H4 D (.lst (acc ++ [y]))) else Pv (i + 1) H3) (hd : ∀ H, Pv l.length H → Qd H) :
    ∃ W : Nat → Nat → Hp → Prop, (∃ m, W 0 m (upd H1 D (.lst []))) ∧ ∀ i m H, W i m H →
      ((Its (T l)).stop i H ∧ Qd H) ∨ ((Its (T l)).go i H ∧ ∃ Nx : Hp → Prop, (∀ H', Nx H' → ∃ m', m' < m ∧ W (i + 1) m' H') ∧ ∀ x H', (Its (T l)).yld i H x H' → g x (wipe σ vs) H' fun σ2 H2 => wipe σ2 vs = wipe σ vs ∧ tt σ2 H2 fun b H3 =>
        if b = true then te σ2 H3 fun y H4 => ∃ acc, H4 D = some (.lst acc) ∧ acc.length < sizeLine ∧ Nx (upd H4 D (.lst (acc ++ [y]))) else Nx H3) := by
  have sz : (T l).cps.size = l.length := rfl
  refine ⟨fun i m H => m = l.length - i ∧ i ≤ l.length ∧ Pv i H, ⟨l.length, by simp, Nat.zero_le _, h0⟩, ?_⟩
  rintro i m H ⟨rfl, hi, p⟩
  by_cases hlt : i < l.length
  · refine .inr ⟨hlt, Pv (i + 1), fun H' p' => ⟨l.length - (i + 1), by omega, rfl, hlt, p'⟩, fun x H' y => ?_⟩
    obtain ⟨e, c, hc, ev⟩ := y
    subst e
    subst ev
    exact hs i c _ (by simpa [T] using hc) p
  · have e : i = l.length := by omega
    subst e
    exact .inl ⟨Nat.le_of_eq sz, hd H p⟩
theorem take_map_succ {α β : Type} (f : α → β) {l : List α} {i : Nat} {c : α} (h : l[i]? = some c) : (l.take (i + 1)).map f = (l.take i).map f ++ [f c] := by
  rw [List.take_add_one, h, List.map_append]
  rfl
theorem mem_take_succ {α : Type} {l : List α} {i : Nat} {c : α} {p : α → Prop} (h : l[i]? = some c) (hp : ∀ x ∈ l.take i, p x) (hc : p c) : ∀ x ∈ l.take (i + 1), p x := by
  intro x hx
  rw [List.take_add_one, h] at hx
  rcases List.mem_append.mp hx with z | z
  · exact hp x z
  · have e : x = c := by simpa using z
    rw [e]
    exact hc
theorem sqT_same {K : PySem.W.Frag} {H H' : Hp} {a : Addr} {xs : List V} (e : Same H H') (h : SqT K H a xs) : SqT K H' a xs := by
  rcases h with (h | ⟨o, h⟩) | h
  · exact .inl (.inl (e _ _ h))
  · exact .inl (.inr ⟨o, e _ _ h⟩)
  · exact .inr h
theorem same_upd {H : Hp} {d : Addr} {o : HO} (h : H d = none) : Same H (upd H d o) := fun b u e => by
  rw [upd_ne (ne_of_none e h)]
  exact e
theorem join_len (l : List Nat) : ((l.map fun c => T [c]).map (·.length)).sum = l.length := by
  induction l with
  | nil => rfl
  | cons c r ih => simp only [List.map_cons, List.sum_cons, ih, T_len, List.length_cons, List.length_nil]; omega
theorem join_T (l : List Nat) : PySem.Txt.join (T []) (l.map fun c => T [c]) = T l := by
  rw [join_eq]
  refine ext_tl ?_
  rw [tl_join]
  show joinL [] ((l.map fun c => T [c]).map tl) = l
  rw [List.map_map]
  induction l with
  | nil => rfl
  | cons c r ih =>
    cases r with
    | nil => rfl
    | cons d q =>
      have e : joinL [] (((c :: d :: q).map (tl ∘ fun c => T [c]))) = [c] ++ ([] ++ joinL [] ((d :: q).map (tl ∘ fun c => T [c]))) := rfl
      rw [e, ih]
      rfl
end HK
namespace K16
open PySem L2 HK
def top (i : Nat) : Stmt := PySem.Challenge.pw_hoststack_k16_locks_and_rings.main.body.getD i (.Pass ⟨0, 0, 0, 0⟩)
/-! ### the dice, as plain mathematics -/
structure Dice where
  a : Int
  b : Int
  c : Int
  deriving DecidableEq
def Dice.vs (d : Dice) : List V := [.int d.a, .int d.b, .int d.c]
def mkDice (n : Int) : Dice := if -10 < n ∧ n < 10 then ⟨if n < 0 then -n else n, 0, 2⟩ else ⟨n, 1 + n % 1009, if 10 ^ 18 ≤ n then 1 else 0⟩
def stepA (d : Dice) : Int := (d.a * 48271 + d.b * 69621 + 11) % 2147483647
/-- what a roll tells, and the dice behind it -/
def roll (d : Dice) (m : Int) : Int × Dice :=
  if d.c = 2 ∨ (d.c = 1 ∧ 0 < d.a) then (d.a % m, ⟨d.a / m, d.b, d.c⟩) else ((stepA d / 7) % m, ⟨stepA d, d.b + 1, 0⟩)
theorem roll_range (d : Dice) {m : Int} (h : 0 < m) : 0 ≤ (roll d m).1 ∧ (roll d m).1 < m := by
  unfold roll
  split
  · exact ⟨Int.emod_nonneg _ (by omega), Int.emod_lt_of_pos _ h⟩
  · exact ⟨Int.emod_nonneg _ (by omega), Int.emod_lt_of_pos _ h⟩
abbrev sDice : Stmt := top 8
abbrev sRoll : Stmt := top 9
abbrev sRounds : Stmt := top 10
/-! ### promises -/
def spDice : Sp := fun vs H Q _ => ∃ n : Int, vs = [.int n] ∧ ∀ p, H p = none → Q (.ref p) (upd H p (.lst (mkDice n).vs))
def spRoll : Sp := fun vs H Q _ => ∃ (D : Addr) (d : Dice) (m : Int), vs = [.ref D, .int m] ∧ H D = some (.lst d.vs) ∧ 0 < m ∧ m < 1000000 ∧ Q (.int (roll d m).1) (upd H D (.lst (roll d m).2.vs))
section
variable {P : Program} {w : World} {K : PySem.W.Frag} {mg : Str → Option Value} {base : Heap}
theorem scDice : FnScope ["cell"] ["cell"] (defScope sDice) := ⟨rfl, rfl, rfl, by decide +kernel, rfl, by decide +kernel, by decide +kernel⟩
theorem ok_dice {f : Addr} {fd : FuncData} (F : L2.Fun K "_law_dice" "_law_dice" sDice f fd) (mA : mg "abs" = none) (mI : mg "int" = none) : FnOk P w K mg base L2.CX0 1 f fd ["cell"] spDice := by
  refine F.ok scDice (fun vs H Q E h => ?_) (fun cdv A outer s H vs Q E hr h => ?_)
  · obtain ⟨n, rfl, _⟩ := h
    rfl
  · obtain ⟨n, rfl, k⟩ := h
    refine ⟨_, pss_cons (ps_if (pt_chain op_lt op_lt (pe_op op_sub pe_int pe_int) (pv 0) pe_int) (pss_one (ps_ret (pe_lst (pa_cons (pe_callB call_abs (by rfl) mA (by decide +kernel) (pa_cons (pv 0) pa_nil)) (pa_cons pe_int (pa_cons pe_int pa_nil)))))) pss_nil)
      (pss_one (ps_ret (pe_lst (pa_cons (pv 0) (pa_cons (pe_op op_add pe_int (pe_op op_mod (pe_callTy call_int1 (by rfl) mI PyProof.Rows.Boot.«int» (pa_cons (pv 0) pa_nil)) pe_int))
        (pa_cons (pe_callTy call_int1 (by rfl) mI PyProof.Rows.Boot.«int» (pa_cons (pe_cmpR op_ge (pv 0) (pe_op op_pow pe_int pe_int) (nomark _)) pa_nil)) pa_nil)))))), ?_⟩
    refine ⟨_, _, rfl, rfl, _, rfl, _, _, rfl, rfl, _, rfl, ?_⟩
    refine ite2 (fun c1 => ⟨_, _, rfl, rfl, _, rfl, ite2 (fun c2 => ?A) (fun c2 => ?B)⟩) (fun c1 => ⟨_, rfl, iteF ?C⟩)
    case A =>
      have hn : -10 < n ∧ n < 10 := ⟨by have z := of_decide_eq_true c1; omega, of_decide_eq_true c2⟩
      refine ⟨_, rfl, _, rfl, by show 3 ≤ sizeLine; decide, fun p hp => ?_⟩
      have e := k p hp
      unfold mkDice at e
      rw [if_pos hn] at e
      exact e
    all_goals
      have hn : ¬ (-10 < n ∧ n < 10) := by
        simp only [decide_eq_true_eq] at *
        omega
      refine ⟨_, rfl, _, rfl, .inl ⟨_, rfl, _, _, rfl, rfl, (by show (0 : Int) < 1009; decide), _, _, rfl, rfl, ?_⟩⟩
      refine ⟨_, rfl, _, _, rfl, rfl, (by refine ⟨by decide, by decide, by decide⟩), _, _, rfl, rfl, .inr ⟨_, rfl, by show 3 ≤ sizeLine; decide, fun p hp => ?_⟩⟩
      have e := k p hp
      unfold mkDice at e
      rw [if_neg hn] at e
      have e2 : (if decide ((10 : Int) ^ (18 : Int).toNat ≤ n) = true then (1 : Int) else 0) = (if 10 ^ 18 ≤ n then 1 else 0) := by
        simp only [decide_eq_true_eq]
        rfl
      rw [e2]
      exact e
theorem scRoll : FnScope ["dice", "many", "found"] ["dice", "many"] (defScope sRoll) := ⟨rfl, rfl, rfl, by decide +kernel, rfl, by decide +kernel, by decide +kernel⟩
theorem at0 (x y z : V) : atI [x, y, z] 0 = some x := rfl
theorem at1 (x y z : V) : atI [x, y, z] 1 = some y := rfl
theorem at2 (x y z : V) : atI [x, y, z] 2 = some z := rfl
theorem ix0 (x y z : V) : ixN [x, y, z].length 0 = some 0 := rfl
theorem ix1 (x y z : V) : ixN [x, y, z].length 1 = some 1 := rfl
theorem ix2 (x y z : V) : ixN [x, y, z].length 2 = some 2 := rfl
theorem ok_roll {f : Addr} {fd : FuncData} (F : L2.Fun K "_law_roll" "_law_roll" sRoll f fd) (mI : mg "int" = none) : FnOk P w K mg base L2.CX0 1 f fd ["dice", "many"] spRoll := by
  refine F.ok scRoll (fun vs H Q E h => ?_) (fun cdv A outer s H vs Q E hr h => ?_)
  · obtain ⟨D, d, m, rfl, _⟩ := h
    rfl
  · obtain ⟨D, ⟨a, b, c⟩, m, rfl, hD, m0, m1, k⟩ := h
    have hD : H D = some (.lst [.int a, .int b, .int c]) := hD
    refine ⟨_, pss_cons (ps_if (PW.pt (pw_or (pt_cmpR op_eq (pe_ix ix_list (pv 0) pe_int (fun _ _ => rfl)) pe_int (nomark _)) (pw_or1 (PW.pt (pw_and (pt_cmpR op_eq (pe_ix ix_list (pv 0) pe_int (fun _ _ => rfl)) pe_int (nomark _)) (pw_and1 (pt_cmpR op_gt (pe_ix ix_list (pv 0) pe_int (fun _ _ => rfl)) pe_int (nomark _))))))))
        (pss_cons (ps_set (i := 2) scRoll.nd rfl (Or.inl rfl) (pe_op op_mod (pe_callTy call_int1 (by rfl) mI PyProof.Rows.Boot.«int» (pa_cons (pe_ix ix_list (pv 0) pe_int (fun _ _ => rfl)) pa_nil)) (pv 1)))
        (pss_cons (ps_asg (pe_op op_fdiv (pe_ix ix_list (pv 0) pe_int (fun _ _ => rfl)) (pv 1)) (pg_sub (pv 0) pe_int set_list))
        (pss_one (ps_ret (pv 2))))) pss_nil)
      (pss_cons (ps_asg pe_int (pg_sub (pv 0) pe_int set_list))
      (pss_cons (ps_asg (pe_op op_mod (pe_callTy call_int1 (by rfl) mI PyProof.Rows.Boot.«int» (pa_cons (pe_op op_add (pe_op op_add (pe_op op_mul (pe_ix ix_list (pv 0) pe_int (fun _ _ => rfl)) pe_int) (pe_op op_mul (pe_ix ix_list (pv 0) pe_int (fun _ _ => rfl)) pe_int)) pe_int) pa_nil)) pe_int) (pg_sub (pv 0) pe_int set_list))
      (pss_cons (ps_asg (pe_op op_add (pe_ix ix_list (pv 0) pe_int (fun _ _ => rfl)) pe_int) (pg_sub (pv 0) pe_int set_list))
      (pss_one (ps_ret (pe_op op_mod (pe_callTy call_int1 (by rfl) mI PyProof.Rows.Boot.«int» (pa_cons (pe_op op_fdiv (pe_ix ix_list (pv 0) pe_int (fun _ _ => rfl)) pe_int) pa_nil)) (pv 1))))))), ?_⟩
    refine ⟨_, rfl, D, _, _, _, rfl, rfl, SqL.of hD, at2 _ _ _, rfl, _, rfl, ite2 (fun c1 => iteT ?T) (fun c1 => ⟨_, rfl, D, _, _, _, rfl, rfl, SqL.of hD, at2 _ _ _, rfl, _, rfl,
      ite2 (fun c2 => ⟨_, rfl, D, _, _, _, rfl, rfl, SqL.of hD, at0 _ _ _, _, _, rfl, rfl, _, rfl, ite2 (fun c3 => ?T2) (fun c3 => ?F)⟩) (fun c2 => iteF ?F2)⟩)⟩
    case T | T2 =>
      have hc : c = 2 ∨ (c = 1 ∧ 0 < a) := by
        simp only [decide_eq_true_eq, V.int.injEq] at *
        omega
      have e : roll ⟨a, b, c⟩ m = (a % m, ⟨a / m, b, c⟩) := by
        unfold roll
        rw [if_pos hc]
      rw [e] at k
      refine ⟨_, rfl, D, _, _, _, rfl, rfl, SqL.of hD, at0 _ _ _, .inl ⟨_, rfl, _, rfl, _, _, rfl, rfl, m0, ?_⟩⟩
      exact ⟨_, rfl, D, _, _, _, rfl, rfl, SqL.of hD, at0 _ _ _, _, rfl, _, _, rfl, rfl, ⟨m0, by omega⟩, _, rfl, D, _, _, _, rfl, rfl, hD, ix0 _ _ _, _, rfl, k⟩
    case F | F2 =>
      have hc : ¬ (c = 2 ∨ (c = 1 ∧ 0 < a)) := by
        simp only [decide_eq_true_eq, V.int.injEq] at *
        omega
      have e : roll ⟨a, b, c⟩ m = ((stepA ⟨a, b, c⟩ / 7) % m, ⟨stepA ⟨a, b, c⟩, b + 1, 0⟩) := by
        unfold roll
        rw [if_neg hc]
      rw [e] at k
      refine ⟨_, rfl, D, _, _, _, rfl, rfl, hD, ix2 _ _ _, ?_⟩
      refine ⟨_, rfl, D, _, _, _, rfl, rfl, SqL.of upd_same, at0 _ _ _, _, _, rfl, rfl, .inr ⟨by decide, by decide⟩, _, rfl, D, _, _, _, rfl, rfl, SqL.of upd_same, at1 _ _ _, _, _, rfl, rfl, .inr ⟨by decide, by decide⟩, _, _, rfl, rfl, _, _, rfl, rfl, .inl ⟨_, rfl, _, _, rfl, rfl, (by show (0 : Int) < 2147483647; decide), ?_⟩⟩
      refine ⟨_, rfl, D, _, _, _, rfl, rfl, upd_same, ix0 _ _ _, ?_⟩
      refine ⟨_, rfl, D, _, _, _, rfl, rfl, SqL.of upd_same, at1 _ _ _, _, _, rfl, rfl, _, rfl, D, _, _, _, rfl, rfl, upd_same, ix1 _ _ _, ?_⟩
      refine ⟨_, rfl, D, _, _, _, rfl, rfl, SqL.of upd_same, at0 _ _ _, _, _, rfl, rfl, ⟨by decide, by decide⟩, .inl ⟨_, rfl, _, rfl, _, _, rfl, rfl, m0, ?_⟩⟩
      rw [upd_upd, upd_upd]
      exact k
theorem scRounds : FnScope ["script", "most", "cells", "cell"] ["script", "most"] (defScope sRounds) := ⟨rfl, rfl, rfl, by decide +kernel, rfl, by decide +kernel, by decide +kernel⟩
def cell0 (ns : List Int) : Int := ns.headD 0
/-- the first cell's dice, alone in a list -/
def spRounds (K : PySem.W.Frag) : Sp := fun vs H Q _ => ∃ (a : Addr) (ns : List Int), vs = [.ref a, .int 1] ∧ SqL K H a (ns.map V.int) ∧
  ∀ H' R D, Same H H' → H R = none → H D = none → R ≠ D → H' R = some (.lst [.ref D]) → H' D = some (.lst (mkDice (cell0 ns)).vs) → Q (.ref R) H'
theorem cut1 (ns : List Int) : cutV (ns.map V.int) none (some 1) = (ns.take 1).map V.int := by
  unfold cutV
  show ((ns.map V.int).drop 0).take (HT.sIx (ns.map V.int).length (ns.map V.int).length (some ((1 : Nat) : Int)) - 0) = _
  rw [HT.sIx_nat]
  cases ns with
  | nil => rfl
  | cons n r => simp
theorem ok_rounds {f fD : Addr} {fd fdD : FuncData} (F : L2.Fun K "_law_rounds" "_law_rounds" sRounds f fd)
    (FD : FnOk P w K mg base L2.CX0 1 fD fdD ["cell"] spDice) (mD : mg "_law_dice" = some (.ref fD)) (kD : PySem.W.keepIn K (.ref fD) = true) (bD : Binds K fdD ["cell"] []) :
    FnOk P w K mg base L2.CX0 2 f fd ["script", "most"] (spRounds K) := by
  refine F.ok scRounds (fun vs H Q E h => ?_) (fun cdv A outer s H vs Q E hr h => ?_)
  · obtain ⟨a, ns, rfl, _⟩ := h
    rfl
  · obtain ⟨a, ns, rfl, ha, k⟩ := h
    refine ⟨_, pss_cons (ps_set (i := 2) scRounds.nd rfl (Or.inl rfl) (pe_slice sl_list (pv 0) po_none (po_some (pv 1))))
      (pss_cons (ps_if (pt_cmpR (op_eqD hr.units) (pv 2) (pe_lst pa_nil) (nomark _)) (pss_one (ps_set (i := 2) scRounds.nd rfl (Or.inl rfl) (pe_lst (pa_cons pe_int pa_nil)))) pss_nil)
      (pss_one (ps_ret (pe_lc (own := [("cell", 3)]) (g := gName 3) (by rfl) scRounds.nd (pi_list (pv 2)) (blkOk_by (N := ["script", "most", "cells", "cell"]) (sc := defScope sRounds) (by decide +kernel))
        (fun _ _ _ _ _ => pg_name (i := 3) scRounds.nd rfl (Or.inl rfl)) (fun _ _ _ _ _ => pts_nil) (fun _ _ _ _ _ => pe_call FD hr (by rfl) mD kD bD .nil pass0 (pa_cons (pv 3) pa_nil)))))), ?_⟩
    -- the list of cells
    have tail : ∀ (p : Addr) (n : Int) (H1 : Hp), Same H H1 → H p = none → H1 p = some (.lst [.int n]) → n = cell0 ns → tLc (iList K (tVar 2)) (gName 3) tYes (tCall spDice [] E0 (tCons (tVar 3) tNil)) [3] [some (.ref a), some (.int 1), some (.ref p), none] H1 Q := by
      intro p n H1 s1 np hp en
      refine ⟨_, rfl, p, rfl, ⟨_, SqL.of hp⟩, fun R nR => ?_⟩
      have npR : p ≠ R := ne_of_none hp nR
      refine lc_list (K := K) (a := p) (xs := [.int n]) (fun i H' => (i = 0 → H' = upd H1 R (.lst [])) ∧ (i = 1 → ∃ D, H1 D = none ∧ R ≠ D ∧ H' R = some (.lst [.ref D]) ∧ H' D = some (.lst (mkDice n).vs) ∧ Same H1 H')) ⟨fun _ => rfl, fun z => by cases z⟩ (fun i H' hi q => ?_) (fun i x H' hx q => ?_) (fun H' q => ?_)
      · have hi : i ≤ 1 := hi
        rcases (by omega : i = 0 ∨ i = 1) with rfl | rfl
        · rw [q.1 rfl]
          exact SqL.of (by rw [upd_ne npR]; exact hp)
        · obtain ⟨D, _, _, _, _, z⟩ := q.2 rfl
          exact SqL.of (z _ _ hp)
      · match i, hx with
        | 0, hx =>
          obtain rfl : V.int n = x := Option.some.inj hx
          obtain rfl := q.1 rfl
          refine ⟨rfl, _, rfl, n, rfl, fun D nD => ?_⟩
          have nRD : R ≠ D := ne_of_none upd_same nD
          have nD1 : H1 D = none := by rw [upd_ne (Ne.symm nRD)] at nD; exact nD
          refine ⟨[], by rw [upd_ne nRD, upd_same], by show 0 < sizeLine; decide, fun z => (by cases z), fun _ => ⟨D, nD1, nRD, upd_same, by rw [upd_ne (Ne.symm nRD), upd_same], fun b o e => ?_⟩⟩
          rw [upd_ne (ne_of_none e nR), upd_ne (ne_of_none e nD1), upd_ne (ne_of_none e nR)]
          exact e
      · obtain ⟨D, nD, nRD, h1, h2, s2⟩ := q.2 rfl
        rw [en] at h2
        exact k H' R D (s1.trans s2) (s1.free nR) (s1.free nD) nRD h1 h2
    refine ⟨_, rfl, _, rfl, _, rfl, a, _, rfl, ha, fun p np => ?_⟩
    rw [cut1]
    refine ⟨_, rfl, by show 0 ≤ sizeLine; decide, fun l nl => ?_⟩
    have npl : p ≠ l := ne_of_none upd_same nl
    have np' : (upd (upd H p (.lst ((ns.take 1).map V.int))) l (.lst [])) p = some (.lst ((ns.take 1).map V.int)) := by rw [upd_ne npl, upd_same]
    have nl' : H l = none := by rw [upd_ne (Ne.symm npl)] at nl; exact nl
    have sm : Same H (upd (upd H p (.lst ((ns.take 1).map V.int))) l (.lst [])) := fun b o e => by
      rw [upd_ne (ne_of_none e nl'), upd_ne (ne_of_none e np)]
      exact e
    cases ns with
    | nil =>
      refine ⟨.list [], .list [], Dp.lst (SqL.of np') .nil, Dp.lst (SqL.of upd_same) .nil, rfl, rfl, _, rfl, iteT ?_⟩
      refine ⟨by show 1 ≤ sizeLine; decide, fun c nc => ?_⟩
      refine tail c 0 _ (sm.trans fun b o e => ?_) (sm.free nc) upd_same rfl
      rw [upd_ne (ne_of_none e nc)]
      exact e
    | cons n r =>
      refine ⟨.list [.int n], .list [], Dp.lst (SqL.of np') (.cons (.int n) .nil), Dp.lst (SqL.of upd_same) .nil, ?_, rfl, _, rfl, iteF ?_⟩
      · rfl
      · exact tail p n _ sm np np' rfl
end
end K16
/-! locks: mathematics alone. who: Int; a name: N; alone: Bool -/
namespace K16
theorem ifc {α : Type} {p q : Prop} [Decidable p] [Decidable q] {a b : α} (h : p ↔ q) : (if p then a else b) = if q then a else b := by
  by_cases c : p
  · rw [if_pos c, if_pos (h.mp c)]
  · rw [if_neg c, if_neg (fun z => c (h.mpr z))]
section
variable {N : Type} [DecidableEq N]
abbrev Hs := List (Int × Bool)
abbrev Row (N : Type) := Int × N × Bool
abbrev Tb (N : Type) := List (N × Hs)
def lk : Tb N → N → Hs
  | [], _ => []
  | x :: r, n => if x.1 = n then x.2 else lk r n
def whos (l : Hs) : List Int := l.map (·.1)
def agst (l : Hs) (w : Int) (al : Bool) : List Int := whos (l.filter fun y => decide (y.1 ≠ w) && (al || y.2))
def ahd : List (Row N) → Int → N → List Int
  | [], _, _ => []
  | r :: q, w, n => if r.1 = w then [] else if r.2.1 = n then r.1 :: ahd q w n else ahd q w n
def raw (t : Tb N) (q : List (Row N)) (w : Int) (n : N) (al : Bool) : List Int :=
  agst (lk t n) w al ++ if w ∈ whos (lk t n) then [] else (ahd q w n).filter fun x => decide (x ∉ agst (lk t n) w al)
def rowOf (q : List (Row N)) (w : Int) : Option (Row N) := q.find? fun r => decide (r.1 = w)
def wts (t : Tb N) (q : List (Row N)) (w : Int) : List Int := match rowOf q w with
  | none => []
  | some r => raw t q r.1 r.2.1 r.2.2
inductive Rch (f : Int → List Int) : Int → Int → Prop
  | one {a b} : b ∈ f a → Rch f a b
  | cons {a b c} : b ∈ f a → Rch f b c → Rch f a c
theorem Rch.trans {f : Int → List Int} {a b c : Int} (h : Rch f a b) (k : Rch f b c) : Rch f a c := by
  induction h with
  | one e => exact .cons e k
  | cons e _ ih => exact .cons e (ih k)
theorem Rch.mono {f g : Int → List Int} (h : ∀ a b, b ∈ f a → b ∈ g a) {a b : Int} (k : Rch f a b) : Rch g a b := by
  induction k with
  | one e => exact .one (h _ _ e)
  | cons e _ ih => exact .cons (h _ _ e) ih
theorem Rch.head {f : Int → List Int} {a b : Int} (h : Rch f a b) : ∃ c, c ∈ f a := by
  cases h with
  | one e => exact ⟨_, e⟩
  | cons e _ => exact ⟨_, e⟩
/-- no ring -/
def Acy (f : Int → List Int) : Prop := ∀ a, ¬ Rch f a a
/-- the new edges lead to w alone, and none leads on from w -/
theorem Acy.to {f g : Int → List Int} (h : Acy f) {w : Int} (e : ∀ a b, b ∈ g a → b ∈ f a ∨ b = w) (n : g w = []) : Acy g := by
  intro a k
  have key : ∀ a b, Rch g a b → b = w ∨ Rch f a b := by
    intro a b k
    induction k with
    | one x => exact (e _ _ x).symm.imp id .one
    | @cons a b c x y ih =>
      rcases e _ _ x with z | z
      · exact ih.imp id (fun u => .cons z u)
      · subst z
        obtain ⟨c, hc⟩ := y.head
        rw [n] at hc; cases hc
  rcases key a a k with z | z
  · subst z
    obtain ⟨c, hc⟩ := k.head
    rw [n] at hc; cases hc
  · exact h a z
/-- a closed set that holds the first steps holds all -/
theorem Rch.closed {f : Int → List Int} {s : List Int} {a b : Int} (h0 : ∀ x ∈ f a, x ∈ s) (h1 : ∀ x ∈ s, ∀ y ∈ f x, y ∈ s) (k : Rch f a b) : b ∈ s := by
  induction k with
  | one e => exact h0 _ e
  | @cons a b c e _ ih => exact ih (h1 b (h0 _ e))
/-! ### the state's shape -/
theorem mem_agst {l : Hs} {w : Int} {al : Bool} {x : Int} : x ∈ agst l w al ↔ ∃ b, (x, b) ∈ l ∧ x ≠ w ∧ (al = true ∨ b = true) := by
  unfold agst whos
  simp only [List.mem_map, List.mem_filter, Bool.and_eq_true, decide_eq_true_eq, Bool.or_eq_true]
  constructor
  · rintro ⟨⟨y, b⟩, ⟨h1, h2, h3⟩, rfl⟩
    exact ⟨b, h1, h2, h3⟩
  · rintro ⟨b, h1, h2, h3⟩
    exact ⟨(x, b), ⟨h1, h2, h3⟩, rfl⟩
theorem mem_raw {t : Tb N} {q : List (Row N)} {w : Int} {n : N} {al : Bool} {x : Int} :
    x ∈ raw t q w n al ↔ x ∈ agst (lk t n) w al ∨ (w ∉ whos (lk t n) ∧ x ∈ ahd q w n) := by
  unfold raw
  rw [List.mem_append]
  by_cases h : w ∈ whos (lk t n)
  · rw [if_pos h]; simp [h]
  · rw [if_neg h]
    simp only [List.mem_filter, decide_eq_true_eq, h, not_false_eq_true, true_and]
    constructor
    · rintro (a | a)
      · exact .inl a
      · exact .inr a.1
    · rintro (a | a)
      · exact .inl a
      · by_cases z : x ∈ agst (lk t n) w al
        · exact .inl z
        · exact .inr ⟨a, z⟩
theorem raw_nil {t : Tb N} {q : List (Row N)} {w : Int} {n : N} {al : Bool} : raw t q w n al = [] ↔ agst (lk t n) w al = [] ∧ (w ∉ whos (lk t n) → ahd q w n = []) := by
  constructor
  · intro h
    refine ⟨List.eq_nil_iff_forall_not_mem.mpr fun x hx => ?_, fun hw => List.eq_nil_iff_forall_not_mem.mpr fun x hx => ?_⟩
    · have := mem_raw.mpr (.inl hx : x ∈ agst (lk t n) w al ∨ (w ∉ whos (lk t n) ∧ x ∈ ahd q w n))
      rw [h] at this; cases this
    · have := mem_raw.mpr (.inr ⟨hw, hx⟩ : x ∈ agst (lk t n) w al ∨ (w ∉ whos (lk t n) ∧ x ∈ ahd q w n))
      rw [h] at this; cases this
  · rintro ⟨h1, h2⟩
    refine List.eq_nil_iff_forall_not_mem.mpr fun x hx => ?_
    rcases mem_raw.mp hx with z | z
    · rw [h1] at z; cases z
    · rw [h2 z.1] at z; cases z.2
theorem mem_ahd : ∀ {q : List (Row N)} {w : Int} {n : N} {x : Int}, x ∈ ahd q w n → ∃ r ∈ q, r.1 = x ∧ r.2.1 = n ∧ x ≠ w
  | r :: q, w, n, x, h => by
    unfold ahd at h
    split at h
    · cases h
    · rename_i h1
      split at h
      · rename_i h2
        rcases List.mem_cons.mp h with z | z
        · exact ⟨r, by simp, z.symm, h2, by rw [z]; exact h1⟩
        · obtain ⟨s, a, b⟩ := mem_ahd z
          exact ⟨s, by simp [a], b⟩
      · obtain ⟨s, a, b⟩ := mem_ahd h
        exact ⟨s, by simp [a], b⟩
def wq (q : List (Row N)) : List Int := q.map (·.1)
theorem rowOf_none {q : List (Row N)} {w : Int} : rowOf q w = none ↔ w ∉ wq q := by
  unfold rowOf wq
  rw [List.find?_eq_none]
  simp only [decide_eq_true_eq, List.mem_map, not_exists, not_and]
theorem rowOf_some {q : List (Row N)} (nd : (wq q).Nodup) {r : Row N} (h : r ∈ q) : rowOf q r.1 = some r := by
  unfold rowOf
  induction q with
  | nil => cases h
  | cons a q ih =>
    rw [List.find?_cons]
    have nd' := List.nodup_cons.mp nd
    rcases List.mem_cons.mp h with z | z
    · subst z; simp
    · have : a.1 ≠ r.1 := fun e => nd'.1 (by show a.1 ∈ _; rw [e]; exact List.mem_map_of_mem z)
      simp only [this, decide_false]
      exact ih nd'.2 z
theorem wts_of {t : Tb N} {q : List (Row N)} (nd : (wq q).Nodup) {r : Row N} (h : r ∈ q) : wts t q r.1 = raw t q r.1 r.2.1 r.2.2 := by
  unfold wts; rw [rowOf_some nd h]
theorem wts_none {t : Tb N} {q : List (Row N)} {w : Int} (h : w ∉ wq q) : wts t q w = [] := by
  unfold wts; rw [rowOf_none.mpr h]
theorem mem_wts {t : Tb N} {q : List (Row N)} {w x : Int} (h : x ∈ wts t q w) : ∃ r ∈ q, r.1 = w ∧ x ∈ raw t q w r.2.1 r.2.2 := by
  unfold wts at h
  cases e : rowOf q w with
  | none => rw [e] at h; cases h
  | some r =>
    rw [e] at h
    have e1 : r.1 = w := by have := List.find?_some e; simpa using this
    exact ⟨r, List.mem_of_find?_eq_some e, e1, by rw [← e1]; exact h⟩
/-! ### taking, dropping -/
def lkI : Hs → Int → Option Bool
  | [], _ => none
  | y :: r, w => if y.1 = w then some y.2 else lkI r w
def putH (l : Hs) (w : Int) (b : Bool) : Hs := if w ∈ whos l then l.map (fun y => if y.1 = w then (y.1, b) else y) else l ++ [(w, b)]
def tkH (l : Hs) (w : Int) (al : Bool) : Hs := putH l w (al || (lkI l w).getD al)
def setT (t : Tb N) (n : N) (l : Hs) : Tb N := if n ∈ t.map (·.1) then t.map (fun x => if x.1 = n then (x.1, l) else x) else t ++ [(n, l)]
def delT (t : Tb N) (n : N) : Tb N := t.filter fun x => decide (x.1 ≠ n)
def tk (t : Tb N) (n : N) (w : Int) (al : Bool) : Tb N := setT t n (tkH (lk t n) w al)
def dropH (l : Hs) (w : Int) : Hs := l.filter fun y => decide (y.1 ≠ w)
def drp (t : Tb N) (n : N) (w : Int) : Tb N := if dropH (lk t n) w = [] then delT t n else setT t n (dropH (lk t n) w)
theorem lk_append (n : N) (l : Hs) (m : N) : ∀ (t : Tb N), n ∉ t.map (·.1) → lk (t ++ [(n, l)]) m = if m = n then l else lk t m
  | [], _ => by
    show (if n = m then l else []) = _
    by_cases e : n = m
    · rw [if_pos e, if_pos e.symm]
    · rw [if_neg e, if_neg (fun z => e z.symm)]; rfl
  | x :: r, h => by
    have h2 : n ∉ r.map (·.1) := fun z => h (by simp [z])
    have h1 : x.1 ≠ n := fun z => h (by simp [z])
    show (if x.1 = m then x.2 else lk (r ++ [(n, l)]) m) = if m = n then l else (if x.1 = m then x.2 else lk r m)
    rw [lk_append n l m r h2]
    by_cases e : x.1 = m
    · rw [if_pos e, if_pos e, if_neg (fun z => h1 (e.trans z))]
    · rw [if_neg e, if_neg e]
theorem lk_map (n : N) (l : Hs) (m : N) : ∀ (t : Tb N), lk (t.map (fun x => if x.1 = n then (x.1, l) else x)) m = if m = n ∧ n ∈ t.map (·.1) then l else lk t m
  | [] => by simp [lk]
  | x :: r => by
    show lk ((if x.1 = n then (x.1, l) else x) :: r.map _) m = _
    have ih := lk_map n l m r
    by_cases e : x.1 = n
    · rw [if_pos e]
      show (if x.1 = m then l else lk (r.map _) m) = _
      by_cases e2 : x.1 = m
      · rw [if_pos e2, if_pos ⟨e2.symm.trans e, by simp [e]⟩]
      · rw [if_neg e2, ih, if_neg (fun z => e2 (e.trans z.1.symm)), if_neg (fun z => e2 (e.trans z.1.symm))]
        show _ = if x.1 = m then _ else _
        rw [if_neg e2]
    · rw [if_neg e]
      show (if x.1 = m then x.2 else lk (r.map _) m) = if _ then l else if x.1 = m then x.2 else lk r m
      by_cases e2 : x.1 = m
      · rw [if_pos e2, if_pos e2, if_neg (fun z => e (e2.trans z.1))]
      · rw [if_neg e2, if_neg e2, ih]
        refine ifc (and_congr_right fun _ => ?_)
        show _ ↔ n ∈ x.1 :: r.map _
        rw [List.mem_cons]
        exact ⟨.inr, fun z => z.resolve_left (fun y => e y.symm)⟩
theorem lk_setT (t : Tb N) (n : N) (l : Hs) (m : N) : lk (setT t n l) m = if m = n then l else lk t m := by
  unfold setT
  split
  · rename_i h
    rw [lk_map]
    exact ifc ⟨fun z => z.1, fun z => ⟨z, h⟩⟩
  · rename_i h
    exact lk_append n l m t h
theorem lk_delT (n m : N) : ∀ (t : Tb N), lk (delT t n) m = if m = n then [] else lk t m
  | [] => by simp [delT, lk]
  | x :: r => by
    have ih := lk_delT n m r
    unfold delT at ih ⊢
    rw [List.filter_cons]
    by_cases e : x.1 = n
    · have e0 : decide (x.1 ≠ n) = false := by simp [e]
      rw [e0, if_neg (by simp), ih]
      by_cases e2 : m = n
      · rw [if_pos e2, if_pos e2]
      · rw [if_neg e2, if_neg e2]
        show _ = if x.1 = m then _ else _
        rw [if_neg (fun z => e2 (z.symm.trans e))]
    · have e0 : decide (x.1 ≠ n) = true := by simp [e]
      rw [e0, if_pos rfl]
      show (if x.1 = m then x.2 else lk (r.filter _) m) = if m = n then [] else if x.1 = m then x.2 else lk r m
      rw [ih]
      by_cases e2 : x.1 = m
      · rw [if_pos e2, if_pos e2, if_neg (fun z => e (e2.trans z))]
      · rw [if_neg e2, if_neg e2]
theorem lk_tk (t : Tb N) (n : N) (w : Int) (al : Bool) (m : N) : lk (tk t n w al) m = if m = n then tkH (lk t n) w al else lk t m := lk_setT _ _ _ _
theorem lk_drp (t : Tb N) (n : N) (w : Int) (m : N) : lk (drp t n w) m = if m = n then dropH (lk t n) w else lk t m := by
  unfold drp
  split
  · rename_i h; rw [lk_delT, h]
  · rw [lk_setT]
theorem whos_put (l : Hs) (w : Int) (b : Bool) : whos (putH l w b) = if w ∈ whos l then whos l else whos l ++ [w] := by
  unfold putH
  split
  · unfold whos
    rw [List.map_map]
    refine List.map_congr_left fun y _ => ?_
    show (if y.1 = w then (y.1, b) else y).1 = y.1
    split <;> rfl
  · unfold whos; rw [List.map_append]; rfl
theorem mem_whos_put {l : Hs} {w : Int} {b : Bool} {x : Int} : x ∈ whos (putH l w b) ↔ x ∈ whos l ∨ x = w := by
  rw [whos_put]
  split
  · rename_i h
    exact ⟨.inl, fun z => z.elim id (fun e => by rw [e]; exact h)⟩
  · rw [List.mem_append, List.mem_singleton]
theorem nd_put {l : Hs} (h : (whos l).Nodup) (w : Int) (b : Bool) : (whos (putH l w b)).Nodup := by
  rw [whos_put]
  split
  · exact h
  · rename_i c
    exact List.nodup_append.mpr ⟨h, by simp, fun x hx y hy e => c (by rw [← List.mem_singleton.mp hy, ← e]; exact hx)⟩
theorem whos_drop (l : Hs) (w : Int) : whos (dropH l w) = (whos l).filter fun x => decide (x ≠ w) := by
  unfold whos dropH; rw [List.filter_map]; rfl
theorem mem_whos_drop {l : Hs} {w x : Int} : x ∈ whos (dropH l w) ↔ x ∈ whos l ∧ x ≠ w := by
  rw [whos_drop, List.mem_filter, decide_eq_true_eq]
theorem lkI_mem : ∀ {l : Hs} {w : Int} {b : Bool}, lkI l w = some b → (w, b) ∈ l
  | y :: r, w, b, h => by
    unfold lkI at h
    split at h
    · rename_i e
      obtain rfl := Option.some.inj h
      rw [← e]; exact List.mem_cons_self
    · exact List.mem_cons_of_mem _ (lkI_mem h)
theorem lkI_none : ∀ {l : Hs} {w : Int}, lkI l w = none ↔ w ∉ whos l
  | [], w => by simp [lkI, whos]
  | y :: r, w => by
    unfold lkI
    by_cases e : y.1 = w
    · rw [if_pos e]
      exact ⟨fun z => (by cases z), fun z => absurd (show w ∈ whos (y :: r) by unfold whos; simp [e]) z⟩
    · rw [if_neg e, lkI_none]
      refine ⟨fun z y' => ?_, fun z y' => z (by unfold whos at *; simp [y'])⟩
      unfold whos at z y'
      rcases List.mem_cons.mp y' with a | a
      · exact e a.symm
      · exact z a
theorem lkI_of : ∀ {l : Hs} {w : Int} {b : Bool}, (whos l).Nodup → (w, b) ∈ l → lkI l w = some b
  | y :: r, w, b, nd, h => by
    have nd' := List.nodup_cons.mp nd
    unfold lkI
    rcases List.mem_cons.mp h with z | z
    · rw [← z, if_pos rfl]
    · rw [if_neg (fun e => nd'.1 (by show y.1 ∈ _; rw [e]; exact List.mem_map_of_mem z)), lkI_of nd'.2 z]
/-- what stays when one more holds -/
theorem agst_tk {l : Hs} (nd : (whos l).Nodup) {w a : Int} (al wa : Bool) {x : Int} (h : x ∈ agst l a wa) : x ∈ agst (tkH l w al) a wa := by
  obtain ⟨b, h1, h2, h3⟩ := mem_agst.mp h
  rw [mem_agst]
  unfold tkH putH
  by_cases c : w ∈ whos l
  · rw [if_pos c]
    by_cases e : x = w
    · refine ⟨al || (lkI l w).getD al, List.mem_map.mpr ⟨(x, b), h1, by show (if x = w then _ else _) = _; rw [if_pos e]⟩, h2, ?_⟩
      rcases h3 with h3 | h3
      · exact .inl h3
      · rw [e] at h1
        rw [lkI_of nd h1]
        exact .inr (by simp [h3])
    · exact ⟨b, List.mem_map.mpr ⟨(x, b), h1, by show (if x = w then _ else _) = _; rw [if_neg e]⟩, h2, h3⟩
  · rw [if_neg c]
    exact ⟨b, List.mem_append_left _ h1, h2, h3⟩
theorem agst_tk_sub {l : Hs} {w a : Int} (al wa : Bool) {x : Int} (h : x ∈ agst (tkH l w al) a wa) : x ∈ agst l a wa ∨ x = w := by
  obtain ⟨b, h1, h2, h3⟩ := mem_agst.mp h
  by_cases e : x = w
  · exact .inr e
  · refine .inl (mem_agst.mpr ⟨b, ?_, h2, h3⟩)
    unfold tkH putH at h1
    split at h1
    · obtain ⟨y, hy, ey⟩ := List.mem_map.mp h1
      split at ey
      · rename_i ew
        exact absurd ((congrArg Prod.fst ey).symm.trans ew) e
      · rw [← ey]; exact hy
    · rcases List.mem_append.mp h1 with z | z
      · exact z
      · simp at z; exact absurd z.1 e
theorem agst_drop {l : Hs} {w a : Int} {wa : Bool} {x : Int} : x ∈ agst (dropH l w) a wa ↔ x ∈ agst l a wa ∧ x ≠ w := by
  simp only [mem_agst]
  unfold dropH
  simp only [List.mem_filter, decide_eq_true_eq]
  exact ⟨fun ⟨b, ⟨h1, h2⟩, h3⟩ => ⟨⟨b, h1, h3⟩, h2⟩, fun ⟨⟨b, h1, h3⟩, h2⟩ => ⟨b, ⟨h1, h2⟩, h3⟩⟩
end
end K16
/-! locks: what stands throughout -/
namespace K16
section
variable {N : Type} [DecidableEq N]
abbrev InW (w : Int) : Prop := 1 ≤ w ∧ w < 6
/-- all but that who waits is blocked -/
structure Inv (S : List N) (t : Tb N) (q : List (Row N)) : Prop where
  ndk : (t.map (·.1)).Nodup
  ks : ∀ x ∈ t, x.1 ∈ S
  nd : ∀ n, (whos (lk t n)).Nodup
  rg : ∀ n, ∀ w ∈ whos (lk t n), InW w
  ndq : (wq q).Nodup
  rq : ∀ r ∈ q, InW r.1 ∧ r.2.1 ∈ S
  cmp : ∀ n w, (w, true) ∈ lk t n → lk t n = [(w, true)]
  acy : Acy (wts t q)
def Blk (t : Tb N) (q : List (Row N)) : Prop := ∀ r ∈ q, raw t q r.1 r.2.1 r.2.2 ≠ []
theorem ahd_sub {q q' : List (Row N)} (h : List.Sublist q' q) {a : Int} (ha : a ∈ wq q') (nd : (wq q).Nodup) {m : N} {x : Int} (hx : x ∈ ahd q' a m) : x ∈ ahd q a m := by
  induction h with
  | slnil => exact hx
  | @cons l1 l2 r hs ih =>
    have nd' := List.nodup_cons.mp nd
    have := ih ha nd'.2 hx
    unfold ahd
    have ne : r.1 ≠ a := fun e => nd'.1 (by show r.1 ∈ _; rw [e]; exact (hs.map (·.1)).subset ha)
    rw [if_neg ne]
    split
    · exact List.mem_cons_of_mem _ this
    · exact this
  | @cons_cons l1 l2 r hs ih =>
    have nd' := List.nodup_cons.mp nd
    unfold ahd at hx ⊢
    by_cases e : r.1 = a
    · rw [if_pos e] at hx; cases hx
    · rw [if_neg e] at hx ⊢
      have ha2 : a ∈ wq l1 := by
        unfold wq at ha
        rcases List.mem_cons.mp ha with z | z
        · exact absurd z.symm e
        · exact z
      by_cases e2 : r.2.1 = m
      · rw [if_pos e2] at hx ⊢
        rcases List.mem_cons.mp hx with z | z
        · rw [z]; exact List.mem_cons_self
        · exact List.mem_cons_of_mem _ (ih ha2 nd'.2 z)
      · rw [if_neg e2] at hx ⊢
        exact ih ha2 nd'.2 hx
/-! ### one more holds -/
theorem not_whos_tk {t : Tb N} {n : N} {w : Int} {al : Bool} {a : Int} (e : a ≠ w) (m : N) : a ∉ whos (lk (tk t n w al) m) ↔ a ∉ whos (lk t m) := by
  rw [lk_tk]
  by_cases c : m = n
  · rw [if_pos c, c]
    refine not_congr ?_
    unfold tkH
    rw [mem_whos_put]
    exact ⟨fun z => z.resolve_right e, .inl⟩
  · rw [if_neg c]
theorem raw_tk_sub {t : Tb N} {q q' : List (Row N)} {n : N} {w : Int} {al : Bool} {a : Int} (e : a ≠ w) {m : N} {wa : Bool} (hq : ∀ x, x ∈ ahd q' a m → x ∈ ahd q a m) {x : Int} (h : x ∈ raw (tk t n w al) q' a m wa) : x ∈ raw t q a m wa ∨ x = w := by
  rcases mem_raw.mp h with z | z
  · rw [lk_tk] at z
    by_cases c : m = n
    · rw [if_pos c, ← c] at z
      rcases agst_tk_sub _ _ z with y | y
      · exact .inl (mem_raw.mpr (.inl y))
      · exact .inr y
    · rw [if_neg c] at z
      exact .inl (mem_raw.mpr (.inl z))
  · exact .inl (mem_raw.mpr (.inr ⟨(not_whos_tk e m).mp z.1, hq x z.2⟩))
theorem raw_tk_sup {t : Tb N} {q q' : List (Row N)} {n : N} {w : Int} {al : Bool} (nd : (whos (lk t n)).Nodup) {a : Int} (e : a ≠ w) {m : N} {wa : Bool} (hq : ∀ x, x ∈ ahd q a m → x ∈ ahd q' a m) {x : Int} (h : x ∈ raw t q a m wa) : x ∈ raw (tk t n w al) q' a m wa := by
  rcases mem_raw.mp h with z | z
  · refine mem_raw.mpr (.inl ?_)
    rw [lk_tk]
    by_cases c : m = n
    · rw [if_pos c]
      rw [c] at z
      exact agst_tk nd _ _ z
    · rw [if_neg c]; exact z
  · exact mem_raw.mpr (.inr ⟨(not_whos_tk e m).mpr z.1, hq x z.2⟩)
theorem keys_set (t : Tb N) (n : N) (l : Hs) : (setT t n l).map (·.1) = if n ∈ t.map (·.1) then t.map (·.1) else t.map (·.1) ++ [n] := by
  unfold setT
  split
  · rw [List.map_map]
    refine List.map_congr_left fun x _ => ?_
    show (if x.1 = n then (x.1, l) else x).1 = x.1
    split <;> rfl
  · rw [List.map_append]; rfl
theorem ndk_set {t : Tb N} (h : (t.map (·.1)).Nodup) (n : N) (l : Hs) : ((setT t n l).map (·.1)).Nodup := by
  rw [keys_set]
  split
  · exact h
  · rename_i c
    exact List.nodup_append.mpr ⟨h, by simp, fun x hx y hy e => c (by rw [← List.mem_singleton.mp hy, ← e]; exact hx)⟩
theorem mem_key_set {t : Tb N} {n : N} {l : Hs} {x : N × Hs} (h : x ∈ setT t n l) : x.1 ∈ t.map (·.1) ∨ x.1 = n := by
  have := List.mem_map_of_mem (f := (·.1)) h
  rw [keys_set] at this
  split at this
  · exact .inl this
  · rcases List.mem_append.mp this with z | z
    · exact .inl z
    · exact .inr (by simpa using z)
/-- the table's part of what stands -/
structure Tok (S : List N) (t : Tb N) : Prop where
  ndk : (t.map (·.1)).Nodup
  ks : ∀ x ∈ t, x.1 ∈ S
  nd : ∀ n, (whos (lk t n)).Nodup
  rg : ∀ n, ∀ w ∈ whos (lk t n), InW w
  cmp : ∀ n w, (w, true) ∈ lk t n → lk t n = [(w, true)]
theorem Tok.take {S : List N} {t : Tb N} (x : Tok S t) {n : N} {w : Int} {al : Bool} (hn : n ∈ S) (hw : InW w) (h : agst (lk t n) w al = []) : Tok S (tk t n w al) := by
  have alone : al = true ∨ (∃ u, (u, true) ∈ lk t n) → tkH (lk t n) w al = [(w, true)] := by
    intro c
    have ow : ∀ y ∈ lk t n, y.1 = w := by
      intro y hy
      by_cases e : y.1 = w
      · exact e
      · exfalso
        have : y.1 ∈ agst (lk t n) w al := by
          refine mem_agst.mpr ⟨y.2, hy, e, ?_⟩
          rcases c with c | ⟨u, c⟩
          · exact .inl c
          · have := x.cmp n u c
            rw [this] at hy
            rw [List.mem_singleton.mp hy]; exact .inr rfl
        rw [h] at this; cases this
    have len : lk t n = [] ∨ ∃ b, lk t n = [(w, b)] := by
      have nd := x.nd n
      match e : lk t n with
      | [] => exact .inl rfl
      | [y] =>
        have := ow y (by rw [e]; simp)
        exact .inr ⟨y.2, by rw [← this]⟩
      | y :: z :: r =>
        exfalso
        have e1 := ow y (by rw [e]; simp)
        have e2 := ow z (by rw [e]; simp)
        rw [e] at nd
        unfold whos at nd
        have := (List.nodup_cons.mp nd).1
        exact this (by simp [e1, e2])
    unfold tkH putH
    rcases len with e | ⟨b, e⟩
    · rw [e]
      rcases c with c | ⟨u, c⟩
      · simp [whos, c]
      · rw [e] at c; cases c
    · rw [e]
      have hb : (al || b) = true := by
        rcases c with c | ⟨u, c⟩
        · simp [c]
        · rw [e] at c
          have := List.mem_singleton.mp c
          have : b = true := (congrArg Prod.snd this).symm
          simp [this]
      simp [whos, lkI, hb]
  refine ⟨ndk_set x.ndk _ _, fun y hy => ?_, fun m => ?_, fun m v hv => ?_, fun m v hv => ?_⟩
  · rcases mem_key_set hy with z | z
    · obtain ⟨y', h1, h2⟩ := List.mem_map.mp z
      rw [← h2]; exact x.ks y' h1
    · rw [z]; exact hn
  · rw [lk_tk]; split
    · exact nd_put (x.nd n) _ _
    · exact x.nd m
  · rw [lk_tk] at hv
    split at hv
    · rcases mem_whos_put.mp hv with z | z
      · exact x.rg n v z
      · rw [z]; exact hw
    · exact x.rg m v hv
  · rw [lk_tk] at hv ⊢
    split at hv
    · rename_i c
      rw [if_pos c]
      by_cases g : al = true ∨ ∃ u, (u, true) ∈ lk t n
      · rw [alone g] at hv ⊢
        have := List.mem_singleton.mp hv
        rw [this]
      · exfalso
        have g1 : al = false := by cases al <;> simp at g ⊢
        have g2 : ∀ u, (u, true) ∉ lk t n := fun u hu => g (.inr ⟨u, hu⟩)
        unfold tkH at hv
        have hb : (al || (lkI (lk t n) w).getD al) = false := by
          rw [g1]
          cases e : lkI (lk t n) w with
          | none => rfl
          | some b =>
            cases b with
            | false => rfl
            | true => exact absurd (lkI_mem e) (g2 w)
        rw [hb] at hv
        unfold putH at hv
        split at hv
        · obtain ⟨y, hy, ey⟩ := List.mem_map.mp hv
          split at ey
          · cases congrArg Prod.snd ey
          · exact g2 v (by rw [← ey]; exact hy)
        · rcases List.mem_append.mp hv with z | z
          · exact g2 v z
          · simp at z
    · rename_i c
      rw [if_neg c]
      exact x.cmp m v hv
theorem delT_sub {t : Tb N} {n : N} {x : N × Hs} (h : x ∈ delT t n) : x ∈ t := (List.mem_filter.mp h).1
theorem drop_sub {l : Hs} {w : Int} {y : Int × Bool} (h : y ∈ dropH l w) : y ∈ l := (List.mem_filter.mp h).1
theorem Tok.drop {S : List N} {t : Tb N} (x : Tok S t) (n : N) (w : Int) : Tok S (drp t n w) := by
  refine ⟨?_, fun y hy => ?_, fun m => ?_, fun m v hv => ?_, fun m v hv => ?_⟩
  · unfold drp
    split
    · exact List.Sublist.nodup (List.Sublist.map (fun y : N × Hs => y.1) (List.filter_sublist (l := t))) x.ndk
    · exact ndk_set x.ndk _ _
  · unfold drp at hy
    split at hy
    · exact x.ks y (delT_sub hy)
    · rename_i c
      rcases mem_key_set hy with z | z
      · obtain ⟨y', h1, h2⟩ := List.mem_map.mp z
        rw [← h2]; exact x.ks y' h1
      · rw [z]
        -- n is a key, or nothing is held there
        have : lk t n ≠ [] := fun e => c (by rw [e]; rfl)
        have key : ∀ (t : Tb N), lk t n ≠ [] → ∃ y ∈ t, y.1 = n := by
          intro t
          induction t with
          | nil => intro h; exact absurd rfl h
          | cons a r ih =>
            intro h
            by_cases e : a.1 = n
            · exact ⟨a, by simp, e⟩
            · have h' : lk r n ≠ [] := by
                intro z; apply h
                show (if a.1 = n then a.2 else lk r n) = []
                rw [if_neg e]; exact z
              obtain ⟨b, h1, h2⟩ := ih h'
              exact ⟨b, by simp [h1], h2⟩
        obtain ⟨y', h1, h2⟩ := key t this
        rw [← h2]; exact x.ks y' h1
  · rw [lk_drp]; split
    · rw [whos_drop]; exact (x.nd n).filter _
    · exact x.nd m
  · rw [lk_drp] at hv; split at hv
    · exact x.rg n v (mem_whos_drop.mp hv).1
    · exact x.rg m v hv
  · rw [lk_drp] at hv ⊢
    split at hv
    · rename_i c
      rw [if_pos c]
      have := x.cmp n v (drop_sub hv)
      rw [this] at hv ⊢
      unfold dropH at hv ⊢
      by_cases e : v = w
      · exfalso
        have := (List.mem_filter.mp hv).2
        simp [e] at this
      · simp [e]
    · rename_i c
      rw [if_neg c]; exact x.cmp m v hv
theorem Inv.tok {S : List N} {t : Tb N} {q : List (Row N)} (x : Inv S t q) : Tok S t := ⟨x.ndk, x.ks, x.nd, x.rg, x.cmp⟩
theorem Inv.of {S : List N} {t : Tb N} {q : List (Row N)} (x : Tok S t) (a : (wq q).Nodup) (b : ∀ r ∈ q, InW r.1 ∧ r.2.1 ∈ S) (c : Acy (wts t q)) : Inv S t q := ⟨x.ndk, x.ks, x.nd, x.rg, a, b, x.cmp, c⟩
end
end K16
/-! locks: the steps -/
namespace K16
section
variable {N : Type} [DecidableEq N]
theorem Acy.take {t : Tb N} {q q' : List (Row N)} (x : Acy (wts t q)) (ndq : (wq q).Nodup) {n : N} {w : Int} (al : Bool) (hs : List.Sublist q' q) (hw : w ∉ wq q') : Acy (wts (tk t n w al) q') := by
  refine Acy.to x (w := w) (fun a b h => ?_) (wts_none hw)
  obtain ⟨r, hr, e, h1⟩ := mem_wts h
  have ne : a ≠ w := fun z => hw (by rw [← z, ← e]; exact List.mem_map_of_mem hr)
  have ha : a ∈ wq q' := by rw [← e]; exact List.mem_map_of_mem hr
  rcases raw_tk_sub (q := q) ne (fun y hy => ahd_sub hs ha ndq hy) h1 with z | z
  · left
    have := wts_of (t := t) ndq (hs.subset hr)
    rw [e] at this
    rw [this]; exact z
  · exact .inr z
theorem Blk.take {t : Tb N} {q : List (Row N)} (x : Blk t q) {n : N} (nd : (whos (lk t n)).Nodup) {w : Int} (al : Bool) (hw : w ∉ wq q) : Blk (tk t n w al) q := fun r hr z => by
  have ne : r.1 ≠ w := fun e => hw (by rw [← e]; exact List.mem_map_of_mem hr)
  refine x r hr (List.eq_nil_iff_forall_not_mem.mpr fun y hy => ?_)
  have := raw_tk_sup (q' := q) (n := n) (al := al) nd ne (fun _ h => h) hy
  rw [z] at this; cases this
/-- asking, nobody in the way -/
theorem Inv.take {S : List N} {t : Tb N} {q : List (Row N)} (x : Inv S t q) {n : N} {w : Int} {al : Bool} (hn : n ∈ S) (hw : InW w) (h : w ∉ wq q) (e : raw t q w n al = []) : Inv S (tk t n w al) q :=
  .of (x.tok.take hn hw (raw_nil.mp e).1) x.ndq x.rq (x.acy.take x.ndq al (List.Sublist.refl q) h)
theorem ahd_app {w : Int} {m : N} (r : Row N) : ∀ {q : List (Row N)} {a : Int}, a ∈ wq q → ahd (q ++ [r]) a m = ahd q a m
  | y :: q, a, h => by
    show (if y.1 = a then [] else if y.2.1 = m then y.1 :: ahd (q ++ [r]) a m else ahd (q ++ [r]) a m) = if y.1 = a then [] else if y.2.1 = m then y.1 :: ahd q a m else ahd q a m
    by_cases e : y.1 = a
    · rw [if_pos e, if_pos e]
    · have h' : a ∈ wq q := by
        rcases List.mem_cons.mp h with z | z
        · exact absurd z.symm e
        · exact z
      rw [if_neg e, if_neg e, ahd_app (w := w) r h']
theorem ahd_new {m : N} (r : Row N) : ∀ {q : List (Row N)}, r.1 ∉ wq q → ahd (q ++ [r]) r.1 m = ahd q r.1 m
  | [], _ => by show (if r.1 = r.1 then [] else _) = ([] : List Int); rw [if_pos rfl]
  | y :: q, h => by
    have h1 : y.1 ≠ r.1 := fun z => h (by show _ ∈ y.1 :: _; rw [z]; simp)
    have h2 : r.1 ∉ wq q := fun z => h (List.mem_cons_of_mem _ z)
    show (if y.1 = r.1 then [] else if y.2.1 = m then y.1 :: ahd (q ++ [r]) r.1 m else ahd (q ++ [r]) r.1 m) = if y.1 = r.1 then [] else if y.2.1 = m then y.1 :: ahd q r.1 m else ahd q r.1 m
    rw [if_neg h1, if_neg h1, ahd_new r h2]
theorem raw_congr {t : Tb N} {q q' : List (Row N)} {w : Int} {n : N} {al : Bool} (h : ahd q' w n = ahd q w n) : raw t q' w n al = raw t q w n al := by unfold raw; rw [h]
theorem wq_app (q : List (Row N)) (r : Row N) : wq (q ++ [r]) = wq q ++ [r.1] := by unfold wq; rw [List.map_append]; rfl
theorem wts_app_old {t : Tb N} {q : List (Row N)} (nd : (wq q).Nodup) {r : Row N} {a : Int} (h : a ≠ r.1) : wts t (q ++ [r]) a = wts t q a := by
  by_cases c : a ∈ wq q
  · obtain ⟨p, hp, e⟩ := List.mem_map.mp c
    have e : p.1 = a := e
    unfold wts
    have e1 : rowOf (q ++ [r]) a = rowOf q a := by
      unfold rowOf
      rw [List.find?_append]
      have : List.find? (fun r => decide (r.1 = a)) q = some p := by have := rowOf_some nd hp; rw [e] at this; exact this
      rw [this]; rfl
    rw [e1]
    have := rowOf_some nd hp
    rw [e] at this
    rw [this]
    exact raw_congr (ahd_app (w := a) r (by rw [e]; exact c))
  · rw [wts_none c, wts_none]
    rw [wq_app, List.mem_append]
    rintro (z | z)
    · exact c z
    · exact h (by simpa using z)
theorem wts_app_new {t : Tb N} {q : List (Row N)} {r : Row N} (h : r.1 ∉ wq q) : wts t (q ++ [r]) r.1 = raw t q r.1 r.2.1 r.2.2 := by
  unfold wts
  have e1 : rowOf (q ++ [r]) r.1 = some r := by
    unfold rowOf
    rw [List.find?_append, show List.find? (fun x => decide (x.1 = r.1)) q = none from rowOf_none.mpr h]
    simp
  rw [e1]
  exact raw_congr (ahd_new r h)
/-- one more waits, no ring -/
theorem Inv.push {S : List N} {t : Tb N} {q : List (Row N)} (x : Inv S t q) (b : Blk t q) {r : Row N} (hn : r.2.1 ∈ S) (hw : InW r.1) (h : r.1 ∉ wq q) (e : raw t q r.1 r.2.1 r.2.2 ≠ []) (nr : ¬ Rch (wts t (q ++ [r])) r.1 r.1) : Inv S t (q ++ [r]) ∧ Blk t (q ++ [r]) := by
  refine ⟨.of x.tok ?_ (fun p hp => ?_) (fun a k => ?_), fun p hp => ?_⟩
  · rw [wq_app]
    exact List.nodup_append.mpr ⟨x.ndq, by simp, fun y hy z hz e => h (by rw [← List.mem_singleton.mp hz, ← e]; exact hy)⟩
  · rcases List.mem_append.mp hp with z | z
    · exact x.rq p z
    · rw [List.mem_singleton.mp z]; exact ⟨hw, hn⟩
  · -- a ring that does not pass r.1 was there before
    have key : ∀ a b, Rch (wts t (q ++ [r])) a b → Rch (wts t q) a b ∨ ((a = r.1 ∨ Rch (wts t (q ++ [r])) a r.1) ∧ Rch (wts t (q ++ [r])) r.1 b) := by
      intro a b k
      induction k with
      | @one a b y =>
        by_cases c : a = r.1
        · exact .inr ⟨.inl c, by rw [← c]; exact .one y⟩
        · rw [wts_app_old x.ndq c] at y; exact .inl (.one y)
      | @cons a b c y k ih =>
        by_cases z : a = r.1
        · exact .inr ⟨.inl z, by rw [← z]; exact .cons y k⟩
        · rcases ih with u | ⟨u, v⟩
          · rw [wts_app_old x.ndq z] at y; exact .inl (.cons y u)
          · refine .inr ⟨.inr ?_, v⟩
            rcases u with u | u
            · rw [← u]; exact .one y
            · exact .cons y u
    rcases key a a k with z | ⟨z, y⟩
    · exact x.acy a z
    · rcases z with z | z
      · rw [z] at y; exact nr y
      · exact nr (y.trans z)
  · rcases List.mem_append.mp hp with z | z
    · rw [raw_congr (ahd_app (w := 0) r (List.mem_map_of_mem z))]
      exact b p z
    · rw [List.mem_singleton.mp z, raw_congr (ahd_new r h)]
      exact e
/-! ### letting go -/
theorem raw_drp_sub {t : Tb N} {q : List (Row N)} {n : N} {w a : Int} {m : N} {wa : Bool} (e : a ≠ w ∨ m ≠ n) {x : Int} (h : x ∈ raw (drp t n w) q a m wa) : x ∈ raw t q a m wa := by
  rcases mem_raw.mp h with z | z
  · refine mem_raw.mpr (.inl ?_)
    rw [lk_drp] at z
    split at z
    · rename_i c; rw [c]; exact (agst_drop.mp z).1
    · exact z
  · refine mem_raw.mpr (.inr ⟨fun y => z.1 ?_, z.2⟩)
    rw [lk_drp]
    split
    · rename_i c
      rw [c] at y
      exact mem_whos_drop.mpr ⟨y, e.resolve_right (fun k => k c)⟩
    · exact y
theorem ahd_trans : ∀ {q : List (Row N)} {a b : Int} {n : N} {x : Int}, (wq q).Nodup → b ∈ ahd q a n → x ∈ ahd q b n → x ∈ ahd q a n
  | y :: q, a, b, n, x, nd, h, k => by
    have nd' := List.nodup_cons.mp nd
    unfold ahd at h k ⊢
    by_cases e : y.1 = a
    · rw [if_pos e] at h; cases h
    · rw [if_neg e] at h ⊢
      by_cases e2 : y.1 = b
      · rw [if_pos e2] at k; cases k
      · rw [if_neg e2] at k
        by_cases e3 : y.2.1 = n
        · rw [if_pos e3] at h k ⊢
          rcases List.mem_cons.mp k with z | z
          · rw [z]; exact List.mem_cons_self
          · rcases List.mem_cons.mp h with u | u
            · exact absurd u.symm e2
            · exact List.mem_cons_of_mem _ (ahd_trans nd'.2 u z)
        · rw [if_neg e3] at h k ⊢
          exact ahd_trans nd'.2 h k
theorem Inv.release {S : List N} {t : Tb N} {q : List (Row N)} (x : Inv S t q) (bl : Blk t q) {n : N} {w : Int} (hw : w ∈ whos (lk t n)) : Inv S (drp t n w) q := by
  refine .of (x.tok.drop n w) x.ndq x.rq (fun a k => ?_)
  -- edges that do not begin at w were there before
  have old : ∀ a b, a ≠ w → b ∈ wts (drp t n w) q a → b ∈ wts t q a := by
    intro a b ne h
    obtain ⟨r, hr, e, h1⟩ := mem_wts h
    have := wts_of (t := t) x.ndq hr
    rw [e] at this
    rw [this]
    exact raw_drp_sub (.inl ne) h1
  -- an edge from w was there before, or leads to one who waits ahead for n
  have neww : ∀ b, b ∈ wts (drp t n w) q w → b ∈ wts t q w ∨ (b ∈ ahd q w n ∧ ∃ r ∈ q, r.1 = w ∧ r.2.1 = n) := by
    intro b h
    obtain ⟨r, hr, e, h1⟩ := mem_wts h
    have e2 := wts_of (t := t) x.ndq hr
    rw [e] at e2
    by_cases c : r.2.1 = n
    · rcases mem_raw.mp h1 with z | z
      · left; rw [e2]
        rw [lk_drp, if_pos c] at z
        rw [c]
        exact mem_raw.mpr (.inl (agst_drop.mp z).1)
      · right; exact ⟨by rw [← c]; exact z.2, r, hr, e, c⟩
    · left; rw [e2]
      exact raw_drp_sub (.inr c) h1
  -- claim A
  have hA : (∃ r ∈ q, r.1 = w ∧ r.2.1 = n) → ∀ y b, y ∈ ahd q w n → b ∈ wts (drp t n w) q y → b ∈ wts t q w ∨ b ∈ ahd q w n := by
    rintro ⟨r, hr, e, c⟩ y b hy hb
    have e2 := wts_of (t := t) x.ndq hr
    rw [e, c] at e2
    have al : r.2.2 = true := by
      cases e3 : r.2.2 with
      | true => rfl
      | false =>
        exfalso
        have b1 := bl r hr
        rw [e, c, e3] at b1
        refine b1 (raw_nil.mpr ⟨List.eq_nil_iff_forall_not_mem.mpr fun z hz => ?_, fun z => absurd hw z⟩)
        obtain ⟨b', g1, g2, g3⟩ := mem_agst.mp hz
        rcases g3 with g3 | g3
        · cases g3
        · rw [g3] at g1
          have := x.cmp n z g1
          rw [this] at hw
          unfold whos at hw
          have e9 : w = z := by simpa using hw
          exact g2 e9.symm
    obtain ⟨p, hp, ep, h1⟩ := mem_wts hb
    have ny : y ≠ w := (mem_ahd hy).choose_spec.2.2.2
    obtain ⟨p2, hp2, ep2, en2, _⟩ := mem_ahd hy
    have pn : p.2.1 = n := by
      have a1 := rowOf_some x.ndq hp
      have a2 := rowOf_some x.ndq hp2
      rw [ep] at a1; rw [ep2] at a2
      rw [Option.some.inj (a1.symm.trans a2)]; exact en2
    rw [pn] at h1
    rcases mem_raw.mp h1 with z | z
    · left
      rw [lk_drp, if_pos rfl] at z
      obtain ⟨z1, z2⟩ := agst_drop.mp z
      obtain ⟨b', g1, g2, g3⟩ := mem_agst.mp z1
      rw [e2]
      exact mem_raw.mpr (.inl (mem_agst.mpr ⟨b', g1, z2, .inl al⟩))
    · right
      exact ahd_trans x.ndq hy z.2
  have hC : ∀ b c, Rch (wts (drp t n w) q) b c → c = w → b ≠ w → Rch (wts t q) b w := by
    intro b c k
    induction k with
    | @one b c y => intro e ne; rw [← e]; exact .one (old _ _ ne y)
    | @cons b c d y k ih =>
      intro e ne
      by_cases z : c = w
      · rw [← z]; exact .one (old _ _ ne y)
      · exact .cons (old _ _ ne y) (ih e z)
  have hB : (∃ r ∈ q, r.1 = w ∧ r.2.1 = n) → ∀ y c, Rch (wts (drp t n w) q) y c → c = w → y ∈ ahd q w n → Rch (wts t q) w w := by
    intro hr y c k
    induction k with
    | @one y c z =>
      intro e hy
      rcases hA hr y c hy z with u | u
      · rw [e] at u; exact .one u
      · exact absurd e (mem_ahd u).choose_spec.2.2.2
    | @cons y b c z k ih =>
      intro e hy
      rcases hA hr y b hy z with u | u
      · by_cases v : b = w
        · rw [v] at u; exact .one u
        · exact .cons u (hC b c k e v)
      · exact ih e u
  have hD : ∀ a b, Rch (wts (drp t n w) q) a b → Rch (wts t q) a b ∨ ((a = w ∨ Rch (wts (drp t n w) q) a w) ∧ Rch (wts (drp t n w) q) w b) := by
    intro a b k
    induction k with
    | @one a b y =>
      by_cases c : a = w
      · exact .inr ⟨.inl c, by have y' := y; rw [c] at y'; exact .one y'⟩
      · exact .inl (.one (old _ _ c y))
    | @cons a b c y k ih =>
      by_cases z : a = w
      · exact .inr ⟨.inl z, by have y' := y; rw [z] at y'; exact .cons y' k⟩
      · rcases ih with u | ⟨u, v⟩
        · exact .inl (.cons (old _ _ z y) u)
        · refine .inr ⟨.inr ?_, v⟩
          rcases u with u | u
          · have y' := y
            rw [u] at y'; exact .one y'
          · exact .cons y u
  have fin : ¬ Rch (wts (drp t n w) q) w w := by
    intro k
    have step : ∀ b, b ∈ wts (drp t n w) q w → (b = w ∨ Rch (wts (drp t n w) q) b w) → False := by
      intro b hb hk
      rcases neww b hb with u | ⟨u, v⟩
      · rcases hk with e | e
        · rw [e] at u; exact x.acy w (.one u)
        · by_cases c : b = w
          · rw [c] at u; exact x.acy w (.one u)
          · exact x.acy w (.cons u (hC b w e rfl c))
      · have nb : b ≠ w := (mem_ahd u).choose_spec.2.2.2
        rcases hk with e | e
        · exact nb e
        · exact x.acy w (hB v b w e rfl u)
    cases k with
    | one y => exact step w y (.inl rfl)
    | cons y k => exact step _ y (.inr k)
  rcases hD a a k with z | ⟨z, y⟩
  · exact x.acy a z
  · rcases z with z | z
    · rw [z] at y; exact fin y
    · exact fin (y.trans z)
/-- leaving: nobody waits for w any more -/
theorem Inv.unwait {S : List N} {t : Tb N} {q q' : List (Row N)} (x : Inv S t q) (hs : List.Sublist q' q) : Inv S t q' := by
  refine .of x.tok (List.Sublist.nodup (List.Sublist.map (fun y : Row N => y.1) hs) x.ndq) (fun r hr => x.rq r (hs.subset hr)) (fun a k => x.acy a (k.mono fun c b h => ?_))
  obtain ⟨r, hr, e, h1⟩ := mem_wts h
  have := wts_of (t := t) x.ndq (hs.subset hr)
  rw [e] at this
  rw [this]
  rcases mem_raw.mp h1 with z | z
  · exact mem_raw.mpr (.inl z)
  · exact mem_raw.mpr (.inr ⟨z.1, ahd_sub hs (by rw [← e]; exact List.mem_map_of_mem hr) x.ndq z.2⟩)
theorem Inv.dropNo {S : List N} {t : Tb N} {q : List (Row N)} (x : Inv S t q) {n : N} {w : Int} (hw : w ∉ wq q) : Inv S (drp t n w) q := by
  refine .of (x.tok.drop n w) x.ndq x.rq (fun a k => x.acy a (k.mono fun c b h => ?_))
  obtain ⟨r, hr, e, h1⟩ := mem_wts h
  have := wts_of (t := t) x.ndq hr
  rw [e] at this
  rw [this]
  exact raw_drp_sub (.inl fun z => hw (by rw [← z, ← e]; exact List.mem_map_of_mem hr)) h1
end
end K16
/-! l.remove(x) of data -/
namespace HKE
open PySem PySem.Spec PyProof.Rows L2
def rRemD (K : PySem.W.Frag) : V → List V → Hp → VK → Prop := fun x xs H Q => ∃ (l : Addr) (vs : List V) (y : V) (d : PyData) (ds : List PyData) (j : Nat) (z : PyData), x = V.ref l ∧ xs = [y] ∧ H l = some (.lst vs) ∧ Dp K H (V.ref l) (.list ds) ∧ Dp K H y d ∧
  SeqAt.shaped (.list ds) = true ∧ SeqAt.shaped d = true ∧ ds[j]? = some z ∧ PyData.eqv z d = true ∧ (∀ (m : Nat) (z' : PyData), m < j → ds[m]? = some z' → PyData.eqv z' d = false) ∧ Q .non (upd H l (.lst (vs.eraseIdx j)))
section
variable {X : Cx}
theorem mt_removeD (hu : X.A.units + 65 < cLine) : MtM X "list.remove" (rRemD X.K) := by
  intro pins s σ H x xs v us Q I rx rxs h
  obtain ⟨a, vs, y, d, ds, j, z, rfl, rfl, hH, hl, hy, sl, sd, hz, hzj, hno, q⟩ := h
  cases rx
  cases rxs with
  | cons ry rt =>
    rename_i uy ut
    cases rt
    obtain ⟨bs, r1⟩ := Dp.reads I d y uy hy ry
    have hxs : PyData.canLayAll0 ds = true := SeqAt.canLay_of_shaped sl
    have hroom : X.A.units + 1 + min (PyData.depthAll ds) d.depth < cLine := room_in_shaped sd hu
    obtain ⟨z0, its0, n0, r0, hl0, e0⟩ := I.lstM hH
    cases hl with
    | lst hs ha =>
      obtain ⟨its, rv, ⟨⟨cls, dd, data, sls⟩, n, ho, hc, hdn, hdt⟩, hlen⟩ := I.list hs
      simp only at hc hdt
      subst hc hdt
      have eo := e0.symm.trans ho
      have e2 : its0 = its := by
        have e5 := congrArg Obj.data (Option.some.inj eo)
        injection e5 with e6 e7
        simpa using e6
      subst e2
      obtain ⟨as, h4⟩ := Dp.readsAll I ds _ its0 ha rv
      have hn : its0.length = ds.length := SeqAt.ReadsAll.length ds its0 as h4
      have hmap : its0.map (SeqAt.readOf s.heap) = ds := SeqAt.readsAll_map ds its0 as hxs h4
      obtain ⟨hjd, _⟩ := List.getElem?_eq_some_iff.mp hz
      have hjl : j < its0.length := by omega
      have hj : j < its0.toArray.size := by simpa using hjl
      have at_ : ∀ (m : Nat) (hm : m < its0.toArray.size) (z' : PyData), ds[m]? = some z' → SeqAt.readOf s.heap its0.toArray[m] = z' := by
        intro m hm z' hz'
        have hml : m < its0.length := by simpa using hm
        rw [← hmap, List.getElem?_map, List.getElem?_eq_getElem hml] at hz'
        have e1 : SeqAt.readOf s.heap its0[m] = z' := Option.some.inj (show some (SeqAt.readOf s.heap its0[m]) = some z' from hz')
        simpa using e1
      refine call_meets PySem.F.slot_list_remove ⟨_, e0, rfl⟩ PySem.F.entry_list_remove (PySem.F.args_list_remove_2 _ _)
        (SeqAt.list_removeAt a its0.toArray n0 none #[] uy (fun u => PyData.eqv (SeqAt.readOf s.heap u) d) j hj ?_ ?_ (by rw [List.size_toArray]; omega)) ⟨e0, SeqAt.items_eqAt (vs := its0.toArray) (show ReadsAll s.heap its0.toArray.toList ds as from h4) r1 hxs (SeqAt.canLay_of_shaped sd) hroom, ?_⟩
      · show PyData.eqv (SeqAt.readOf s.heap its0.toArray[j]) d = true
        rw [at_ j hj z hz]
        exact hzj
      · intro m hm hmj
        have hmd : m < ds.length := by omega
        have hz' : ds[m]? = some ds[m] := List.getElem?_eq_getElem hmd
        show PyData.eqv (SeqAt.readOf s.heap its0.toArray[m]) d = false
        rw [at_ m hm _ hz']
        exact hno m _ hmj hz'
      · refine ⟨.non, _, I.lset (its' := its0.eraseIdx j) (t' := s.toks) hH e0 ?_ (r0.eraseIdx j) ?_, rfl, q⟩
        · show its0.toArray.eraseIdxIfInBounds j = (its0.eraseIdx j).toArray
          rw [List.eraseIdxIfInBounds_toArray]
        · have := List.length_eraseIdx_le (l := vs) (i := j)
          omega
end
end HKE
/-! == and != of dicts whose values are data, both answers -/
namespace HKE
open PySem PySem.Spec PyProof.Rows L2
/-- are all of ks in ls, with equal data -/
def hitsB (ls : List (Key × V)) (dk dl : Key → PyData) : List (Key × V) → Bool
  | [] => true
  | p :: r => match valV ls p.1 with
    | none => false
    | some _ => PyData.eqv (dk p.1) (dl p.1) && hitsB ls dk dl r
def DVs (K : PySem.W.Frag) (H : Hp) (ks : List (Key × V)) (d : Key → PyData) : Prop := ∀ k v, (k, v) ∈ ks → Dp K H v (d k) ∧ SeqAt.shaped (d k) = true
def dEq (ks ls : List (Key × V)) (dk dl : Key → PyData) : Bool := ks.length == ls.length && hitsB ls dk dl ks
def rEqDD (K : PySem.W.Frag) : R2 := fun x y H Q => ∃ a b ks ls dk dl, x = .ref a ∧ y = .ref b ∧ H a = some (.dK ks) ∧ H b = some (.dK ls) ∧ DVs K H ks dk ∧ DVs K H ls dl ∧ Q (.bl (dEq ks ls dk dl)) H
def rNeDD (K : PySem.W.Frag) : R2 := fun x y H Q => ∃ a b ks ls dk dl, x = .ref a ∧ y = .ref b ∧ H a = some (.dK ks) ∧ H b = some (.dK ls) ∧ DVs K H ks dk ∧ DVs K H ls dl ∧ Q (.bl (!dEq ks ls dk dl)) H
theorem valV_mem {kvs : List (Key × V)} {k : Key} {v : V} (h : valV kvs k = some v) : (k, v) ∈ kvs := by
  unfold valV at h
  obtain ⟨q, hq, rfl⟩ := Option.map_eq_some_iff.mp h
  have z := List.find?_some hq
  have e : q.1 = k := of_decide_eq_true z
  rw [← e]
  exact List.mem_of_find?_eq_some hq
section
variable {X : Cx} {pins : List (Addr × Obj)} {σ : L2.St} {H : Hp} {s : Shared}
theorem hits_of (I : L2.Inv X pins σ H s) {A : Around} (hu : A.in1.units + 64 < cLine) {ls : List (Key × V)} {vb : List (Key × Value)} (rb : KV ls vb) {dk dl : Key → PyData} (hl : DVs X.K H ls dl) {ks : List (Key × V)} {va : List (Key × Value)} (ra : KV ks va) :
    DVs X.K H ks dk → PySem.W.KeqHits A.in1 s vb va (hitsB ls dk dl ks) := by
  unfold KV at ra
  induction ra with
  | nil => intro _; exact .nil
  | @cons p q ps qs h t k =>
    intro hp
    obtain ⟨h1, h2⟩ := h
    obtain ⟨p1, p2⟩ := p
    obtain ⟨key, v⟩ := q
    have h1 : p1 = key := h1
    subst h1
    have rr := rb.val p1
    have ih := k fun k' v' hm => hp k' v' (List.mem_cons_of_mem _ hm)
    rw [hitsB]
    dsimp only
    cases e : valV ls p1 with
    | none =>
      rw [e] at rr
      cases e2 : valueAt vb p1 with
      | none => exact .miss e2
      | some y => rw [e2] at rr; exact (show False from rr).elim
    | some u =>
      rw [e] at rr
      cases e2 : valueAt vb p1 with
      | none => rw [e2] at rr; exact (show False from rr).elim
      | some y =>
        rw [e2] at rr
        have rr : RelV u y := rr
        obtain ⟨g1, g2⟩ := hp p1 p2 List.mem_cons_self
        obtain ⟨g3, g4⟩ := hl p1 u (valV_mem e)
        obtain ⟨as, r1⟩ := Dp.reads I _ _ _ g1 h2
        obtain ⟨bs, r2⟩ := Dp.reads I _ _ _ g3 rr
        exact .hit e2 (PySem.W.keq_at r1 r2 g2 g4 hu) ih
end
section
variable {X : Cx}
theorem op_eqDD (hu : X.A.units + 66 < cLine) : OpR X (compareOp .Eq) (rEqDD X.K) := by
  intro pins s σ H x y v u Q I rx ry h
  obtain ⟨a, b, ks, ls, dk, dl, rfl, rfl, ea, eb, h1, h2, q⟩ := h
  obtain rfl : v = Value.ref a := rx
  obtain rfl : u = Value.ref b := ry
  obtain ⟨_, ya, va, ra, da⟩ := (show ObjOk X.prog X.w H s.heap a (.dK ks) from I.hok a _ ea)
  obtain ⟨_, yb, vb, rb, db⟩ := (show ObjOk X.prog X.w H s.heap b (.dK ls) from I.hok b _ eb)
  have e : (va.length == vb.length && hitsB ls dk dl ks) = dEq ks ls dk dl := by unfold dEq; rw [ra.length, rb.length]
  exact PySem.W.keq_eq (knd := mixKind X.prog X.w) ya yb da db (by omega) (fun _ => hits_of I (by show X.A.units + 1 + 64 < cLine; omega) rb h2 ra h1) ⟨.bl _, H, I, by show Value.bool _ = Value.bool _; rw [e], q⟩
theorem op_neDD (hu : X.A.units + 66 < cLine) : OpR X (compareOp .NotEq) (rNeDD X.K) := by
  intro pins s σ H x y v u Q I rx ry h
  obtain ⟨a, b, ks, ls, dk, dl, rfl, rfl, ea, eb, h1, h2, q⟩ := h
  obtain rfl : v = Value.ref a := rx
  obtain rfl : u = Value.ref b := ry
  obtain ⟨_, ya, va, ra, da⟩ := (show ObjOk X.prog X.w H s.heap a (.dK ks) from I.hok a _ ea)
  obtain ⟨_, yb, vb, rb, db⟩ := (show ObjOk X.prog X.w H s.heap b (.dK ls) from I.hok b _ eb)
  have e : (va.length == vb.length && hitsB ls dk dl ks) = dEq ks ls dk dl := by unfold dEq; rw [ra.length, rb.length]
  exact PySem.W.keq_ne (knd := mixKind X.prog X.w) ya yb da db (by omega) (fun _ => hits_of I (by show X.A.units + 1 + 64 < cLine; omega) rb h2 ra h1) ⟨.bl _, H, I, by show Value.bool _ = Value.bool _; rw [e], q⟩
end
end HKE
namespace K16
open PySem L2 HK
abbrev sInit : Stmt := inClass (top 6) 0
abbrev sHof : Stmt := inClass (top 6) 1
abbrev sAgs : Stmt := inClass (top 6) 2
abbrev sFit : Stmt := inClass (top 6) 3
abbrev sAhd : Stmt := inClass (top 6) 4
abbrev sBlk : Stmt := inClass (top 6) 5
abbrev sAsk : Stmt := inClass (top 6) 6
abbrev sTak : Stmt := inClass (top 6) 7
abbrev sWts : Stmt := inClass (top 6) 8
abbrev sRng : Stmt := inClass (top 6) 9
abbrev sRel : Stmt := inClass (top 6) 10
abbrev sDrp : Stmt := inClass (top 6) 11
abbrev sSrv : Stmt := inClass (top 6) 12
abbrev sLve : Stmt := inClass (top 6) 13
abbrev sShw : Stmt := inClass (top 6) 14
/-! ### what may change -/
def SameX (D : Addr) (H H' : Hp) : Prop := ∀ b o, b ≠ D → H b = some o → H' b = some o
theorem SameX.refl (D : Addr) (H : Hp) : SameX D H H := fun _ _ _ h => h
theorem SameX.trans {D : Addr} {H H1 H2 : Hp} (a : SameX D H H1) (b : SameX D H1 H2) : SameX D H H2 := fun c o n h => b c o n (a c o n h)
theorem SameX.of {D : Addr} {H H' : Hp} (s : Same H H') : SameX D H H' := fun _ _ _ h => s _ _ h
theorem SameX.upd {D : Addr} {H : Hp} {o : HO} : SameX D H (upd H D o) := fun _ _ n h => by rw [upd_ne n]; exact h
/-- nothing that was there is gone -/
theorem SameX.free {D : Addr} {H H' : Hp} (s : SameX D H H') {a : Addr} (n : a ≠ D) (h : H' a = none) : H a = none := by
  cases q : H a with
  | none => rfl
  | some u => rw [s a u n q] at h; cases h
def Fr (l : List Addr) (H H' : Hp) : Prop := ∀ b o, H b = some o → b ∉ l → H' b = some o
theorem Fr.refl (l : List Addr) (H : Hp) : Fr l H H := fun _ _ h _ => h
theorem Fr.of {l : List Addr} {H H' : Hp} (s : Same H H') : Fr l H H' := fun b o h _ => s b o h
theorem Fr.trans {l : List Addr} {H H1 H2 : Hp} (a : Fr l H H1) (b : Fr l H1 H2) : Fr l H H2 := fun c o h n => b c o (a c o h n) n
theorem Fr.sx {l : List Addr} {a : Addr} {H H' : Hp} (s : SameX a H H') (m : a ∈ l) : Fr l H H' := fun b o h n => s b o (fun e => n (by rw [e]; exact m)) h
theorem Fr.mono {l m : List Addr} {H H' : Hp} (f : Fr l H H') (h : ∀ a ∈ l, a ∈ m) : Fr m H H' := fun b o e n => f b o e (fun z => n (h b z))
abbrev KVs := List (Key × V)
def keys (kvs : KVs) : List Key := kvs.map (·.1)
theorem dGet_k {H : Hp} {a : Addr} {kvs : KVs} {k : Key} (h : Rd H a (.dK kvs)) : DGet H a (kV k) (valV kvs k) := .inl ⟨kvs, k, h, rfl, rfl⟩
/-! ### holders -/
abbrev hw (b : Bool) : Str := if b then "alone" else "shared"
def kvH (l : Hs) : KVs := l.map fun y => (Sum.inl y.1, V.str (hw y.2))
abbrev Ho := List (Str × Addr × Hs)
def fg (ho : Ho) : Tb Str := ho.map fun x => (x.1, x.2.2)
def kvT (ho : Ho) : KVs := ho.map fun x => (Sum.inr x.1, V.ref x.2.1)
def adr (ho : Ho) : List Addr := ho.map (·.2.1)
structure TAt (H : Hp) (a : Addr) (ho : Ho) : Prop where
  top : H a = some (.dK (kvT ho))
  inn : ∀ x ∈ ho, H x.2.1 = some (.dK (kvH x.2.2))
  nd : (a :: adr ho).Nodup
abbrev rowO (r : Row Str) : HO := .tup [.int r.1, .str r.2.1, .str (hw r.2.2)]
structure QAt (H : Hp) (l : Addr) (qs : List (Addr × Row Str)) : Prop where
  lst : H l = some (.lst (qs.map fun x => V.ref x.1))
  tup : ∀ x ∈ qs, H x.1 = some (rowO x.2)
def qf (qs : List (Addr × Row Str)) : List (Row Str) := qs.map (·.2)
structure LG where
  cx : Addr
  a : Addr
  l : Addr
  ho : Ho
  qs : List (Addr × Row Str)
def LG.t (g : LG) : Tb Str := fg g.ho
def LG.q (g : LG) : List (Row Str) := qf g.qs
def own (c : Addr) (g : LG) : List Addr := c :: g.l :: g.a :: adr g.ho
structure LAt (CL : Addr) (H : Hp) (c : Addr) (g : LG) : Prop where
  ins : H c = some (.ins CL g.cx [("holders", .ref g.a), ("queue", .ref g.l)])
  tab : TAt H g.a g.ho
  que : QAt H g.l g.qs
theorem TAt.same {H H' : Hp} {a : Addr} {ho : Ho} (x : TAt H a ho) (s : Same H H') : TAt H' a ho := ⟨s _ _ x.top, fun y hy => s _ _ (x.inn y hy), x.nd⟩
theorem QAt.same {H H' : Hp} {l : Addr} {qs : List (Addr × Row Str)} (x : QAt H l qs) (s : Same H H') : QAt H' l qs := ⟨s _ _ x.lst, fun y hy => s _ _ (x.tup y hy)⟩
theorem LAt.same {CL : Addr} {H H' : Hp} {c : Addr} {g : LG} (x : LAt CL H c g) (s : Same H H') : LAt CL H' c g := ⟨s _ _ x.ins, x.tab.same s, x.que.same s⟩
theorem valV_kvT (n : Str) : ∀ ho : Ho, (valV (kvT ho) (.inr n) = none ∧ (∀ x ∈ ho, x.1 ≠ n) ∧ lk (fg ho) n = []) ∨ ∃ x ∈ ho, x.1 = n ∧ valV (kvT ho) (.inr n) = some (.ref x.2.1) ∧ lk (fg ho) n = x.2.2
  | [] => .inl ⟨rfl, fun x h => (by cases h), rfl⟩
  | y :: r => by
    by_cases e : y.1 = n
    · right
      refine ⟨y, by simp, e, ?_, ?_⟩
      · show valV ((Sum.inr y.1, V.ref y.2.1) :: kvT r) (.inr n) = _
        rw [valV_pos (by show (Sum.inr y.1 : Key) = _; rw [e])]
      · show (if y.1 = n then y.2.2 else lk (fg r) n) = _
        rw [if_pos e]
    · have e2 : valV (kvT (y :: r)) (.inr n) = valV (kvT r) (.inr n) := valV_neg (fun z => e (by injection z))
      have e3 : lk (fg (y :: r)) n = lk (fg r) n := by
        show (if y.1 = n then y.2.2 else lk (fg r) n) = _
        rw [if_neg e]
      rw [e2, e3]
      rcases valV_kvT n r with ⟨h1, h2, h3⟩ | ⟨x, h1, h2⟩
      · exact .inl ⟨h1, fun x hx => by
          rcases List.mem_cons.mp hx with z | z
          · rw [z]; exact e
          · exact h2 x z, h3⟩
      · exact .inr ⟨x, by simp [h1], h2⟩
theorem valV_kvH (w : Int) : ∀ l : Hs, valV (kvH l) (.inl w) = (lkI l w).map fun b => V.str (hw b)
  | [] => rfl
  | y :: r => by
    show valV ((Sum.inl y.1, V.str (hw y.2)) :: kvH r) (.inl w) = (if y.1 = w then some y.2 else lkI r w).map _
    by_cases e : y.1 = w
    · rw [valV_pos (by show (Sum.inl y.1 : Key) = _; rw [e]), if_pos e]; rfl
    · rw [valV_neg (fun z => e (by injection z)), if_neg e]; exact valV_kvH w r
theorem inH_iff {l : Hs} {w : Int} : (valV (kvH l) (.inl w)).isSome = true ↔ w ∈ whos l := by
  rw [valV_kvH]
  cases e : lkI l w with
  | none => exact ⟨fun z => (by cases z), fun z => absurd z (lkI_none.mp e)⟩
  | some b => exact ⟨fun _ => List.mem_map_of_mem (lkI_mem e), fun _ => rfl⟩
/-- d.get(name, {}): a table of what is held -/
theorem get_hs {H : Hp} {a : Addr} {ho : Ho} (x : TAt H a ho) (n : Str) {p : Addr} (hp : H p = none) : ∃ b, (valV (kvT ho) (.inr n)).getD (.ref p) = .ref b ∧ (upd H p (.dK [])) b = some (.dK (kvH (lk (fg ho) n))) := by
  rcases valV_kvT n ho with ⟨h1, h2, h3⟩ | ⟨y, hy, e, h2, h3⟩
  · refine ⟨p, by rw [h1]; rfl, ?_⟩
    rw [upd_same, h3]; rfl
  · refine ⟨y.2.1, by rw [h2]; rfl, ?_⟩
    rw [upd_ne (ne_of_none (x.inn y hy) hp), h3]
    exact x.inn y hy
structure LTxt (K : PySem.W.Frag) (mg : Str → Option Value) (CL CE : Addr) : Prop where
  cl : Cls K CL
  n1 : NoAttr K CL "holders"
  n2 : NoAttr K CL "queue"
  gC : mg "Locks" = some (.ref CL)
  gE : mg "ProcessError" = some (.ref CE)
  xE : PySem.W.excIn K CE [.type "ValueError", .type "Exception", .type "BaseException", .type "object"] "ValueError.__new__" = true
  kE : PySem.W.keepIn K (.ref CE) = true
  bE : PySem.W.subIn K (.ref CE) (.type "BaseException") = some true
  tE : PySem.W.typeIn K (.ref CE) = some (.type "type")
  al : ∃ t, mg "ALONE" = some (.str "alone" t)
  sh : ∃ t, mg "SHARED" = some (.str "shared" t)
  dict : mg "dict" = none
  list : mg "list" = none
  tup : mg "tuple" = none
  sorted : mg "sorted" = none
  any : mg "any" = none
theorem nd_range5 : ∀ (n : Nat) (l : List Int), l.Nodup → (∀ m ∈ l, 1 ≤ m ∧ m < 1 + (n : Int)) → l.length ≤ n
  | 0, l, _, h => by
    cases l with
    | nil => exact Nat.le_refl 0
    | cons k r =>
      have := h k (by simp)
      exfalso; omega
  | n + 1, l, nd, h => by
    have ih := nd_range5 n (l.erase (1 + (n : Int))) (nd.erase _) fun m hk => by
      have := h m (List.mem_of_mem_erase hk)
      have : m ≠ 1 + (n : Int) := fun z => by
        rw [z] at hk
        exact (nd.mem_erase_iff.mp hk).1 rfl
      omega
    have := List.length_erase (a := (1 + (n : Int))) (l := l)
    split at this <;> omega
theorem Tok.len {S : List Str} {t : Tb Str} (x : Tok S t) (n : Str) : (lk t n).length ≤ 5 := by
  have := nd_range5 5 (whos (lk t n)) (x.nd n) (fun m hm => by have := x.rg n m hm; exact ⟨this.1, by have := this.2; omega⟩)
  unfold whos at this
  rw [List.length_map] at this
  exact this
/-! ### against -/
def agF (l : Hs) (w : Int) (al : Bool) : List V := (agst l w al).map V.int
def spAgs (CL : Addr) : Sp := fun vs H Q _ => ∃ c g w n al, vs = [.ref c, .int w, .str n, .str (hw al)] ∧ LAt CL H c g ∧ (∃ S, Tok S g.t) ∧
  ∀ H' r, Same H H' → H r = none → H' r = some (.lst (agF (lk g.t n) w al)) → Q (.ref r) H'
section
variable {P : Program} {w : World} {K : PySem.W.Frag} {mg : Str → Option Value} {base : Heap} {CL CE : Addr}
theorem scAgs : FnScope ["self", "who", "name", "how", "holders", "one"] ["self", "who", "name", "how"] (defScope sAgs) := ⟨rfl, rfl, rfl, by decide +kernel, rfl, by decide +kernel, by decide +kernel⟩
theorem inV_hw (al b : Bool) : inV (.str "alone") [.str (hw al), .str (hw b)] = (al || b) := by cases al <;> cases b <;> decide +kernel
theorem ok_ags {f : Addr} {fd : FuncData} (F : L2.Fun K "against" "Locks.against" sAgs f fd) (T : LTxt K mg CL CE) : FnOk P w K mg base L2.CX0 1 f fd ["self", "who", "name", "how"] (spAgs CL) := by
  obtain ⟨tA, mA⟩ := T.al
  refine F.ok scAgs (fun vs H Q E h => ?_) (fun cdv A outer s H vs Q E hr h => ?_)
  · obtain ⟨c, g, w, n, al, rfl, _⟩ := h
    rfl
  · obtain ⟨c, g, w, n, al, rfl, x, ⟨S, tok⟩, k⟩ := h
    have len := tok.len n
    have ndw := tok.nd n
    refine ⟨_, pss_cons (ps_set (i := 4) scAgs.nd rfl (Or.inr rfl) (pe_dget2 (hu_of hr) (pe_fld (pv 0) rfl) (pv 2) pe_dnewK ⟨rfl, rfl, rfl, rfl⟩))
      (pss_one (ps_ret (pe_lock (pe_lc (own := [("one", 5)]) (g := gName 5) (te := tVar 5) (by rfl) scAgs.nd (pi_keys (pv 4)) (blkOk_by (N := ["self", "who", "name", "how", "holders", "one"]) (sc := defScope sAgs) (by decide +kernel))
        (fun _ _ _ _ _ => pg_name (i := 5) scAgs.nd rfl (Or.inl rfl))
        (fun _ _ _ _ _ => pts_one (PW.pt (pw_and (pt_cmpR op_ne (pv 5) (pv 1) (nomark _)) (pw_and1 (pt_cmpR (r := rIn K false) (by exact op_in_seq) (pe_glob (v := .str "alone") rfl mA ⟨_, rfl⟩) (pe_tup (pa_cons (pv 3) (pa_cons (pe_dget (by exact hu_of hr) (pv 4) (pv 5) (fun _ _ => rfl)) pa_nil))) rfl)))))
        (fun _ _ _ _ _ => pv 5))))), ?_⟩
    refine ⟨_, rfl, c, CL, g.cx, _, _, rfl, x.ins, T.cl, T.n1, rfl, g.a, rfl, .inl ⟨_, .inl x.tab.top⟩, _, rfl, fun nd hnd => ?_⟩
    obtain ⟨b, eb, hb⟩ := get_hs x.tab n hnd
    have s1 : Same H (upd H nd (.dK [])) := same_upd hnd
    have x1 := x.same s1
    refine ⟨_, dGet_k (k := .inr n) (.inl x1.tab.top), ?_⟩
    rw [eb]
    generalize upd H nd (.dK []) = H1 at hb s1 x1 ⊢
    clear eb hnd
    refine ⟨b, _, hb, trivial, fun od => ?_⟩
    have s2 : SameX b H1 (upd H1 b (.frz od (.dK (kvH (lk (fg g.ho) n))))) := SameX.upd
    have hf : (upd H1 b (.frz od (.dK (kvH (lk (fg g.ho) n))))) b = some (.frz od (.dK (kvH (lk (fg g.ho) n)))) := upd_same
    generalize upd H1 b (.frz od (.dK (kvH (lk (fg g.ho) n)))) = H2 at s2 hf ⊢
    refine ⟨_, rfl, b, od, rfl, .inl ⟨_, hf, fun Z nZ => ?_⟩⟩
    have nZb : Z ≠ b := fun e => by rw [e, hf] at nZ; cases nZ
    refine lc_it walk_keys (fun i H' => Same H2 H' ∧ H' Z = some (.lst ((agst ((lk (fg g.ho) n).take i) w al).map V.int))) ⟨same_upd nZ, upd_same⟩ (fun i H' hi q => q.1 _ _ hf) (fun i z H' H'' hi q yy => ?_) (fun H' q => ?_)
    · obtain ⟨sm, hZ⟩ := q
      obtain ⟨rfl, kk, vv, hkv, rfl⟩ := yy
      unfold kvH at hkv
      rw [List.getElem?_map] at hkv
      obtain ⟨y, hy, ey⟩ := Option.map_eq_some_iff.mp hkv
      injection ey with e1 e2
      subst e1 e2
      have et : (lk (fg g.ho) n).take (i + 1) = (lk (fg g.ho) n).take i ++ [y] := by rw [List.take_add_one, hy]; rfl
      have eg : agst ((lk (fg g.ho) n).take (i + 1)) w al = agst ((lk (fg g.ho) n).take i) w al ++ (if decide (y.1 ≠ w) && (al || y.2) then [y.1] else []) := by
        rw [et]; unfold agst whos; rw [List.filter_append, List.map_append, List.filter_cons]
        split <;> rfl
      have la : (agst ((lk (fg g.ho) n).take i) w al).length ≤ 5 := by
        unfold agst whos
        rw [List.length_map]
        refine Nat.le_trans (List.length_filter_le _ _) ?_
        rw [List.length_take]
        unfold LG.t at len
        omega
      refine ⟨rfl, _, rfl, _, rfl, rfl, _, rfl, ite2 (fun c1 => ?_) (fun c1 => ?_)⟩
      · have ym : y ∈ lk g.t n := List.mem_of_getElem? hy
        have hv : valV (kvH (lk (fg g.ho) n)) (.inl y.1) = some (.str (hw y.2)) := by
          rw [valV_kvH]
          show (lkI (lk g.t n) y.1).map _ = _
          rw [lkI_of ndw (by exact ym)]; rfl
        have dg : DGet H'' b (.int y.1) (some (.str (hw y.2))) := by
          have := dGet_k (H := H'') (a := b) (kvs := kvH (lk (fg g.ho) n)) (k := .inl y.1) (.inr ⟨od, sm _ _ hf⟩)
          rw [hv] at this
          exact this
        refine ⟨_, rfl, _, rfl, _, rfl, b, _, rfl, dg, by show 2 ≤ sizeLine; decide, fun T2 nT => ?_⟩
        have s3 : Same H'' (upd H'' T2 (.tup [.str (hw al), .str (hw y.2)])) := same_upd nT
        refine ⟨T2, _, rfl, .inr (SqT.of upd_same), rfl, rfl, _, rfl, ?_⟩
        have c2 : decide (y.1 ≠ w) = true := by
          refine decide_eq_true fun z => ?_
          have c1 : ¬ kV (Sum.inl y.1) = V.int w := by simpa using c1
          exact c1 (by rw [z]; rfl)
        rw [c2, Bool.true_and] at eg
        have nZT : Z ≠ T2 := ne_of_none hZ nT
        generalize upd H'' T2 (.tup [.str (hw al), .str (hw y.2)]) = H3 at s3 ⊢
        rw [show (if false = true then !inV (V.str "alone") [V.str (hw al), V.str (hw y.2)] else inV (V.str "alone") [V.str (hw al), V.str (hw y.2)]) = (al || y.2) from inV_hw al y.2]
        refine ite2 (fun c3 => ?_) (fun c3 => ?_)
        · rw [c3, if_pos rfl] at eg
          refine ⟨_, rfl, _, s3 _ _ hZ, by rw [List.length_map, sizeLine_eq]; omega, ?_, ?_⟩
          · exact fun a o h => by rw [upd_ne (ne_of_none h nZ)]; exact s3 _ _ (sm _ _ h)
          · rw [upd_same, eg, List.map_append]; rfl
        · rw [if_neg c3, List.append_nil] at eg
          exact ⟨fun a o h => s3 _ _ (sm _ _ h), by rw [s3 _ _ hZ, eg]⟩
      · refine ⟨sm, ?_⟩
        rw [hZ, eg]
        have : decide (y.1 ≠ w) = false := by
          have e0 : kV (Sum.inl y.1) = V.int w := by simpa using c1
          injection e0 with e0
          simp [e0]
        rw [this, Bool.false_and, if_neg (by simp), List.append_nil]
    · obtain ⟨sm, hZ⟩ := q
      rw [List.take_of_length_le (by unfold kvH; rw [List.length_map]; exact Nat.le_refl _)] at hZ
      refine ⟨sm _ _ hf, k (upd H' b (.dK (kvH (lk (fg g.ho) n)))) Z (fun a o h => ?_) ?_ ?_⟩
      · by_cases e : a = b
        · rw [e, upd_same, ← hb, ← s1 _ _ h, e]
        · rw [upd_ne e]
          exact sm _ _ (s2 _ _ e (s1 _ _ h))
      · cases e : H Z with
        | none => rfl
        | some o =>
          have := s2 _ _ nZb (s1 _ _ e)
          rw [this] at nZ; cases nZ
      · rw [upd_ne nZb, hZ]; rfl
end
end K16
namespace K16
open PySem L2 HK
/-! ### mathematics -/
def srt (l : List Int) : List Int := l.mergeSort fun a b => decide (a ≤ b)
theorem srt_perm (l : List Int) : (srt l).Perm l := List.mergeSort_perm l _
theorem srt_sorted (l : List Int) : (srt l).Pairwise (· ≤ ·) := by
  have := List.pairwise_mergeSort (le := fun a b : Int => decide (a ≤ b)) (fun a b c h1 h2 => by simp at *; omega) (fun a b => by simp; omega) l
  exact this.imp fun h => by simpa using h
theorem srt_of {l m : List Int} (p : m.Perm l) (s : m.Pairwise (· ≤ ·)) : m = srt l :=
  List.Perm.eq_of_pairwise (fun x y _ _ h1 h2 => Int.le_antisymm h1 h2) s (srt_sorted l) (p.trans (srt_perm l).symm)
theorem srt_len (l : List Int) : (srt l).length = l.length := (srt_perm l).length_eq
theorem ahd_split {w : Int} {n : Str} : ∀ (i : Nat) (q : List (Row Str)), (∀ r ∈ q.take i, r.1 ≠ w) → ahd q w n = ahd (q.take i) w n ++ ahd (q.drop i) w n
  | 0, _, _ => rfl
  | _ + 1, [], _ => rfl
  | i + 1, r :: q, h => by
    have h1 : r.1 ≠ w := h r (by simp)
    have ih := ahd_split (n := n) i q fun s hs => h s (by simp [hs])
    show (if r.1 = w then [] else if r.2.1 = n then r.1 :: ahd q w n else ahd q w n) = (if r.1 = w then [] else if r.2.1 = n then r.1 :: ahd (q.take i) w n else ahd (q.take i) w n) ++ ahd (q.drop i) w n
    rw [if_neg h1, if_neg h1, ih]
    split <;> rfl
theorem ahd_snoc {w : Int} {n : Str} {r : Row Str} : ∀ {q : List (Row Str)}, (∀ s ∈ q, s.1 ≠ w) → r.1 ≠ w → ahd (q ++ [r]) w n = ahd q w n ++ if r.2.1 = n then [r.1] else []
  | [], _, h => by
    show (if r.1 = w then [] else if r.2.1 = n then r.1 :: [] else []) = [] ++ _
    rw [if_neg h]
    split <;> rfl
  | s :: q, h, k => by
    have h1 : s.1 ≠ w := h s (by simp)
    show (if s.1 = w then [] else if s.2.1 = n then s.1 :: ahd (q ++ [r]) w n else ahd (q ++ [r]) w n) = (if s.1 = w then [] else if s.2.1 = n then s.1 :: ahd q w n else ahd q w n) ++ _
    rw [if_neg h1, if_neg h1, ahd_snoc (fun s hs => h s (by simp [hs])) k]
    split <;> rfl
theorem ahd_len {w : Int} {n : Str} : ∀ (q : List (Row Str)), (ahd q w n).length ≤ q.length
  | [] => Nat.le_refl _
  | r :: q => by
    have := ahd_len (w := w) (n := n) q
    show (if r.1 = w then [] else if r.2.1 = n then r.1 :: ahd q w n else ahd q w n).length ≤ q.length + 1
    split
    · exact Nat.zero_le _
    · split
      · show _ + 1 ≤ _ + 1; omega
      · omega
theorem agst_len (l : Hs) (w : Int) (al : Bool) : (agst l w al).length ≤ l.length := by
  unfold agst whos
  rw [List.length_map]
  exact List.length_filter_le _ _
theorem raw_len (t : Tb Str) (q : List (Row Str)) (w : Int) (n : Str) (al : Bool) : (raw t q w n al).length ≤ (lk t n).length + q.length := by
  unfold raw
  rw [List.length_append]
  have h1 := agst_len (lk t n) w al
  have h2 := ahd_len (w := w) (n := n) q
  split
  · simp; omega
  · have h3 := List.length_filter_le (fun x => decide (x ∉ agst (lk t n) w al)) (ahd q w n)
    omega
theorem ints_all (l : List Int) : (l.map V.int).all flatV = true := by simp [List.all_map, flatV]
theorem inV_ints (x : Int) (l : List Int) : inV (.int x) (l.map V.int) = decide (x ∈ l) := by
  unfold inV
  rw [Bool.eq_iff_iff, List.any_eq_true, decide_eq_true_eq]
  constructor
  · rintro ⟨y, hy, e⟩
    obtain ⟨i, hi, rfl⟩ := List.mem_map.mp hy
    have e : (i == x) = true := e
    rw [← eq_of_beq e]; exact hi
  · intro h
    exact ⟨.int x, List.mem_map_of_mem h, by show (x == x) = true; simp⟩
/-! ### holders_of, fits -/
def spHof (CL : Addr) : Sp := fun vs H Q _ => ∃ c g n, vs = [.ref c, .str n] ∧ LAt CL H c g ∧ ∀ H' r, Same H H' → H r = none → H' r = some (.dK (kvH (lk g.t n))) → Q (.ref r) H'
def spFit (CL : Addr) : Sp := fun vs H Q _ => ∃ c g w n al, vs = [.ref c, .int w, .str n, .str (hw al)] ∧ LAt CL H c g ∧ (∃ S, Tok S g.t) ∧ ∀ H', Same H H' → Q (.bl (decide (agst (lk g.t n) w al = []))) H'
def spAhd (CL : Addr) : Sp := fun vs H Q _ => ∃ c g w n, vs = [.ref c, .int w, .str n] ∧ LAt CL H c g ∧ g.qs.length ≤ 5 ∧ ∀ H' r, Same H H' → H r = none → H' r = some (.lst ((ahd g.q w n).map V.int)) → Q (.ref r) H'
def spBlk (CL : Addr) : Sp := fun vs H Q _ => ∃ c g w n al, vs = [.ref c, .int w, .str n, .str (hw al)] ∧ LAt CL H c g ∧ (∃ S, Tok S g.t) ∧ g.qs.length ≤ 5 ∧ ∀ H' r, Same H H' → H r = none → H' r = some (.lst ((srt (raw g.t g.q w n al)).map V.int)) → Q (.ref r) H'
section
variable {P : Program} {w : World} {K : PySem.W.Frag} {mg : Str → Option Value} {base : Heap} {CL CE : Addr}
theorem scHof : FnScope ["self", "name"] ["self", "name"] (defScope sHof) := ⟨rfl, rfl, rfl, by decide +kernel, rfl, by decide +kernel, by decide +kernel⟩
theorem ok_hof {f : Addr} {fd : FuncData} (F : L2.Fun K "holders_of" "Locks.holders_of" sHof f fd) (T : LTxt K mg CL CE) : FnOk P w K mg base L2.CX0 1 f fd ["self", "name"] (spHof CL) := by
  refine F.ok scHof (fun vs H Q E h => ?_) (fun cdv A outer s H vs Q E hr h => ?_)
  · obtain ⟨c, g, n, rfl, _⟩ := h
    rfl
  · obtain ⟨c, g, n, rfl, x, k⟩ := h
    refine ⟨_, pss_one (ps_ret (pe_callTy call_dictD (by rfl) T.dict PyProof.Rows.Boot.«dict» (pa_cons (pe_dget2 (hu_of hr) (pe_fld (pv 0) rfl) (pv 1) pe_dnewK ⟨rfl, rfl, rfl, rfl⟩) pa_nil))), ?_⟩
    refine ⟨_, rfl, c, CL, g.cx, _, _, rfl, x.ins, T.cl, T.n1, rfl, g.a, rfl, .inl ⟨_, .inl x.tab.top⟩, _, rfl, fun nd hnd => ?_⟩
    obtain ⟨b, eb, hb⟩ := get_hs x.tab n hnd
    have s1 : Same H (upd H nd (.dK [])) := same_upd hnd
    have x1 := x.same s1
    refine ⟨_, dGet_k (k := .inr n) (.inl x1.tab.top), ?_⟩
    rw [eb]
    generalize upd H nd (.dK []) = H1 at hb s1 x1 ⊢
    refine ⟨b, _, rfl, .inl hb, fun r nr => ?_⟩
    exact k _ r (s1.trans (same_upd nr)) (s1.free nr) upd_same
theorem scFit : FnScope ["self", "who", "name", "how"] ["self", "who", "name", "how"] (defScope sFit) := ⟨rfl, rfl, rfl, by decide +kernel, rfl, by decide +kernel, by decide +kernel⟩
theorem dps_ints {H : Hp} : ∀ l : List Int, DpAll K H (l.map V.int) (l.map PyData.int)
  | [] => .nil
  | i :: r => .cons (.int i) (dps_ints r)
theorem dp_ints {H : Hp} {a : Addr} {l : List Int} (h : H a = some (.lst (l.map V.int))) : Dp K H (.ref a) (.list (l.map PyData.int)) := .lst (SqL.of h) (dps_ints l)
theorem shaped_ints (l : List Int) : SeqAt.shaped (.list (l.map PyData.int)) = true := by
  have := PySem.W.ke_shaped_ints l
  unfold SeqAt.shaped at this ⊢
  simpa [PyData.canLay0, PyData.depth] using this
theorem eqv_nil (l : List Int) : PyData.eqv (.list (l.map PyData.int)) (.list []) = decide (l = []) := by
  cases l with
  | nil => rfl
  | cons a r => rfl
theorem ok_fit {f fA : Addr} {fd fdA : FuncData} (F : L2.Fun K "fits" "Locks.fits" sFit f fd) (T : LTxt K mg CL CE)
    (FA : FnOk P w K mg base L2.CX0 1 fA fdA ["self", "who", "name", "how"] (spAgs CL)) (bA : Binds K fdA ["self", "who", "name", "how"] []) (mA : Meth K CL "against" fA) :
    FnOk P w K mg base L2.CX0 2 f fd ["self", "who", "name", "how"] (spFit CL) := by
  refine F.ok scFit (fun vs H Q E h => ?_) (fun cdv A outer s H vs Q E hr h => ?_)
  · obtain ⟨c, g, n, w, al, rfl, _⟩ := h
    rfl
  · obtain ⟨c, g, w, n, al, rfl, x, tok, k⟩ := h
    refine ⟨_, pss_one (ps_ret (pe_cmpR (op_eqD hr.units) (pe_meth (pv 0) T.cl mA FA hr bA .nil pass0 (pa_cons (pv 1) (pa_cons (pv 2) (pa_cons (pv 3) pa_nil)))) (pe_lst pa_nil) (nomark _))), ?_⟩
    refine ⟨_, rfl, c, g.cx, _, rfl, x.ins, rfl, _, rfl, _, rfl, _, rfl, c, g, w, n, al, rfl, x, tok, fun H1 r s1 nr hr1 => ?_⟩
    refine ⟨by show 0 ≤ sizeLine; decide, fun l nl => ?_⟩
    have hr2 : (upd H1 l (.lst [])) r = some (.lst (agF (lk g.t n) w al)) := by rw [upd_ne (ne_of_none hr1 nl)]; exact hr1
    refine ⟨_, .list [], dp_ints hr2, Dp.lst (SqL.of upd_same) .nil, shaped_ints _, rfl, ?_⟩
    rw [eqv_nil]
    exact k _ (s1.trans (same_upd nl))
end
end K16
namespace K16
open PySem L2 HK
section
variable {P : Program} {w : World} {K : PySem.W.Frag} {mg : Str → Option Value} {base : Heap} {CL CE : Addr}
theorem scAhd : FnScope ["self", "who", "name", "found", "one", "wanted", "way"] ["self", "who", "name"] (defScope sAhd) := ⟨rfl, rfl, rfl, by decide +kernel, rfl, by decide +kernel, by decide +kernel⟩
theorem ok_ahd {f : Addr} {fd : FuncData} (F : L2.Fun K "ahead" "Locks.ahead" sAhd f fd) (T : LTxt K mg CL CE) : FnOk P w K mg base L2.CX0 1 f fd ["self", "who", "name"] (spAhd CL) := by
  refine F.ok scAhd (fun vs H Q E h => ?_) (fun cdv A outer s H vs Q E hr h => ?_)
  · obtain ⟨c, g, w, n, rfl, _⟩ := h
    rfl
  · obtain ⟨c, g, w, n, rfl, x, len, k⟩ := h
    refine ⟨_, pss_cons (ps_set (i := 3) scAhd.nd rfl (Or.inl rfl) (pe_lst pa_nil))
      (pss_cons (ps_for PassesOwn.never rfl (pi_list (pe_fld (pv 0) rfl)) (pg_tup rfl (pgs_cons (pg_name (i := 4) scAhd.nd rfl (Or.inl rfl)) (pgs_cons (pg_name (i := 5) scAhd.nd rfl (Or.inl rfl)) (pgs_cons (pg_name (i := 6) scAhd.nd rfl (Or.inl rfl)) pgs_nil))))
        (pss_cons (ps_if (pt_cmpR op_eq (pv 4) (pv 1) (nomark _)) (pss_one (ps_ret (pv 3))) pss_nil)
        (pss_one (ps_if (pt_cmpR op_eq (pv 5) (pv 2) (nomark _)) (pss_one (ps_expr (pe_bm PySem.F.plainAttrs_list PySem.F.slot_list_append PySem.F.type_list_append mt_append (pv 3) (pa_cons (pv 4) pa_nil)))) pss_nil))))
      (pss_one (ps_ret (pv 3)))), ?_⟩
    refine ⟨by show 0 ≤ sizeLine; decide, fun l nl => ?_⟩
    have s1 : Same H (upd H l (.lst [])) := same_upd nl
    have hl : (upd H l (.lst [])) l = some (.lst []) := upd_same
    have x1 := x.same s1
    have fr : ∀ H', SameX l (upd H l (.lst [])) H' → Same H H' := fun H' sx b o h => sx b o (ne_of_none h nl) (s1 b o h)
    have nql : g.l ≠ l := ne_of_none x.que.lst nl
    have ntl : ∀ y ∈ g.qs, y.1 ≠ l := fun y hy => ne_of_none (x.que.tup y hy) nl
    generalize upd H l (.lst []) = H1 at s1 hl x1 fr ⊢
    refine ⟨_, rfl, c, CL, g.cx, _, _, rfl, x1.ins, T.cl, T.n2, rfl, g.l, rfl, ⟨_, SqL.of x1.que.lst⟩, ?_⟩
    refine for_list (K := K) (a := g.l) (xs := g.qs.map fun y => V.ref y.1) (fun i σ H' => SameX l H1 H' ∧ (∀ r ∈ g.q.take i, r.1 ≠ w) ∧ H' l = some (.lst ((ahd (g.q.take i) w n).map V.int)) ∧ ∃ u1 u2 u3, σ = [some (.ref c), some (.int w), some (.str n), some (.ref l), u1, u2, u3]) ⟨SameX.refl _ _, fun r h => (by cases h), hl, none, none, none, rfl⟩ (fun i σ H' hi q => SqL.of (q.1 _ _ nql x1.que.lst)) (fun i z σ H' hx q => ?_) (fun σ H' q => ?_)
    · obtain ⟨sx, hne, hl', u1, u2, u3, rfl⟩ := q
      rw [List.getElem?_map] at hx
      obtain ⟨y, hy, rfl⟩ := Option.map_eq_some_iff.mp hx
      have ym := List.mem_of_getElem? hy
      have et : g.q.take (i + 1) = g.q.take i ++ [y.2] := by
        have : g.q[i]? = some y.2 := by unfold LG.q qf; rw [List.getElem?_map, hy]; rfl
        rw [List.take_add_one, this]; rfl
      have ht := sx _ _ (ntl y ym) (x1.que.tup y ym)
      refine ⟨y.1, _, rfl, SqT.of ht, rfl, _, _, rfl, _, _, rfl, _, _, rfl, rfl, ?_⟩
      refine ⟨_, rfl, _, rfl, rfl, _, rfl, ite2 (fun c1 => ?_) (fun c1 => ?_)⟩
      · have e1 : y.2.1 = w := by simpa using c1
        refine ⟨_, rfl, k H' l (fr _ sx) nl ?_⟩
        rw [hl', ahd_split i g.q hne]
        have : g.q.drop i = y.2 :: g.q.drop (i + 1) := by
          have e : g.q[i]? = some y.2 := by unfold LG.q qf; rw [List.getElem?_map, hy]; rfl
          obtain ⟨hi, e2⟩ := List.getElem?_eq_some_iff.mp e
          rw [← e2]; exact List.drop_eq_getElem_cons hi
        rw [this]
        have : ahd (y.2 :: g.q.drop (i + 1)) w n = [] := by
          show (if y.2.1 = w then [] else _) = []
          rw [if_pos e1]
        rw [this, List.append_nil]
      · have e1 : y.2.1 ≠ w := by simpa using c1
        have hne' : ∀ r ∈ g.q.take (i + 1), r.1 ≠ w := fun r hr => by
          rw [et] at hr
          rcases List.mem_append.mp hr with z | z
          · exact hne r z
          · rw [List.mem_singleton.mp z]; exact e1
        have ea : ahd (g.q.take (i + 1)) w n = ahd (g.q.take i) w n ++ if y.2.2.1 = n then [y.2.1] else [] := by rw [et]; exact ahd_snoc hne e1
        have lq : (ahd (g.q.take i) w n).length ≤ 5 := by
          have h1 := ahd_len (w := w) (n := n) (g.q.take i)
          rw [List.length_take] at h1
          have : g.q.length = g.qs.length := by unfold LG.q qf; rw [List.length_map]
          omega
        refine ⟨_, rfl, _, rfl, rfl, _, rfl, ite2 (fun c2 => ?_) (fun c2 => ?_)⟩
        · have e2 : y.2.2.1 = n := by simpa using c2
          rw [if_pos e2] at ea
          refine ⟨_, rfl, .inl ⟨rfl, _, SqL.of hl'⟩, _, rfl, l, _, _, rfl, rfl, hl', by rw [List.length_map, sizeLine_eq]; omega, ?_⟩
          refine ⟨sx.trans SameX.upd, hne', ?_, _, _, _, rfl⟩
          rw [upd_same, ea, List.map_append]; rfl
        · have e2 : y.2.2.1 ≠ n := by simpa using c2
          rw [if_neg e2, List.append_nil] at ea
          exact ⟨sx, hne', by rw [ea]; exact hl', _, _, _, rfl⟩
    · obtain ⟨sx, hne, hl', u1, u2, u3, rfl⟩ := q
      rw [List.length_map, show g.qs.length = g.q.length from (by unfold LG.q qf; rw [List.length_map]), List.take_length] at hl'
      exact ⟨_, rfl, k H' l (fr _ sx) nl hl'⟩
theorem scBlk : FnScope ["self", "who", "name", "how", "found", "one"] ["self", "who", "name", "how"] (defScope sBlk) := ⟨rfl, rfl, rfl, by decide +kernel, rfl, by decide +kernel, by decide +kernel⟩
theorem ok_blk {f fA fH : Addr} {fd fdA fdH : FuncData} (F : L2.Fun K "blockers" "Locks.blockers" sBlk f fd) (T : LTxt K mg CL CE)
    (FA : FnOk P w K mg base L2.CX0 1 fA fdA ["self", "who", "name", "how"] (spAgs CL)) (bA : Binds K fdA ["self", "who", "name", "how"] []) (mA : Meth K CL "against" fA)
    (FH : FnOk P w K mg base L2.CX0 1 fH fdH ["self", "who", "name"] (spAhd CL)) (bH : Binds K fdH ["self", "who", "name"] []) (mH : Meth K CL "ahead" fH) :
    FnOk P w K mg base L2.CX0 2 f fd ["self", "who", "name", "how"] (spBlk CL) := by
  refine F.ok scBlk (fun vs H Q E h => ?_) (fun cdv A outer s H vs Q E hr h => ?_)
  · obtain ⟨c, g, w, n, al, rfl, _⟩ := h
    rfl
  · obtain ⟨c, g, w, n, al, rfl, x, tok, len, k⟩ := h
    refine ⟨_, pss_cons (ps_set (i := 4) scBlk.nd rfl (Or.inr rfl) (pe_meth (pv 0) T.cl mA FA hr bA .nil pass0 (pa_cons (pv 1) (pa_cons (pv 2) (pa_cons (pv 3) pa_nil)))))
      (pss_cons (ps_if (pt_cmp (pc_dnotin (hu_of hr) (pv 1) (pe_dget2 (hu_of hr) (pe_fld (pv 0) rfl) (pv 2) pe_dnewK ⟨rfl, rfl, rfl, rfl⟩)))
        (pss_one (ps_expr (pe_bm PySem.F.plainAttrs_list PySem.F.slot_list_extend PySem.F.type_list_extend mt_extend (pv 4) (pa_cons
          (pe_lc (own := [("one", 5)]) (g := gName 5) (te := tVar 5) (by rfl) scBlk.nd (pi_list (pe_meth (pv 0) T.cl mH FH hr bH .nil pass0 (pa_cons (pv 1) (pa_cons (pv 2) pa_nil)))) (blkOk_by (N := ["self", "who", "name", "how", "found", "one"]) (sc := defScope sBlk) (by decide +kernel))
            (fun _ _ _ _ _ => pg_name (i := 5) scBlk.nd rfl (Or.inl rfl)) (fun _ _ _ _ _ => pts_one (pt_cmpR (r := rIn K true) (by exact op_notIn_seq) (pv 5) (pv 4) rfl)) (fun _ _ _ _ _ => pv 5)) pa_nil)))) pss_nil)
      (pss_one (ps_ret (pe_callB cr_sorted (by rfl) T.sorted (by decide +kernel) (pa_cons (pv 4) pa_nil))))), ?_⟩
    obtain ⟨S, tok'⟩ := id tok
    have lk5 := tok'.len n
    refine ⟨_, rfl, c, g.cx, _, rfl, x.ins, rfl, _, rfl, _, rfl, _, rfl, c, g, w, n, al, rfl, x, tok, fun H1 r s1 nr hr1 => ?_⟩
    have x1 := x.same s1
    unfold agF at hr1
    refine ⟨_, rfl, _, rfl, c, CL, g.cx, _, _, rfl, x1.ins, T.cl, T.n1, rfl, g.a, rfl, .inl ⟨_, .inl x1.tab.top⟩, _, rfl, fun nd hnd => ?_⟩
    obtain ⟨b, eb, hb⟩ := get_hs x1.tab n hnd
    have s2 : Same H1 (upd H1 nd (.dK [])) := same_upd hnd
    have x2 := x1.same s2
    have hr2 := s2 _ _ hr1
    refine ⟨_, dGet_k (k := .inr n) (.inl x2.tab.top), ?_⟩
    rw [eb]
    generalize upd H1 nd (.dK []) = H2 at hb s2 x2 hr2 ⊢
    clear eb hnd
    have s12 := s1.trans s2
    have lag := agst_len (lk g.t n) w al
    have lah := ahd_len (w := w) (n := n) g.q
    have lq : g.q.length = g.qs.length := by unfold LG.q qf; rw [List.length_map]
    refine ⟨b, _, rfl, dGet_k (k := .inl w) (.inl hb), _, rfl, ite2 (fun c1 => ?A) (fun c1 => ?B)⟩
    case' A =>
      have c1 : w ∉ whos (lk g.t n) := fun z => by
        have := inH_iff.mpr z
        unfold LG.t at this
        rw [this] at c1; cases c1
      refine ⟨_, rfl, .inl ⟨rfl, _, SqL.of hr2⟩, ?_⟩
      refine ⟨_, rfl, c, g.cx, _, rfl, x2.ins, rfl, _, rfl, _, rfl, c, g, w, n, rfl, x2, len, fun H3 l s3 nl hl => ?_⟩
      have hr3 := s3 _ _ hr2
      have s13 := s12.trans s3
      refine ⟨l, rfl, ⟨_, SqL.of hl⟩, fun Z nZ => ?_⟩
      refine lc_list (K := K) (a := l) (xs := (ahd g.q w n).map V.int) (fun i H' => Same H3 H' ∧ H' Z = some (.lst ((((ahd g.q w n).take i).filter fun y => decide (y ∉ agst (lk g.t n) w al)).map V.int))) ⟨same_upd nZ, upd_same⟩ (fun i H' hi q => SqL.of (q.1 _ _ hl)) (fun i z H' hx q => ?_) (fun H' q => ?_)
      · obtain ⟨sm, hZ⟩ := q
        rw [List.getElem?_map] at hx
        obtain ⟨y, hy, rfl⟩ := Option.map_eq_some_iff.mp hx
        have et : (ahd g.q w n).take (i + 1) = (ahd g.q w n).take i ++ [y] := by rw [List.take_add_one, hy]; rfl
        have lf : (((ahd g.q w n).take i).filter fun y => decide (y ∉ agst (lk g.t n) w al)).length ≤ 5 := by
          refine Nat.le_trans (List.length_filter_le _ _) ?_
          rw [List.length_take]; omega
        refine ⟨rfl, _, rfl, _, rfl, r, _, rfl, .inl (SqL.of (sm _ _ hr3)), rfl, ints_all _, _, rfl, ?_⟩
        rw [show (if true = true then !inV (V.int y) ((agst (lk g.t n) w al).map V.int) else inV (V.int y) ((agst (lk g.t n) w al).map V.int)) = decide (y ∉ agst (lk g.t n) w al) from by rw [inV_ints]; simp]
        rw [et, List.filter_append, List.map_append, List.filter_cons, List.filter_nil]
        refine ite2 (fun c2 => ?_) (fun c2 => ?_)
        · rw [if_pos c2]
          refine ⟨_, rfl, _, hZ, by rw [List.length_map, sizeLine_eq]; omega, fun a o h => by rw [upd_ne (ne_of_none h nZ)]; exact sm _ _ h, ?_⟩
          rw [upd_same]; rfl
        · rw [if_neg c2]
          refine ⟨sm, ?_⟩
          rw [hZ]; simp
      obtain ⟨sm, hZ⟩ := q
      rw [List.length_map, List.take_length] at hZ
      refine ⟨r, Z, _, _, rfl, rfl, sm _ _ hr3, hZ, ?_, ?_⟩
      · rw [List.length_map, List.length_map, sizeLine_eq]
        have := List.length_filter_le (fun y => decide (y ∉ agst (lk g.t n) w al)) (ahd g.q w n)
        omega
      have hr4 : (upd H' r (.lst ((agst (lk g.t n) w al).map V.int ++ ((ahd g.q w n).filter fun y => decide (y ∉ agst (lk g.t n) w al)).map V.int))) r = some (.lst ((raw g.t g.q w n al).map V.int)) := by
        rw [upd_same]
        unfold raw
        rw [if_neg c1, List.map_append]
      have f4 : Same H (upd H' r (.lst ((agst (lk g.t n) w al).map V.int ++ ((ahd g.q w n).filter fun y => decide (y ∉ agst (lk g.t n) w al)).map V.int))) := fun a o h => by
        rw [upd_ne (ne_of_none h nr)]
        exact sm _ _ (s13 _ _ h)
      generalize upd H' r (.lst ((agst (lk g.t n) w al).map V.int ++ ((ahd g.q w n).filter fun y => decide (y ∉ agst (lk g.t n) w al)).map V.int)) = H4 at hr4 f4 ⊢
    case' B =>
      have c1 : w ∈ whos (lk g.t n) := by
        refine Classical.byContradiction fun z => c1 ?_
        have : (valV (kvH (lk (fg g.ho) n)) (.inl w)).isSome = false := by
          cases e : (valV (kvH (lk (fg g.ho) n)) (.inl w)).isSome with
          | false => rfl
          | true => exact absurd (inH_iff.mp e) z
        rw [this]; rfl
      obtain ⟨H4, e4⟩ : ∃ H4, H4 = H2 := ⟨_, rfl⟩
      have hr4 : H4 r = some (.lst ((raw g.t g.q w n al).map V.int)) := by
        rw [e4, hr2]
        unfold raw
        rw [if_pos c1, List.append_nil]
      have f4 : Same H H4 := by rw [e4]; exact s12
      rw [← e4]
    all_goals
      have l4 : (raw g.t g.q w n al).length < 64 := by
        have := raw_len g.t g.q w n al
        omega
      refine ⟨_, rfl, r, _, rfl, SqL.of hr4, l4, fun ns' p pm so np => ?_⟩
      have e := srt_of pm so
      subst e
      exact k _ p (f4.trans (same_upd np)) (f4.free np) upd_same
end
end K16
namespace K16
open PySem L2 HK
/-! ### a table of tables is changed -/
theorem dk_ne {H : Hp} {a b : Addr} {k : KVs} {o : HO} (h : H a = some (.dK k)) (hb : H b = some o) (n : ∀ k, o ≠ .dK k) : a ≠ b := ne_of h hb (fun z => n _ z.symm)
def setHo (ho : Ho) (n : Str) (p : Addr) (l : Hs) : Ho := if n ∈ ho.map (·.1) then ho.map (fun z => if z.1 = n then (z.1, z.2.1, l) else z) else ho ++ [(n, p, l)]
def delHo (ho : Ho) (n : Str) : Ho := ho.filter fun z => decide (z.1 ≠ n)
theorem keys_fg (ho : Ho) : (fg ho).map (·.1) = ho.map (·.1) := by unfold fg; rw [List.map_map]; rfl
theorem fg_set (ho : Ho) (n : Str) (p : Addr) (l : Hs) : fg (setHo ho n p l) = setT (fg ho) n l := by
  unfold setHo setT
  rw [keys_fg]
  split
  · unfold fg
    rw [List.map_map, List.map_map]
    refine List.map_congr_left fun z _ => ?_
    show ((if z.1 = n then (z.1, z.2.1, l) else z).1, (if z.1 = n then (z.1, z.2.1, l) else z).2.2) = (if z.1 = n then (z.1, l) else (z.1, z.2.2))
    split <;> rfl
  · unfold fg; rw [List.map_append]; rfl
theorem fg_del (ho : Ho) (n : Str) : fg (delHo ho n) = delT (fg ho) n := by
  unfold delHo delT fg
  rw [List.filter_map]; rfl
theorem kvT_del (ho : Ho) (n : Str) : dropK (kvT ho) (.inr n) = kvT (delHo ho n) := by
  unfold dropK kvT delHo
  rw [List.filter_map]
  congr 1
  refine List.filter_congr fun z _ => ?_
  show decide ((Sum.inr z.1 : Key) ≠ .inr n) = decide (z.1 ≠ n)
  by_cases e : z.1 = n
  · simp [e]
  · simp [e]
theorem kvH_put (l : Hs) (w : Int) (b : Bool) : putK (kvH l) (.inl w) (.str (hw b)) = kvH (putH l w b) := by
  unfold putK putH
  by_cases c : w ∈ whos l
  · rw [if_pos c, if_pos (by rw [valV_any]; exact inH_iff.mpr c)]
    unfold kvH
    rw [List.map_map, List.map_map]
    refine List.map_congr_left fun z _ => ?_
    show (if (Sum.inl z.1 : Key) = .inl w then ((Sum.inl z.1 : Key), V.str (hw b)) else (.inl z.1, .str (hw z.2))) = (Sum.inl (if z.1 = w then (z.1, b) else z).1, V.str (hw (if z.1 = w then (z.1, b) else z).2))
    by_cases e : z.1 = w
    · rw [if_pos e, if_pos (by rw [e])]
    · rw [if_neg e, if_neg (fun y => e (by injection y))]
  · rw [if_neg c, if_neg (by rw [valV_any]; exact fun y => c (inH_iff.mp y))]
    unfold kvH
    rw [List.map_append]; rfl
theorem kvH_drop (l : Hs) (w : Int) : dropK (kvH l) (.inl w) = kvH (dropH l w) := by
  unfold dropK kvH dropH
  rw [List.filter_map]
  congr 1
  refine List.filter_congr fun z _ => ?_
  show decide ((Sum.inl z.1 : Key) ≠ .inl w) = decide (z.1 ≠ w)
  by_cases e : z.1 = w
  · simp [e]
  · simp [e]
theorem TAt.ne {H : Hp} {a : Addr} {ho : Ho} (x : TAt H a ho) {y : Str × Addr × Hs} (h : y ∈ ho) : y.2.1 ≠ a := fun e => (List.nodup_cons.mp x.nd).1 (by rw [← e]; exact List.mem_map_of_mem h)
theorem nd_inj {α β : Type} {f : α → β} : ∀ {l : List α}, (l.map f).Nodup → ∀ {x y : α}, x ∈ l → y ∈ l → f x = f y → x = y
  | a :: r, nd, x, y, hx, hy, e => by
    have nd' := List.nodup_cons.mp nd
    rcases List.mem_cons.mp hx with h1 | h1 <;> rcases List.mem_cons.mp hy with h2 | h2
    · rw [h1, h2]
    · exact absurd (List.mem_map_of_mem (f := f) h2) (by rw [← e, h1]; exact nd'.1)
    · exact absurd (List.mem_map_of_mem (f := f) h1) (by rw [e, h2]; exact nd'.1)
    · exact nd_inj nd'.2 h1 h2 e
/-- one inner table is changed -/
theorem TAt.put {H H' : Hp} {a p : Addr} {ho : Ho} (x : TAt H a ho) (nk : (ho.map (·.1)).Nodup) {y : Str × Addr × Hs} (hy : y ∈ ho) {l : Hs} (s : SameX y.2.1 H H') (hl : H' y.2.1 = some (.dK (kvH l))) : TAt H' a (setHo ho y.1 p l) := by
  have hin : y.1 ∈ ho.map (·.1) := List.mem_map_of_mem hy
  have key : ∀ z ∈ ho, z.1 = y.1 → z = y := fun z hz e => nd_inj nk hz hy e
  have nda := (List.nodup_cons.mp x.nd).2
  unfold setHo
  rw [if_pos hin]
  refine ⟨?_, fun z hz => ?_, ?_⟩
  · rw [s _ _ (Ne.symm (x.ne hy)) x.top]
    unfold kvT
    rw [List.map_map]
    congr 2
    refine List.map_congr_left fun z _ => ?_
    show (_, _) = ((Sum.inr (if z.1 = y.1 then (z.1, z.2.1, l) else z).1 : Key), V.ref (if z.1 = y.1 then (z.1, z.2.1, l) else z).2.1)
    split <;> rfl
  · obtain ⟨z', hz', e⟩ := List.mem_map.mp hz
    by_cases c : z'.1 = y.1
    · rw [if_pos c] at e
      have := key z' hz' c
      rw [← e, this]; exact hl
    · rw [if_neg c] at e
      rw [← e]
      refine s _ _ (fun q => c ?_) (x.inn z' hz')
      have := nd_inj (f := fun z : Str × Addr × Hs => z.2.1) nda hz' hy q
      rw [this]
  · have : adr (ho.map fun z => if z.1 = y.1 then (z.1, z.2.1, l) else z) = adr ho := by
      unfold adr
      rw [List.map_map]
      refine List.map_congr_left fun z _ => ?_
      show (if z.1 = y.1 then (z.1, z.2.1, l) else z).2.1 = z.2.1
      split <;> rfl
    rw [this]; exact x.nd
theorem adr_set {ho : Ho} {n : Str} {p : Addr} {l : Hs} {b : Addr} (h : b ∈ adr (setHo ho n p l)) : b ∈ adr ho ∨ b = p := by
  unfold setHo at h
  split at h
  · have : adr (ho.map fun z => if z.1 = n then (z.1, z.2.1, l) else z) = adr ho := by
      unfold adr
      rw [List.map_map]
      refine List.map_congr_left fun z _ => ?_
      show (if z.1 = n then (z.1, z.2.1, l) else z).2.1 = z.2.1
      split <;> rfl
    rw [this] at h; exact .inl h
  · unfold adr at h ⊢
    rw [List.map_append] at h
    rcases List.mem_append.mp h with z | z
    · exact .inl z
    · exact .inr (by simpa using z)
/-- one more inner table -/
theorem TAt.more {H H' : Hp} {a p : Addr} {ho : Ho} (x : TAt H a ho) {n : Str} (hp : H p = none) (s : ∀ b o, H b = some o → b ≠ a → H' b = some o) (ha : H' a = some (.dK (kvT ho ++ [(.inr n, .ref p)]))) {l : Hs} (hl : H' p = some (.dK (kvH l))) : TAt H' a (ho ++ [(n, p, l)]) := by
  refine ⟨?_, fun z hz => ?_, ?_⟩
  · rw [ha]; unfold kvT; rw [List.map_append]; rfl
  · rcases List.mem_append.mp hz with h | h
    · exact s _ _ (x.inn z h) (x.ne h)
    · rw [List.mem_singleton.mp h]; exact hl
  · unfold adr
    rw [List.map_append]
    show (a :: (ho.map _ ++ [p])).Nodup
    rw [← List.cons_append]
    refine List.nodup_append.mpr ⟨x.nd, by simp, fun b hb c hc e => ?_⟩
    rw [List.mem_singleton.mp hc] at e
    rw [e] at hb
    rcases List.mem_cons.mp hb with h | h
    · rw [h, x.top] at hp; cases hp
    · obtain ⟨z, hz, e2⟩ := List.mem_map.mp h
      rw [← e2, x.inn z hz] at hp; cases hp
/-- one inner table goes -/
theorem TAt.del {H H' : Hp} {a : Addr} {ho : Ho} (x : TAt H a ho) (n : Str) (s : SameX a H H') (ha : H' a = some (.dK (dropK (kvT ho) (.inr n)))) : TAt H' a (delHo ho n) := by
  refine ⟨by rw [ha, kvT_del], fun z hz => ?_, ?_⟩
  · have := (List.mem_filter.mp hz).1
    exact s _ _ (x.ne this) (x.inn z this)
  · have nd := List.nodup_cons.mp x.nd
    refine List.nodup_cons.mpr ⟨fun h => nd.1 ?_, List.Sublist.nodup (List.Sublist.map (fun z : Str × Addr × Hs => z.2.1) List.filter_sublist) nd.2⟩
    obtain ⟨z, hz, e⟩ := List.mem_map.mp h
    rw [← e]; exact List.mem_map_of_mem (List.mem_filter.mp hz).1
theorem adr_del {ho : Ho} {n : Str} {b : Addr} (h : b ∈ adr (delHo ho n)) : b ∈ adr ho := by
  obtain ⟨z, hz, e⟩ := List.mem_map.mp h
  rw [← e]; exact List.mem_map_of_mem (List.mem_filter.mp hz).1
theorem key_of {ho : Ho} {n : Str} (h : n ∈ ho.map (·.1)) : ∃ y ∈ ho, y.1 = n := by
  obtain ⟨y, hy, e⟩ := List.mem_map.mp h
  exact ⟨y, hy, e⟩
theorem lk_fg {ho : Ho} (nk : (ho.map (·.1)).Nodup) {y : Str × Addr × Hs} (h : y ∈ ho) : lk (fg ho) y.1 = y.2.2 := by
  rcases valV_kvT y.1 ho with ⟨_, h2, _⟩ | ⟨x, hx, e, _, h3⟩
  · exact absurd rfl (h2 y h)
  · rw [h3, nd_inj nk hx h e]
theorem val_fg {ho : Ho} (nk : (ho.map (·.1)).Nodup) {y : Str × Addr × Hs} (h : y ∈ ho) : valV (kvT ho) (.inr y.1) = some (.ref y.2.1) := by
  rcases valV_kvT y.1 ho with ⟨_, h2, _⟩ | ⟨x, hx, e, h2, _⟩
  · exact absurd rfl (h2 y h)
  · rw [h2, nd_inj nk hx h e]
/-- d.setdefault(n, {}): the inner table stands there -/
theorem setd_hs {H : Hp} {a : Addr} {ho : Ho} (x : TAt H a ho) (nk : (ho.map (·.1)).Nodup) (n : Str) {p : Addr} (hp : H p = none) :
    (∃ y ∈ ho, y.1 = n ∧ valV (kvT ho) (.inr n) = some (.ref y.2.1) ∧ TAt (upd H p (.dK [])) a ho) ∨
    (n ∉ ho.map (·.1) ∧ valV (kvT ho) (.inr n) = none ∧ TAt (upd (upd H p (.dK [])) a (.dK (putK (kvT ho) (.inr n) (.ref p)))) a (ho ++ [(n, p, [])])) := by
  rcases valV_kvT n ho with ⟨h1, h2, h3⟩ | ⟨y, hy, e, h2, h3⟩
  · refine .inr ⟨fun z => ?_, h1, ?_⟩
    · obtain ⟨y, hy, e⟩ := key_of z
      exact h2 y hy e
    · have npa : p ≠ a := fun e => by rw [e, x.top] at hp; cases hp
      refine x.more (l := []) hp (fun b o hb n => by rw [upd_ne n, upd_ne (ne_of_none hb hp)]; exact hb) (by rw [upd_same, putK_new _ h1]) ?_
      rw [upd_ne npa, upd_same]; rfl
  · exact .inl ⟨y, hy, e, h2, x.same (same_upd hp)⟩
theorem setT_new {t : Tb Str} {n : Str} {l : Hs} (h : n ∉ t.map (·.1)) : setT (t ++ [(n, [])]) n l = setT t n l := by
  unfold setT
  rw [if_neg h, if_pos (by rw [List.map_append]; simp), List.map_append]
  congr 1
  · refine (List.map_congr_left fun z hz => ?_).trans (List.map_id _)
    rw [if_neg (fun e => h (by rw [← e]; exact List.mem_map_of_mem hz))]; rfl
  · simp
theorem nd_sub {α : Type} : ∀ {l m : List α}, l.Nodup → (∀ x ∈ l, x ∈ m) → l.length ≤ m.length
  | [], _, _, _ => Nat.zero_le _
  | x :: r, m, nd, h => by
    obtain ⟨s, t, e⟩ := List.append_of_mem (h x (by simp))
    subst e
    have ih := nd_sub (l := r) (m := s ++ t) (List.nodup_cons.mp nd).2 fun y hy => by
      have hm := h y (by simp [hy])
      have ne : y ≠ x := fun z => (List.nodup_cons.mp nd).1 (z ▸ hy)
      rcases List.mem_append.mp hm with z | z
      · exact List.mem_append_left _ z
      · rcases List.mem_cons.mp z with z | z
        · exact absurd z ne
        · exact List.mem_append_right _ z
    rw [List.length_append] at ih
    rw [List.length_append, List.length_cons, List.length_cons]
    omega
/-- the cache's own fields -/
theorem del_map (n : Str) (l : Hs) : ∀ t : Tb Str, (t.map fun x => if x.1 = n then (x.1, l) else x).filter (fun x => decide (x.1 ≠ n)) = t.filter fun x => decide (x.1 ≠ n)
  | [] => rfl
  | x :: r => by
    rw [List.map_cons, List.filter_cons, List.filter_cons, del_map n l r]
    by_cases e : x.1 = n
    · rw [if_pos e]; simp [e]
    · rw [if_neg e]
theorem del_set (t : Tb Str) (n : Str) (l : Hs) : delT (setT t n l) n = delT t n := by
  unfold delT setT
  split
  · exact del_map n l t
  · rw [List.filter_append]; simp
theorem Tok.nk {S : List Str} {ho : Ho} (x : Tok S (fg ho)) : (ho.map (·.1)).Nodup := by rw [← keys_fg]; exact x.ndk
theorem Tok.few {S : List Str} {ho : Ho} (x : Tok S (fg ho)) (hS : S.length ≤ 4) : ho.length ≤ 4 := by
  have h1 : (ho.map (·.1)).length ≤ S.length := by
    refine nd_sub x.nk fun n hn => ?_
    obtain ⟨y, hy, e⟩ := key_of hn
    have := x.ks (y.1, y.2.2) (List.mem_map.mpr ⟨y, hy, rfl⟩)
    rw [← e]; exact this
  rw [List.length_map] at h1
  omega
/-! ### tables compared -/
theorem room66 {k : Nat} {A : Around} (hr : Room k A) : A.units + 66 < cLine := by have := hr.un; omega
def dH (l : Hs) : Key → PyData
  | .inl i => .str (hw ((lkI l i).getD false))
  | .inr _ => .none
theorem dvs_H {K : PySem.W.Frag} {H : Hp} {l : Hs} (nd : (whos l).Nodup) : HKE.DVs K H (kvH l) (dH l) := fun k v h => by
  obtain ⟨y, hy, e⟩ := List.mem_map.mp h
  injection e with e1 e2
  subst e1 e2
  show Dp K H (.str (hw y.2)) (.str (hw ((lkI l y.1).getD false))) ∧ SeqAt.shaped (.str (hw ((lkI l y.1).getD false))) = true
  rw [lkI_of nd (show (y.1, y.2) ∈ l from hy)]
  exact ⟨.str _, by have e : PyData.strOk (hw y.2) = true := (by cases y.2 <;> decide +kernel); simp [SeqAt.shaped, PyData.canLay0, PyData.depth, e]⟩
theorem dvs_nil {K : PySem.W.Frag} {H : Hp} {d : Key → PyData} : HKE.DVs K H [] d := fun k v h => by cases h
theorem dEq_nil (l : Hs) (d e : Key → PyData) : HKE.dEq (kvH l) [] d e = decide (l = []) := by
  cases l with
  | nil => rfl
  | cons a r => rfl
theorem hits_self {l : Hs} : ∀ {m : Hs}, (∀ y ∈ m, y.1 ∈ whos l) → HKE.hitsB (kvH l) (dH l) (dH l) (kvH m) = true
  | [], _ => rfl
  | y :: m, h => by
    show (match valV (kvH l) (.inl y.1) with | none => false | some _ => PyData.eqv (dH l (.inl y.1)) (dH l (.inl y.1)) && HKE.hitsB (kvH l) (dH l) (dH l) (kvH m)) = true
    have := inH_iff.mpr (h y (by simp))
    obtain ⟨v, hv⟩ := Option.isSome_iff_exists.mp this
    rw [hv]
    show (PyData.eqv (.str _) (.str _) && _) = true
    rw [hits_self fun z hz => h z (by simp [hz])]
    simp [PyData.eqv]
theorem dEq_self (l : Hs) : HKE.dEq (kvH l) (kvH l) (dH l) (dH l) = true := by
  unfold HKE.dEq
  rw [hits_self fun y hy => List.mem_map_of_mem hy]
  simp
/-! ### take, drop -/
def spTak (CL : Addr) : Sp := fun vs H Q _ => ∃ c g w n al, vs = [.ref c, .int w, .str n, .str (hw al)] ∧ LAt CL H c g ∧ (∃ S : List Str, Tok S g.t ∧ S.length ≤ 4) ∧
  ∀ H' ho', Fr (g.a :: adr g.ho) H H' → TAt H' g.a ho' → fg ho' = tk g.t n w al → (∀ b ∈ adr ho', b ∈ adr g.ho ∨ H b = none) → Q .non H'
def spDrp (CL : Addr) : Sp := fun vs H Q _ => ∃ c g w n, vs = [.ref c, .int w, .str n] ∧ LAt CL H c g ∧ (∃ S : List Str, Tok S g.t ∧ S.length ≤ 4) ∧ w ∈ whos (lk g.t n) ∧
  ∀ H' ho', Fr (g.a :: adr g.ho) H H' → TAt H' g.a ho' → fg ho' = drp g.t n w → (∀ b ∈ adr ho', b ∈ adr g.ho) → Q .non H'
section
variable {P : Program} {w : World} {K : PySem.W.Frag} {mg : Str → Option Value} {base : Heap} {CL CE : Addr}
theorem scTak : FnScope ["self", "who", "name", "how", "holders"] ["self", "who", "name", "how"] (defScope sTak) := ⟨rfl, rfl, rfl, by decide +kernel, rfl, by decide +kernel, by decide +kernel⟩
theorem ok_tak {f : Addr} {fd : FuncData} (F : L2.Fun K "take" "Locks.take" sTak f fd) (T : LTxt K mg CL CE) : FnOk P w K mg base L2.CX0 1 f fd ["self", "who", "name", "how"] (spTak CL) := by
  obtain ⟨tA, mA⟩ := T.al
  obtain ⟨tS, mS⟩ := T.sh
  refine F.ok scTak (fun vs H Q E h => ?_) (fun cdv A outer s H vs Q E hr h => ?_)
  · obtain ⟨c, g, w, n, al, rfl, _⟩ := h
    rfl
  · obtain ⟨c, g, w, n, al, rfl, x, ⟨S, tok, hS⟩, k⟩ := h
    refine ⟨_, pss_cons (ps_set (i := 4) scTak.nd rfl (Or.inl rfl) (pe_dsetd (pe_fld (pv 0) rfl) (pv 2) pe_dnewK ⟨rfl, rfl, rfl, rfl⟩))
      (pss_one (ps_dput (hu_of hr) (pv 4) (pv 1) (pe_ifExp (pt_cmpR op_in_seq (pe_glob (v := .str "alone") rfl mA ⟨_, rfl⟩) (pe_tup (pa_cons (pv 3) (pa_cons (pe_dget2 (hu_of hr) (pv 4) (pv 1) (pv 3) ⟨rfl, rfl, rfl, rfl⟩) pa_nil))) rfl) (pe_glob (v := .str "alone") rfl mA ⟨_, rfl⟩) (pe_glob (v := .str "shared") rfl mS ⟨_, rfl⟩)) rfl)), ?_⟩
    have nk := tok.nk
    have few := tok.few hS
    refine ⟨_, rfl, c, CL, g.cx, _, _, rfl, x.ins, T.cl, T.n1, rfl, g.a, rfl, .inl ⟨_, .inl x.tab.top⟩, _, rfl, fun p hp => ?_⟩
    have s1 : Same H (upd H p (.dK [])) := same_upd hp
    have lkv : (kvT g.ho).length < sizeLine := by unfold kvT; rw [List.length_map, sizeLine_eq]; omega
    refine Or.elim (setd_hs x.tab nk n hp) (fun q => ?A) (fun q => ?B)
    case' A =>
      obtain ⟨y, hy, ey, hv0, x1⟩ := q
      refine ⟨kvT g.ho, .inr n, s1 _ _ x.tab.top, rfl, lkv, fun v hv => ?_, fun hv => by rw [hv0] at hv; cases hv⟩
      rw [hv0] at hv
      obtain rfl := (Option.some.inj hv).symm
      obtain ⟨ho1, e1⟩ : ∃ ho1, ho1 = g.ho := ⟨_, rfl⟩
      have f1 : Fr (g.a :: adr g.ho) H (upd H p (.dK [])) := Fr.of s1
      have nk1 : (ho1.map (·.1)).Nodup := by rw [e1]; exact nk
      have el : y.2.2 = lk g.t n := by
        rw [← ey]; exact (lk_fg nk hy).symm
      have st : ∀ l, setT (fg ho1) n l = setT g.t n l := fun l => by rw [e1]; rfl
      have ow : ∀ b ∈ adr ho1, b ∈ adr g.ho ∨ H b = none := fun b hb => by rw [e1] at hb; exact .inl hb
      rw [← e1] at hy x1
      generalize upd H p (.dK []) = H1 at x1 f1 ⊢
      clear e1 hv hv0 hp s1
    case' B =>
      obtain ⟨nin, hv0, x1⟩ := q
      refine ⟨kvT g.ho, .inr n, s1 _ _ x.tab.top, rfl, lkv, fun v hv => (by rw [hv0] at hv; cases hv), fun hv => ?_⟩
      obtain ⟨y, e0⟩ : ∃ y : Str × Addr × Hs, y = (n, p, []) := ⟨_, rfl⟩
      have ey : y.1 = n := by rw [e0]
      obtain ⟨ho1, e1⟩ : ∃ ho1, ho1 = g.ho ++ [(n, p, [])] := ⟨_, rfl⟩
      have f1 : Fr (g.a :: adr g.ho) H (upd (upd H p (.dK [])) g.a (.dK (putK (kvT g.ho) (.inr n) (.ref p)))) := (Fr.of s1).trans (Fr.sx SameX.upd (by simp))
      have nk1 : (ho1.map (·.1)).Nodup := by
        rw [e1, List.map_append]
        exact List.nodup_append.mpr ⟨nk, by simp, fun b hb c hc e => nin (by
          have : c = n := by simpa using hc
          rw [← this, ← e]; exact hb)⟩
      have hy : y ∈ ho1 := by rw [e0, e1]; simp
      have nin2 : n ∉ g.t.map (·.1) := by unfold LG.t; rw [keys_fg]; exact nin
      have el : y.2.2 = lk g.t n := by
        rw [e0]
        rcases valV_kvT n g.ho with ⟨_, _, h3⟩ | ⟨z, hz, ez, _⟩
        · exact h3.symm
        · exact absurd (by rw [← ez]; exact List.mem_map_of_mem hz) nin
      have st : ∀ l, setT (fg ho1) n l = setT g.t n l := fun l => by
        rw [e1]
        have : fg (g.ho ++ [(n, p, [])]) = g.t ++ [(n, [])] := by unfold fg LG.t; rw [List.map_append]; rfl
        rw [this]; exact setT_new nin2
      have ow : ∀ b ∈ adr ho1, b ∈ adr g.ho ∨ H b = none := fun b hb => by
        rw [e1] at hb
        unfold adr at hb
        rw [List.map_append] at hb
        rcases List.mem_append.mp hb with z | z
        · exact .inl z
        · have : b = p := by simpa using z
          rw [this]; exact .inr hp
      rw [← e1] at x1
      have ep : p = y.2.1 := by rw [e0]
      rw [ep] at x1 f1 ⊢
      generalize upd (upd H y.2.1 (.dK [])) g.a (.dK (putK (kvT g.ho) (.inr n) (.ref y.2.1))) = H1 at x1 f1 ⊢
      clear e1 hv hv0 s1 e0
    all_goals
      have hin := x1.inn y hy
      have ndw : (whos y.2.2).Nodup := by rw [el]; exact tok.nd n
      have l5 : y.2.2.length ≤ 5 := by rw [el]; exact tok.len n
      have dg : DGet H1 y.2.1 (.int w) ((lkI y.2.2 w).map fun b => V.str (hw b)) := by
        have := dGet_k (k := .inl w) (.inl hin)
        rw [valV_kvH] at this; exact this
      have eo : (((lkI y.2.2 w).map fun b => V.str (hw b)).getD (.str (hw al))) = .str (hw ((lkI y.2.2 w).getD al)) := by
        cases lkI y.2.2 w <;> rfl
      refine ⟨_, rfl, _, rfl, y.2.1, rfl, .inl ⟨_, .inl hin⟩, _, rfl, _, rfl, _, dg, ?_⟩
      rw [eo]
      refine ⟨by show 2 ≤ sizeLine; decide, fun T2 nT => ?_⟩
      have s3 : Same H1 (upd H1 T2 (.tup [.str (hw al), .str (hw ((lkI y.2.2 w).getD al))])) := same_upd nT
      refine ⟨T2, _, rfl, .inr (SqT.of upd_same), rfl, rfl, _, rfl, ?_⟩
      generalize upd H1 T2 (.tup [.str (hw al), .str (hw ((lkI y.2.2 w).getD al))]) = H3 at s3 ⊢
      rw [show (if false = true then !inV (V.str "alone") [V.str (hw al), V.str (hw ((lkI y.2.2 w).getD al))] else inV (V.str "alone") [V.str (hw al), V.str (hw ((lkI y.2.2 w).getD al))]) = (al || (lkI y.2.2 w).getD al) from inV_hw al _]
      have h3 := s3 _ _ hin
      have x3 := x1.same s3
      have lk5 : (kvH y.2.2).length < sizeLine := by unfold kvH; rw [List.length_map, sizeLine_eq]; omega
      have fin : ∀ (b : Bool), (al || (lkI y.2.2 w).getD al) = b → Q .non (upd H3 y.2.1 (.dK (putK (kvH y.2.2) (.inl w) (.str (hw b))))) := fun b hb => by
        have ek : putK (kvH y.2.2) (.inl w) (.str (hw b)) = kvH (tkH (lk g.t n) w al) := by
          rw [kvH_put, ← el]; unfold tkH; rw [hb]
        rw [ek]
        refine k _ (setHo ho1 y.1 g.a (tkH (lk g.t n) w al)) ?_ (x3.put nk1 hy SameX.upd upd_same) ?_ ?_
        · intro d o h hn
          rw [upd_ne, s3 _ _ (f1 _ _ h hn)]
          intro e
          rcases ow y.2.1 (List.mem_map_of_mem hy) with z | z
          · exact hn (by rw [e]; exact List.mem_cons_of_mem _ z)
          · rw [← e, h] at z; cases z
        · rw [fg_set, ey, st]; rfl
        · intro d hd
          have : d ∈ adr ho1 := by
            have hin2 : y.1 ∈ ho1.map (·.1) := List.mem_map_of_mem hy
            unfold setHo at hd
            rw [if_pos hin2] at hd
            unfold adr at hd ⊢
            rw [List.map_map] at hd
            obtain ⟨z, hz, e⟩ := List.mem_map.mp hd
            refine List.mem_map.mpr ⟨z, hz, ?_⟩
            rw [← e]
            show z.2.1 = (if z.1 = y.1 then (z.1, z.2.1, tkH (lk g.t n) w al) else z).2.1
            split <;> rfl
          exact ow d this
      refine ite2 (fun c => ?_) (fun c => ?_)
      · exact ⟨_, rfl, _, rfl, y.2.1, _, rfl, DPut.k (k := .inl w) h3 lk5, fin true c⟩
      · exact ⟨_, rfl, _, rfl, y.2.1, _, rfl, DPut.k (k := .inl w) h3 lk5, fin false (by simpa using c)⟩
theorem scDrp : FnScope ["self", "who", "name"] ["self", "who", "name"] (defScope sDrp) := ⟨rfl, rfl, rfl, by decide +kernel, rfl, by decide +kernel, by decide +kernel⟩
theorem ok_drp {f : Addr} {fd : FuncData} (F : L2.Fun K "drop" "Locks.drop" sDrp f fd) (T : LTxt K mg CL CE) : FnOk P w K mg base L2.CX0 1 f fd ["self", "who", "name"] (spDrp CL) := by
  refine F.ok scDrp (fun vs H Q E h => ?_) (fun cdv A outer s H vs Q E hr h => ?_)
  · obtain ⟨c, g, w, n, rfl, _⟩ := h
    rfl
  · obtain ⟨c, g, w, n, rfl, x, ⟨S, tok, hS⟩, hw', k⟩ := h
    refine ⟨_, pss_cons (ps_ddel (pe_dget (hu_of hr) (pe_fld (pv 0) rfl) (pv 2) (fun _ _ => rfl)) (pv 1))
      (pss_one (ps_if (pt_cmpR (r := HKE.rEqDD K) (by exact HKE.op_eqDD (room66 hr)) (pe_dget (hu_of hr) (pe_fld (pv 0) rfl) (pv 2) (fun _ _ => rfl)) pe_dnewK (nomark _)) (pss_one (ps_ddel (pe_fld (pv 0) rfl) (pv 2))) pss_nil)), ?_⟩
    have nk := tok.nk
    have few := tok.few hS
    obtain ⟨y, hy, ey, hv, el⟩ : ∃ y ∈ g.ho, y.1 = n ∧ valV (kvT g.ho) (.inr n) = some (.ref y.2.1) ∧ lk (fg g.ho) n = y.2.2 := by
      rcases valV_kvT n g.ho with ⟨_, _, h3⟩ | h
      · unfold LG.t at hw'
        rw [h3] at hw'; cases hw'
      · exact h
    have el' : lk g.t n = y.2.2 := el
    have ndw : (whos y.2.2).Nodup := by rw [← el]; exact tok.nd n
    have dg : DGet H g.a (.str n) (some (.ref y.2.1)) := by
      have := dGet_k (k := .inr n) (.inl x.tab.top)
      rw [hv] at this; exact this
    refine ⟨_, rfl, c, CL, g.cx, _, _, rfl, x.ins, T.cl, T.n1, rfl, _, rfl, g.a, _, rfl, dg, _, rfl, y.2.1, _, .inl w, rfl, x.tab.inn y hy, rfl, ?_, ?_⟩
    · rw [el'] at hw'; exact inH_iff.mpr hw'
    rw [kvH_drop]
    have x1 : TAt (upd H y.2.1 (.dK (kvH (dropH y.2.2 w)))) g.a (setHo g.ho y.1 g.a (dropH y.2.2 w)) := x.tab.put nk hy SameX.upd upd_same
    have f1 : Fr (g.a :: adr g.ho) H (upd H y.2.1 (.dK (kvH (dropH y.2.2 w)))) := Fr.sx SameX.upd (List.mem_cons_of_mem _ (List.mem_map_of_mem hy))
    have hin1 : y.1 ∈ g.ho.map (·.1) := List.mem_map_of_mem hy
    have i1 : (upd H y.2.1 (.dK (kvH (dropH y.2.2 w)))) c = some (.ins CL g.cx [("holders", .ref g.a), ("queue", .ref g.l)]) := by
      rw [upd_ne (ne_of x.ins (x.tab.inn y hy) (by intro z; cases z))]; exact x.ins
    have hy1 : (upd H y.2.1 (.dK (kvH (dropH y.2.2 w)))) y.2.1 = some (.dK (kvH (dropH y.2.2 w))) := upd_same
    obtain ⟨ho1, eh⟩ : ∃ ho1, ho1 = setHo g.ho y.1 g.a (dropH y.2.2 w) := ⟨_, rfl⟩
    have nk1 : (ho1.map (·.1)).Nodup := by
      rw [← keys_fg, eh, fg_set]
      exact ndk_set (by rw [keys_fg]; exact nk) _ _
    have mem1 : (n, y.2.1, dropH y.2.2 w) ∈ ho1 := by
      rw [eh]; unfold setHo
      rw [if_pos hin1]
      exact List.mem_map.mpr ⟨y, hy, by rw [if_pos rfl, ey]⟩
    have ad1 : ∀ b ∈ adr ho1, b ∈ adr g.ho := fun b hb => by
      rw [eh] at hb
      unfold setHo at hb
      rw [if_pos hin1] at hb
      unfold adr at hb ⊢
      rw [List.map_map] at hb
      obtain ⟨z, hz, e⟩ := List.mem_map.mp hb
      refine List.mem_map.mpr ⟨z, hz, ?_⟩
      rw [← e]
      show z.2.1 = (if z.1 = y.1 then (z.1, z.2.1, dropH y.2.2 w) else z).2.1
      split <;> rfl
    have ef : fg ho1 = setT g.t n (dropH y.2.2 w) := by rw [eh, fg_set, ey]; rfl
    rw [← eh] at x1
    clear eh
    generalize upd H y.2.1 (.dK (kvH (dropH y.2.2 w))) = H1 at x1 f1 i1 hy1 ⊢
    have dg1 : DGet H1 g.a (.str n) (some (.ref y.2.1)) := by
      have := dGet_k (k := .inr n) (.inl x1.top)
      rw [show valV (kvT ho1) (.inr n) = some (.ref y.2.1) from val_fg nk1 mem1] at this; exact this
    refine ⟨_, rfl, c, CL, g.cx, _, _, rfl, i1, T.cl, T.n1, rfl, _, rfl, g.a, _, rfl, dg1, fun nd hnd => ?_⟩
    have s2 : Same H1 (upd H1 nd (.dK [])) := same_upd hnd
    refine ⟨y.2.1, nd, kvH (dropH y.2.2 w), [], dH (dropH y.2.2 w), dH [], rfl, rfl, s2 _ _ hy1, upd_same, dvs_H ?_, dvs_nil, ?_⟩
    · rw [whos_drop]; exact ndw.filter _
    rw [dEq_nil]
    have x2 := x1.same s2
    have f2 := f1.trans (Fr.of s2)
    have i2 := s2 _ _ i1
    generalize upd H1 nd (.dK []) = H2 at x2 f2 i2 ⊢
    refine ⟨_, rfl, ite2 (fun c1 => ?_) (fun c1 => ?_)⟩
    · have c1 : dropH y.2.2 w = [] := by simpa using c1
      refine ⟨_, rfl, c, CL, g.cx, _, _, rfl, i2, T.cl, T.n1, rfl, _, rfl, g.a, _, .inr n, rfl, x2.top, rfl, ?_, ?_⟩
      · rw [show valV (kvT ho1) (.inr n) = some (.ref y.2.1) from val_fg nk1 mem1]; rfl
      refine k _ (delHo ho1 n) (f2.trans (Fr.sx SameX.upd (by simp))) (x2.del n SameX.upd upd_same) ?_ (fun b hb => ad1 b (adr_del hb))
      rw [fg_del, ef]
      unfold drp
      rw [el', if_pos c1]
      exact del_set _ _ _
    · have c1 : ¬ dropH y.2.2 w = [] := by simpa using c1
      refine k _ ho1 f2 x2 ?_ ad1
      rw [ef]; unfold drp; rw [el', if_neg c1]
end
end K16
namespace K16
open PySem L2 HK
/-- what stands, but for rings -/
structure Wf (S : List Str) (t : Tb Str) (q : List (Row Str)) : Prop where
  tok : Tok S t
  ndq : (wq q).Nodup
  rq : ∀ r ∈ q, InW r.1 ∧ r.2.1 ∈ S
theorem Inv.wf {S : List Str} {t : Tb Str} {q : List (Row Str)} (x : Inv S t q) : Wf S t q := ⟨x.tok, x.ndq, x.rq⟩
/-- what stands, and all is within bounds -/
structure GOk (S : List Str) (g : LG) : Prop where
  inv : Wf S g.t g.q
  four : S.length ≤ 4
theorem GOk.len {S : List Str} {g : LG} (x : GOk S g) : g.qs.length ≤ 5 := by
  have := nd_range5 5 (wq g.q) x.inv.ndq (fun m hm => by
    obtain ⟨r, hr, e⟩ := List.mem_map.mp hm
    have := (x.inv.rq r hr).1
    rw [← e]
    exact ⟨this.1, by have := this.2; omega⟩)
  unfold wq LG.q qf at this
  rw [List.length_map, List.length_map] at this
  exact this
theorem GOk.tok {S : List Str} {g : LG} (x : GOk S g) : ∃ S, Tok S g.t := ⟨S, x.inv.tok⟩
theorem GOk.tok4 {S : List Str} {g : LG} (x : GOk S g) : ∃ S : List Str, Tok S g.t ∧ S.length ≤ 4 := ⟨S, x.inv.tok, x.four⟩
theorem raw_rg {S : List Str} {t : Tb Str} {q : List (Row Str)} (x : Wf S t q) {w : Int} {n : Str} {al : Bool} {b : Int} (h : b ∈ raw t q w n al) : InW b := by
  rcases mem_raw.mp h with z | z
  · obtain ⟨c, h1, _⟩ := mem_agst.mp z
    exact x.tok.rg n b (List.mem_map_of_mem h1)
  · obtain ⟨r, hr, e, _⟩ := mem_ahd z.2
    rw [← e]; exact (x.rq r hr).1
theorem wts_rg {S : List Str} {t : Tb Str} {q : List (Row Str)} (x : Wf S t q) {w b : Int} (h : b ∈ wts t q w) : InW b := by
  obtain ⟨r, hr, _, h1⟩ := mem_wts h
  exact raw_rg x h1
theorem ahd_nd : ∀ {q : List (Row Str)} {w : Int} {n : Str}, (wq q).Nodup → (ahd q w n).Nodup
  | [], _, _, _ => List.nodup_nil
  | r :: q, w, n, h => by
    have h' := List.nodup_cons.mp h
    unfold ahd
    split
    · exact List.nodup_nil
    · split
      · refine List.nodup_cons.mpr ⟨fun z => ?_, ahd_nd h'.2⟩
        obtain ⟨s, hs, e, _⟩ := mem_ahd z
        exact h'.1 (by show r.1 ∈ _; rw [← e]; exact List.mem_map_of_mem hs)
      · exact ahd_nd h'.2
theorem raw_nd {S : List Str} {t : Tb Str} {q : List (Row Str)} (x : Tok S t) (nq : (wq q).Nodup) (w : Int) (n : Str) (al : Bool) : (raw t q w n al).Nodup := by
  have h1 : (agst (lk t n) w al).Nodup := List.Sublist.nodup (List.Sublist.map (fun y : Int × Bool => y.1) List.filter_sublist) (x.nd n)
  unfold raw
  split
  · rw [List.append_nil]; exact h1
  · refine List.nodup_append.mpr ⟨h1, (ahd_nd nq).filter _, fun a ha b hb e => ?_⟩
    have := (List.mem_filter.mp hb).2
    rw [decide_eq_true_eq] at this
    exact this (by rw [← e]; exact ha)
theorem wts_nd {S : List Str} {t : Tb Str} {q : List (Row Str)} (x : Tok S t) (nq : (wq q).Nodup) (w : Int) : (wts t q w).Nodup := by
  unfold wts
  cases rowOf q w with
  | none => exact List.nodup_nil
  | some r => exact raw_nd x nq _ _ _
theorem wts_len {S : List Str} {t : Tb Str} {q : List (Row Str)} (x : Wf S t q) (w : Int) : (wts t q w).length ≤ 5 :=
  nd_range5 5 _ (wts_nd x.tok x.ndq w) fun m hm => by have := wts_rg x hm; exact ⟨this.1, by have := this.2; omega⟩
theorem rowOf_split {q : List (Row Str)} {w : Int} {i : Nat} {r : Row Str} (h : ∀ s ∈ q.take i, s.1 ≠ w) (hr : q[i]? = some r) (e : r.1 = w) : rowOf q w = some r := by
  obtain ⟨hi, e2⟩ := List.getElem?_eq_some_iff.mp hr
  have : q = q.take i ++ (r :: q.drop (i + 1)) := by
    conv => lhs; rw [← List.take_append_drop i q]
    rw [← e2, List.drop_eq_getElem_cons hi]
  unfold rowOf
  rw [this, List.find?_append, List.find?_eq_none.mpr (fun s hs => by simpa using h s hs)]
  simp [e]
theorem rowOf_all {q : List (Row Str)} {w : Int} (h : ∀ s ∈ q, s.1 ≠ w) : rowOf q w = none := List.find?_eq_none.mpr fun s hs => by simpa using h s hs
theorem srt_nil : srt [] = [] := List.length_eq_zero_iff.mp (by rw [srt_len]; rfl)
theorem mem_srt {l : List Int} {x : Int} : x ∈ srt l ↔ x ∈ l := (srt_perm l).mem_iff
theorem while_gh {γ : Type} {c : TT} {tb : TS} {D : Ends} {σ : L2.St} {H : Hp} (Pv : γ → L2.St → Hp → Prop) (μ : γ → Nat) (g0 : γ) (h0 : Pv g0 σ H)
    (hs : ∀ g σ H, Pv g σ H → c σ H fun b H1 => if b = true then tb { D with nx := fun σ' H' => ∃ g', Pv g' σ' H' ∧ μ g' < μ g, ct := fun σ' H' => ∃ g', Pv g' σ' H' ∧ μ g' < μ g, bk := D.nx } σ H1 else D.nx σ H1)
    (mono : ∀ σ H Q Q', (∀ b H1, Q b H1 → Q' b H1) → c σ H Q → c σ H Q') : tWhile c tb D σ H := by
  refine ⟨fun m σ H => ∃ g, m = μ g ∧ Pv g σ H, ⟨_, g0, rfl, h0⟩, ?_⟩
  rintro m σ H ⟨g, rfl, p⟩
  refine mono σ H _ _ (fun b H1 q => ?_) (hs g σ H p)
  cases b with
  | true => exact ⟨_, fun σ' H' ⟨g', p', l⟩ => ⟨_, l, g', rfl, p'⟩, q⟩
  | false => exact q
/-- how far the walk from w has come -/
structure Wk (f : Int → List Int) (w : Int) (s l : List Int) : Prop where
  rl : ∀ x ∈ l, Rch f w x
  rs : ∀ x ∈ s, Rch f w x
  nw : w ∉ s
  f0 : ∀ x ∈ f w, x ∈ s ∨ x ∈ l
  fs : ∀ x ∈ s, ∀ y ∈ f x, y ∈ s ∨ y ∈ l
  nd : s.Nodup
  gs : ∀ x ∈ s, InW x
  gl : ∀ x ∈ l, InW x
theorem Wk.len {f : Int → List Int} {w : Int} {s l : List Int} (x : Wk f w s l) : s.length ≤ 5 := nd_range5 5 s x.nd fun m hm => by have := x.gs m hm; exact ⟨this.1, by have := this.2; omega⟩
theorem Wk.old {f : Int → List Int} {w z : Int} {s l : List Int} (x : Wk f w s (l ++ [z])) (h : z ∈ s) : Wk f w s l := by
  have key : ∀ y, y ∈ s ∨ y ∈ l ++ [z] → y ∈ s ∨ y ∈ l := fun y h' => by
    rcases h' with h' | h'
    · exact .inl h'
    · rcases List.mem_append.mp h' with k | k
      · exact .inr k
      · rw [List.mem_singleton.mp k]; exact .inl h
  exact ⟨fun y hy => x.rl y (by simp [hy]), x.rs, x.nw, fun y hy => key y (x.f0 y hy), fun a ha y hy => key y (x.fs a ha y hy), x.nd, x.gs, fun y hy => x.gl y (by simp [hy])⟩
theorem Wk.new {f : Int → List Int} {w z : Int} {s l m : List Int} (x : Wk f w s (l ++ [z])) (h : z ∉ s) (n : z ≠ w) (hm : ∀ y, y ∈ m ↔ y ∈ f z) (rg : ∀ y ∈ f z, InW y) : Wk f w (s ++ [z]) (l ++ m) := by
  have key : ∀ y, y ∈ s ∨ y ∈ l ++ [z] → y ∈ s ++ [z] ∨ y ∈ l ++ m := fun y h' => by
    rcases h' with h' | h'
    · exact .inl (by simp [h'])
    · rcases List.mem_append.mp h' with k | k
      · exact .inr (by simp [k])
      · exact .inl (by simp [List.mem_singleton.mp k])
  have hz := x.rl z (by simp)
  refine ⟨fun y hy => ?_, fun y hy => ?_, fun k => ?_, fun y hy => key y (x.f0 y hy), fun a ha y hy => ?_, ?_, fun y hy => ?_, fun y hy => ?_⟩
  · rcases List.mem_append.mp hy with k | k
    · exact x.rl y (by simp [k])
    · exact hz.trans (.one ((hm y).mp k))
  · rcases List.mem_append.mp hy with k | k
    · exact x.rs y k
    · rw [List.mem_singleton.mp k]; exact hz
  · rcases List.mem_append.mp k with k | k
    · exact x.nw k
    · exact n (List.mem_singleton.mp k).symm
  · rcases List.mem_append.mp ha with k | k
    · exact key y (x.fs a k y hy)
    · rw [List.mem_singleton.mp k] at hy
      exact .inr (by simp [(hm y).mpr hy])
  · exact List.nodup_append.mpr ⟨x.nd, by simp, fun a ha b hb e => h (by rw [← List.mem_singleton.mp hb, ← e]; exact ha)⟩
  · rcases List.mem_append.mp hy with k | k
    · exact x.gs y k
    · rw [List.mem_singleton.mp k]; exact x.gl z (by simp)
  · rcases List.mem_append.mp hy with k | k
    · exact x.gl y (by simp [k])
    · exact rg y ((hm y).mp k)
def spWts (CL : Addr) : Sp := fun vs H Q _ => ∃ c g w, vs = [.ref c, .int w] ∧ LAt CL H c g ∧ (∃ S, GOk S g) ∧ ∀ H' r, Same H H' → H r = none → H' r = some (.lst ((srt (wts g.t g.q w)).map V.int)) → Q (.ref r) H'
def spRng (CL : Addr) : Sp := fun vs H Q _ => ∃ c g w, vs = [.ref c, .int w] ∧ LAt CL H c g ∧ (∃ S, GOk S g) ∧ ∀ H' b, Same H H' → (b = true ↔ Rch (wts g.t g.q) w w) → Q (.bl b) H'
section
variable {P : Program} {w : World} {K : PySem.W.Frag} {mg : Str → Option Value} {base : Heap} {CL CE : Addr}
theorem scWts : FnScope ["self", "who", "one", "name", "how"] ["self", "who"] (defScope sWts) := ⟨rfl, rfl, rfl, by decide +kernel, rfl, by decide +kernel, by decide +kernel⟩
theorem ok_wts {f fB : Addr} {fd fdB : FuncData} (F : L2.Fun K "waits_for" "Locks.waits_for" sWts f fd) (T : LTxt K mg CL CE)
    (FB : FnOk P w K mg base L2.CX0 2 fB fdB ["self", "who", "name", "how"] (spBlk CL)) (bB : Binds K fdB ["self", "who", "name", "how"] []) (mB : Meth K CL "blockers" fB) :
    FnOk P w K mg base L2.CX0 3 f fd ["self", "who"] (spWts CL) := by
  refine F.ok scWts (fun vs H Q E h => ?_) (fun cdv A outer s H vs Q E hr h => ?_)
  · obtain ⟨c, g, w, rfl, _⟩ := h
    rfl
  · obtain ⟨c, g, w, rfl, x, ⟨S, ok⟩, k⟩ := h
    refine ⟨_, pss_cons (ps_for PassesOwn.never rfl (pi_list (pe_fld (pv 0) rfl)) (pg_tup rfl (pgs_cons (pg_name (i := 2) scWts.nd rfl (Or.inl rfl)) (pgs_cons (pg_name (i := 3) scWts.nd rfl (Or.inl rfl)) (pgs_cons (pg_name (i := 4) scWts.nd rfl (Or.inl rfl)) pgs_nil))))
        (pss_one (ps_if (pt_cmpR op_eq (pv 2) (pv 1) (nomark _)) (pss_one (ps_ret (pe_meth (pv 0) T.cl mB FB hr bB .nil pass0 (pa_cons (pv 2) (pa_cons (pv 3) (pa_cons (pv 4) pa_nil)))))) pss_nil)))
      (pss_one (ps_ret (pe_lst pa_nil))), ?_⟩
    refine ⟨_, rfl, c, CL, g.cx, _, _, rfl, x.ins, T.cl, T.n2, rfl, g.l, rfl, ⟨_, SqL.of x.que.lst⟩, ?_⟩
    refine for_list (K := K) (a := g.l) (xs := g.qs.map fun y => V.ref y.1) (fun i σ H' => H' = H ∧ (∀ r ∈ g.q.take i, r.1 ≠ w) ∧ ∃ u1 u2 u3, σ = [some (.ref c), some (.int w), u1, u2, u3]) ⟨rfl, fun r h => (by cases h), none, none, none, rfl⟩ (fun i σ H' hi q => by rw [q.1]; exact SqL.of x.que.lst) (fun i z σ H' hx q => ?_) (fun σ H' q => ?_)
    · obtain ⟨rfl, hne, u1, u2, u3, rfl⟩ := q
      rw [List.getElem?_map] at hx
      obtain ⟨y, hy, rfl⟩ := Option.map_eq_some_iff.mp hx
      have ym := List.mem_of_getElem? hy
      have hq : g.q[i]? = some y.2 := by unfold LG.q qf; rw [List.getElem?_map, hy]; rfl
      refine ⟨y.1, _, rfl, SqT.of (x.que.tup y ym), rfl, _, _, rfl, _, _, rfl, _, _, rfl, rfl, ?_⟩
      refine ⟨_, rfl, _, rfl, rfl, _, rfl, ite2 (fun c1 => ?_) (fun c1 => ?_)⟩
      · have e1 : y.2.1 = w := by simpa using c1
        refine ⟨_, rfl, c, g.cx, _, rfl, x.ins, rfl, _, rfl, _, rfl, _, rfl, c, g, y.2.1, y.2.2.1, y.2.2.2, rfl, x, ok.tok, ok.len, fun H1 r s1 nr hr1 => k H1 r s1 nr ?_⟩
        rw [hr1]
        unfold wts
        rw [rowOf_split hne hq e1]
      · have e1 : y.2.1 ≠ w := by simpa using c1
        refine ⟨rfl, fun r hr => ?_, _, _, _, rfl⟩
        rw [List.take_add_one, hq] at hr
        rcases List.mem_append.mp hr with z | z
        · exact hne r z
        · have : r = y.2 := by simpa using z
          rw [this]; exact e1
    · obtain ⟨rfl, hne, u1, u2, u3, rfl⟩ := q
      refine ⟨by show 0 ≤ sizeLine; decide, fun l nl => k _ l (same_upd nl) nl ?_⟩
      rw [List.length_map, show g.qs.length = g.q.length from (by unfold LG.q qf; rw [List.length_map]), List.take_length] at hne
      rw [upd_same]
      unfold wts
      rw [rowOf_all hne]
      show _ = some (HO.lst ((srt []).map V.int))
      rw [srt_nil]; rfl
theorem scRng : FnScope ["self", "who", "seen", "left", "one"] ["self", "who"] (defScope sRng) := ⟨rfl, rfl, rfl, by decide +kernel, rfl, by decide +kernel, by decide +kernel⟩
theorem ok_rng {f fW : Addr} {fd fdW : FuncData} (F : L2.Fun K "in_ring" "Locks.in_ring" sRng f fd) (T : LTxt K mg CL CE)
    (FW : FnOk P w K mg base L2.CX0 3 fW fdW ["self", "who"] (spWts CL)) (bW : Binds K fdW ["self", "who"] []) (mW : Meth K CL "waits_for" fW) :
    FnOk P w K mg base L2.CX0 4 f fd ["self", "who"] (spRng CL) := by
  refine F.ok scRng (fun vs H Q E h => ?_) (fun cdv A outer s H vs Q E hr h => ?_)
  · obtain ⟨c, g, w, rfl, _⟩ := h
    rfl
  · obtain ⟨c, g, w, rfl, x, ⟨S, ok⟩, k⟩ := h
    refine ⟨_, pss_cons (ps_set (i := 2) scRng.nd rfl (Or.inl rfl) (pe_lst pa_nil))
      (pss_cons (ps_set (i := 3) scRng.nd rfl (Or.inl rfl) (pe_meth (pv 0) T.cl mW FW hr bW .nil pass0 (pa_cons (pv 1) pa_nil)))
      (pss_cons (ps_while PassesOwn.never (pt_cmpR (op_neD hr.units) (pv 3) (pe_lst pa_nil) (nomark _))
        (pss_cons (ps_set (i := 4) scRng.nd rfl (Or.inl rfl) (pe_bm0 PySem.F.plainAttrs_list PySem.F.slot_list_pop PySem.F.type_list_pop mt_pop (pv 3)))
        (pss_cons (ps_if (pt_cmpR op_eq (pv 4) (pv 1) (nomark _)) (pss_one (ps_ret pe_bl)) pss_nil)
        (pss_one (ps_if (pt_cmpR op_notIn_seq (pv 4) (pv 2) rfl)
          (pss_cons (ps_expr (pe_bm PySem.F.plainAttrs_list PySem.F.slot_list_append PySem.F.type_list_append mt_append (pv 2) (pa_cons (pv 4) pa_nil)))
          (pss_one (ps_expr (pe_bm PySem.F.plainAttrs_list PySem.F.slot_list_extend PySem.F.type_list_extend mt_extend (pv 3) (pa_cons (pe_meth (pv 0) T.cl mW FW hr bW .nil pass0 (pa_cons (pv 4) pa_nil)) pa_nil))))) pss_nil)))))
      (pss_one (ps_ret pe_bl)))), ?_⟩
    refine ⟨by show 0 ≤ sizeLine; decide, fun A0 nA => ?_⟩
    have s1 : Same H (upd H A0 (.lst [])) := same_upd nA
    have hA1 : (upd H A0 (.lst [])) A0 = some (.lst []) := upd_same
    have x1 := x.same s1
    generalize upd H A0 (.lst []) = H1 at s1 hA1 x1 ⊢
    refine ⟨_, rfl, c, g.cx, _, rfl, x1.ins, rfl, _, rfl, c, g, w, rfl, x1, ⟨S, ok⟩, fun H2 B s2 nB hB => ?_⟩
    have hA2 := s2 _ _ hA1
    have nBA : A0 ≠ B := ne_of_none hA1 nB
    have nB0 : H B = none := s1.free nB
    have s12 := s1.trans s2
    have rgw : ∀ y ∈ wts g.t g.q w, InW y := fun y hy => wts_rg ok.inv hy
    refine while_gh (γ := List Int × List Int) (fun p σ H' => Wk (wts g.t g.q) w p.1 p.2 ∧ p.2.length ≤ 5 + 5 * p.1.length ∧ Same H H' ∧ H' A0 = some (.lst (p.1.map V.int)) ∧ H' B = some (.lst (p.2.map V.int)) ∧ ∃ u, σ = [some (.ref c), some (.int w), some (.ref A0), some (.ref B), u]) (fun p => (5 - p.1.length) * 6 + p.2.length) ([], srt (wts g.t g.q w)) ?start (fun p σ H' q => ?step) ?mono
    case start =>
      refine ⟨⟨fun y hy => .one (mem_srt.mp hy), fun y hy => (by cases hy), fun z => (by cases z), fun y hy => .inr (mem_srt.mpr hy), fun y hy => (by cases hy), List.nodup_nil, fun y hy => (by cases hy), fun y hy => rgw y (mem_srt.mp hy)⟩, ?_, s12, hA2, hB, none, rfl⟩
      have := wts_len ok.inv w
      show (srt _).length ≤ 5 + 5 * 0
      rw [srt_len]; omega
    case mono =>
      rintro σ H Q Q' hm ⟨v, hv, sz, kk⟩
      refine ⟨v, hv, sz, fun l nl => ?_⟩
      obtain ⟨d, e, h1, h2, h3, h4, b, e5, q⟩ := kk l nl
      exact ⟨d, e, h1, h2, h3, h4, b, e5, hm _ _ q⟩
    case step =>
      obtain ⟨s, l⟩ := p
      obtain ⟨wk, ll, sm, hA, hB', u, rfl⟩ := q
      have ll : l.length ≤ 5 + 5 * s.length := ll
      have ls : s.length ≤ 5 := wk.len
      refine ⟨_, rfl, by show 0 ≤ sizeLine; decide, fun e ne => ?_⟩
      have s3 : Same H' (upd H' e (.lst [])) := same_upd ne
      have hA3 := s3 _ _ hA
      have hB3 := s3 _ _ hB'
      refine ⟨_, .list [], dp_ints hB3, Dp.lst (SqL.of upd_same) .nil, shaped_ints _, rfl, ?_⟩
      rw [eqv_nil]
      have sm3 : Same H (upd H' e (.lst [])) := fun b o h => s3 _ _ (sm b o h)
      generalize upd H' e (.lst []) = H3 at hA3 hB3 sm3 ⊢
      refine ⟨_, rfl, ?_⟩
      by_cases c0 : l = []
      · rw [show (!decide (l = [])) = false from by simp [c0]]
        refine iteF ?_
        refine k H3 false sm3 ⟨fun z => (by cases z), fun r => ?_⟩
        exfalso
        have f0 : ∀ y ∈ wts g.t g.q w, y ∈ s := fun y hy => (wk.f0 y hy).resolve_right (by show y ∉ l; rw [c0]; simp)
        have fs : ∀ y ∈ s, ∀ z ∈ wts g.t g.q y, z ∈ s := fun y hy z hz => (wk.fs y hy z hz).resolve_right (by show z ∉ l; rw [c0]; simp)
        exact wk.nw (Rch.closed f0 fs r)
      · rw [show (!decide (l = [])) = true from by simp [c0]]
        refine iteT ?_
        obtain ⟨l', z, rfl⟩ : ∃ l' z, l = l' ++ [z] := ⟨l.dropLast, l.getLast c0, (List.dropLast_concat_getLast c0).symm⟩
        have wk' : Wk (wts g.t g.q) w s (l' ++ [z]) := wk
        refine ⟨_, rfl, .inl ⟨rfl, _, SqL.of hB3⟩, B, _, .int z, rfl, rfl, hB3, ?_, ?_⟩
        · rw [List.map_append]; simp
        have hB4 : (upd H3 B (.lst ((l' ++ [z]).map V.int).dropLast)) B = some (.lst (l'.map V.int)) := by
          rw [upd_same, List.map_append]
          show some (HO.lst (l'.map V.int ++ [V.int z]).dropLast) = _
          rw [List.dropLast_concat]
        have hA4 : (upd H3 B (.lst ((l' ++ [z]).map V.int).dropLast)) A0 = some (.lst (s.map V.int)) := by rw [upd_ne nBA]; exact hA3
        have sm4 : Same H (upd H3 B (.lst ((l' ++ [z]).map V.int).dropLast)) := fun b o h => by rw [upd_ne (ne_of_none h nB0)]; exact sm3 _ _ h
        generalize upd H3 B (.lst ((l' ++ [z]).map V.int).dropLast) = H4 at hB4 hA4 sm4 ⊢
        refine ⟨_, rfl, _, rfl, rfl, _, rfl, ite2 (fun c1 => ?_) (fun c1 => ?_)⟩
        · have e1 : z = w := by simpa using c1
          refine k H4 true sm4 ⟨fun _ => ?_, fun _ => rfl⟩
          have := wk'.rl z (by simp)
          rw [e1] at this; exact this
        · have e1 : z ≠ w := by simpa using c1
          refine ⟨_, rfl, _, rfl, A0, _, rfl, .inl (SqL.of hA4), rfl, ints_all _, _, rfl, ?_⟩
          rw [show (if true = true then !inV (V.int z) (s.map V.int) else inV (V.int z) (s.map V.int)) = decide (z ∉ s) from by rw [inV_ints]; simp]
          refine ite2 (fun c2 => ?_) (fun c2 => ?_)
          · have e2 : z ∉ s := by simpa using c2
            refine ⟨_, rfl, .inl ⟨rfl, _, SqL.of hA4⟩, _, rfl, A0, _, _, rfl, rfl, hA4, by rw [List.length_map, sizeLine_eq]; omega, ?_⟩
            have hA5 : (upd H4 A0 (.lst (s.map V.int ++ [.int z]))) A0 = some (.lst ((s ++ [z]).map V.int)) := by rw [upd_same, List.map_append]; rfl
            have hB5 : (upd H4 A0 (.lst (s.map V.int ++ [.int z]))) B = some (.lst (l'.map V.int)) := by rw [upd_ne (Ne.symm nBA)]; exact hB4
            have sm5 : Same H (upd H4 A0 (.lst (s.map V.int ++ [.int z]))) := fun b o h => by rw [upd_ne (ne_of_none h nA)]; exact sm4 _ _ h
            generalize upd H4 A0 (.lst (s.map V.int ++ [.int z])) = H5 at hA5 hB5 sm5 ⊢
            have x5 := x.same sm5
            refine ⟨_, rfl, .inl ⟨rfl, _, SqL.of hB5⟩, _, rfl, c, g.cx, _, rfl, x5.ins, rfl, _, rfl, c, g, z, rfl, x5, ⟨S, ok⟩, fun H6 Z s6 nZ hZ => ?_⟩
            have lw := wts_len ok.inv z
            have wk2 := wk'.new (m := srt (wts g.t g.q z)) e2 e1 (fun y => mem_srt) (fun y hy => wts_rg ok.inv hy)
            have l5 := wk2.len
            rw [List.length_append] at l5
            have ll2 : (l' ++ [z]).length ≤ 5 + 5 * s.length := ll
            rw [List.length_append] at ll2
            have l5 : s.length + 1 ≤ 5 := l5
            have ll2 : l'.length + 1 ≤ 5 + 5 * s.length := ll2
            refine ⟨B, Z, _, _, rfl, rfl, s6 _ _ hB5, hZ, by rw [List.length_map, List.length_map, srt_len, sizeLine_eq]; omega, ?_⟩
            refine ⟨(s ++ [z], l' ++ srt (wts g.t g.q z)), ⟨wk2, ?_, fun b o h => ?_, ?_, ?_, _, rfl⟩, ?_⟩
            · show (l' ++ srt _).length ≤ 5 + 5 * (s ++ [z]).length
              rw [List.length_append, List.length_append, srt_len]
              show _ ≤ 5 + 5 * (s.length + 1)
              omega
            · rw [upd_ne (ne_of_none h nB0)]; exact s6 _ _ (sm5 _ _ h)
            · rw [upd_ne nBA]; exact s6 _ _ hA5
            · rw [upd_same, List.map_append]
            · show (5 - (s ++ [z]).length) * 6 + (l' ++ srt _).length < (5 - s.length) * 6 + (l' ++ [z]).length
              rw [List.length_append, List.length_append, List.length_append, srt_len]
              show (5 - (s.length + 1)) * 6 + _ < _ + (_ + 1)
              omega
          · have e2 : z ∈ s := by simpa using c2
            have ll2 : (l' ++ [z]).length ≤ 5 + 5 * s.length := ll
            rw [List.length_append] at ll2
            have ll2 : l'.length + 1 ≤ 5 + 5 * s.length := ll2
            refine ⟨(s, l'), ⟨wk'.old e2, by show l'.length ≤ 5 + 5 * s.length; omega, sm4, hA4, hB4, _, rfl⟩, ?_⟩
            show (5 - s.length) * 6 + l'.length < (5 - s.length) * 6 + (l' ++ [z]).length
            rw [List.length_append]
            show _ < _ + (_ + 1)
            omega
end
end K16
namespace K16
open PySem L2 HK
/-! ### serving: mathematics -/
def rmv (q : List (Row Str)) (w : Int) : List (Row Str) := q.filter fun p => decide (p.1 ≠ w)
structure SS where
  f : List Int
  t : Tb Str
  q : List (Row Str)
def sv1 (s : SS) (r : Row Str) : SS := if raw s.t s.q r.1 r.2.1 r.2.2 = [] then ⟨s.f ++ [r.1], tk s.t r.2.1 r.1 r.2.2, rmv s.q r.1⟩ else s
def svF (l : List (Row Str)) (s : SS) : SS := l.foldl sv1 s
theorem svF_snoc (l : List (Row Str)) (r : Row Str) (s : SS) : svF (l ++ [r]) s = sv1 (svF l s) r := by unfold svF; rw [List.foldl_append]; rfl
/-- all of l are done, in their turn -/
structure SvI (S : List Str) (q0 : List (Row Str)) (i : Nat) (s : SS) : Prop where
  inv : Inv S s.t s.q
  pre : ∃ pre, s.q = pre ++ q0.drop i ∧ ∀ r ∈ pre, raw s.t s.q r.1 r.2.1 r.2.2 ≠ []
theorem ahd_pre {m : Str} : ∀ {q x : List (Row Str)} {a : Int}, a ∈ wq q → ahd (q ++ x) a m = ahd q a m
  | y :: q, x, a, h => by
    show (if y.1 = a then [] else if y.2.1 = m then y.1 :: ahd (q ++ x) a m else ahd (q ++ x) a m) = if y.1 = a then [] else if y.2.1 = m then y.1 :: ahd q a m else ahd q a m
    by_cases e : y.1 = a
    · rw [if_pos e, if_pos e]
    · have h' : a ∈ wq q := by
        rcases List.mem_cons.mp h with z | z
        · exact absurd z.symm e
        · exact z
      rw [if_neg e, if_neg e, ahd_pre h']
theorem rmv_mid {pre r} {rest : List (Row Str)} (nd : (wq (pre ++ r :: rest)).Nodup) : rmv (pre ++ r :: rest) r.1 = pre ++ rest := by
  unfold wq at nd
  rw [List.map_append] at nd
  obtain ⟨n1, n2, n3⟩ := List.nodup_append.mp nd
  have n2' := List.nodup_cons.mp n2
  unfold rmv
  rw [List.filter_append, List.filter_cons]
  have e1 : pre.filter (fun p => decide (p.1 ≠ r.1)) = pre := List.filter_eq_self.mpr fun p hp => decide_eq_true fun e => n3 p.1 (List.mem_map_of_mem hp) r.1 (by simp) e
  have e2 : rest.filter (fun p => decide (p.1 ≠ r.1)) = rest := List.filter_eq_self.mpr fun p hp => decide_eq_true fun e => n2'.1 (by show r.1 ∈ _; rw [← e]; exact List.mem_map_of_mem hp)
  rw [e1, e2]
  simp
theorem SvI.step {S : List Str} {q0 : List (Row Str)} {i : Nat} {s : SS} (x : SvI S q0 i s) {r : Row Str} (hr : q0[i]? = some r) : SvI S q0 (i + 1) (sv1 s r) := by
  obtain ⟨iv, pre, ep, hp⟩ := x
  obtain ⟨hi, e2⟩ := List.getElem?_eq_some_iff.mp hr
  have ed : q0.drop i = r :: q0.drop (i + 1) := by rw [← e2]; exact List.drop_eq_getElem_cons hi
  rw [ed] at ep
  have hrq : r ∈ s.q := by rw [ep]; simp
  have nd := iv.ndq
  rw [ep] at nd
  unfold sv1
  by_cases c : raw s.t s.q r.1 r.2.1 r.2.2 = []
  · rw [if_pos c]
    have eq' : rmv s.q r.1 = pre ++ q0.drop (i + 1) := by rw [ep]; exact rmv_mid nd
    have hs : List.Sublist (pre ++ q0.drop (i + 1)) s.q := by rw [ep]; exact List.Sublist.append_left (List.sublist_cons_self _ _) _
    have hw : r.1 ∉ wq (pre ++ q0.drop (i + 1)) := by
      rw [← eq']
      intro z
      obtain ⟨p, hp', e⟩ := List.mem_map.mp z
      have := (List.mem_filter.mp hp').2
      rw [decide_eq_true_eq] at this
      exact this e
    have rr := iv.rq r hrq
    refine ⟨?_, pre, eq', fun p hp2 => ?_⟩
    · show Inv S (tk s.t r.2.1 r.1 r.2.2) (rmv s.q r.1)
      rw [eq']
      exact .of (iv.tok.take rr.2 rr.1 (raw_nil.mp c).1) (List.Sublist.nodup (List.Sublist.map (fun y : Row Str => y.1) hs) iv.ndq) (fun p h => iv.rq p (hs.subset h)) (iv.acy.take iv.ndq r.2.2 hs hw)
    · show raw (tk s.t r.2.1 r.1 r.2.2) (rmv s.q r.1) p.1 p.2.1 p.2.2 ≠ []
      rw [eq']
      intro z
      have ne : p.1 ≠ r.1 := fun e => hw (by rw [← e]; exact List.mem_map_of_mem (by simp [hp2]))
      refine hp p hp2 (List.eq_nil_iff_forall_not_mem.mpr fun y hy => ?_)
      have hm : p.1 ∈ wq pre := List.mem_map_of_mem hp2
      have := raw_tk_sup (q' := pre ++ q0.drop (i + 1)) (n := r.2.1) (al := r.2.2) (iv.nd r.2.1) ne (fun b hb => by
        rw [ep, ahd_pre hm] at hb
        rw [ahd_pre hm]; exact hb) hy
      rw [z] at this; cases this
  · rw [if_neg c]
    refine ⟨iv, pre ++ [r], by rw [ep]; simp, fun p hp2 => ?_⟩
    rcases List.mem_append.mp hp2 with z | z
    · exact hp p z
    · rw [List.mem_singleton.mp z]; exact c
theorem SvI.all {S : List Str} {q0 : List (Row Str)} {f0 : List Int} {t0 : Tb Str} (x : Inv S t0 q0) : ∀ i, i ≤ q0.length → SvI S q0 i (svF (q0.take i) ⟨f0, t0, q0⟩)
  | 0, _ => ⟨x, [], rfl, fun r h => by cases h⟩
  | i + 1, h => by
    have ih := SvI.all (f0 := f0) x i (by omega)
    have : q0.take (i + 1) = q0.take i ++ [q0[i]] := by rw [List.take_add_one, List.getElem?_eq_getElem h]; rfl
    rw [this, svF_snoc]
    exact ih.step (List.getElem?_eq_getElem h)
def served (t : Tb Str) (q : List (Row Str)) : SS := svF q ⟨[], t, q⟩
theorem served_ok {S : List Str} {t : Tb Str} {q : List (Row Str)} (x : Inv S t q) : Inv S (served t q).t (served t q).q ∧ Blk (served t q).t (served t q).q := by
  have h := SvI.all (f0 := []) x q.length (Nat.le_refl _)
  rw [List.take_length] at h
  refine ⟨h.inv, ?_⟩
  obtain ⟨pre, e, hp⟩ := h.pre
  rw [List.drop_length, List.append_nil] at e
  intro r hr
  have hr : r ∈ (svF q ⟨[], t, q⟩).q := hr
  rw [e] at hr
  exact hp r hr
theorem sv_blk {s : SS} (h : Blk s.t s.q) : ∀ (l : List (Row Str)), (∀ r ∈ l, r ∈ s.q) → svF l s = s
  | [], _ => rfl
  | r :: l, hl => by
    show svF l (sv1 s r) = s
    have : sv1 s r = s := by unfold sv1; rw [if_neg (h r (hl r (by simp)))]
    rw [this]
    exact sv_blk h l fun p hp => hl p (by simp [hp])
end K16
namespace K16
open PySem L2 HK
/-! ### from state to state -/
def Keep (H H' : Hp) : Prop := ∀ t xs, H t = some (.tup xs) → H' t = some (.tup xs)
structure Go (c : Addr) (g g' : LG) (H H' : Hp) : Prop where
  fr : Fr (own c g) H H'
  ow : ∀ b ∈ own c g', b ∈ own c g ∨ H b = none
theorem Go.refl (c : Addr) (g : LG) (H : Hp) : Go c g g H H := ⟨Fr.refl _ _, fun b h => .inl h⟩
theorem Go.same {c : Addr} {g : LG} {H H' : Hp} (s : Same H H') : Go c g g H H' := ⟨Fr.of s, fun b h => .inl h⟩
theorem Go.trans {c : Addr} {g g1 g2 : LG} {H H1 H2 : Hp} (a : Go c g g1 H H1) (b : Go c g1 g2 H1 H2) : Go c g g2 H H2 := by
  refine ⟨fun d o h n => b.fr d o (a.fr d o h n) (fun z => ?_), fun d hd => ?_⟩
  · rcases a.ow d z with k | k
    · exact n k
    · rw [h] at k; cases k
  · rcases b.ow d hd with k | k
    · exact a.ow d k
    · by_cases e : d ∈ own c g
      · exact .inl e
      · right
        cases q : H d with
        | none => rfl
        | some o => rw [a.fr d o q e] at k; cases k
theorem Go.then {c : Addr} {g g1 : LG} {H H1 H2 : Hp} (a : Go c g g1 H H1) (s : Same H1 H2) : Go c g g1 H H2 := a.trans (.same s)
theorem LAt.there {CL : Addr} {H : Hp} {c : Addr} {g : LG} (x : LAt CL H c g) {b : Addr} (h : b ∈ own c g) : ∃ o, H b = some o ∧ ∀ xs, o ≠ .tup xs := by
  unfold own at h
  rcases List.mem_cons.mp h with e | h
  · rw [e]; exact ⟨_, x.ins, fun _ z => by cases z⟩
  rcases List.mem_cons.mp h with e | h
  · rw [e]; exact ⟨_, x.que.lst, fun _ z => by cases z⟩
  rcases List.mem_cons.mp h with e | h
  · rw [e]; exact ⟨_, x.tab.top, fun _ z => by cases z⟩
  obtain ⟨y, hy, e⟩ := List.mem_map.mp h
  rw [← e]; exact ⟨_, x.tab.inn y hy, fun _ z => by cases z⟩
theorem LAt.new_ne {CL : Addr} {H : Hp} {c : Addr} {g : LG} (x : LAt CL H c g) {b : Addr} (h : H b = none) : b ∉ own c g := fun z => by
  obtain ⟨o, ho, _⟩ := x.there z
  rw [ho] at h; cases h
theorem Go.keep {CL : Addr} {c : Addr} {g g' : LG} {H H' : Hp} (a : Go c g g' H H') (x : LAt CL H c g) : Keep H H' := fun t xs h => a.fr t _ h fun z => by
  obtain ⟨o, ho, n⟩ := x.there z
  rw [h] at ho
  exact n xs (Option.some.inj ho).symm
/-- the table is another one -/
theorem LAt.tabs {CL : Addr} {H H' : Hp} {c : Addr} {g : LG} (x : LAt CL H c g) {ho' : Ho} (f : Fr (g.a :: adr g.ho) H H') (t : TAt H' g.a ho') : LAt CL H' c { g with ho := ho' } := by
  have dk : ∀ b ∈ g.a :: adr g.ho, ∃ k, H b = some (.dK k) := fun b hb => by
    rcases List.mem_cons.mp hb with e | h
    · rw [e]; exact ⟨_, x.tab.top⟩
    · obtain ⟨y, hy, e⟩ := List.mem_map.mp h
      rw [← e]; exact ⟨_, x.tab.inn y hy⟩
  have st : ∀ b o, H b = some o → (∀ k, o ≠ .dK k) → H' b = some o := fun b o h n => f b o h fun z => by
    obtain ⟨k, hk⟩ := dk b z
    rw [h] at hk
    exact n k (Option.some.inj hk)
  exact ⟨st _ _ x.ins (fun k z => by cases z), t, ⟨st _ _ x.que.lst (fun k z => by cases z), fun y hy => st _ _ (x.que.tup y hy) (fun k z => by cases z)⟩⟩
theorem Go.tabs {c : Addr} {g : LG} {H H' : Hp} {ho' : Ho} (f : Fr (g.a :: adr g.ho) H H') (ow : ∀ b ∈ adr ho', b ∈ adr g.ho ∨ H b = none) : Go c g { g with ho := ho' } H H' := by
  refine ⟨f.mono fun a ha => ?_, fun b hb => ?_⟩
  · exact List.mem_cons_of_mem _ (List.mem_cons_of_mem _ ha)
  · unfold own at hb ⊢
    rcases List.mem_cons.mp hb with e | h
    · rw [e]; simp
    rcases List.mem_cons.mp h with e | h
    · rw [e]; simp
    rcases List.mem_cons.mp h with e | h
    · rw [e]; simp
    rcases ow b h with z | z
    · exact .inl (by simp [z])
    · exact .inr z
/-- the queue is another one, at its place -/
theorem LAt.queue {CL : Addr} {H H' : Hp} {c : Addr} {g : LG} (x : LAt CL H c g) {qs' : List (Addr × Row Str)} (s : SameX g.l H H') (h : H' g.l = some (.lst (qs'.map fun y => V.ref y.1))) (ht : ∀ y ∈ qs', H' y.1 = some (rowO y.2)) : LAt CL H' c { g with qs := qs' } := by
  have ne : ∀ b o, H b = some o → (∀ k, o ≠ .lst k) → b ≠ g.l := fun b o hb n e => by
    rw [e, x.que.lst] at hb
    exact n _ (Option.some.inj hb).symm
  refine ⟨s _ _ (ne _ _ x.ins (fun k z => by cases z)) x.ins, ⟨s _ _ (ne _ _ x.tab.top (fun k z => by cases z)) x.tab.top, fun y hy => s _ _ (ne _ _ (x.tab.inn y hy) (fun k z => by cases z)) (x.tab.inn y hy), x.tab.nd⟩, ⟨h, ht⟩⟩
theorem Go.queue {c : Addr} {g : LG} {H H' : Hp} {qs' : List (Addr × Row Str)} (s : SameX g.l H H') : Go c g { g with qs := qs' } H H' := ⟨Fr.sx s (by simp [own]), fun b hb => .inl hb⟩
/-! ### rows as data -/
def rowD (r : Row Str) : PyData := .tuple [.int r.1, .str r.2.1, .str (hw r.2.2)]
theorem dp_row {K : PySem.W.Frag} {H : Hp} {p : Addr} {r : Row Str} (h : H p = some (rowO r)) : Dp K H (.ref p) (rowD r) := .tup (SqT.of h) (.cons (.int _) (.cons (.str _) (.cons (.str _) .nil)))
theorem dps_rows {K : PySem.W.Frag} {H : Hp} : ∀ {qs : List (Addr × Row Str)}, (∀ y ∈ qs, H y.1 = some (rowO y.2)) → DpAll K H (qs.map fun y => V.ref y.1) ((qf qs).map rowD)
  | [], _ => .nil
  | y :: r, h => .cons (dp_row (h y (by simp))) (dps_rows fun z hz => h z (by simp [hz]))
theorem hw_ok (b : Bool) : PyData.strOk (hw b) = true := by cases b <;> decide +kernel
/-- names are plain texts -/
def NmOk (S : List Str) : Prop := ∀ n ∈ S, PyData.strOk n = true
theorem shaped_row {S : List Str} (ok : NmOk S) {r : Row Str} (h : r.2.1 ∈ S) : SeqAt.shaped (rowD r) = true := by
  have := ok _ h
  have := hw_ok r.2.2
  simp [SeqAt.shaped, rowD, PyData.canLay0, PyData.canLayAll0, PyData.depth, PyData.depthAll, *]
theorem canAll {l : List PyData} (h : ∀ d ∈ l, d.canLay0 = true) : PyData.canLayAll0 l = true := by
  induction l with
  | nil => simp [PyData.canLayAll0]
  | cons a r ih => simp [PyData.canLayAll0, h a (by simp), ih fun d hd => h d (by simp [hd])]
theorem depAll {l : List PyData} {n : Nat} (h : ∀ d ∈ l, d.depth ≤ n) : PyData.depthAll l ≤ n := by
  induction l with
  | nil => simp [PyData.depthAll]
  | cons a r ih =>
    have := h a (by simp)
    have := ih fun d hd => h d (by simp [hd])
    simp [PyData.depthAll]; omega
theorem shaped_rows {S : List Str} (ok : NmOk S) {q : List (Row Str)} (h : ∀ r ∈ q, r.2.1 ∈ S) : SeqAt.shaped (.list (q.map rowD)) = true := by
  have h1 : PyData.canLayAll0 (q.map rowD) = true := canAll fun d hd => by
    obtain ⟨r, hr, rfl⟩ := List.mem_map.mp hd
    exact SeqAt.canLay_of_shaped (shaped_row ok (h r hr))
  have h2 : PyData.depthAll (q.map rowD) ≤ 1 := depAll fun d hd => by
    obtain ⟨r, hr, rfl⟩ := List.mem_map.mp hd
    simp [rowD, PyData.depth, PyData.depthAll]
  simp [SeqAt.shaped, PyData.canLay0, PyData.depth, h1]; omega
theorem eqv_row_self (r : Row Str) : PyData.eqv (rowD r) (rowD r) = true := by simp [rowD, PyData.eqv, PyData.eqvAll]
theorem eqv_row_ne {r s : Row Str} (h : r.1 ≠ s.1) : PyData.eqv (rowD r) (rowD s) = false := by simp [rowD, PyData.eqv, PyData.eqvAll, h]
theorem erase_rmv : ∀ {q : List (Row Str)} {j : Nat} {r : Row Str}, (wq q).Nodup → q[j]? = some r → q.eraseIdx j = rmv q r.1
  | a :: q, 0, r, nd, h => by
    obtain rfl := Option.some.inj h
    have nd' := List.nodup_cons.mp nd
    unfold rmv
    rw [List.filter_cons_of_neg (by simp)]
    exact (List.filter_eq_self.mpr fun p hp => by
      rw [decide_eq_true_eq]
      exact fun e => nd'.1 (by show a.1 ∈ _; rw [← e]; exact List.mem_map_of_mem hp)).symm
  | a :: q, j + 1, r, nd, h => by
    have nd' := List.nodup_cons.mp nd
    have h' : q[j]? = some r := h
    have ne : a.1 ≠ r.1 := fun e => nd'.1 (by show a.1 ∈ _; rw [e]; exact List.mem_map_of_mem (List.mem_of_getElem? h'))
    unfold rmv
    rw [List.filter_cons, if_pos (decide_eq_true ne)]
    show a :: q.eraseIdx j = _
    rw [erase_rmv nd'.2 h']; rfl
theorem qf_erase : ∀ (qs : List (Addr × Row Str)) (j : Nat), qf (qs.eraseIdx j) = (qf qs).eraseIdx j
  | [], _ => rfl
  | _ :: _, 0 => rfl
  | a :: r, j + 1 => by
    show a.2 :: qf (r.eraseIdx j) = a.2 :: (qf r).eraseIdx j
    rw [qf_erase r j]
theorem map_erase (qs : List (Addr × Row Str)) (j : Nat) : (qs.map fun y => V.ref y.1).eraseIdx j = (qs.eraseIdx j).map fun y => V.ref y.1 := by
  induction qs generalizing j with
  | nil => rfl
  | cons a r ih =>
    cases j with
    | zero => rfl
    | succ j => show _ :: _ = _ :: _; rw [ih j]
end K16
namespace K16
open PySem L2 HK
theorem room65 {k : Nat} {A : Around} (hr : Room k A) : A.units + 65 < cLine := by have := hr.un; omega
structure Sok (S : List Str) : Prop where
  four : S.length ≤ 4
  nm : NmOk S
theorem eqv_srt_nil (l : List Int) : PyData.eqv (.list ((srt l).map PyData.int)) (.list []) = decide (l = []) := by
  rw [eqv_nil]
  refine decide_eq_decide.mpr ⟨fun h => ?_, fun h => by rw [h, srt_nil]⟩
  have := srt_len l
  rw [h] at this
  exact List.length_eq_zero_iff.mp this.symm
theorem SvI.wf {S : List Str} {q0 : List (Row Str)} {i : Nat} {s : SS} (x : SvI S q0 i s) : Wf S s.t s.q := x.inv.wf
def spSrv (CL : Addr) : Sp := fun vs H Q _ => ∃ c g, vs = [.ref c] ∧ LAt CL H c g ∧ (∃ S, Sok S ∧ Inv S g.t g.q) ∧
  ∀ H' g' r, Go c g g' H H' → LAt CL H' c g' → g'.t = (served g.t g.q).t → g'.q = (served g.t g.q).q → H r = none → r ∉ own c g' → H' r = some (.lst ((served g.t g.q).f.map V.int)) → Q (.ref r) H'
section
variable {P : Program} {w : World} {K : PySem.W.Frag} {mg : Str → Option Value} {base : Heap} {CL CE : Addr}
theorem scSrv : FnScope ["self", "found", "who", "name", "how"] ["self"] (defScope sSrv) := ⟨rfl, rfl, rfl, by decide +kernel, rfl, by decide +kernel, by decide +kernel⟩
theorem ok_srv {f fB fT : Addr} {fd fdB fdT : FuncData} (F : L2.Fun K "served" "Locks.served" sSrv f fd) (T : LTxt K mg CL CE)
    (FB : FnOk P w K mg base L2.CX0 2 fB fdB ["self", "who", "name", "how"] (spBlk CL)) (bB : Binds K fdB ["self", "who", "name", "how"] []) (mB : Meth K CL "blockers" fB)
    (FT : FnOk P w K mg base L2.CX0 1 fT fdT ["self", "who", "name", "how"] (spTak CL)) (bT : Binds K fdT ["self", "who", "name", "how"] []) (mT : Meth K CL "take" fT) :
    FnOk P w K mg base L2.CX0 3 f fd ["self"] (spSrv CL) := by
  refine F.ok scSrv (fun vs H Q E h => ?_) (fun cdv A outer s H vs Q E hr h => ?_)
  · obtain ⟨c, g, rfl, _⟩ := h
    rfl
  · obtain ⟨c, g, rfl, x, ⟨S, sok, iv⟩, k⟩ := h
    have rT := FT.mono (show 1 ≤ 2 by decide)
    refine ⟨_, pss_cons (ps_set (i := 1) scSrv.nd rfl (Or.inl rfl) (pe_lst pa_nil))
      (pss_cons (ps_for PassesOwn.never rfl (pi_list (pe_callTy call_list_of (by rfl) T.list PyProof.Rows.Boot.«list» (pa_cons (pe_fld (pv 0) rfl) pa_nil))) (pg_tup rfl (pgs_cons (pg_name (i := 2) scSrv.nd rfl (Or.inl rfl)) (pgs_cons (pg_name (i := 3) scSrv.nd rfl (Or.inl rfl)) (pgs_cons (pg_name (i := 4) scSrv.nd rfl (Or.inl rfl)) pgs_nil))))
        (pss_one (ps_if (pt_cmpR (op_eqD hr.units) (pe_meth (pv 0) T.cl mB FB hr bB .nil pass0 (pa_cons (pv 2) (pa_cons (pv 3) (pa_cons (pv 4) pa_nil)))) (pe_lst pa_nil) (nomark _))
          (pss_cons (ps_expr (pe_bm PySem.F.plainAttrs_list PySem.F.slot_list_remove PySem.F.type_list_remove (HKE.mt_removeD (room65 hr)) (pe_fld (pv 0) rfl) (pa_cons (pe_tup (pa_cons (pv 2) (pa_cons (pv 3) (pa_cons (pv 4) pa_nil)))) pa_nil)))
          (pss_cons (ps_expr (pe_meth (pv 0) T.cl mT rT hr bT .nil pass0 (pa_cons (pv 2) (pa_cons (pv 3) (pa_cons (pv 4) pa_nil)))))
          (pss_one (ps_expr (pe_bm PySem.F.plainAttrs_list PySem.F.slot_list_append PySem.F.type_list_append mt_append (pv 1) (pa_cons (pv 2) pa_nil)))))) pss_nil)))
      (pss_one (ps_ret (pv 1)))), ?_⟩
    refine ⟨by show 0 ≤ sizeLine; decide, fun F0 nF => ?_⟩
    have s1 : Same H (upd H F0 (.lst [])) := same_upd nF
    have hF1 : (upd H F0 (.lst [])) F0 = some (.lst []) := upd_same
    have x1 := x.same s1
    generalize upd H F0 (.lst []) = H1 at s1 hF1 x1 ⊢
    refine ⟨_, rfl, c, CL, g.cx, _, _, rfl, x1.ins, T.cl, T.n2, rfl, g.l, _, rfl, .inl (SqL.of x1.que.lst), fun L1 nL => ?_⟩
    have s2 : Same H1 (upd H1 L1 (.lst (g.qs.map fun y => V.ref y.1))) := same_upd nL
    have hL2 : (upd H1 L1 (.lst (g.qs.map fun y => V.ref y.1))) L1 = some (.lst (g.qs.map fun y => V.ref y.1)) := upd_same
    have hF2 := s2 _ _ hF1
    have x2 := x1.same s2
    have s12 := s1.trans s2
    have nFL : F0 ≠ L1 := ne_of_none hF1 nL
    have nL0 : H L1 = none := s1.free nL
    generalize upd H1 L1 (.lst (g.qs.map fun y => V.ref y.1)) = H2 at s12 hL2 hF2 x2 ⊢
    have lq : g.q.length = g.qs.length := by unfold LG.q qf; rw [List.length_map]
    refine ⟨L1, rfl, ⟨_, SqL.of hL2⟩, ?_⟩
    refine for_list (K := K) (a := L1) (xs := g.qs.map fun y => V.ref y.1) (fun i σ H' => ∃ gi, Go c g gi H H' ∧ LAt CL H' c gi ∧ (∀ y ∈ g.qs, H' y.1 = some (rowO y.2)) ∧ gi.t = (svF (g.q.take i) ⟨[], g.t, g.q⟩).t ∧ gi.q = (svF (g.q.take i) ⟨[], g.t, g.q⟩).q ∧ (svF (g.q.take i) ⟨[], g.t, g.q⟩).f.length ≤ i ∧
        H' L1 = some (.lst (g.qs.map fun y => V.ref y.1)) ∧ H' F0 = some (.lst ((svF (g.q.take i) ⟨[], g.t, g.q⟩).f.map V.int)) ∧ F0 ∉ own c gi ∧ L1 ∉ own c gi ∧ ∃ u1 u2 u3, σ = [some (.ref c), some (.ref F0), u1, u2, u3])
      ⟨g, .same s12, x2, x2.que.tup, rfl, rfl, Nat.le_refl _, hL2, hF2, x.new_ne nF, x.new_ne nL0, none, none, none, rfl⟩ (fun i σ H' hi q => ?_) (fun i z σ H' hx q => ?_) (fun σ H' q => ?_)
    · obtain ⟨gi, _, _, _, _, _, _, h, _⟩ := q
      exact SqL.of h
    · obtain ⟨gi, go, xi, rows, et, eq', lf, hL, hF, nF', nL', u1, u2, u3, rfl⟩ := q
      rw [List.getElem?_map] at hx
      obtain ⟨y, hy, rfl⟩ := Option.map_eq_some_iff.mp hx
      have ym := List.mem_of_getElem? hy
      have hq : g.q[i]? = some y.2 := by unfold LG.q qf; rw [List.getElem?_map, hy]; rfl
      have hi : i < g.q.length := (List.getElem?_eq_some_iff.mp hq).1
      have sv := SvI.all (f0 := []) iv i (by omega)
      have est : svF (g.q.take (i + 1)) ⟨[], g.t, g.q⟩ = sv1 (svF (g.q.take i) ⟨[], g.t, g.q⟩) y.2 := by
        rw [List.take_add_one, hq]; exact svF_snoc _ _ _
      have wf := sv.wf
      obtain ⟨pre, ep, _⟩ := sv.pre
      have inq : y.2 ∈ (svF (g.q.take i) ⟨[], g.t, g.q⟩).q := by
        rw [ep]
        obtain ⟨_, e2⟩ := List.getElem?_eq_some_iff.mp hq
        rw [List.drop_eq_getElem_cons hi, e2]; simp
      generalize svF (g.q.take i) ⟨[], g.t, g.q⟩ = s at *
      rw [← et, ← eq'] at wf
      rw [← eq'] at inq
      have gok : GOk S gi := ⟨wf, sok.four⟩
      have l5 : i ≤ 5 := by
        have := GOk.len (S := S) (g := g) ⟨iv.wf, sok.four⟩
        omega
      rw [est]
      refine ⟨y.1, _, rfl, SqT.of (rows y ym), rfl, _, _, rfl, _, _, rfl, _, _, rfl, rfl, ?_⟩
      refine ⟨_, rfl, c, gi.cx, _, rfl, xi.ins, rfl, _, rfl, _, rfl, _, rfl, c, gi, y.2.1, y.2.2.1, y.2.2.2, rfl, xi, gok.tok, gok.len, fun H3 r s3 nr hr3 => ?_⟩
      refine ⟨by show 0 ≤ sizeLine; decide, fun e ne => ?_⟩
      have s4 := s3.trans (same_upd (o := .lst []) ne)
      have hr4 : (upd H3 e (.lst [])) r = some (.lst ((srt (raw gi.t gi.q y.2.1 y.2.2.1 y.2.2.2)).map V.int)) := by rw [upd_ne (ne_of_none hr3 ne)]; exact hr3
      refine ⟨_, .list [], dp_ints hr4, Dp.lst (SqL.of upd_same) .nil, shaped_ints _, rfl, ?_⟩
      rw [eqv_srt_nil]
      have go4 := go.then s4
      have x4 := xi.same s4
      have rows4 : ∀ y ∈ g.qs, (upd H3 e (.lst [])) y.1 = some (rowO y.2) := fun y hy => s4 _ _ (rows y hy)
      have hL4 := s4 _ _ hL
      have hF4 := s4 _ _ hF
      generalize upd H3 e (.lst []) = H4 at go4 x4 rows4 hL4 hF4 ⊢
      have cc : (raw s.t s.q y.2.1 y.2.2.1 y.2.2.2 = []) = (raw gi.t gi.q y.2.1 y.2.2.1 y.2.2.2 = []) := by rw [et, eq']
      refine ⟨_, rfl, ite2 (fun c1 => ?_) (fun c1 => ?_)⟩
      · have c1 : raw gi.t gi.q y.2.1 y.2.2.1 y.2.2.2 = [] := by simpa using c1
        have e1 : sv1 s y.2 = ⟨s.f ++ [y.2.1], tk s.t y.2.2.1 y.2.1 y.2.2.2, rmv s.q y.2.1⟩ := by unfold sv1; rw [if_pos (by rw [cc]; exact c1)]
        rw [e1]
        refine ⟨_, rfl, c, CL, gi.cx, _, _, rfl, x4.ins, T.cl, T.n2, rfl, .inl ⟨rfl, _, SqL.of x4.que.lst⟩, ?_⟩
        refine ⟨_, rfl, _, rfl, _, rfl, by show 3 ≤ sizeLine; decide, fun T2 nT => ?_⟩
        have s5 : Same H4 (upd H4 T2 (rowO y.2)) := same_upd nT
        have hT5 : (upd H4 T2 (rowO y.2)) T2 = some (rowO y.2) := upd_same
        have go5 := go4.then s5
        have x5 := x4.same s5
        have rows5 : ∀ z ∈ g.qs, (upd H4 T2 (rowO y.2)) z.1 = some (rowO z.2) := fun z hz => s5 _ _ (rows4 z hz)
        have hL5 := s5 _ _ hL4
        have hF5 := s5 _ _ hF4
        generalize upd H4 T2 (rowO y.2) = H5 at hT5 go5 x5 rows5 hL5 hF5 ⊢
        obtain ⟨j, hj⟩ := List.getElem?_of_mem inq
        have hrq : ∀ r ∈ gi.q, r.2.1 ∈ S := fun r hr => (wf.rq r hr).2
        refine ⟨gi.l, _, .ref T2, rowD y.2, (qf gi.qs).map rowD, j, rowD y.2, rfl, rfl, x5.que.lst, Dp.lst (SqL.of x5.que.lst) (dps_rows x5.que.tup), dp_row hT5, shaped_rows sok.nm hrq, shaped_row sok.nm (hrq _ inq), ?_, eqv_row_self _, fun m z' hm hz => ?_, ?_⟩
        · rw [List.getElem?_map, show (qf gi.qs)[j]? = some y.2 from hj]; rfl
        · rw [List.getElem?_map] at hz
          obtain ⟨r', hr', rfl⟩ := Option.map_eq_some_iff.mp hz
          refine eqv_row_ne fun e => ?_
          have nd := wf.ndq
          have h1 : (wq gi.q)[m]? = some r'.1 := by unfold wq; rw [List.getElem?_map, show gi.q[m]? = some r' from hr']; rfl
          have h2 : (wq gi.q)[j]? = some y.2.1 := by unfold wq; rw [List.getElem?_map, hj]; rfl
          obtain ⟨b1, b2⟩ := List.getElem?_eq_some_iff.mp h1
          obtain ⟨b3, b4⟩ := List.getElem?_eq_some_iff.mp h2
          have := (List.getElem_inj nd).mp (b2.trans (e.trans b4.symm))
          omega
        rw [map_erase]
        have xq : ∀ z ∈ gi.qs.eraseIdx j, z ∈ gi.qs := fun z hz => List.mem_of_mem_eraseIdx hz
        have x6 : LAt CL (upd H5 gi.l (.lst ((gi.qs.eraseIdx j).map fun y => V.ref y.1))) c { gi with qs := gi.qs.eraseIdx j } := x5.queue SameX.upd upd_same (fun z hz => by
          rw [upd_ne (ne_of (x5.que.tup z (xq z hz)) x5.que.lst (by intro z; cases z))]; exact x5.que.tup z (xq z hz))
        have go6 := go5.trans (Go.queue (g := gi) (c := c) (qs' := gi.qs.eraseIdx j) (SameX.upd (D := gi.l) (H := H5) (o := .lst ((gi.qs.eraseIdx j).map fun y => V.ref y.1))))
        have nFl : F0 ≠ gi.l := fun e => nF' (by rw [e]; simp [own])
        have nLl : L1 ≠ gi.l := fun e => nL' (by rw [e]; simp [own])
        have hL6 : (upd H5 gi.l (.lst ((gi.qs.eraseIdx j).map fun y => V.ref y.1))) L1 = some (.lst (g.qs.map fun y => V.ref y.1)) := by rw [upd_ne nLl]; exact hL5
        have hF6 : (upd H5 gi.l (.lst ((gi.qs.eraseIdx j).map fun y => V.ref y.1))) F0 = some (.lst (s.f.map V.int)) := by rw [upd_ne nFl]; exact hF5
        have rows6 : ∀ z ∈ g.qs, (upd H5 gi.l (.lst ((gi.qs.eraseIdx j).map fun y => V.ref y.1))) z.1 = some (rowO z.2) := fun z hz => by
          rw [upd_ne (ne_of (rows5 z hz) x5.que.lst (by intro z; cases z))]; exact rows5 z hz
        generalize upd H5 gi.l (.lst ((gi.qs.eraseIdx j).map fun y => V.ref y.1)) = H6 at x6 go6 hL6 hF6 rows6 ⊢
        have eq6 : ({ gi with qs := gi.qs.eraseIdx j } : LG).q = rmv s.q y.2.1 := by
          show qf (gi.qs.eraseIdx j) = _
          rw [qf_erase, ← eq']
          exact erase_rmv wf.ndq hj
        refine ⟨_, rfl, c, gi.cx, _, rfl, x6.ins, rfl, _, rfl, _, rfl, _, rfl, c, { gi with qs := gi.qs.eraseIdx j }, y.2.1, y.2.2.1, y.2.2.2, rfl, x6, ⟨S, wf.tok, sok.four⟩, fun H7 ho' f7 t7 e7 o7 => ?_⟩
        have x7 := x6.tabs f7 t7
        have go7 := go6.trans (Go.tabs (c := c) f7 o7)
        have kp7 := (Go.tabs (c := c) f7 o7).keep x6
        have nin : ∀ b, (∃ xs, H6 b = some (.lst xs)) → b ∉ gi.a :: adr gi.ho := fun b ⟨xs, hb⟩ z => by
          rcases List.mem_cons.mp z with e | h
          · rw [e, x6.tab.top] at hb; cases hb
          · obtain ⟨y', hy', e⟩ := List.mem_map.mp h
            rw [← e, x6.tab.inn y' hy'] at hb; cases hb
        have hL7 := f7 _ _ hL6 (nin _ ⟨_, hL6⟩)
        have hF7 := f7 _ _ hF6 (nin _ ⟨_, hF6⟩)
        have out : ∀ b o, H6 b = some o → b ∉ own c gi → b ∉ own c { gi with qs := gi.qs.eraseIdx j, ho := ho' } := fun b o hb nb z => by
          rcases (Go.tabs (c := c) (g := { gi with qs := gi.qs.eraseIdx j }) f7 o7).ow b z with k1 | k1
          · exact nb k1
          · rw [hb] at k1; cases k1
        refine ⟨_, rfl, .inl ⟨rfl, _, SqL.of hF7⟩, _, rfl, F0, _, _, rfl, rfl, hF7, by rw [List.length_map, sizeLine_eq]; omega, ?_⟩
        have nF8 := out _ _ hF6 nF'
        have x8 : LAt CL (upd H7 F0 (.lst (s.f.map V.int ++ [.int y.2.1]))) c { gi with qs := gi.qs.eraseIdx j, ho := ho' } := by
          have st : ∀ b o, H7 b = some o → b ≠ F0 → (upd H7 F0 (.lst (s.f.map V.int ++ [.int y.2.1]))) b = some o := fun b o hb n => by rw [upd_ne n]; exact hb
          have no : ∀ b, b ∈ own c { gi with qs := gi.qs.eraseIdx j, ho := ho' } → b ≠ F0 := fun b hb e => nF8 (by rw [← e]; exact hb)
          refine ⟨st _ _ x7.ins (no _ (by simp [own])), ⟨st _ _ x7.tab.top (no _ (by simp [own])), fun y' hy' => st _ _ (x7.tab.inn y' hy') (no _ ?_), x7.tab.nd⟩, ⟨st _ _ x7.que.lst (no _ (by simp [own])), fun y' hy' => st _ _ (x7.que.tup y' hy') (ne_of (x7.que.tup y' hy') hF7 (by intro z; cases z))⟩⟩
          unfold own
          exact List.mem_cons_of_mem _ (List.mem_cons_of_mem _ (List.mem_cons_of_mem _ (List.mem_map_of_mem hy')))
        refine ⟨{ gi with qs := gi.qs.eraseIdx j, ho := ho' }, ?_, x8, fun z hz => ?_, ?_, eq6, ?_, ?_, ?_, nF8, out _ _ hL6 nL', _, _, _, rfl⟩
        · refine ⟨fun b o hb nb => ?_, go7.ow⟩
          rw [upd_ne (ne_of_none hb nF)]
          exact go7.fr b o hb nb
        · rw [upd_ne (ne_of (kp7 _ _ (rows6 z hz)) hF7 (by intro z; cases z))]; exact kp7 _ _ (rows6 z hz)
        · show fg ho' = _
          rw [e7, ← et]; rfl
        · show (s.f ++ [y.2.1]).length ≤ i + 1
          rw [List.length_append]; show _ + 1 ≤ _; omega
        · rw [upd_ne (Ne.symm nFL)]; exact hL7
        · rw [upd_same, List.map_append]; rfl
      · have c1 : ¬ raw gi.t gi.q y.2.1 y.2.2.1 y.2.2.2 = [] := by simpa using c1
        have e1 : sv1 s y.2 = s := by unfold sv1; rw [if_neg (by rw [cc]; exact c1)]
        rw [e1]
        exact ⟨gi, go4, x4, rows4, et, eq', by omega, hL4, hF4, nF', nL', _, _, _, rfl⟩
    · obtain ⟨gi, go, xi, rows, et, eq', lf, hL, hF, nF', nL', u1, u2, u3, rfl⟩ := q
      rw [List.length_map, ← lq, List.take_length] at *
      exact ⟨_, rfl, k H' gi F0 go xi et eq' nF nF' hF⟩
end
end K16
namespace K16
open PySem L2 HK
def inSt (h : Str) : Prop := h = ("shared" : Str) ∨ h = ("alone" : Str)
def spAsk (CL CE : Addr) : Sp := fun vs H Q E => ∃ c g w n h, vs = [.ref c, .int w, .str n, .str h] ∧ LAt CL H c g ∧
  ((inV (.str h) [.str "shared", .str "alone"] = false ∧ ∀ H', Same H H' → E (.ref CE) none H') ∨
   (∃ S, Sok S ∧ Wf S g.t g.q ∧ w ∈ wq g.q ∧ ∀ H', Same H H' → E (.ref CE) none H') ∨
   (∃ S al, h = hw al ∧ Sok S ∧ Inv S g.t g.q ∧ Blk g.t g.q ∧ InW w ∧ n ∈ S ∧ w ∉ wq g.q ∧
     ((raw g.t g.q w n al = [] ∧ ∀ H' g', Go c g g' H H' → LAt CL H' c g' → g'.t = tk g.t n w al → g'.q = g.q → Q (.bl true) H') ∨
      (raw g.t g.q w n al ≠ [] ∧ (Rch (wts g.t (g.q ++ [(w, n, al)])) w w → ∀ H', Go c g g H H' → LAt CL H' c g → E (.ref CE) none H') ∧
        (¬ Rch (wts g.t (g.q ++ [(w, n, al)])) w w → ∀ H' g', Go c g g' H H' → LAt CL H' c g' → g'.t = g.t → g'.q = g.q ++ [(w, n, al)] → Q (.bl false) H')))))
section
variable {P : Program} {w : World} {K : PySem.W.Frag} {mg : Str → Option Value} {base : Heap} {CL CE : Addr}
theorem scAsk : FnScope ["self", "who", "name", "how", "one", "wanted", "way"] ["self", "who", "name", "how"] (defScope sAsk) := ⟨rfl, rfl, rfl, by decide +kernel, rfl, by decide +kernel, by decide +kernel⟩
theorem ok_ask {f fB fT fR : Addr} {fd fdB fdT fdR : FuncData} (F : L2.Fun K "ask" "Locks.ask" sAsk f fd) (T : LTxt K mg CL CE)
    (FB : FnOk P w K mg base L2.CX0 2 fB fdB ["self", "who", "name", "how"] (spBlk CL)) (bB : Binds K fdB ["self", "who", "name", "how"] []) (mB : Meth K CL "blockers" fB)
    (FT : FnOk P w K mg base L2.CX0 1 fT fdT ["self", "who", "name", "how"] (spTak CL)) (bT : Binds K fdT ["self", "who", "name", "how"] []) (mT : Meth K CL "take" fT)
    (FR : FnOk P w K mg base L2.CX0 4 fR fdR ["self", "who"] (spRng CL)) (bR : Binds K fdR ["self", "who"] []) (mR : Meth K CL "in_ring" fR) :
    FnOk P w K mg base (L2.CX P w) 5 f fd ["self", "who", "name", "how"] (spAsk CL CE) := by
  obtain ⟨tA, mA⟩ := T.al
  obtain ⟨tS, mS⟩ := T.sh
  refine F.okX scAsk (fun vs H Q E h => ?_) (fun cdv A outer s H vs Q E hr h => ?_)
  · obtain ⟨c, g, w, n, h, rfl, _⟩ := h
    rfl
  · obtain ⟨c, g, w, n, h, rfl, x, k⟩ := h
    have rB := FB.mono (show 2 ≤ 4 by decide)
    have rT := FT.mono (show 1 ≤ 4 by decide)
    refine ⟨_, pss_cons (ps_if (PW.pt (pw_or (pt_cmpR op_notIn_seq (pv 3) (pe_tup (pa_cons (pe_glob (v := .str "shared") rfl mS ⟨_, rfl⟩) (pa_cons (pe_glob (v := .str "alone") rfl mA ⟨_, rfl⟩) pa_nil))) rfl)
        (pw_or1 (pt_val (pe_callB (cr_any rfl) (by rfl) T.any (by decide +kernel) (pa_cons (pe_lc (own := [("one", 4), ("wanted", 5), ("way", 6)]) (g := gTup K 3 (gCons (gName 4) (gCons (gName 5) (gCons (gName 6) gNil)))) (by rfl) scAsk.nd (pi_list (pe_fld (pv 0) rfl))
          (blkOk_by (N := ["self", "who", "name", "how", "one", "wanted", "way"]) (sc := defScope sAsk) (by decide +kernel))
          (fun _ _ _ _ _ => pg_tup rfl (pgs_cons (pg_name (i := 4) scAsk.nd rfl (Or.inl rfl)) (pgs_cons (pg_name (i := 5) scAsk.nd rfl (Or.inl rfl)) (pgs_cons (pg_name (i := 6) scAsk.nd rfl (Or.inl rfl)) pgs_nil))))
          (fun _ _ _ _ _ => pts_nil) (fun _ _ _ _ _ => pe_cmpR op_eq (pv 4) (pv 1) (nomark _))) pa_nil))))))
        (pss_one (ps_raise rfl (takes_of rfl rfl rfl rfl) (pmk_own PySem.F.excBase_ValueError T.xE T.gE T.kE (raises_own T.bE T.tE) rfl))) pss_nil)
      (pss_cons (ps_if (pt_cmpR (op_eqD hr.units) (pe_meth (pv 0) T.cl mB rB hr bB .nil pass0 (pa_cons (pv 1) (pa_cons (pv 2) (pa_cons (pv 3) pa_nil)))) (pe_lst pa_nil) (nomark _))
        (pss_cons (ps_expr (pe_meth (pv 0) T.cl mT rT hr bT .nil pass0 (pa_cons (pv 1) (pa_cons (pv 2) (pa_cons (pv 3) pa_nil)))))
        (pss_one (ps_ret pe_bl))) pss_nil)
      (pss_cons (ps_expr (pe_bm PySem.F.plainAttrs_list PySem.F.slot_list_append PySem.F.type_list_append mt_append (pe_fld (pv 0) rfl) (pa_cons (pe_tup (pa_cons (pv 1) (pa_cons (pv 2) (pa_cons (pv 3) pa_nil)))) pa_nil)))
      (pss_cons (ps_if (pt_val (pe_meth (pv 0) T.cl mR FR hr bR .nil pass0 (pa_cons (pv 1) pa_nil)))
        (pss_cons (ps_expr (pe_bm0 PySem.F.plainAttrs_list PySem.F.slot_list_pop PySem.F.type_list_pop mt_pop (pe_fld (pv 0) rfl)))
        (pss_one (ps_raise rfl (takes_of rfl rfl rfl rfl) (pmk_own PySem.F.excBase_ValueError T.xE T.gE T.kE (raises_own T.bE T.tE) rfl)))) pss_nil)
      (pss_one (ps_ret pe_bl))))), ?_⟩
    have lq : g.q.length = g.qs.length := by unfold LG.q qf; rw [List.length_map]
    refine ⟨_, rfl, by show 2 ≤ sizeLine; decide, fun T1 nT => ?_⟩
    have s1 : Same H (upd H T1 (.tup [.str "shared", .str "alone"])) := same_upd nT
    refine ⟨T1, _, rfl, .inr (SqT.of upd_same), rfl, rfl, _, rfl, ?_⟩
    have x1 := x.same s1
    generalize upd H T1 (.tup [.str "shared", .str "alone"]) = H1 at s1 x1 ⊢
    rw [show (if true = true then !inV (V.str h) [V.str "shared", V.str "alone"] else inV (V.str h) [V.str "shared", V.str "alone"]) = !inV (V.str h) [V.str "shared", V.str "alone"] from rfl]
    cases hb : inV (V.str h) [V.str "shared", V.str "alone"] with
    | false =>
      refine iteT ?_
      rcases k with ⟨_, k⟩ | ⟨_, _, _, _, k⟩ | ⟨S, al, rfl, _⟩
      · exact k H1 s1
      · exact k H1 s1
      · exfalso
        cases al <;> revert hb <;> decide +kernel
    | true =>
      refine iteF ?_
      refine ⟨_, rfl, c, CL, g.cx, _, _, rfl, x1.ins, T.cl, T.n2, rfl, g.l, rfl, ⟨_, SqL.of x1.que.lst⟩, fun D nD => ?_⟩
      have five : (∃ S, Sok S ∧ Wf S g.t g.q) := by
        rcases k with ⟨z, _⟩ | ⟨S, a, b, _⟩ | ⟨S, al, _, a, b, _⟩
        · rw [hb] at z; cases z
        · exact ⟨S, a, b⟩
        · exact ⟨S, a, b.wf⟩
      obtain ⟨S0, sok0, wf0⟩ := five
      have q5 : g.qs.length ≤ 5 := GOk.len (S := S0) ⟨wf0, sok0.four⟩
      refine lc_list (K := K) (a := g.l) (xs := g.qs.map fun y => V.ref y.1) (fun i H' => Same H1 H' ∧ H' D = some (.lst (((g.q.take i).map fun r => decide (r.1 = w)).map V.bl))) ⟨same_upd nD, upd_same⟩ (fun i H' hi q => SqL.of (q.1 _ _ x1.que.lst)) (fun i z H' hx q => ?_) (fun H' q => ?_)
      · obtain ⟨sm, hD⟩ := q
        rw [List.getElem?_map] at hx
        obtain ⟨y, hy, rfl⟩ := Option.map_eq_some_iff.mp hx
        have ym := List.mem_of_getElem? hy
        have hq : g.q[i]? = some y.2 := by unfold LG.q qf; rw [List.getElem?_map, hy]; rfl
        refine ⟨y.1, _, rfl, SqT.of (sm _ _ (x1.que.tup y ym)), rfl, _, _, rfl, _, _, rfl, _, _, rfl, rfl, rfl, _, rfl, _, rfl, rfl, _, hD, ?_, fun b o hb' => ?_, ?_⟩
        · rw [List.length_map, List.length_map, List.length_take, sizeLine_eq]; omega
        · rw [upd_ne (ne_of_none hb' nD)]; exact sm _ _ hb'
        · rw [upd_same, List.take_add_one, hq]
          simp
      obtain ⟨sm, hD⟩ := q
      rw [List.length_map, ← lq, List.take_length] at hD
      refine ⟨D, _, rfl, SqL.of hD, ?_⟩
      have ea : (g.q.map fun r => decide (r.1 = w)).any id = decide (w ∈ wq g.q) := by
        rw [Bool.eq_iff_iff, List.any_eq_true, decide_eq_true_eq]
        constructor
        · rintro ⟨b, hb1, hb2⟩
          obtain ⟨r, hr, e⟩ := List.mem_map.mp hb1
          have : r.1 = w := by rw [← e] at hb2; simpa using hb2
          rw [← this]; exact List.mem_map_of_mem hr
        · intro z
          obtain ⟨r, hr, e⟩ := List.mem_map.mp z
          exact ⟨true, List.mem_map.mpr ⟨r, hr, decide_eq_true e⟩, rfl⟩
      rw [ea]
      have sH : Same H H' := fun b o hb' => sm _ _ (s1 _ _ hb')
      have x2 := x.same sH
      refine ⟨_, rfl, ite2 (fun c1 => ?_) (fun c1 => ?_)⟩
      · have c1 : w ∈ wq g.q := by simpa using c1
        rcases k with ⟨z, k⟩ | ⟨_, _, _, _, k⟩ | ⟨S, al, _, _, _, _, _, _, nw, _⟩
        · exact k H' sH
        · exact k H' sH
        · exact absurd c1 nw
      have c1 : w ∉ wq g.q := by simpa using c1
      rcases k with ⟨z, k⟩ | ⟨_, _, _, hin, k⟩ | ⟨S, al, rfl, sok, iv, blk, rw_, rn, nw, k⟩
      · rw [hb] at z; cases z
      · exact absurd hin c1
      clear sm hD nD s1 x1
      -- who is in the way
      refine ⟨_, rfl, c, g.cx, _, rfl, x2.ins, rfl, _, rfl, _, rfl, _, rfl, c, g, w, n, al, rfl, x2, ⟨S, iv.tok⟩, q5, fun H3 r s3 nr hr3 => ?_⟩
      refine ⟨by show 0 ≤ sizeLine; decide, fun e ne => ?_⟩
      have hr4 : (upd H3 e (.lst [])) r = some (.lst ((srt (raw g.t g.q w n al)).map V.int)) := by rw [upd_ne (ne_of_none hr3 ne)]; exact hr3
      have s4 : Same H (upd H3 e (.lst [])) := (sH.trans s3).trans (same_upd ne)
      refine ⟨_, .list [], dp_ints hr4, Dp.lst (SqL.of upd_same) .nil, shaped_ints _, rfl, ?_⟩
      rw [eqv_srt_nil]
      have x4 := x.same s4
      generalize upd H3 e (.lst []) = H4 at s4 x4 ⊢
      clear hr3 hr4 nr s3 x2 sH ne
      refine ⟨_, rfl, ite2 (fun c2 => ?_) (fun c2 => ?_)⟩
      · have c2 : raw g.t g.q w n al = [] := by simpa using c2
        rcases k with ⟨_, k⟩ | ⟨z, _⟩
        · refine ⟨_, rfl, c, g.cx, _, rfl, x4.ins, rfl, _, rfl, _, rfl, _, rfl, c, g, w, n, al, rfl, x4, ⟨S, iv.tok, sok.four⟩, fun H5 ho' f5 t5 e5 o5 => ?_⟩
          exact k H5 { g with ho := ho' } ((Go.same s4).trans (Go.tabs (c := c) f5 o5)) (x4.tabs f5 t5) e5 rfl
        · exact absurd c2 z
      have c2 : ¬ raw g.t g.q w n al = [] := by simpa using c2
      rcases k with ⟨z, _⟩ | ⟨_, kr, kn⟩
      · exact absurd z c2
      -- the queue is longer
      refine ⟨_, rfl, c, CL, g.cx, _, _, rfl, x4.ins, T.cl, T.n2, rfl, .inl ⟨rfl, _, SqL.of x4.que.lst⟩, ?_⟩
      refine ⟨_, rfl, _, rfl, _, rfl, by show 3 ≤ sizeLine; decide, fun T2 nT2 => ?_⟩
      have s5 : Same H4 (upd H4 T2 (rowO (w, n, al))) := same_upd nT2
      have hT5 : (upd H4 T2 (rowO (w, n, al))) T2 = some (rowO (w, n, al)) := upd_same
      have x5 := x4.same s5
      have s45 := s4.trans s5
      have nT2H := s4.free nT2
      generalize upd H4 T2 (rowO (w, n, al)) = H5 at s45 hT5 x5 ⊢
      refine ⟨g.l, _, _, rfl, rfl, x5.que.lst, by rw [List.length_map, sizeLine_eq]; omega, ?_⟩
      have e6 : (g.qs.map fun y => V.ref y.1) ++ [V.ref T2] = (g.qs ++ [(T2, (w, n, al))]).map fun y => V.ref y.1 := by rw [List.map_append]; rfl
      rw [e6]
      have x6 : LAt CL (upd H5 g.l (.lst ((g.qs ++ [(T2, (w, n, al))]).map fun y => V.ref y.1))) c { g with qs := g.qs ++ [(T2, (w, n, al))] } := x5.queue SameX.upd upd_same (fun y hy => by
        rcases List.mem_append.mp hy with z | z
        · rw [upd_ne (ne_of (x5.que.tup y z) x5.que.lst (by intro z; cases z))]; exact x5.que.tup y z
        · have : y = (T2, (w, n, al)) := by simpa using z
          rw [this, upd_ne (ne_of hT5 x5.que.lst (by intro z; cases z))]; exact hT5)
      have go6 : Go c g { g with qs := g.qs ++ [(T2, (w, n, al))] } H (upd H5 g.l (.lst ((g.qs ++ [(T2, (w, n, al))]).map fun y => V.ref y.1))) := (Go.same s45).trans (Go.queue SameX.upd)
      have q6 : ({ g with qs := g.qs ++ [(T2, (w, n, al))] } : LG).q = g.q ++ [(w, n, al)] := by show qf _ = qf _ ++ _; unfold qf; rw [List.map_append]; rfl
      generalize upd H5 g.l (.lst ((g.qs ++ [(T2, (w, n, al))]).map fun y => V.ref y.1)) = H6 at x6 go6 ⊢
      have wf6 : Wf S ({ g with qs := g.qs ++ [(T2, (w, n, al))] } : LG).t ({ g with qs := g.qs ++ [(T2, (w, n, al))] } : LG).q := by
        rw [q6]
        refine ⟨iv.tok, ?_, fun r hr => ?_⟩
        · rw [wq_app]
          exact List.nodup_append.mpr ⟨iv.ndq, by simp, fun y hy z hz e => nw (by
            have ez : z = w := List.mem_singleton.mp hz
            rw [← ez, ← e]; exact hy)⟩
        · rcases List.mem_append.mp hr with z | z
          · exact iv.rq r z
          · rw [List.mem_singleton.mp z]; exact ⟨rw_, rn⟩
      refine ⟨_, rfl, c, g.cx, _, rfl, x6.ins, rfl, _, rfl, c, { g with qs := g.qs ++ [(T2, (w, n, al))] }, w, rfl, x6, ⟨S, wf6, sok.four⟩, fun H7 b s7 hb => ?_⟩
      have hb : b = true ↔ Rch (wts g.t (g.q ++ [(w, n, al)])) w w := by rw [← q6]; exact hb
      have x7 := x6.same s7
      have go7 := go6.then s7
      refine ⟨_, rfl, ite2 (fun c3 => ?_) (fun c3 => ?_)⟩
      · -- a ring: the queue as it was
        refine ⟨_, rfl, c, CL, g.cx, _, _, rfl, x7.ins, T.cl, T.n2, rfl, .inl ⟨rfl, _, SqL.of x7.que.lst⟩, g.l, _, .ref T2, rfl, rfl, x7.que.lst, ?_, ?_⟩
        · rw [List.map_append]; simp
        have e8 : ((g.qs ++ [(T2, (w, n, al))]).map fun y => V.ref y.1).dropLast = g.qs.map fun y => V.ref y.1 := by
          rw [List.map_append]
          show (_ ++ [V.ref T2]).dropLast = _
          rw [List.dropLast_concat]
        rw [e8]
        have x8 : LAt CL (upd H7 g.l (.lst (g.qs.map fun y => V.ref y.1))) c g := x7.queue (qs' := g.qs) SameX.upd upd_same (fun y hy => by
          have := x7.que.tup y (by simp [hy])
          rw [upd_ne (ne_of this x7.que.lst (by intro z; cases z))]; exact this)
        refine kr (hb.mp c3) _ ?_ x8
        exact go7.trans (Go.queue (g := { g with qs := g.qs ++ [(T2, (w, n, al))] }) (qs' := g.qs) SameX.upd)
      · exact kn (fun z => c3 (hb.mpr z)) H7 _ go7 x7 rfl q6
end
end K16
namespace K16
open PySem L2 HK
/-! ### leaving: mathematics -/
/-- w holds nothing of the names in D -/
def lvD (w : Int) (D : List Str) (t : Tb Str) : Tb Str := D.foldl (fun t n => if w ∈ whos (lk t n) then drp t n w else t) t
theorem lvD_snoc (w : Int) (D : List Str) (n : Str) (t : Tb Str) : lvD w (D ++ [n]) t = if w ∈ whos (lk (lvD w D t) n) then drp (lvD w D t) n w else lvD w D t := by
  unfold lvD; rw [List.foldl_append]; rfl
theorem Inv.lv {S : List Str} {q : List (Row Str)} {w : Int} (hw : w ∉ wq q) : ∀ {D : List Str} {t : Tb Str}, Inv S t q → Inv S (lvD w D t) q
  | [], _, x => x
  | n :: D, t, x => by
    show Inv S (lvD w D (if w ∈ whos (lk t n) then drp t n w else t)) q
    split
    · exact Inv.lv hw (x.dropNo hw)
    · exact Inv.lv hw x
theorem key_drp {t : Tb Str} {n m : Str} {w : Int} (ne : n ≠ m) (h : n ∈ t.map (·.1)) : n ∈ (drp t m w).map (·.1) := by
  unfold drp
  split
  · obtain ⟨x, hx, e⟩ := List.mem_map.mp h
    exact List.mem_map.mpr ⟨x, List.mem_filter.mpr ⟨hx, by rw [decide_eq_true_eq]; rw [← e] at ne; exact ne⟩, e⟩
  · rw [keys_set]
    split
    · exact h
    · exact List.mem_append_left _ h
theorem key_lvD {n : Str} {w : Int} : ∀ {D : List Str} {t : Tb Str}, n ∉ D → n ∈ t.map (·.1) → n ∈ (lvD w D t).map (·.1)
  | [], _, _, h => h
  | m :: D, t, nd, h => by
    show n ∈ (lvD w D (if w ∈ whos (lk t m) then drp t m w else t)).map (·.1)
    have n1 : n ≠ m := fun e => nd (by rw [e]; simp)
    have n2 : n ∉ D := fun e => nd (by simp [e])
    split
    · exact key_lvD n2 (key_drp n1 h)
    · exact key_lvD n2 h
theorem qf_filter (qs : List (Addr × Row Str)) (w : Int) : qf (qs.filter fun y => decide (y.2.1 ≠ w)) = rmv (qf qs) w := by
  unfold qf rmv
  rw [List.filter_map]; rfl
theorem rmv_not (q : List (Row Str)) (w : Int) : w ∉ wq (rmv q w) := fun z => by
  obtain ⟨p, hp, e⟩ := List.mem_map.mp z
  have := (List.mem_filter.mp hp).2
  rw [decide_eq_true_eq] at this
  exact this e
def spRel (CL CE : Addr) : Sp := fun vs H Q E => ∃ c g w n, vs = [.ref c, .int w, .str n] ∧ LAt CL H c g ∧
  ((w ∉ whos (lk g.t n) ∧ ∀ H', Same H H' → E (.ref CE) none H') ∨
   (w ∈ whos (lk g.t n) ∧ (∃ S, Sok S ∧ Inv S g.t g.q ∧ Blk g.t g.q) ∧ ∀ H' g' r, Go c g g' H H' → LAt CL H' c g' → g'.t = (served (drp g.t n w) g.q).t → g'.q = (served (drp g.t n w) g.q).q → (H r = none ∨ r ∈ own c g) → r ∉ own c g' → H' r = some (.lst ((served (drp g.t n w) g.q).f.map V.int)) → Q (.ref r) H'))
def spLve (CL : Addr) : Sp := fun vs H Q _ => ∃ c g w, vs = [.ref c, .int w] ∧ LAt CL H c g ∧ (∃ S, Sok S ∧ Inv S g.t g.q) ∧
  ∀ H' g' r, Go c g g' H H' → LAt CL H' c g' → g'.t = (served (lvD w (g.t.map (·.1)) g.t) (rmv g.q w)).t → g'.q = (served (lvD w (g.t.map (·.1)) g.t) (rmv g.q w)).q → (H r = none ∨ r ∈ own c g) → r ∉ own c g' → H' r = some (.lst ((served (lvD w (g.t.map (·.1)) g.t) (rmv g.q w)).f.map V.int)) → Q (.ref r) H'
def spInit (CL : Addr) : Sp := fun vs H Q _ => ∃ c cx, vs = [.ref c] ∧ H c = some (.ins CL cx []) ∧ ∀ H' g, SameX c H H' → LAt CL H' c g → g.ho = [] → g.qs = [] → (∀ b ∈ own c g, b = c ∨ H b = none) → Q .non H'
section
variable {P : Program} {w : World} {K : PySem.W.Frag} {mg : Str → Option Value} {base : Heap} {CL CE : Addr}
theorem scInit : FnScope ["self"] ["self"] (defScope sInit) := ⟨rfl, rfl, rfl, by decide +kernel, rfl, by decide +kernel, by decide +kernel⟩
theorem ok_init {f : Addr} {fd : FuncData} (F : L2.Fun K "__init__" "Locks.__init__" sInit f fd) (T : LTxt K mg CL CE) : FnOk P w K mg base L2.CX0 1 f fd ["self"] (spInit CL) := by
  refine F.ok scInit (fun vs H Q E h => ?_) (fun cdv A outer s H vs Q E hr h => ?_)
  · obtain ⟨c, cx, rfl, _⟩ := h
    rfl
  · obtain ⟨c, cx, rfl, hc, k⟩ := h
    refine ⟨_, pss_cons (ps_fld (pv 0) pe_dnewK rfl) (pss_one (ps_fld (pv 0) (pe_lst pa_nil) rfl)), ?_⟩
    refine fun a na => ⟨_, rfl, c, CL, cx, _, rfl, by rw [upd_ne (ne_of_none hc na)]; exact hc, T.cl, T.n1, (by show 0 < 1000; decide), ?_⟩
    refine ⟨by show 0 ≤ sizeLine; decide, fun l nl => ?_⟩
    have nca : c ≠ a := ne_of_none hc na
    have ncl : c ≠ l := fun e => by rw [← e, upd_same] at nl; cases nl
    have nal : a ≠ l := fun e => by rw [← e, upd_ne (Ne.symm nca), upd_same] at nl; cases nl
    have nlH : H l = none := by
      rw [upd_ne (Ne.symm ncl), upd_ne (Ne.symm nal)] at nl; exact nl
    refine ⟨_, rfl, c, CL, cx, _, rfl, by rw [upd_ne ncl, upd_same], T.cl, T.n2, (by show 1 < 1000; decide), ?_⟩
    refine k _ ⟨cx, a, l, [], []⟩ (fun b o n h => ?_) ⟨upd_same, ⟨?_, fun y hy => (by cases hy), by show ([a] : List Addr).Nodup; simp⟩, ⟨?_, fun y hy => (by cases hy)⟩⟩ rfl rfl (fun b hb => ?_)
    · rw [upd_ne n, upd_ne (ne_of_none h nlH), upd_ne n, upd_ne (ne_of_none h na)]; exact h
    · rw [upd_ne (Ne.symm nca), upd_ne nal, upd_ne (Ne.symm nca), upd_same]; rfl
    · rw [upd_ne (Ne.symm ncl), upd_same]; rfl
    · have : b = c ∨ b = l ∨ b = a := by simpa [own, adr] using hb
      rcases this with e | e | e
      · exact .inl e
      · rw [e]; exact .inr nlH
      · rw [e]; exact .inr na
theorem scRel : FnScope ["self", "who", "name"] ["self", "who", "name"] (defScope sRel) := ⟨rfl, rfl, rfl, by decide +kernel, rfl, by decide +kernel, by decide +kernel⟩
theorem ok_rel {f fH fD fS : Addr} {fd fdH fdD fdS : FuncData} (F : L2.Fun K "release" "Locks.release" sRel f fd) (T : LTxt K mg CL CE)
    (FH : FnOk P w K mg base L2.CX0 1 fH fdH ["self", "name"] (spHof CL)) (bH : Binds K fdH ["self", "name"] []) (mH : Meth K CL "holders_of" fH)
    (FD : FnOk P w K mg base L2.CX0 1 fD fdD ["self", "who", "name"] (spDrp CL)) (bD : Binds K fdD ["self", "who", "name"] []) (mD : Meth K CL "drop" fD)
    (FS : FnOk P w K mg base L2.CX0 3 fS fdS ["self"] (spSrv CL)) (bS : Binds K fdS ["self"] []) (mS : Meth K CL "served" fS) :
    FnOk P w K mg base (L2.CX P w) 4 f fd ["self", "who", "name"] (spRel CL CE) := by
  refine F.okX scRel (fun vs H Q E h => ?_) (fun cdv A outer s H vs Q E hr h => ?_)
  · obtain ⟨c, g, w, n, rfl, _⟩ := h
    rfl
  · obtain ⟨c, g, w, n, rfl, x, k⟩ := h
    have rH := FH.mono (show 1 ≤ 3 by decide)
    have rD := FD.mono (show 1 ≤ 3 by decide)
    refine ⟨_, pss_cons (ps_if (pt_cmp (pc_dnotin (hu_of hr) (pv 1) (pe_meth (pv 0) T.cl mH rH hr bH .nil pass0 (pa_cons (pv 2) pa_nil)))) (pss_one (ps_raise rfl (takes_of rfl rfl rfl rfl) (pmk_own PySem.F.excBase_ValueError T.xE T.gE T.kE (raises_own T.bE T.tE) rfl))) pss_nil)
      (pss_cons (ps_expr (pe_meth (pv 0) T.cl mD rD hr bD .nil pass0 (pa_cons (pv 1) (pa_cons (pv 2) pa_nil))))
      (pss_one (ps_ret (pe_meth0 (pv 0) T.cl mS FS hr bS .nil pass0)))), ?_⟩
    refine ⟨_, rfl, _, rfl, c, g.cx, _, rfl, x.ins, rfl, _, rfl, c, g, n, rfl, x, fun H1 d s1 nd hd => ?_⟩
    have x1 := x.same s1
    refine ⟨d, _, rfl, dGet_k (k := .inl w) (.inl hd), _, rfl, ite2 (fun c1 => ?_) (fun c1 => ?_)⟩
    · have c1 : w ∉ whos (lk g.t n) := fun z => by
        have := inH_iff.mpr z
        rw [this] at c1; cases c1
      rcases k with ⟨_, k⟩ | ⟨z, _⟩
      · exact k H1 s1
      · exact absurd z c1
    · have c1 : w ∈ whos (lk g.t n) := by
        refine Classical.byContradiction fun z => c1 ?_
        have : (valV (kvH (lk g.t n)) (.inl w)).isSome = false := by
          cases e : (valV (kvH (lk g.t n)) (.inl w)).isSome with
          | false => rfl
          | true => exact absurd (inH_iff.mp e) z
        rw [this]; rfl
      rcases k with ⟨z, _⟩ | ⟨_, ⟨S, sok, iv, blk⟩, k⟩
      · exact absurd c1 z
      refine ⟨_, rfl, c, g.cx, _, rfl, x1.ins, rfl, _, rfl, _, rfl, c, g, w, n, rfl, x1, ⟨S, iv.tok, sok.four⟩, c1, fun H2 ho' f2 t2 e2 o2 => ?_⟩
      have x2 := x1.tabs f2 t2
      have go2 := (Go.same s1).trans (Go.tabs (c := c) f2 (fun b hb => .inl (o2 b hb)))
      have iv2 : Inv S ({ g with ho := ho' } : LG).t ({ g with ho := ho' } : LG).q := by
        show Inv S (fg ho') g.q
        rw [e2]; exact iv.release blk c1
      have et : ({ g with ho := ho' } : LG).t = drp g.t n w := e2
      refine ⟨_, rfl, c, g.cx, _, rfl, x2.ins, rfl, c, { g with ho := ho' }, rfl, x2, ⟨S, sok, iv2⟩, fun H3 g3 r go3 x3 e3 e4 nr nr2 hr3 => ?_⟩
      rw [et] at e3 e4 hr3
      refine k H3 g3 r (go2.trans go3) x3 e3 e4 ?_ nr2 hr3
      by_cases m : r ∈ own c g
      · exact .inr m
      · left
        cases q : H r with
        | none => rfl
        | some o => rw [go2.fr r o q m] at nr; cases nr
theorem scLve : FnScope ["self", "who", "row", "name"] ["self", "who"] (defScope sLve) := ⟨rfl, rfl, rfl, by decide +kernel, rfl, by decide +kernel, by decide +kernel⟩
theorem ok_lve {f fD fS : Addr} {fd fdD fdS : FuncData} (F : L2.Fun K "leave" "Locks.leave" sLve f fd) (T : LTxt K mg CL CE)
    (FD : FnOk P w K mg base L2.CX0 1 fD fdD ["self", "who", "name"] (spDrp CL)) (bD : Binds K fdD ["self", "who", "name"] []) (mD : Meth K CL "drop" fD)
    (FS : FnOk P w K mg base L2.CX0 3 fS fdS ["self"] (spSrv CL)) (bS : Binds K fdS ["self"] []) (mS : Meth K CL "served" fS) :
    FnOk P w K mg base L2.CX0 4 f fd ["self", "who"] (spLve CL) := by
  refine F.ok scLve (fun vs H Q E h => ?_) (fun cdv A outer s H vs Q E hr h => ?_)
  · obtain ⟨c, g, w, rfl, _⟩ := h
    rfl
  · obtain ⟨c, g, w, rfl, x, ⟨S, sok, iv⟩, k⟩ := h
    have rD := FD.mono (show 1 ≤ 3 by decide)
    refine ⟨_, pss_cons (ps_fld (pv 0) (pe_lc (own := [("row", 2)]) (g := gName 2) (te := tVar 2) (by rfl) scLve.nd (pi_list (pe_fld (pv 0) rfl)) (blkOk_by (N := ["self", "who", "row", "name"]) (sc := defScope sLve) (by decide +kernel))
        (fun _ _ _ _ _ => pg_name (i := 2) scLve.nd rfl (Or.inl rfl)) (fun _ _ _ _ _ => pts_one (pt_cmpR op_ne (pe_ix (r := rIxT K) (by exact ix_tup) (pv 2) pe_int (fun _ _ => rfl)) (pv 1) (nomark _))) (fun _ _ _ _ _ => pv 2)) rfl)
      (pss_cons (ps_for PassesOwn.never rfl (pi_list (pe_callTy (call_listD rfl) (by rfl) T.list PyProof.Rows.Boot.«list» (pa_cons (pe_fld (pv 0) rfl) pa_nil))) (pg_name (i := 3) scLve.nd rfl (Or.inl rfl))
        (pss_one (ps_if (pt_cmp (pc_din (hu_of hr) (pv 1) (pe_dget (hu_of hr) (pe_fld (pv 0) rfl) (pv 3) (fun _ _ => rfl)))) (pss_one (ps_expr (pe_meth (pv 0) T.cl mD rD hr bD .nil pass0 (pa_cons (pv 1) (pa_cons (pv 3) pa_nil))))) pss_nil)))
      (pss_one (ps_ret (pe_meth0 (pv 0) T.cl mS FS hr bS .nil pass0)))), ?_⟩
    have iv1 : Inv S g.t (rmv g.q w) := iv.unwait List.filter_sublist
    have q5 : g.qs.length ≤ 5 := GOk.len (S := S) ⟨iv.wf, sok.four⟩
    refine ⟨_, rfl, c, CL, g.cx, _, _, rfl, x.ins, T.cl, T.n2, rfl, g.l, rfl, ⟨_, SqL.of x.que.lst⟩, fun D nD => ?_⟩
    refine lc_list (K := K) (a := g.l) (xs := g.qs.map fun y => V.ref y.1) (fun i H' => Same H H' ∧ H' D = some (.lst (((g.qs.take i).filter fun y => decide (y.2.1 ≠ w)).map fun y => V.ref y.1))) ⟨same_upd nD, upd_same⟩ (fun i H' hi q => SqL.of (q.1 _ _ x.que.lst)) (fun i z H' hx q => ?_) (fun H' q => ?_)
    · obtain ⟨sm, hD⟩ := q
      rw [List.getElem?_map] at hx
      obtain ⟨y, hy, rfl⟩ := Option.map_eq_some_iff.mp hx
      have ym := List.mem_of_getElem? hy
      have et : g.qs.take (i + 1) = g.qs.take i ++ [y] := by rw [List.take_add_one, hy]; rfl
      have lf : ((g.qs.take i).filter fun y => decide (y.2.1 ≠ w)).length ≤ 5 := by
        refine Nat.le_trans (List.length_filter_le _ _) ?_
        rw [List.length_take]; omega
      refine ⟨rfl, _, rfl, y.1, _, _, _, rfl, rfl, SqT.of (sm _ _ (x.que.tup y ym)), at0 _ _ _, _, rfl, rfl, _, rfl, ?_⟩
      rw [et, List.filter_append, List.map_append]
      refine ite2 (fun c1 => ?_) (fun c1 => ?_)
      · have c1 : y.2.1 ≠ w := by simpa using c1
        refine ⟨_, rfl, _, hD, by rw [List.length_map, sizeLine_eq]; omega, fun b o hb => by rw [upd_ne (ne_of_none hb nD)]; exact sm _ _ hb, ?_⟩
        rw [upd_same, List.filter_cons, if_pos (decide_eq_true c1)]; rfl
      · have c1 : y.2.1 = w := by simpa using c1
        refine ⟨sm, ?_⟩
        rw [hD, List.filter_cons_of_neg (by simp [c1])]; simp
    obtain ⟨sm, hD⟩ := q
    rw [List.length_map, List.take_length] at hD
    have x1 := x.same sm
    refine ⟨_, rfl, c, CL, g.cx, _, rfl, x1.ins, T.cl, T.n2, (by show 2 < 1000; decide), ?_⟩
    have i2 : (upd H' c (.ins CL g.cx [("holders", .ref g.a), ("queue", .ref D)])) c = some (.ins CL g.cx [("holders", .ref g.a), ("queue", .ref D)]) := upd_same
    have s2 : SameX c H' (upd H' c (.ins CL g.cx [("holders", .ref g.a), ("queue", .ref D)])) := SameX.upd
    have ncD : D ≠ c := fun e => by rw [e, x.ins] at nD; cases nD
    have hD2 := s2 _ _ ncD hD
    have x2 : LAt CL (upd H' c (.ins CL g.cx [("holders", .ref g.a), ("queue", .ref D)])) c { g with l := D, qs := g.qs.filter fun y => decide (y.2.1 ≠ w) } :=
      ⟨i2, ⟨s2 _ _ (ne_of x1.tab.top x1.ins (by intro z; cases z)) x1.tab.top, fun y hy => s2 _ _ (ne_of (x1.tab.inn y hy) x1.ins (by intro z; cases z)) (x1.tab.inn y hy), x1.tab.nd⟩, ⟨hD2, fun y hy => by
        have := x1.que.tup y (List.mem_filter.mp hy).1
        exact s2 _ _ (ne_of this x1.ins (by intro z; cases z)) this⟩⟩
    have go2 : Go c g { g with l := D, qs := g.qs.filter fun y => decide (y.2.1 ≠ w) } H (upd H' c (.ins CL g.cx [("holders", .ref g.a), ("queue", .ref D)])) := by
      refine ⟨(Fr.of sm).trans (Fr.sx s2 (by simp [own])), fun b hb => ?_⟩
      unfold own at hb ⊢
      rcases List.mem_cons.mp hb with e | h
      · rw [e]; simp
      rcases List.mem_cons.mp h with e | h
      · rw [e]; exact .inr nD
      · exact .inl (List.mem_cons_of_mem _ (List.mem_cons_of_mem _ h))
    have eq2 : ({ g with l := D, qs := g.qs.filter fun y => decide (y.2.1 ≠ w) } : LG).q = rmv g.q w := qf_filter _ _
    have et2 : ({ g with l := D, qs := g.qs.filter fun y => decide (y.2.1 ≠ w) } : LG).t = g.t := rfl
    have eh2 : ({ g with l := D, qs := g.qs.filter fun y => decide (y.2.1 ≠ w) } : LG).ho = g.ho := rfl
    generalize ({ g with l := D, qs := g.qs.filter fun y => decide (y.2.1 ≠ w) } : LG) = g2 at x2 go2 eq2 et2 eh2
    show tSeq _ _ _ _ (upd H' c (.ins CL g.cx [("holders", .ref g.a), ("queue", .ref D)]))
    generalize upd H' c (.ins CL g.cx [("holders", .ref g.a), ("queue", .ref D)]) = H2 at x2 go2 ⊢
    clear hD hD2 i2 s2 x1 sm nD ncD
    have nk : (g.ho.map (·.1)).Nodup := iv.tok.nk
    have few : g.ho.length ≤ 4 := iv.tok.few sok.four
    have ek : g.t.map (·.1) = g.ho.map (·.1) := keys_fg g.ho
    refine ⟨_, rfl, c, CL, g2.cx, _, _, rfl, x2.ins, T.cl, T.n1, rfl, g2.a, _, rfl, .inl x2.tab.top, fun L1 nL => ?_⟩
    have eL : (kvT g2.ho).map (fun kv => kV kv.1) = (g.ho.map (·.1)).map V.str := by
      rw [eh2]; unfold kvT; rw [List.map_map, List.map_map]; rfl
    rw [eL]
    have s3 : Same H2 (upd H2 L1 (.lst ((g.ho.map (·.1)).map V.str))) := same_upd nL
    have hL3 : (upd H2 L1 (.lst ((g.ho.map (·.1)).map V.str))) L1 = some (.lst ((g.ho.map (·.1)).map V.str)) := upd_same
    have x3 := x2.same s3
    have go3 := go2.then s3
    have nL3 : L1 ∉ own c g2 := x2.new_ne nL
    generalize upd H2 L1 (.lst ((g.ho.map (·.1)).map V.str)) = H3 at x3 go3 hL3 ⊢
    refine ⟨L1, rfl, ⟨_, SqL.of hL3⟩, ?_⟩
    refine for_list (K := K) (a := L1) (xs := (g.ho.map (·.1)).map V.str) (fun i σ H' => ∃ gi, Go c g gi H H' ∧ LAt CL H' c gi ∧ gi.t = lvD w ((g.ho.map (·.1)).take i) g.t ∧ gi.q = rmv g.q w ∧ H' L1 = some (.lst ((g.ho.map (·.1)).map V.str)) ∧ L1 ∉ own c gi ∧ ∃ u2 u3, σ = [some (.ref c), some (.int w), u2, u3])
      ⟨g2, go3, x3, et2, eq2, hL3, nL3, none, none, rfl⟩ (fun i σ H' hi q => ?_) (fun i z σ H' hx q => ?_) (fun σ H' q => ?_)
    · obtain ⟨gi, _, _, _, _, h, _⟩ := q
      exact SqL.of h
    · obtain ⟨gi, go, xi, et, eq', hL, nL', u2, u3, rfl⟩ := q
      rw [List.getElem?_map] at hx
      obtain ⟨n, hn, rfl⟩ := Option.map_eq_some_iff.mp hx
      have nm : n ∈ g.ho.map (·.1) := List.mem_of_getElem? hn
      have etk : (g.ho.map (·.1)).take (i + 1) = (g.ho.map (·.1)).take i ++ [n] := by rw [List.take_add_one, hn]; rfl
      have nin : n ∉ (g.ho.map (·.1)).take i := fun z => by
        have nd := (List.nodup_append.mp (by rw [← etk]; exact List.Sublist.nodup (List.take_sublist _ _) nk : ((g.ho.map (·.1)).take i ++ [n]).Nodup)).2.2
        exact nd n z n (by simp) rfl
      have ivi : Inv S gi.t gi.q := by rw [et, eq']; exact Inv.lv (rmv_not _ _) iv1
      have kin : n ∈ gi.ho.map (·.1) := by
        have : n ∈ gi.t.map (·.1) := by rw [et]; exact key_lvD nin (by rw [ek]; exact nm)
        unfold LG.t at this
        rw [keys_fg] at this; exact this
      obtain ⟨y, hy, ey⟩ := key_of kin
      have hv := val_fg ivi.tok.nk hy
      have el := lk_fg ivi.tok.nk hy
      rw [ey] at hv el
      have dg : DGet H' gi.a (.str n) (some (.ref y.2.1)) := by
        have := dGet_k (k := .inr n) (.inl xi.tab.top)
        rw [hv] at this; exact this
      have hin := xi.tab.inn y hy
      have el' : lk gi.t n = y.2.2 := el
      rw [etk, lvD_snoc, ← et]
      refine ⟨_, rfl, _, rfl, c, CL, gi.cx, _, _, rfl, xi.ins, T.cl, T.n1, rfl, _, rfl, gi.a, _, rfl, dg, y.2.1, _, rfl, dGet_k (k := .inl w) (.inl hin), _, rfl, ite2 (fun c1 => ?_) (fun c1 => ?_)⟩
      · have c1 : w ∈ whos (lk gi.t n) := by rw [el']; exact inH_iff.mp c1
        rw [if_pos c1]
        refine ⟨_, rfl, c, gi.cx, _, rfl, xi.ins, rfl, _, rfl, _, rfl, c, gi, w, n, rfl, xi, ⟨S, ivi.tok, sok.four⟩, c1, fun H4 ho' f4 t4 e4 o4 => ?_⟩
        have go4 := Go.tabs (c := c) (g := gi) f4 (fun b hb => .inl (o4 b hb))
        refine ⟨{ gi with ho := ho' }, go.trans go4, xi.tabs f4 t4, e4, eq', ?_, ?_, _, _, rfl⟩
        · exact go4.fr _ _ hL nL'
        · intro z
          rcases go4.ow _ z with k1 | k1
          · exact nL' k1
          · rw [hL] at k1; cases k1
      · have c1 : ¬ w ∈ whos (lk gi.t n) := by rw [el']; exact fun z => c1 (inH_iff.mpr z)
        rw [if_neg c1]
        exact ⟨gi, go, xi, rfl, eq', hL, nL', _, _, rfl⟩
    · obtain ⟨gi, go, xi, et, eq', hL, nL', u2, u3, rfl⟩ := q
      rw [List.length_map, List.take_length, ← ek] at et
      have ivi : Inv S gi.t gi.q := by rw [et, eq']; exact Inv.lv (rmv_not _ _) iv1
      refine ⟨_, rfl, c, gi.cx, _, rfl, xi.ins, rfl, c, gi, rfl, xi, ⟨S, sok, ivi⟩, fun H5 g5 r go5 x5 e5 e6 nr nr2 hr5 => ?_⟩
      rw [et, eq'] at e5 e6 hr5
      refine k H5 g5 r (go.trans go5) x5 e5 e6 ?_ nr2 hr5
      by_cases m : r ∈ own c g
      · exact .inr m
      · left
        cases q : H r with
        | none => rfl
        | some o => rw [go.fr r o q m] at nr; cases nr
end
end K16
namespace K16
open PySem L2 HK PySem.Spec PyProof.Rows
/-! ### sorted names -/
def leS (a b : Str) : Prop := ltCps b.cps.toList a.cps.toList = false
theorem leS_iff {a b : Str} : leS a b ↔ a.cps.toList ≤ b.cps.toList := by
  unfold leS
  rw [ltCps_eq, decide_eq_false_iff_not]
  exact List.not_lt
theorem leS_anti {a b : Str} (h : leS a b) (k : leS b a) : a = b := by
  have e := List.le_antisymm (leS_iff.mp h) (leS_iff.mp k)
  cases a; cases b
  simp only [Str.mk.injEq]
  exact Array.toList_inj.mp e
theorem leS_trans {a b c : Str} (h : leS a b) (k : leS b c) : leS a c := leS_iff.mpr (List.le_trans (leS_iff.mp h) (leS_iff.mp k))
theorem rising_pw : ∀ (l : List Str) (p : Str), PyProof.Rows.risingS p l = true → (p :: l).Pairwise leS
  | [], p, _ => by simp
  | x :: r, p, h => by
    have h : (!ltCps x.cps.toList p.cps.toList && PyProof.Rows.risingS x r) = true := h
    rw [Bool.and_eq_true] at h
    have ih := rising_pw r x h.2
    have px : leS p x := by unfold leS; simpa using h.1
    refine List.pairwise_cons.mpr ⟨fun y hy => ?_, ih⟩
    rcases List.mem_cons.mp hy with z | z
    · rw [z]; exact px
    · exact leS_trans px ((List.pairwise_cons.mp ih).1 y z)
theorem ss_unique {xs ys : List Str} (p : xs.Perm ys) (hx : PyProof.Rows.sortedS xs = true) (hy : PyProof.Rows.sortedS ys = true) : xs = ys := by
  have pw : ∀ l : List Str, PyProof.Rows.sortedS l = true → l.Pairwise leS := fun l h => match l, h with
    | [], _ => List.Pairwise.nil
    | x :: r, h => rising_pw r x h
  exact List.Perm.eq_of_pairwise (fun a b _ _ h1 h2 => leS_anti h1 h2) (pw _ hx) (pw _ hy) p
/-! ### tuples within tuples -/
mutual
inductive TD (H : Hp) : V → PyData → Prop
  | int (i : Int) : TD H (.int i) (.int i)
  | str (x : Str) : TD H (.str x) (.str x)
  | tup {a : Addr} {xs : List V} {ds : List PyData} : H a = some (.tup xs) → TDs H xs ds → TD H (.ref a) (.tuple ds)
inductive TDs (H : Hp) : List V → List PyData → Prop
  | nil : TDs H [] []
  | cons {v : V} {vs : List V} {d : PyData} {ds : List PyData} : TD H v d → TDs H vs ds → TDs H (v :: vs) (d :: ds)
end
mutual
theorem TD.keep {H H' : Hp} (kp : Keep H H') : ∀ {v : V} {d : PyData}, TD H v d → TD H' v d
  | _, _, .int i => .int i
  | _, _, .str x => .str x
  | _, _, .tup h k => .tup (kp _ _ h) (TDs.keep kp k)
theorem TDs.keep {H H' : Hp} (kp : Keep H H') : ∀ {v : List V} {d : List PyData}, TDs H v d → TDs H' v d
  | _, _, .nil => .nil
  | _, _, .cons h k => .cons (TD.keep kp h) (TDs.keep kp k)
end
mutual
theorem TD.dp {K : PySem.W.Frag} {H : Hp} : ∀ {v : V} {d : PyData}, TD H v d → Dp K H v d
  | _, _, .int i => .int i
  | _, _, .str x => .str x
  | _, _, .tup h k => .tup (SqT.of h) (TDs.dp k)
theorem TDs.dp {K : PySem.W.Frag} {H : Hp} : ∀ {v : List V} {d : List PyData}, TDs H v d → DpAll K H v d
  | _, _, .nil => .nil
  | _, _, .cons h k => .cons (TD.dp h) (TDs.dp k)
end
theorem TDs.snoc {H : Hp} {v : V} {d : PyData} (h : TD H v d) : ∀ {vs : List V} {ds : List PyData}, TDs H vs ds → TDs H (vs ++ [v]) (ds ++ [d])
  | _, _, .nil => .cons h .nil
  | _, _, .cons a b => .cons a (TDs.snoc h b)
theorem TDs.len {H : Hp} : ∀ {vs : List V} {ds : List PyData}, TDs H vs ds → vs.length = ds.length
  | _, _, .nil => rfl
  | _, _, .cons _ b => by show _ + 1 = _ + 1; rw [TDs.len b]
theorem td_rows {H : Hp} : ∀ {qs : List (Addr × Row Str)}, (∀ y ∈ qs, H y.1 = some (rowO y.2)) → TDs H (qs.map fun y => V.ref y.1) ((qf qs).map rowD)
  | [], _ => .nil
  | y :: r, h => .cons (.tup (h y (by simp)) (.cons (.int _) (.cons (.str _) (.cons (.str _) .nil)))) (td_rows fun z hz => h z (by simp [hz]))
theorem Keep.of {H H' : Hp} (s : Same H H') : Keep H H' := fun _ _ h => s _ _ h
theorem Keep.trans {H H1 H2 : Hp} (a : Keep H H1) (b : Keep H1 H2) : Keep H H2 := fun _ _ h => b _ _ (a _ _ h)
theorem Keep.lst {H : Hp} {a : Addr} {xs : List V} {o : HO} (h : H a = some (.lst xs)) : Keep H (upd H a o) := fun t ys k => by rw [upd_ne (ne_of k h (by intro z; cases z))]; exact k
def pairD (l : Hs) (w : Int) : PyData := .tuple [.int w, .str (hw ((lkI l w).getD false))]
def nmD (t : Tb Str) (n : Str) : PyData := .tuple [.str n, .tuple ((srt (whos (lk t n))).map (pairD (lk t n)))]
def shD (t : Tb Str) (ys : List Str) (q : List (Row Str)) : PyData := .tuple [.tuple (ys.map (nmD t)), .tuple (q.map rowD)]
def spShw (CL : Addr) : Sp := fun vs H Q _ => ∃ c g, vs = [.ref c] ∧ LAt CL H c g ∧ (∃ S, Sok S ∧ Wf S g.t g.q) ∧
  ∀ H' r ys, Same H H' → ys.Perm (g.t.map (·.1)) → PyProof.Rows.sortedS ys = true → TD H' (.ref r) (shD g.t ys g.q) → Q (.ref r) H'
def rTupOf (K : PySem.W.Frag) : List V → Hp → VK → Prop := fun xs H Q => ∃ p ys, xs = [V.ref p] ∧ ((SqL K H p ys ∧ ∀ (l : Addr), H l = none → Q (V.ref l) (upd H l (HO.tup ys))) ∨ SqT K H p ys ∧ Q (V.ref p) H)
def rSDI : List V → Hp → VK → Prop := fun xs H Q => ∃ (a : Addr) (kvs : List (Key × V)) (ks : List Int), xs = [.ref a] ∧ Rd H a (.dK kvs) ∧ kvs.map (·.1) = ks.map Sum.inl ∧ ks.length < 64 ∧
  ∀ (ys : List Int) (p : Addr), ys.Perm ks → ys.Pairwise (· ≤ ·) → H p = none → Q (.ref p) (upd H p (.lst (ys.map V.int)))
abbrev teIn (K : PySem.W.Frag) : TE := tLc (iList K (tCB rSDI (tCons (tDGet (tFld K (tVar 0) "holders") (tVar 2)) tNil))) (gName 3) tYes (tTup (tCons (tVar 3) (tCons (tDGet (tDGet (tFld K (tVar 0) "holders") (tVar 2)) (tVar 3)) tNil))) [3]
abbrev teOut (K : PySem.W.Frag) : TE := tTup (tCons (tVar 2) (tCons (tCB (rTupOf K) (tCons (teIn K) tNil)) tNil))
def compSc : Stmt → Scope
  | .Assign _ (.ListComp _ _ sc _) _ => { sc with names := sc.names.map fun q => if q.2 == NameKind.free then (q.1, NameKind.cell) else q }
  | _ => default
abbrev outW : Scope := compSc ((defBody sShw).getD 0 (.Pass ⟨0, 0, 0, 0⟩))
section
variable {P : Program} {w : World} {K : PySem.W.Frag} {mg : Str → Option Value} {base : Heap} {CL CE : Addr}
abbrev NW : List Str := ["self", "rows", "name", "who"]
theorem scShw : FnScope NW ["self"] (defScope sShw) := ⟨rfl, rfl, rfl, by decide +kernel, rfl, by decide +kernel, by decide +kernel⟩
theorem ok_shw {f : Addr} {fd : FuncData} (F : L2.Fun K "shown" "Locks.shown" sShw f fd) (T : LTxt K mg CL CE) : FnOk P w K mg base L2.CX0 1 f fd ["self"] (spShw CL) := by
  refine F.ok scShw (fun vs H Q E h => ?_) (fun cdv A outer s H vs Q E hr h => ?_)
  · obtain ⟨c, g, rfl, _⟩ := h
    rfl
  · obtain ⟨c, g, rfl, x, ⟨S, sok, wf⟩, k⟩ := h
    refine ⟨_, pss_cons (ps_setLc (i := 1) (own := [("name", 2)]) (g := gName 2) (te := teOut K) (by rfl) scShw.nd rfl rfl (sw_true rfl rfl rfl (by decide +kernel)) (pi_list (pe_callB (call_sortedD rfl) (by rfl) T.sorted (by decide +kernel) (pa_cons (pe_fld (pv 0) rfl) pa_nil))) (blkOk_by (N := NW) (sc := defScope sShw) (by decide +kernel))
        (fun _ _ _ _ _ => pg_name (i := 2) scShw.nd rfl (Or.inr rfl)) (fun _ _ _ _ _ => pts_nil)
        (fun _ _ _ _ _ => pe_tup (pa_cons (pv 2) (pa_cons (pe_callTy (r := rTupOf K) (by exact call_tuple_of) (by rfl) T.tup PyProof.Rows.Boot.«tuple» (pa_cons
          (pe_lc (own := [("who", 3)]) (g := gName 3) (by rfl) scShw.nd (pi_list (pe_callB (r := rSDI) (by exact call_sortedDI rfl) (by rfl) T.sorted (by decide +kernel) (pa_cons (pe_dget (by exact hu_of hr) (pe_fld (pv 0) rfl) (pv 2) (fun _ _ => rfl)) pa_nil))) (blkOk_by (N := NW) (sc := outW) (by decide +kernel))
            (fun _ _ _ _ _ => pg_name (i := 3) scShw.nd rfl (Or.inl rfl)) (fun _ _ _ _ _ => pts_nil)
            (fun _ _ _ _ _ => pe_tup (pa_cons (pv 3) (pa_cons (pe_dget (by exact hu_of hr) (pe_dget (by exact hu_of hr) (pe_fld (pv 0) rfl) (pv 2) (fun _ _ => rfl)) (pv 3) (fun _ _ => rfl)) pa_nil)))) pa_nil)) pa_nil))))
      (pss_one (ps_ret (pe_tup (pa_cons (pe_callTy call_tuple_of (by rfl) T.tup PyProof.Rows.Boot.«tuple» (pa_cons (pv 1) pa_nil)) (pa_cons (pe_callTy call_tuple_of (by rfl) T.tup PyProof.Rows.Boot.«tuple» (pa_cons (pe_fld (pv 0) rfl) pa_nil)) pa_nil))))), ?_⟩
    have few : g.ho.length ≤ 4 := wf.tok.few sok.four
    have q5 : g.qs.length ≤ 5 := GOk.len (S := S) ⟨wf, sok.four⟩
    have nk := wf.tok.nk
    have ek : g.t.map (·.1) = g.ho.map (·.1) := keys_fg g.ho
    refine ⟨_, rfl, c, CL, g.cx, _, _, rfl, x.ins, T.cl, T.n1, rfl, g.a, kvT g.ho, g.ho.map (·.1), rfl, .inl x.tab.top, ?_, by rw [List.length_map]; omega, fun ys Y pm so nY => ?_⟩
    · unfold kvT; rw [List.map_map, List.map_map]; rfl
    have s1 : Same H (upd H Y (.lst (ys.map V.str))) := same_upd nY
    have hY : (upd H Y (.lst (ys.map V.str))) Y = some (.lst (ys.map V.str)) := upd_same
    have x1 := x.same s1
    generalize upd H Y (.lst (ys.map V.str)) = H1 at s1 hY x1 ⊢
    have ly : ys.length ≤ 4 := by rw [pm.length_eq, List.length_map]; exact few
    refine ⟨Y, rfl, ⟨_, SqL.of hY⟩, fun Z nZ => ?_⟩
    refine lc_list (K := K) (a := Y) (xs := ys.map V.str) (fun i H' => Same H1 H' ∧ ∃ vs, H' Z = some (.lst vs) ∧ TDs H' vs ((ys.take i).map (nmD g.t))) ⟨same_upd nZ, [], upd_same, .nil⟩ (fun i H' hi q => SqL.of (q.1 _ _ hY)) (fun i z H' hx q => ?_) (fun H' q => ?_)
    · obtain ⟨sm, vs, hZ, td⟩ := q
      rw [List.getElem?_map] at hx
      obtain ⟨n, hn, rfl⟩ := Option.map_eq_some_iff.mp hx
      have nm : n ∈ g.ho.map (·.1) := pm.mem_iff.mp (List.mem_of_getElem? hn)
      obtain ⟨y, hy, ey⟩ := key_of nm
      have hv := val_fg nk hy
      have el := lk_fg nk hy
      rw [ey] at hv el
      have el : lk g.t n = y.2.2 := el
      have nd2 : (whos y.2.2).Nodup := by rw [← el]; exact wf.tok.nd n
      have l5 : y.2.2.length ≤ 5 := by rw [← el]; exact wf.tok.len n
      have x2 := x1.same sm
      have dg : ∀ H2, Same H1 H2 → DGet H2 g.a (.str n) (some (.ref y.2.1)) := fun H2 s2 => by
        have := dGet_k (k := .inr n) (.inl (s2 _ _ x1.tab.top))
        rw [hv] at this; exact this
      have hin : ∀ H2, Same H1 H2 → H2 y.2.1 = some (.dK (kvH y.2.2)) := fun H2 s2 => s2 _ _ (x1.tab.inn y hy)
      refine ⟨rfl, _, rfl, _, rfl, c, CL, g.cx, _, _, rfl, x2.ins, T.cl, T.n1, rfl, _, rfl, g.a, _, rfl, dg _ sm, y.2.1, kvH y.2.2, whos y.2.2, rfl, .inl (hin _ sm), ?_, by unfold whos; rw [List.length_map]; omega, fun ws W pw sw nW => ?_⟩
      · unfold kvH whos; rw [List.map_map, List.map_map]; rfl
      have ew := srt_of pw sw
      subst ew
      have s3 : Same H' (upd H' W (.lst ((srt (whos y.2.2)).map V.int))) := same_upd nW
      have hW : (upd H' W (.lst ((srt (whos y.2.2)).map V.int))) W = some (.lst ((srt (whos y.2.2)).map V.int)) := upd_same
      have hZ3 := s3 _ _ hZ
      have td3 := td.keep (Keep.of s3)
      have sm3 := sm.trans s3
      generalize upd H' W (.lst ((srt (whos y.2.2)).map V.int)) = H3 at hW hZ3 td3 sm3 ⊢
      have lw : (srt (whos y.2.2)).length ≤ 5 := by rw [srt_len]; unfold whos; rw [List.length_map]; exact l5
      refine ⟨W, rfl, ⟨_, SqL.of hW⟩, fun Z2 nZ2 => ?_⟩
      refine lc_list (K := K) (a := W) (xs := (srt (whos y.2.2)).map V.int) (fun j H4 => Same H3 H4 ∧ ∃ us, H4 Z2 = some (.lst us) ∧ TDs H4 us (((srt (whos y.2.2)).take j).map (pairD y.2.2))) ⟨same_upd nZ2, [], upd_same, .nil⟩ (fun j H4 hj q => SqL.of (q.1 _ _ hW)) (fun j z H4 hx q => ?_) (fun H4 q => ?_)
      · obtain ⟨sm4, us, hZ4, td4⟩ := q
        rw [List.getElem?_map] at hx
        obtain ⟨wv, hwv, rfl⟩ := Option.map_eq_some_iff.mp hx
        have wm : wv ∈ whos y.2.2 := mem_srt.mp (List.mem_of_getElem? hwv)
        obtain ⟨b, hb⟩ : ∃ b, lkI y.2.2 wv = some b := by
          cases e : lkI y.2.2 wv with
          | none => exact absurd wm (lkI_none.mp e)
          | some b => exact ⟨b, rfl⟩
        have sm14 := sm3.trans sm4
        have x4 := x1.same sm14
        have dg2 : DGet H4 y.2.1 (.int wv) (some (.str (hw b))) := by
          have := dGet_k (k := .inl wv) (.inl (hin _ sm14))
          rw [valV_kvH, hb] at this; exact this
        refine ⟨rfl, _, rfl, _, rfl, c, CL, g.cx, _, _, rfl, x4.ins, T.cl, T.n1, rfl, _, rfl, g.a, _, rfl, dg _ sm14, _, rfl, y.2.1, _, rfl, dg2, by show 2 ≤ sizeLine; decide, fun T2 nT => ?_⟩
        have s5 : Same H4 (upd H4 T2 (.tup [.int wv, .str (hw b)])) := same_upd nT
        have hT : (upd H4 T2 (.tup [.int wv, .str (hw b)])) T2 = some (.tup [.int wv, .str (hw b)]) := upd_same
        have hZ5 := s5 _ _ hZ4
        have td5 := td4.keep (Keep.of s5)
        generalize upd H4 T2 (.tup [.int wv, .str (hw b)]) = H5 at s5 hT hZ5 td5 ⊢
        have et : (srt (whos y.2.2)).take (j + 1) = (srt (whos y.2.2)).take j ++ [wv] := by rw [List.take_add_one, hwv]; rfl
        have lus := td5.len
        rw [List.length_map, List.length_take] at lus
        refine ⟨_, hZ5, by rw [sizeLine_eq]; omega, fun a o h => ?_, us ++ [.ref T2], upd_same, ?_⟩
        · rw [upd_ne (ne_of_none h nZ2)]; exact s5 _ _ (sm4 _ _ h)
        · rw [et, List.map_append]
          refine TDs.snoc ?_ (td5.keep (Keep.lst hZ5))
          have hT' : (upd H5 Z2 (.lst (us ++ [.ref T2]))) T2 = some (.tup [.int wv, .str (hw b)]) := Keep.lst hZ5 _ _ hT
          show TD _ _ (.tuple [.int wv, .str (hw ((lkI y.2.2 wv).getD false))])
          rw [hb]
          exact .tup hT' (.cons (.int _) (.cons (.str _) .nil))
      · obtain ⟨sm4, us, hZ4, td4⟩ := q
        rw [List.length_map, List.take_length] at td4
        have hZ0 := sm4 _ _ hZ3
        have td0 := td3.keep (Keep.of sm4)
        have sm14 := sm3.trans sm4
        refine ⟨Z2, us, rfl, .inl ⟨SqL.of hZ4, fun T3 nT3 => ?_⟩⟩
        have s5 : Same H4 (upd H4 T3 (.tup us)) := same_upd nT3
        have hT3 : (upd H4 T3 (.tup us)) T3 = some (.tup us) := upd_same
        have hZ5 := s5 _ _ hZ0
        have td5 := td0.keep (Keep.of s5)
        have tu5 := td4.keep (Keep.of s5)
        have sm5 := sm14.trans s5
        generalize upd H4 T3 (.tup us) = H5 at s5 hT3 hZ5 td5 tu5 sm5 ⊢
        refine ⟨by show 2 ≤ sizeLine; decide, fun T4 nT4 => ?_⟩
        have s6 : Same H5 (upd H5 T4 (.tup [.str n, .ref T3])) := same_upd nT4
        have hT4 : (upd H5 T4 (.tup [.str n, .ref T3])) T4 = some (.tup [.str n, .ref T3]) := upd_same
        have hZ6 := s6 _ _ hZ5
        have td6 := td5.keep (Keep.of s6)
        have tu6 := tu5.keep (Keep.of s6)
        have hT36 := s6 _ _ hT3
        have sm6 := sm5.trans s6
        generalize upd H5 T4 (.tup [.str n, .ref T3]) = H6 at hT4 hZ6 td6 tu6 hT36 sm6 ⊢
        have et : ys.take (i + 1) = ys.take i ++ [n] := by rw [List.take_add_one, hn]; rfl
        have lvs := td6.len
        rw [List.length_map, List.length_take] at lvs
        refine ⟨_, hZ6, by rw [sizeLine_eq]; omega, fun a o h => ?_, vs ++ [.ref T4], upd_same, ?_⟩
        · rw [upd_ne (ne_of_none h nZ)]; exact sm6 _ _ h
        · rw [et, List.map_append]
          have kp := Keep.lst (o := .lst (vs ++ [.ref T4])) hZ6
          refine TDs.snoc ?_ (td6.keep kp)
          show TD _ _ (.tuple [.str n, .tuple ((srt (whos (lk g.t n))).map (pairD (lk g.t n)))])
          rw [el]
          exact .tup (kp _ _ hT4) (.cons (.str _) (.cons (.tup (kp _ _ hT36) (tu6.keep kp)) .nil))
    · obtain ⟨sm, vs, hZ, td⟩ := q
      rw [List.length_map, List.take_length] at td
      have sH : Same H H' := s1.trans sm
      refine ⟨_, rfl, Z, vs, rfl, .inl ⟨SqL.of hZ, fun T5 nT5 => ?_⟩⟩
      have s2 : Same H' (upd H' T5 (.tup vs)) := same_upd nT5
      have h5 : (upd H' T5 (.tup vs)) T5 = some (.tup vs) := upd_same
      have td2 := td.keep (Keep.of s2)
      have sH2 := sH.trans s2
      generalize upd H' T5 (.tup vs) = H2 at h5 td2 sH2 ⊢
      have x2 := x.same sH2
      refine ⟨_, rfl, c, CL, g.cx, _, _, rfl, x2.ins, T.cl, T.n2, rfl, g.l, _, rfl, .inl ⟨SqL.of x2.que.lst, fun T6 nT6 => ?_⟩⟩
      have s3 : Same H2 (upd H2 T6 (.tup (g.qs.map fun y => V.ref y.1))) := same_upd nT6
      have h6 : (upd H2 T6 (.tup (g.qs.map fun y => V.ref y.1))) T6 = some (.tup (g.qs.map fun y => V.ref y.1)) := upd_same
      have td3 := td2.keep (Keep.of s3)
      have tq3 := (td_rows x2.que.tup).keep (Keep.of s3)
      have h53 := s3 _ _ h5
      have sH3 := sH2.trans s3
      generalize upd H2 T6 (.tup (g.qs.map fun y => V.ref y.1)) = H3 at h6 td3 tq3 h53 sH3 ⊢
      refine ⟨by show 2 ≤ sizeLine; decide, fun T7 nT7 => ?_⟩
      have s4 : Same H3 (upd H3 T7 (.tup [.ref T5, .ref T6])) := same_upd nT7
      have kp := Keep.of s4
      refine k _ T7 ys (sH3.trans s4) (by rw [ek]; exact pm) so ?_
      exact .tup upd_same (.cons (.tup (kp _ _ h53) (td3.keep kp)) (.cons (.tup (kp _ _ h6) (tq3.keep kp)) .nil))
end
end K16
namespace K16
open PySem L2 HK
abbrev sTold : Stmt := top 11
abbrev sBkd : Stmt := top 12
abbrev sWai : Stmt := top 13
abbrev sRin : Stmt := top 14
abbrev sTke : Stmt := top 15
abbrev sSer : Stmt := top 16
abbrev sDro : Stmt := top 17
abbrev sLaw : Stmt := top 18
/-! ### the law's own table and queue -/
structure SAt (H : Hp) (c : Addr) (g : LG) : Prop where
  top : H c = some (.dK [(.inr "held", .ref g.a), (.inr "queue", .ref g.l)])
  tab : TAt H g.a g.ho
  que : QAt H g.l g.qs
  nca : c ∉ g.a :: adr g.ho
theorem SAt.same {H H' : Hp} {c : Addr} {g : LG} (x : SAt H c g) (s : Same H H') : SAt H' c g := ⟨s _ _ x.top, x.tab.same s, x.que.same s, x.nca⟩
theorem SAt.there {H : Hp} {c : Addr} {g : LG} (x : SAt H c g) {b : Addr} (h : b ∈ own c g) : ∃ o, H b = some o ∧ ∀ xs, o ≠ .tup xs := by
  unfold own at h
  rcases List.mem_cons.mp h with e | h
  · rw [e]; exact ⟨_, x.top, fun _ z => by cases z⟩
  rcases List.mem_cons.mp h with e | h
  · rw [e]; exact ⟨_, x.que.lst, fun _ z => by cases z⟩
  rcases List.mem_cons.mp h with e | h
  · rw [e]; exact ⟨_, x.tab.top, fun _ z => by cases z⟩
  obtain ⟨y, hy, e⟩ := List.mem_map.mp h
  rw [← e]; exact ⟨_, x.tab.inn y hy, fun _ z => by cases z⟩
theorem SAt.new_ne {H : Hp} {c : Addr} {g : LG} (x : SAt H c g) {b : Addr} (h : H b = none) : b ∉ own c g := fun z => by
  obtain ⟨o, ho, _⟩ := x.there z
  rw [ho] at h; cases h
theorem Go.keepS {c : Addr} {g g' : LG} {H H' : Hp} (a : Go c g g' H H') (x : SAt H c g) : Keep H H' := fun t xs h => a.fr t _ h fun z => by
  obtain ⟨o, ho, n⟩ := x.there z
  rw [h] at ho
  exact n xs (Option.some.inj ho).symm
theorem SAt.tabs {H H' : Hp} {c : Addr} {g : LG} (x : SAt H c g) {ho' : Ho} (f : Fr (g.a :: adr g.ho) H H') (t : TAt H' g.a ho') (o : ∀ b ∈ adr ho', b ∈ adr g.ho ∨ H b = none) : SAt H' c { g with ho := ho' } := by
  have dk : ∀ b ∈ g.a :: adr g.ho, ∃ k, H b = some (.dK k) := fun b hb => by
    rcases List.mem_cons.mp hb with e | h
    · rw [e]; exact ⟨_, x.tab.top⟩
    · obtain ⟨y, hy, e⟩ := List.mem_map.mp h
      rw [← e]; exact ⟨_, x.tab.inn y hy⟩
  have st : ∀ b o, H b = some o → (∀ k, o ≠ .dK k) → H' b = some o := fun b o h n => f b o h fun z => by
    obtain ⟨k, hk⟩ := dk b z
    rw [h] at hk
    exact n k (Option.some.inj hk)
  refine ⟨f _ _ x.top x.nca, t, ⟨st _ _ x.que.lst (fun k z => by cases z), fun y hy => st _ _ (x.que.tup y hy) (fun k z => by cases z)⟩, fun z => ?_⟩
  rcases List.mem_cons.mp z with e | h
  · exact x.nca (by rw [e]; simp)
  · rcases o c h with k | k
    · exact x.nca (List.mem_cons_of_mem _ k)
    · rw [x.top] at k; cases k
theorem SAt.queue {H H' : Hp} {c : Addr} {g : LG} (x : SAt H c g) {qs' : List (Addr × Row Str)} (s : SameX g.l H H') (h : H' g.l = some (.lst (qs'.map fun y => V.ref y.1))) (ht : ∀ y ∈ qs', H' y.1 = some (rowO y.2)) : SAt H' c { g with qs := qs' } := by
  have ne : ∀ b o, H b = some o → (∀ k, o ≠ .lst k) → b ≠ g.l := fun b o hb n e => by
    rw [e, x.que.lst] at hb
    exact n _ (Option.some.inj hb).symm
  exact ⟨s _ _ (ne _ _ x.top (fun k z => by cases z)) x.top, ⟨s _ _ (ne _ _ x.tab.top (fun k z => by cases z)) x.tab.top, fun y hy => s _ _ (ne _ _ (x.tab.inn y hy) (fun k z => by cases z)) (x.tab.inn y hy), x.tab.nd⟩, ⟨h, ht⟩, x.nca⟩
theorem SAt.held {H : Hp} {c : Addr} {g : LG} (x : SAt H c g) : DGet H c (.str "held") (some (.ref g.a)) := by
  have := dGet_k (k := .inr "held") (.inl x.top)
  rw [valV_pos rfl] at this; exact this
theorem SAt.queueG {H : Hp} {c : Addr} {g : LG} (x : SAt H c g) : DGet H c (.str "queue") (some (.ref g.l)) := by
  have := dGet_k (k := .inr "queue") (.inl x.top)
  rw [valV_neg (show ¬ ((.inr "held" : Key)) = .inr "queue" by decide +kernel), valV_pos rfl] at this; exact this
/-! ### numbers once each -/
def dd (acc : List Int) (l : List Int) : List Int := l.foldl (fun a x => if x ∈ a then a else a ++ [x]) acc
theorem dd_mem {x : Int} : ∀ {l acc : List Int}, x ∈ dd acc l ↔ x ∈ acc ∨ x ∈ l
  | [], acc => by simp [dd]
  | y :: l, acc => by
    show x ∈ dd (if y ∈ acc then acc else acc ++ [y]) l ↔ _
    rw [dd_mem]
    by_cases c : y ∈ acc
    · rw [if_pos c]
      constructor
      · rintro (h | h)
        · exact .inl h
        · exact .inr (List.mem_cons_of_mem _ h)
      · rintro (h | h)
        · exact .inl h
        · rcases List.mem_cons.mp h with z | z
          · exact .inl (by rw [z]; exact c)
          · exact .inr z
    · rw [if_neg c, List.mem_append, List.mem_singleton, List.mem_cons]
      constructor
      · rintro ((h | h) | h)
        · exact .inl h
        · exact .inr (.inl h)
        · exact .inr (.inr h)
      · rintro (h | h | h)
        · exact .inl (.inl h)
        · exact .inl (.inr h)
        · exact .inr h
theorem dd_nd : ∀ {l acc : List Int}, acc.Nodup → (dd acc l).Nodup
  | [], _, h => h
  | y :: l, acc, h => by
    show (dd (if y ∈ acc then acc else acc ++ [y]) l).Nodup
    by_cases c : y ∈ acc
    · rw [if_pos c]; exact dd_nd h
    · rw [if_neg c]
      exact dd_nd (List.nodup_append.mpr ⟨h, by simp, fun x hx z hz e => c (by rw [← List.mem_singleton.mp hz, ← e]; exact hx)⟩)
theorem dd_len : ∀ {l acc : List Int}, (dd acc l).length ≤ acc.length + l.length
  | [], _ => Nat.le_refl _
  | y :: l, acc => by
    show (dd (if y ∈ acc then acc else acc ++ [y]) l).length ≤ acc.length + (l.length + 1)
    by_cases c : y ∈ acc
    · rw [if_pos c]
      have := dd_len (l := l) (acc := acc)
      omega
    · rw [if_neg c]
      have := dd_len (l := l) (acc := acc ++ [y])
      rw [List.length_append] at this
      have this : (dd (acc ++ [y]) l).length ≤ acc.length + 1 + l.length := this
      omega
theorem merge_keys (v : V) : ∀ (l : List Int) (acc : KVs) (as : List Int), keys acc = as.map Sum.inl → keys (mergeK acc (l.map fun x => (Sum.inl x, v))) = (dd as l).map Sum.inl
  | [], acc, as, h => h
  | y :: l, acc, as, h => by
    show keys (mergeK (putK acc (.inl y) v) (l.map fun x => (Sum.inl x, v))) = (dd (if y ∈ as then as else as ++ [y]) l).map Sum.inl
    refine merge_keys v l _ _ ?_
    have mem : (acc.any fun q => decide (q.1 = .inl y)) = true ↔ y ∈ as := by
      rw [List.any_eq_true]
      constructor
      · rintro ⟨q, hq, e⟩
        have e := of_decide_eq_true e
        have : (Sum.inl y : Key) ∈ keys acc := by rw [← e]; exact List.mem_map_of_mem hq
        rw [h] at this
        obtain ⟨z, hz, e2⟩ := List.mem_map.mp this
        injection e2 with e2
        rw [← e2]; exact hz
      · intro hy
        have : (Sum.inl y : Key) ∈ keys acc := by rw [h]; exact List.mem_map_of_mem hy
        obtain ⟨q, hq, e⟩ := List.mem_map.mp this
        exact ⟨q, hq, decide_eq_true e⟩
    by_cases c : y ∈ as
    · rw [if_pos c, ← h]
      unfold putK
      rw [if_pos (mem.mpr c)]
      unfold keys
      rw [List.map_map]
      refine List.map_congr_left fun q _ => ?_
      show (if q.1 = Sum.inl y then (q.1, v) else q).1 = q.1
      split <;> rfl
    · rw [if_neg c]
      unfold putK
      rw [if_neg (fun z => c (mem.mp z))]
      unfold keys at h ⊢
      rw [List.map_append, h, List.map_append]; rfl
end K16
namespace K16
open PySem L2 HK
/-- what the law's part wants besides -/
structure LTx2 (mg : Str → Option Value) : Prop where
  enum : mg "enumerate" = none
  sorted : mg "sorted" = none
  dict : mg "dict" = none
  list : mg "list" = none
  len : mg "len" = none
  range : mg "range" = none
  tup : mg "tuple" = none
theorem ahd_take (q : List (Row Str)) (w : Int) (n : Str) : ahd q w n = ((q.takeWhile fun r => decide (r.1 ≠ w)).filter fun r => decide (r.2.1 = n)).map (·.1) := by
  induction q with
  | nil => rfl
  | cons r q ih =>
    show (if r.1 = w then [] else if r.2.1 = n then r.1 :: ahd q w n else ahd q w n) = _
    by_cases e : r.1 = w
    · rw [if_pos e, List.takeWhile_cons_of_neg (by simp [e])]; rfl
    · rw [if_neg e, List.takeWhile_cons_of_pos (by simp [e]), ih, List.filter_cons]
      by_cases e2 : r.2.1 = n
      · rw [if_pos e2, if_pos (by simp [e2])]; rfl
      · rw [if_neg e2, if_neg (by simp [e2])]
theorem cut_nat (xs : List V) (j : Nat) : cutV xs none (some ((j : Nat) : Int)) = xs.take j := by
  unfold cutV
  show (xs.drop 0).take (HT.sIx xs.length xs.length (some ((j : Nat) : Int)) - 0) = _
  rw [HT.sIx_nat, List.drop_zero, Nat.sub_zero]
  rcases Nat.le_total j xs.length with h | h
  · rw [Nat.min_eq_left h]
  · rw [Nat.min_eq_right h, List.take_length, List.take_of_length_le h]
def mineF (w : Int) : Nat → List (Row Str) → List Nat
  | _, [] => []
  | k, r :: q => if r.1 = w then k :: mineF w (k + 1) q else mineF w (k + 1) q
theorem mineF_snoc (w : Int) (r : Row Str) : ∀ (q : List (Row Str)) (k : Nat), mineF w k (q ++ [r]) = mineF w k q ++ if r.1 = w then [k + q.length] else []
  | [], k => by
    show (if r.1 = w then [k] else []) = [] ++ if r.1 = w then [k + 0] else []
    rfl
  | s :: q, k => by
    show (if s.1 = w then k :: mineF w (k + 1) (q ++ [r]) else mineF w (k + 1) (q ++ [r])) = (if s.1 = w then k :: mineF w (k + 1) q else mineF w (k + 1) q) ++ _
    rw [mineF_snoc w r q (k + 1), show k + 1 + q.length = k + (s :: q).length from by rw [List.length_cons]; omega]
    split <;> rfl
theorem mineF_len (w : Int) : ∀ (q : List (Row Str)) (k : Nat), (mineF w k q).length ≤ q.length
  | [], _ => Nat.le_refl _
  | s :: q, k => by
    have := mineF_len w q (k + 1)
    show (if s.1 = w then k :: mineF w (k + 1) q else mineF w (k + 1) q).length ≤ q.length + 1
    split
    · show _ + 1 ≤ _ + 1; omega
    · omega
theorem mineF_nil {w : Int} : ∀ {q : List (Row Str)} {k : Nat}, mineF w k q = [] → q.takeWhile (fun r => decide (r.1 ≠ w)) = q
  | [], _, _ => rfl
  | s :: q, k, h => by
    unfold mineF at h
    by_cases e : s.1 = w
    · rw [if_pos e] at h; cases h
    · rw [if_neg e] at h
      rw [List.takeWhile_cons_of_pos (by simp [e]), mineF_nil h]
theorem mineF_cons {w : Int} {j : Nat} {js : List Nat} : ∀ {q : List (Row Str)} {k : Nat}, mineF w k q = j :: js → k ≤ j ∧ q.takeWhile (fun r => decide (r.1 ≠ w)) = q.take (j - k)
  | s :: q, k, h => by
    unfold mineF at h
    by_cases e : s.1 = w
    · rw [if_pos e] at h
      have : k = j := by injection h
      rw [List.takeWhile_cons_of_neg (by simp [e]), this, Nat.sub_self]
      exact ⟨Nat.le_refl _, rfl⟩
    · rw [if_neg e] at h
      obtain ⟨h1, h2⟩ := mineF_cons h
      refine ⟨by omega, ?_⟩
      rw [List.takeWhile_cons_of_pos (by simp [e]), h2, show j - k = (j - (k + 1)) + 1 from by omega, List.take_succ_cons]
theorem raw_dd {S : List Str} {t : Tb Str} {q : List (Row Str)} (wf : Wf S t q) {w : Int} {n : Str} {al : Bool} {fs : List Int} (h : ∀ x, x ∈ fs ↔ x ∈ raw t q w n al) : (dd [] fs).Perm (raw t q w n al) :=
  (List.perm_ext_iff_of_nodup (dd_nd List.nodup_nil) (raw_nd wf.tok wf.ndq w n al)).mpr fun x => by rw [dd_mem, h]; simp
theorem paired_of {α β : Type} {R : α → β → Prop} : ∀ {ps : List α} {ks : List β}, ps.length = ks.length → (∀ (m : Nat) p k, ps[m]? = some p → ks[m]? = some k → R p k) → Paired R ps ks
  | [], [], _, _ => .nil
  | [], _ :: _, h, _ => by cases h
  | _ :: _, [], h, _ => by cases h
  | p :: ps, k :: ks, h, f => .cons (f 0 p k rfl rfl) (paired_of (by simpa using h) fun m p' k' hp hk => f (m + 1) p' k' hp hk)
def spBkd : Sp := fun vs H Q _ => ∃ c g w n al, vs = [.ref c, .int w, .str n, .str (hw al)] ∧ SAt H c g ∧ (∃ S, Wf S g.t g.q) ∧ ∀ H' r, Same H H' → H r = none → H' r = some (.lst ((srt (raw g.t g.q w n al)).map V.int)) → Q (.ref r) H'
section
variable {P : Program} {w : World} {K : PySem.W.Frag} {mg : Str → Option Value} {base : Heap}
abbrev NB : List Str := ["state", "who", "name", "how", "held", "queue", "found", "mine", "ahead", "one", "k", "row"]
theorem scBkd : FnScope NB ["state", "who", "name", "how"] (defScope sBkd) := ⟨rfl, rfl, rfl, by decide +kernel, rfl, by decide +kernel, by decide +kernel⟩
theorem ok_bkd {f : Addr} {fd : FuncData} (F : L2.Fun K "_law_blocked" "_law_blocked" sBkd f fd) (T : LTx2 mg) : FnOk P w K mg base L2.CX0 1 f fd ["state", "who", "name", "how"] spBkd := by
  refine F.ok scBkd (fun vs H Q E h => ?_) (fun cdv A outer s H vs Q E hr h => ?_)
  · obtain ⟨c, g, w, n, al, rfl, _⟩ := h
    rfl
  · obtain ⟨c, g, w, n, al, rfl, x, ⟨S, wf⟩, k⟩ := h
    refine ⟨_, pss_cons (ps_asg (pe_tup (pa_cons (pe_dget2 (hu_of hr) (pe_dget (hu_of hr) (pv 0) pe_str (fun _ _ => rfl)) (pv 2) pe_dnewK ⟨rfl, rfl, rfl, rfl⟩) (pa_cons (pe_dget (hu_of hr) (pv 0) pe_str (fun _ _ => rfl)) pa_nil))) (pg_tup rfl (pgs_cons (pg_name (i := 4) scBkd.nd rfl (Or.inr rfl)) (pgs_cons (pg_name (i := 5) scBkd.nd rfl (Or.inl rfl)) pgs_nil))))
      (pss_cons (ps_lock (ps_setLc (i := 6) (own := [("one", 9)]) (g := gName 9) (te := tVar 9) (by rfl) scBkd.nd rfl rfl (sw_true rfl rfl rfl (by decide +kernel)) (pi_keys (pv 4)) (blkOk_by (N := NB) (sc := defScope sBkd) (by decide +kernel))
        (fun _ _ _ _ _ => pg_name (i := 9) scBkd.nd rfl (Or.inl rfl))
        (fun _ _ _ _ _ => pts_one (PW.pt (pw_and (pt_cmpR op_ne (pv 9) (pv 1) (nomark _)) (pw_and1 (pt_cmpR (r := rIn K false) (by exact op_in_seq) pe_str (pe_lst (pa_cons (pv 3) (pa_cons (pe_dget (by exact hu_of hr) (pv 4) (pv 9) (fun _ _ => rfl)) pa_nil))) rfl)))))
        (fun _ _ _ _ _ => pv 9)))
      (pss_cons (ps_if (pt_cmp (pc_dnotin (hu_of hr) (pv 1) (pv 4)))
        (pss_cons (ps_setLc (i := 7) (own := [("k", 10), ("row", 11)]) (g := gTup K 2 (gCons (gName 10) (gCons (gName 11) gNil))) (te := tVar 10) (by rfl) scBkd.nd rfl rfl (sw_true rfl rfl rfl (by decide +kernel)) (pi_enum (by rfl) T.enum (pa_cons (pv 5) pa_nil)) (blkOk_by (N := NB) (sc := defScope sBkd) (by decide +kernel))
          (fun _ _ _ _ _ => pg_tup rfl (pgs_cons (pg_name (i := 10) scBkd.nd rfl (Or.inl rfl)) (pgs_cons (pg_name (i := 11) scBkd.nd rfl (Or.inl rfl)) pgs_nil)))
          (fun _ _ _ _ _ => pts_one (pt_cmpR op_eq (pe_ix (r := rIxT K) (by exact ix_tup) (pv 11) pe_int (fun _ _ => rfl)) (pv 1) (nomark _))) (fun _ _ _ _ _ => pv 10))
        (pss_cons (ps_set (i := 8) scBkd.nd rfl (Or.inl rfl) (pe_ifExp (pt_cmpR (op_neD hr.units) (pv 7) (pe_lst pa_nil) (nomark _)) (pe_slice sl_list (pv 5) po_none (po_some (pe_ix ix_list (pv 7) pe_int (fun _ _ => rfl)))) (pv 5)))
        (pss_one (ps_set (i := 6) scBkd.nd rfl (Or.inl rfl) (pe_op op_cat (pv 6) (pe_lc (own := [("row", 11)]) (g := gName 11) (by rfl) scBkd.nd (pi_list (pv 8)) (blkOk_by (N := NB) (sc := defScope sBkd) (by decide +kernel))
          (fun _ _ _ _ _ => pg_name (i := 11) scBkd.nd rfl (Or.inl rfl)) (fun _ _ _ _ _ => pts_one (pt_cmpR op_eq (pe_ix (r := rIxT K) (by exact ix_tup) (pv 11) pe_int (fun _ _ => rfl)) (pv 2) (nomark _))) (fun _ _ _ _ _ => pe_ix (r := rIxT K) (by exact ix_tup) (pv 11) pe_int (fun _ _ => rfl)))))))) pss_nil)
      (pss_one (ps_ret (pe_callB (call_sortedDI rfl) (by rfl) T.sorted (by decide +kernel) (pa_cons (pe_callTy (call_dictP rfl) (by rfl) T.dict PyProof.Rows.Boot.«dict» (pa_cons
        (pe_lc (own := [("one", 9)]) (g := gName 9) (by rfl) scBkd.nd (pi_list (pv 6)) (blkOk_by (N := NB) (sc := defScope sBkd) (by decide +kernel)) (fun _ _ _ _ _ => pg_name (i := 9) scBkd.nd rfl (Or.inl rfl)) (fun _ _ _ _ _ => pts_nil) (fun _ _ _ _ _ => pe_tup (pa_cons (pv 9) (pa_cons pe_int pa_nil)))) pa_nil)) pa_nil)))))), ?_⟩
    have len := wf.tok.len n
    have ndw := wf.tok.nd n
    have lq : g.q.length = g.qs.length := by unfold LG.q qf; rw [List.length_map]
    have q5 : g.qs.length ≤ 5 := by
      have := nd_range5 5 (wq g.q) wf.ndq (fun m hm => by
        obtain ⟨r, hr, e⟩ := List.mem_map.mp hm
        have := (wf.rq r hr).1
        rw [← e]
        exact ⟨this.1, by have := this.2; omega⟩)
      unfold wq at this
      rw [List.length_map] at this
      omega
    refine ⟨_, rfl, c, _, rfl, x.held, g.a, rfl, .inl ⟨_, .inl x.tab.top⟩, _, rfl, fun nd hnd => ?_⟩
    obtain ⟨b, eb, hb⟩ := get_hs x.tab n hnd
    have s1 : Same H (upd H nd (.dK [])) := same_upd hnd
    have x1 := x.same s1
    refine ⟨_, dGet_k (k := .inr n) (.inl x1.tab.top), ?_⟩
    rw [eb]
    generalize upd H nd (.dK []) = H1 at hb s1 x1 ⊢
    clear eb hnd
    refine ⟨_, rfl, c, _, rfl, x1.queueG, by show 2 ≤ sizeLine; decide, fun T2 nT => ?_⟩
    have s2 := s1.trans (same_upd (o := .tup [.ref b, .ref g.l]) nT)
    have hb2 := same_upd (o := .tup [.ref b, .ref g.l]) nT _ _ hb
    refine ⟨T2, _, rfl, SqT.of upd_same, rfl, _, _, rfl, _, _, rfl, rfl, ?_⟩
    have x2 := x.same s2
    generalize upd H1 T2 (.tup [.ref b, .ref g.l]) = H2 at hb2 s2 x2 ⊢
    clear hb s1 x1 nT
    -- against
    refine ⟨b, _, hb2, trivial, fun od => ?_⟩
    have s3 : SameX b H2 (upd H2 b (.frz od (.dK (kvH (lk (fg g.ho) n))))) := SameX.upd
    have hf : (upd H2 b (.frz od (.dK (kvH (lk (fg g.ho) n))))) b = some (.frz od (.dK (kvH (lk (fg g.ho) n)))) := upd_same
    generalize upd H2 b (.frz od (.dK (kvH (lk (fg g.ho) n)))) = H3 at s3 hf ⊢
    refine ⟨_, rfl, b, od, rfl, .inl ⟨_, hf, fun Z nZ => ?_⟩⟩
    have nZb : Z ≠ b := fun e => by rw [e, hf] at nZ; cases nZ
    refine lc_it walk_keys (fun i H' => Same H3 H' ∧ H' Z = some (.lst ((agst ((lk (fg g.ho) n).take i) w al).map V.int))) ⟨same_upd nZ, upd_same⟩ (fun i H' hi q => q.1 _ _ hf) (fun i z H' H'' hi q yy => ?_) (fun H' q => ?_)
    · obtain ⟨sm, hZ⟩ := q
      obtain ⟨rfl, kk, vv, hkv, rfl⟩ := yy
      unfold kvH at hkv
      rw [List.getElem?_map] at hkv
      obtain ⟨y, hy, ey⟩ := Option.map_eq_some_iff.mp hkv
      injection ey with e1 e2
      subst e1 e2
      have et : (lk (fg g.ho) n).take (i + 1) = (lk (fg g.ho) n).take i ++ [y] := by rw [List.take_add_one, hy]; rfl
      have eg : agst ((lk (fg g.ho) n).take (i + 1)) w al = agst ((lk (fg g.ho) n).take i) w al ++ (if decide (y.1 ≠ w) && (al || y.2) then [y.1] else []) := by
        rw [et]; unfold agst whos; rw [List.filter_append, List.map_append, List.filter_cons]
        split <;> rfl
      have la : (agst ((lk (fg g.ho) n).take i) w al).length ≤ 5 := by
        unfold agst whos
        rw [List.length_map]
        refine Nat.le_trans (List.length_filter_le _ _) ?_
        rw [List.length_take]
        unfold LG.t at len
        omega
      refine ⟨rfl, _, rfl, _, rfl, rfl, _, rfl, ite2 (fun c1 => ?_) (fun c1 => ?_)⟩
      · have ym : y ∈ lk g.t n := List.mem_of_getElem? hy
        have hv : valV (kvH (lk (fg g.ho) n)) (.inl y.1) = some (.str (hw y.2)) := by
          rw [valV_kvH]
          show (lkI (lk g.t n) y.1).map _ = _
          rw [lkI_of ndw (by exact ym)]; rfl
        have dg : DGet H'' b (.int y.1) (some (.str (hw y.2))) := by
          have := dGet_k (H := H'') (a := b) (kvs := kvH (lk (fg g.ho) n)) (k := .inl y.1) (.inr ⟨od, sm _ _ hf⟩)
          rw [hv] at this
          exact this
        refine ⟨_, rfl, _, rfl, _, rfl, b, _, rfl, dg, by show 2 ≤ sizeLine; decide, fun T3 nT => ?_⟩
        have s4 : Same H'' (upd H'' T3 (.lst [.str (hw al), .str (hw y.2)])) := same_upd nT
        refine ⟨T3, _, rfl, .inl (SqL.of upd_same), rfl, rfl, _, rfl, ?_⟩
        have c2 : decide (y.1 ≠ w) = true := by
          refine decide_eq_true fun z => ?_
          have c1 : ¬ kV (Sum.inl y.1) = V.int w := by simpa using c1
          exact c1 (by rw [z]; rfl)
        rw [c2, Bool.true_and] at eg
        generalize upd H'' T3 (.lst [.str (hw al), .str (hw y.2)]) = H4 at s4 ⊢
        rw [show (if false = true then !inV (V.str "alone") [V.str (hw al), V.str (hw y.2)] else inV (V.str "alone") [V.str (hw al), V.str (hw y.2)]) = (al || y.2) from inV_hw al y.2]
        refine ite2 (fun c3 => ?_) (fun c3 => ?_)
        · rw [c3, if_pos rfl] at eg
          refine ⟨_, rfl, _, s4 _ _ hZ, by rw [List.length_map, sizeLine_eq]; omega, ?_, ?_⟩
          · exact fun a o h => by rw [upd_ne (ne_of_none h nZ)]; exact s4 _ _ (sm _ _ h)
          · rw [upd_same, eg, List.map_append]; rfl
        · rw [if_neg c3, List.append_nil] at eg
          exact ⟨fun a o h => s4 _ _ (sm _ _ h), by rw [s4 _ _ hZ, eg]⟩
      · refine ⟨sm, ?_⟩
        rw [hZ, eg]
        have : decide (y.1 ≠ w) = false := by
          have e0 : kV (Sum.inl y.1) = V.int w := by simpa using c1
          injection e0 with e0
          simp [e0]
        rw [this, Bool.false_and, if_neg (by simp), List.append_nil]
    obtain ⟨sm, hZ⟩ := q
    rw [List.take_of_length_le (by unfold kvH; rw [List.length_map]; exact Nat.le_refl _)] at hZ
    refine ⟨sm _ _ hf, ?_⟩
    have s4 : Same H (upd H' b (.dK (kvH (lk (fg g.ho) n)))) := fun a o h => by
      by_cases e : a = b
      · rw [e, upd_same, ← hb2, ← s2 _ _ h, e]
      · rw [upd_ne e]; exact sm _ _ (s3 _ _ e (s2 _ _ h))
    have hZ4 : (upd H' b (.dK (kvH (lk (fg g.ho) n)))) Z = some (.lst ((agst (lk g.t n) w al).map V.int)) := by rw [upd_ne nZb, hZ]; rfl
    have hb4 : (upd H' b (.dK (kvH (lk (fg g.ho) n)))) b = some (.dK (kvH (lk g.t n))) := upd_same
    have nZH : H Z = none := by
      cases e : H Z with
      | none => rfl
      | some o =>
        have := s3 _ _ nZb (s2 _ _ e)
        rw [this] at nZ; cases nZ
    have x4 := x.same s4
    generalize upd H' b (.dK (kvH (lk (fg g.ho) n))) = H4 at s4 hZ4 hb4 x4 ⊢
    clear sm hZ nZ nZb hf s3 hb2 s2 x2
    have lag := agst_len (lk g.t n) w al
    refine ⟨_, rfl, _, rfl, b, _, rfl, dGet_k (k := .inl w) (.inl hb4), _, rfl, ite2 (fun c1 => ?A) (fun c1 => ?B)⟩
    case' A =>
      have c1 : w ∉ whos (lk g.t n) := fun z => by
        have := inH_iff.mpr z
        rw [this] at c1; cases c1
      refine ⟨_, rfl, g.l, _, rfl, SqL.of x4.que.lst, fun D nD => ?_⟩
      refine lc_it walk_enum (fun i H' => Same H4 H' ∧ H' D = some (.lst ((mineF w 0 (g.q.take i)).map fun k => V.int ((k : Nat) : Int)))) ⟨same_upd nD, upd_same⟩ (fun i H' hi q => SqL.of (q.1 _ _ x4.que.lst)) (fun i z H' H'' hi q yy => ?_) (fun H' q => ?_)
      · obtain ⟨sm, hD⟩ := q
        obtain ⟨T3, va, vb, rfl, nT3, rfl, ea, hx⟩ := yy
        obtain rfl := (Option.some.inj ea)
        have hx : (g.qs.map fun y => V.ref y.1)[i]? = some vb := hx
        rw [List.getElem?_map] at hx
        obtain ⟨y, hy, rfl⟩ := Option.map_eq_some_iff.mp hx
        have ym := List.mem_of_getElem? hy
        have hq : g.q[i]? = some y.2 := by unfold LG.q qf; rw [List.getElem?_map, hy]; rfl
        have hi2 : i < g.q.length := (List.getElem?_eq_some_iff.mp hq).1
        have s5 : Same H' (upd H' T3 (.tup [.int ((i : Nat) : Int), .ref y.1])) := same_upd nT3
        have hT3 : (upd H' T3 (.tup [.int ((i : Nat) : Int), .ref y.1])) T3 = some (.tup [.int ((i : Nat) : Int), .ref y.1]) := upd_same
        have hD5 := s5 _ _ hD
        have sm5 := sm.trans s5
        generalize upd H' T3 (.tup [.int ((i : Nat) : Int), .ref y.1]) = H5 at hT3 hD5 sm5 ⊢
        have et : mineF w 0 (g.q.take (i + 1)) = mineF w 0 (g.q.take i) ++ if y.2.1 = w then [i] else [] := by
          rw [List.take_add_one, hq]
          have := mineF_snoc w y.2 (g.q.take i) 0
          rw [List.length_take, Nat.min_eq_left (by omega), Nat.zero_add] at this
          exact this
        have lm := mineF_len w (g.q.take i) 0
        rw [List.length_take] at lm
        rw [et, List.map_append]
        refine ⟨T3, _, rfl, SqT.of hT3, rfl, _, _, rfl, _, _, rfl, rfl, rfl, _, rfl, y.1, _, _, _, rfl, rfl, SqT.of (sm5 _ _ (x4.que.tup y ym)), at0 _ _ _, _, rfl, rfl, _, rfl, ?_⟩
        refine ite2 (fun c2 => ?_) (fun c2 => ?_)
        · have c2 : y.2.1 = w := by simpa using c2
          rw [if_pos c2]
          refine ⟨_, rfl, _, hD5, by rw [List.length_map, sizeLine_eq]; omega, fun a o h => by rw [upd_ne (ne_of_none h nD)]; exact sm5 _ _ h, ?_⟩
          rw [upd_same]; rfl
        · have c2 : ¬ y.2.1 = w := by simpa using c2
          rw [if_neg c2]
          refine ⟨sm5, ?_⟩
          rw [hD5]; simp
      obtain ⟨sm, hD⟩ := q
      rw [List.length_map, ← lq, List.take_length] at hD
      have s5 := s4.trans sm
      have hZ5 := sm _ _ hZ4
      have x5 := x.same s5
      clear s4 hZ4 hb4 x4 sm nD
      refine ⟨_, rfl, by show 0 ≤ sizeLine; decide, fun e ne => ?_⟩
      have s6 := s5.trans (same_upd (o := .lst []) ne)
      have hD6 : (upd H' e (.lst [])) D = some (.lst (((mineF w 0 g.q).map fun k => ((k : Nat) : Int)).map V.int)) := by
        rw [upd_ne (ne_of_none hD ne), hD, List.map_map]; rfl
      have hZ6 := same_upd (o := .lst []) ne _ _ hZ5
      refine ⟨_, .list [], dp_ints hD6, Dp.lst (SqL.of upd_same) .nil, shaped_ints _, rfl, ?_⟩
      rw [eqv_nil]
      have x6 := x.same s6
      generalize upd H' e (.lst []) = H6 at s6 hD6 hZ6 x6 ⊢
      clear hD hZ5 x5 ne s5
      have tw : ahd g.q w n = ((g.q.takeWhile fun r => decide (r.1 ≠ w)).filter fun r => decide (r.2.1 = n)).map (·.1) := ahd_take g.q w n
      refine ⟨_, rfl, ite2 (fun c2 => ?A1) (fun c2 => ?A2)⟩
    case' A1 =>
      obtain ⟨j, js, em⟩ : ∃ j js, mineF w 0 g.q = j :: js := by
        cases e : mineF w 0 g.q with
        | nil => rw [e] at c2; cases c2
        | cons j js => exact ⟨j, js, rfl⟩
      have et := (mineF_cons em).2
      rw [Nat.sub_zero] at et
      refine ⟨_, rfl, _, rfl, D, _, _, _, rfl, rfl, SqL.of hD6, (by rw [em]; exact (atI_nat (j := 0) rfl)), _, rfl, g.l, _, rfl, SqL.of x6.que.lst, fun Aa nAa => ?_⟩
      rw [cut_nat, ← List.map_take]
      have s7 := s6.trans (same_upd (o := .lst ((g.qs.take j).map fun y => V.ref y.1)) nAa)
      have hA7 : (upd H6 Aa (.lst ((g.qs.take j).map fun y => V.ref y.1))) Aa = some (.lst ((g.qs.take j).map fun y => V.ref y.1)) := upd_same
      have hZ7 := same_upd (o := .lst ((g.qs.take j).map fun y => V.ref y.1)) nAa _ _ hZ6
      generalize upd H6 Aa (.lst ((g.qs.take j).map fun y => V.ref y.1)) = H7 at s7 hA7 hZ7 ⊢
      clear em c2
    case' A2 =>
      have em : mineF w 0 g.q = [] := by
        cases e : mineF w 0 g.q with
        | nil => rfl
        | cons j js => rw [e] at c2; exact absurd (by simp) c2
      obtain ⟨j, ej⟩ : ∃ j, j = g.q.length := ⟨_, rfl⟩
      have et : g.q.takeWhile (fun r => decide (r.1 ≠ w)) = g.q.take j := by rw [ej, List.take_length]; exact mineF_nil em
      obtain ⟨Aa, eA⟩ : ∃ Aa, Aa = g.l := ⟨_, rfl⟩
      obtain ⟨H7, e7⟩ : ∃ H7, H7 = H6 := ⟨_, rfl⟩
      have s7 : Same H H7 := by rw [e7]; exact s6
      have hA7 : H7 Aa = some (.lst ((g.qs.take j).map fun y => V.ref y.1)) := by
        rw [e7, eA, ej, lq, List.take_length]; exact x6.que.lst
      have hZ7 : H7 Z = some (.lst ((agst (lk g.t n) w al).map V.int)) := by rw [e7]; exact hZ6
      refine ⟨_, rfl, ?_⟩
      rw [← eA, ← e7]
      clear em c2 ej eA e7
    case' A1 | A2 =>
      have x7 := x.same s7
      refine ⟨_, rfl, _, rfl, Aa, rfl, ⟨_, SqL.of hA7⟩, fun D2 nD2 => ?_⟩
      refine lc_list (K := K) (a := Aa) (xs := (g.qs.take j).map fun y => V.ref y.1) (fun i H' => Same H7 H' ∧ H' D2 = some (.lst (((((g.q.take j).take i).filter fun r => decide (r.2.1 = n)).map (·.1)).map V.int))) ⟨same_upd nD2, upd_same⟩ (fun i H' hi q => SqL.of (q.1 _ _ hA7)) (fun i z H' hx q => ?_) (fun H' q => ?_)
      · obtain ⟨sm, hD⟩ := q
        rw [List.getElem?_map] at hx
        obtain ⟨y, hy, rfl⟩ := Option.map_eq_some_iff.mp hx
        have ym : y ∈ g.qs := (List.take_sublist _ _).subset (List.mem_of_getElem? hy)
        have hq : (g.q.take j)[i]? = some y.2 := by
          have : g.q.take j = qf (g.qs.take j) := by unfold LG.q qf; rw [List.map_take]
          rw [this]; unfold qf; rw [List.getElem?_map, hy]; rfl
        have et2 : (g.q.take j).take (i + 1) = (g.q.take j).take i ++ [y.2] := by rw [List.take_add_one, hq]; rfl
        have lf : (((g.q.take j).take i).filter fun r => decide (r.2.1 = n)).length ≤ 5 := by
          refine Nat.le_trans (List.length_filter_le _ _) ?_
          rw [List.length_take, List.length_take]; omega
        have hT := sm _ _ (x7.que.tup y ym)
        rw [et2, List.filter_append, List.map_append, List.map_append]
        refine ⟨rfl, _, rfl, y.1, _, _, _, rfl, rfl, SqT.of hT, at1 _ _ _, _, rfl, rfl, _, rfl, ?_⟩
        refine ite2 (fun c2 => ?_) (fun c2 => ?_)
        · have c2 : y.2.2.1 = n := by simpa using c2
          refine ⟨_, rfl, y.1, _, _, _, rfl, rfl, SqT.of hT, at0 _ _ _, _, hD, by rw [List.length_map, List.length_map, sizeLine_eq]; omega, fun a o h => by rw [upd_ne (ne_of_none h nD2)]; exact sm _ _ h, ?_⟩
          rw [upd_same, List.filter_cons_of_pos (by simp [c2])]; rfl
        · have c2 : ¬ y.2.2.1 = n := by simpa using c2
          refine ⟨sm, ?_⟩
          rw [hD, List.filter_cons_of_neg (by simp [c2])]; simp
      obtain ⟨sm, hD⟩ := q
      have lj : (g.q.take j).take ((g.qs.take j).map fun y => V.ref y.1).length = g.q.take j := by
        rw [List.length_map, List.take_of_length_le]
        rw [List.length_take, List.length_take, lq]; omega
      rw [lj, ← et, ← tw] at hD
      have lah := ahd_len (w := w) (n := n) g.q
      have hZ8 := sm _ _ hZ7
      have s8 := s7.trans sm
      refine ⟨Z, D2, _, _, rfl, rfl, hZ8, hD, by rw [List.length_map, List.length_map, sizeLine_eq]; omega, fun F9 nF9 => ?_⟩
      obtain ⟨fs, efs⟩ : ∃ fs, fs = agst (lk g.t n) w al ++ ahd g.q w n := ⟨_, rfl⟩
      have hF9 : (upd H' F9 (.lst ((agst (lk g.t n) w al).map V.int ++ (ahd g.q w n).map V.int))) F9 = some (.lst (fs.map V.int)) := by rw [upd_same, efs, List.map_append]
      have s9 := s8.trans (same_upd (o := .lst ((agst (lk g.t n) w al).map V.int ++ (ahd g.q w n).map V.int)) nF9)
      have l9 : fs.length ≤ 10 := by rw [efs, List.length_append]; omega
      have m9 : ∀ y, y ∈ fs ↔ y ∈ raw g.t g.q w n al := fun y => by
        rw [efs, mem_raw, List.mem_append]
        exact ⟨fun h => h.imp id (fun z => ⟨c1, z⟩), fun h => h.imp id (fun z => z.2)⟩
      generalize upd H' F9 (.lst ((agst (lk g.t n) w al).map V.int ++ (ahd g.q w n).map V.int)) = H9 at hF9 s9 ⊢
      clear efs nF9 hD hZ8 sm
    case' B =>
      have c1 : w ∈ whos (lk g.t n) := by
        refine Classical.byContradiction fun z => c1 ?_
        have : (valV (kvH (lk g.t n)) (.inl w)).isSome = false := by
          cases e : (valV (kvH (lk g.t n)) (.inl w)).isSome with
          | false => rfl
          | true => exact absurd (inH_iff.mp e) z
        rw [this]; rfl
      obtain ⟨F9, eF⟩ : ∃ F9, F9 = Z := ⟨_, rfl⟩
      obtain ⟨H9, e9⟩ : ∃ H9, H9 = H4 := ⟨_, rfl⟩
      obtain ⟨fs, efs⟩ : ∃ fs, fs = agst (lk g.t n) w al := ⟨_, rfl⟩
      have hF9 : H9 F9 = some (.lst (fs.map V.int)) := by rw [eF, e9, efs]; exact hZ4
      have s9 : Same H H9 := by rw [e9]; exact s4
      have l9 : fs.length ≤ 10 := by rw [efs]; omega
      have m9 : ∀ y, y ∈ fs ↔ y ∈ raw g.t g.q w n al := fun y => by
        rw [efs]; unfold raw; rw [if_pos c1, List.append_nil]
      rw [← eF, ← e9]
      clear eF e9 efs
    all_goals
      refine ⟨_, rfl, F9, rfl, ⟨_, SqL.of hF9⟩, fun D3 nD3 => ?_⟩
      have base0 : ∀ (m : Nat) (p : Addr) (y : Int), ([] : List Addr)[m]? = some p → fs[m]? = some y → (upd H9 D3 (.lst [])) p = some (.tup [.int y, .int 1]) := fun m p y h => by rw [List.getElem?_nil] at h; cases h
      refine lc_list (K := K) (a := F9) (xs := fs.map V.int) (fun i H' => Same H9 H' ∧ ∃ ps : List Addr, H' D3 = some (.lst (ps.map V.ref)) ∧ ps.length = min i fs.length ∧ ∀ m p y, ps[m]? = some p → fs[m]? = some y → H' p = some (.tup [.int y, .int 1])) ⟨same_upd nD3, [], upd_same, by rw [Nat.zero_min]; rfl, base0⟩ (fun i H' hi q => SqL.of (q.1 _ _ hF9)) (fun i z H' hx q => ?_) (fun H' q => ?_)
      · obtain ⟨sm, ps, hD, lp, tp⟩ := q
        rw [List.getElem?_map] at hx
        obtain ⟨y, hy, rfl⟩ := Option.map_eq_some_iff.mp hx
        have hi := (List.getElem?_eq_some_iff.mp hy).1
        refine ⟨rfl, _, rfl, by show 2 ≤ sizeLine; decide, fun T5 nT5 => ?_⟩
        have s10 : Same H' (upd H' T5 (.tup [.int y, .int 1])) := same_upd nT5
        have hT5 : (upd H' T5 (.tup [.int y, .int 1])) T5 = some (.tup [.int y, .int 1]) := upd_same
        have hD10 := s10 _ _ hD
        generalize upd H' T5 (.tup [.int y, .int 1]) = H10 at s10 hT5 hD10 ⊢
        refine ⟨_, hD10, by rw [List.length_map, sizeLine_eq]; omega, fun a o h => by rw [upd_ne (ne_of_none h nD3)]; exact s10 _ _ (sm _ _ h), ps ++ [T5], by rw [upd_same, List.map_append]; rfl, by rw [List.length_append]; show ps.length + 1 = _; omega, fun m p y' hm hy' => ?_⟩
        have kp := Keep.lst (o := .lst (ps.map V.ref ++ [.ref T5])) hD10
        rcases Nat.lt_or_ge m ps.length with h | h
        · rw [List.getElem?_append_left h] at hm
          exact kp _ _ (s10 _ _ (tp m p y' hm hy'))
        · rw [List.getElem?_append_right h] at hm
          have em : m - ps.length = 0 := by
            cases e : m - ps.length with
            | zero => rfl
            | succ q => rw [e] at hm; cases hm
          rw [em] at hm
          obtain rfl := Option.some.inj hm
          have : m = i := by omega
          rw [this, hy] at hy'
          obtain rfl := Option.some.inj hy'
          exact kp _ _ hT5
      · obtain ⟨sm, ps, hD, lp, tp⟩ := q
        rw [List.length_map, Nat.min_self] at lp
        have pr : Paired (fun p (kv : Key × V) => SqT K H' p [kV kv.1, kv.2]) ps (fs.map fun y => ((Sum.inl y : Key), V.int 1)) := by
          refine paired_of (by rw [List.length_map]; exact lp) fun m p kv hp hkv => ?_
          rw [List.getElem?_map] at hkv
          obtain ⟨y, hy, rfl⟩ := Option.map_eq_some_iff.mp hkv
          exact SqT.of (tp m p y hp hy)
        refine ⟨D3, ps, _, rfl, SqL.of hD, pr, fun M nM => ?_⟩
        refine ⟨M, _, dd [] fs, rfl, .inl upd_same, ?_, ?_, fun ys r pm so nr => ?_⟩
        · exact merge_keys (.int 1) fs [] [] rfl
        · have := dd_len (l := fs) (acc := [])
          simp at this; omega
        · have s11 : Same H H' := s9.trans sm
          have s12 := s11.trans (same_upd (o := .dK (mergeK [] (fs.map fun y => ((Sum.inl y : Key), V.int 1)))) nM)
          have e := srt_of (pm.trans (raw_dd wf m9)) so
          subst e
          exact k _ r (s12.trans (same_upd nr)) (s12.free nr) upd_same
end
end K16
namespace K16
open PySem L2 HK
theorem wf5 {S : List Str} {g : LG} (wf : Wf S g.t g.q) : g.qs.length ≤ 5 := by
  have := nd_range5 5 (wq g.q) wf.ndq (fun m hm => by
    obtain ⟨r, hr, e⟩ := List.mem_map.mp hm
    have := (wf.rq r hr).1
    rw [← e]
    exact ⟨this.1, by have := this.2; omega⟩)
  unfold wq LG.q qf at this
  rw [List.length_map, List.length_map] at this
  exact this
theorem lenq (g : LG) : g.q.length = g.qs.length := by unfold LG.q qf; rw [List.length_map]
def spTke : Sp := fun vs H Q _ => ∃ c g w n al, vs = [.ref c, .int w, .str n, .str (hw al)] ∧ SAt H c g ∧ (∃ S : List Str, Tok S g.t ∧ S.length ≤ 4) ∧
  ∀ H' ho', Fr (g.a :: adr g.ho) H H' → TAt H' g.a ho' → fg ho' = tk g.t n w al → (∀ b ∈ adr ho', b ∈ adr g.ho ∨ H b = none) → Q .non H'
def spDro : Sp := fun vs H Q _ => ∃ c g w n, vs = [.ref c, .int w, .str n] ∧ SAt H c g ∧ (∃ S : List Str, Tok S g.t ∧ S.length ≤ 4) ∧ w ∈ whos (lk g.t n) ∧
  ∀ H' ho', Fr (g.a :: adr g.ho) H H' → TAt H' g.a ho' → fg ho' = drp g.t n w → (∀ b ∈ adr ho', b ∈ adr g.ho) → Q .non H'
def spWai : Sp := fun vs H Q _ => ∃ c g w, vs = [.ref c, .int w] ∧ SAt H c g ∧ (∃ S, Sok S ∧ Wf S g.t g.q) ∧ ∀ H' r, Same H H' → H r = none → H' r = some (.lst ((srt (wts g.t g.q w)).map V.int)) → Q (.ref r) H'
def spRin : Sp := fun vs H Q _ => ∃ c g w, vs = [.ref c, .int w] ∧ SAt H c g ∧ (∃ S, Sok S ∧ Wf S g.t g.q) ∧ ∀ H' b, Same H H' → (b = true ↔ Rch (wts g.t g.q) w w) → Q (.bl b) H'
theorem filt_row {q : List (Row Str)} {w : Int} : (q.filter fun r => decide (r.1 = w)) = [] → rowOf q w = none := fun h => List.find?_eq_none.mpr fun r hr e => by
  have : r ∈ q.filter fun r => decide (r.1 = w) := List.mem_filter.mpr ⟨hr, e⟩
  rw [h] at this; cases this
theorem filt_row2 {q : List (Row Str)} {w : Int} {r : Row Str} {rs : List (Row Str)} (h : (q.filter fun r => decide (r.1 = w)) = r :: rs) : rowOf q w = some r := by
  unfold rowOf
  rw [← List.head?_filter, h]; rfl
section
variable {P : Program} {w : World} {K : PySem.W.Frag} {mg : Str → Option Value} {base : Heap}
theorem scWai : FnScope ["state", "who", "rows", "row"] ["state", "who"] (defScope sWai) := ⟨rfl, rfl, rfl, by decide +kernel, rfl, by decide +kernel, by decide +kernel⟩
theorem ok_wai {f fB : Addr} {fd fdB : FuncData} (F : L2.Fun K "_law_waits" "_law_waits" sWai f fd)
    (FB : FnOk P w K mg base L2.CX0 1 fB fdB ["state", "who", "name", "how"] spBkd) (mB : mg "_law_blocked" = some (.ref fB)) (kB : PySem.W.keepIn K (.ref fB) = true) (bB : Binds K fdB ["state", "who", "name", "how"] []) :
    FnOk P w K mg base L2.CX0 2 f fd ["state", "who"] spWai := by
  refine F.ok scWai (fun vs H Q E h => ?_) (fun cdv A outer s H vs Q E hr h => ?_)
  · obtain ⟨c, g, w, rfl, _⟩ := h
    rfl
  · obtain ⟨c, g, w, rfl, x, ⟨S, sok, wf⟩, k⟩ := h
    refine ⟨_, pss_cons (ps_setLc (i := 2) (own := [("row", 3)]) (g := gName 3) (te := tVar 3) (by rfl) scWai.nd rfl rfl (sw_true rfl rfl rfl (by decide +kernel)) (pi_list (pe_dget (hu_of hr) (pv 0) pe_str (fun _ _ => rfl))) (blkOk_by (N := ["state", "who", "rows", "row"]) (sc := defScope sWai) (by decide +kernel))
        (fun _ _ _ _ _ => pg_name (i := 3) scWai.nd rfl (Or.inl rfl)) (fun _ _ _ _ _ => pts_one (pt_cmpR op_eq (pe_ix (r := rIxT K) (by exact ix_tup) (pv 3) pe_int (fun _ _ => rfl)) (pv 1) (nomark _))) (fun _ _ _ _ _ => pv 3))
      (pss_one (ps_ret (pe_ifExp (pt_cmpR (op_neD hr.units) (pv 2) (pe_lst pa_nil) (nomark _))
        (pe_call FB hr (by rfl) mB kB bB .nil pass0 (pa_cons (pv 0) (pa_cons (pe_ix ix_tup (pe_ix ix_list (pv 2) pe_int (fun _ _ => rfl)) pe_int (fun _ _ => rfl)) (pa_cons (pe_ix ix_tup (pe_ix ix_list (pv 2) pe_int (fun _ _ => rfl)) pe_int (fun _ _ => rfl)) (pa_cons (pe_ix ix_tup (pe_ix ix_list (pv 2) pe_int (fun _ _ => rfl)) pe_int (fun _ _ => rfl)) pa_nil)))))
        (pe_lst pa_nil)))), ?_⟩
    have q5 := wf5 wf
    refine ⟨_, rfl, c, _, rfl, x.queueG, g.l, rfl, ⟨_, SqL.of x.que.lst⟩, fun D nD => ?_⟩
    refine lc_list (K := K) (a := g.l) (xs := g.qs.map fun y => V.ref y.1) (fun i H' => Same H H' ∧ H' D = some (.lst (((g.qs.take i).filter fun y => decide (y.2.1 = w)).map fun y => V.ref y.1))) ⟨same_upd nD, upd_same⟩ (fun i H' hi q => SqL.of (q.1 _ _ x.que.lst)) (fun i z H' hx q => ?_) (fun H' q => ?_)
    · obtain ⟨sm, hD⟩ := q
      rw [List.getElem?_map] at hx
      obtain ⟨y, hy, rfl⟩ := Option.map_eq_some_iff.mp hx
      have ym := List.mem_of_getElem? hy
      have et : g.qs.take (i + 1) = g.qs.take i ++ [y] := by rw [List.take_add_one, hy]; rfl
      have lf : ((g.qs.take i).filter fun y => decide (y.2.1 = w)).length ≤ 5 := by
        refine Nat.le_trans (List.length_filter_le _ _) ?_
        rw [List.length_take]; omega
      refine ⟨rfl, _, rfl, y.1, _, _, _, rfl, rfl, SqT.of (sm _ _ (x.que.tup y ym)), at0 _ _ _, _, rfl, rfl, _, rfl, ?_⟩
      rw [et, List.filter_append, List.map_append]
      refine ite2 (fun c1 => ?_) (fun c1 => ?_)
      · have c1 : y.2.1 = w := by simpa using c1
        refine ⟨_, rfl, _, hD, by rw [List.length_map, sizeLine_eq]; omega, fun b o hb => by rw [upd_ne (ne_of_none hb nD)]; exact sm _ _ hb, ?_⟩
        rw [upd_same, List.filter_cons, if_pos (decide_eq_true c1)]; rfl
      · have c1 : ¬ y.2.1 = w := by simpa using c1
        refine ⟨sm, ?_⟩
        rw [hD, List.filter_cons_of_neg (by simp [c1])]; simp
    obtain ⟨sm, hD⟩ := q
    rw [List.length_map, List.take_length] at hD
    have x1 := x.same sm
    have eqf : qf (g.qs.filter fun y => decide (y.2.1 = w)) = g.q.filter fun r => decide (r.1 = w) := by unfold LG.q qf; rw [List.filter_map]; rfl
    have rowsin : ∀ y ∈ g.qs.filter (fun y => decide (y.2.1 = w)), H' y.1 = some (rowO y.2) := fun y hy => x1.que.tup y (List.mem_filter.mp hy).1
    generalize g.qs.filter (fun y => decide (y.2.1 = w)) = rs at hD eqf rowsin
    refine ⟨_, rfl, by show 0 ≤ sizeLine; decide, fun e ne => ?_⟩
    have s2 : Same H' (upd H' e (.lst [])) := same_upd ne
    have hD2 := s2 _ _ hD
    have rin2 : ∀ y ∈ rs, (upd H' e (.lst [])) y.1 = some (rowO y.2) := fun y hy => s2 _ _ (rowsin y hy)
    refine ⟨.list ((qf rs).map rowD), .list [], Dp.lst (SqL.of hD2) (dps_rows rin2), Dp.lst (SqL.of upd_same) .nil, ?_, rfl, ?_⟩
    · exact shaped_rows sok.nm fun r hr => (wf.rq r (by rw [eqf] at hr; exact (List.mem_filter.mp hr).1)).2
    have sH := sm.trans s2
    generalize upd H' e (.lst []) = H2 at hD2 rin2 sH ⊢
    have x2 := x.same sH
    cases rs with
    | nil =>
      have er : rowOf g.q w = none := filt_row (by rw [← eqf]; rfl)
      refine ⟨_, rfl, iteF ?_⟩
      refine ⟨by show 0 ≤ sizeLine; decide, fun l nl => k _ l (sH.trans (same_upd nl)) (sH.free nl) ?_⟩
      rw [upd_same]
      unfold wts
      rw [er]
      show _ = some (HO.lst ((srt []).map V.int))
      rw [srt_nil]; rfl
    | cons y r =>
      have er : rowOf g.q w = some y.2 := filt_row2 (rs := qf r) (by rw [← eqf]; rfl)
      have hT := rin2 y (by simp)
      refine ⟨_, rfl, iteT ?_⟩
      have a0 : atI ((y :: r).map fun y => V.ref y.1) 0 = some (.ref y.1) := atI_nat (j := 0) rfl
      refine ⟨_, rfl, _, rfl, D, _, _, _, rfl, rfl, SqL.of hD2, a0, y.1, _, _, _, rfl, rfl, SqT.of hT, at0 _ _ _, _, rfl, D, _, _, _, rfl, rfl, SqL.of hD2, a0, y.1, _, _, _, rfl, rfl, SqT.of hT, at1 _ _ _, _, rfl, D, _, _, _, rfl, rfl, SqL.of hD2, a0, y.1, _, _, _, rfl, rfl, SqT.of hT, at2 _ _ _, ?_⟩
      refine ⟨c, g, y.2.1, y.2.2.1, y.2.2.2, rfl, x2, ⟨S, wf⟩, fun H3 r3 s3 nr hr3 => k H3 r3 (sH.trans s3) (sH.free nr) ?_⟩
      rw [hr3]
      unfold wts
      rw [er]
theorem scTke : FnScope ["state", "who", "name", "how", "table"] ["state", "who", "name", "how"] (defScope sTke) := ⟨rfl, rfl, rfl, by decide +kernel, rfl, by decide +kernel, by decide +kernel⟩
theorem ok_tke {f : Addr} {fd : FuncData} (F : L2.Fun K "_law_take" "_law_take" sTke f fd) : FnOk P w K mg base L2.CX0 1 f fd ["state", "who", "name", "how"] spTke := by
  refine F.ok scTke (fun vs H Q E h => ?_) (fun cdv A outer s H vs Q E hr h => ?_)
  · obtain ⟨c, g, w, n, al, rfl, _⟩ := h
    rfl
  · obtain ⟨c, g, w, n, al, rfl, x, ⟨S, tok, hS⟩, k⟩ := h
    refine ⟨_, pss_cons (ps_set (i := 4) scTke.nd rfl (Or.inl rfl) (pe_dsetd (pe_dget (hu_of hr) (pv 0) pe_str (fun _ _ => rfl)) (pv 2) pe_dnewK ⟨rfl, rfl, rfl, rfl⟩))
      (pss_one (ps_dput (hu_of hr) (pv 4) (pv 1) (pe_ifExp (pt_cmpR op_eq (pe_dget1 (hu_of hr) (pv 4) (pv 1) ⟨rfl, rfl, rfl, rfl⟩) pe_str (nomark _)) pe_str (pv 3)) rfl)), ?_⟩
    have nk := tok.nk
    have few := tok.few hS
    refine ⟨_, rfl, c, _, rfl, x.held, g.a, rfl, .inl ⟨_, .inl x.tab.top⟩, _, rfl, fun p hp => ?_⟩
    have s1 : Same H (upd H p (.dK [])) := same_upd hp
    have lkv : (kvT g.ho).length < sizeLine := by unfold kvT; rw [List.length_map, sizeLine_eq]; omega
    refine Or.elim (setd_hs x.tab nk n hp) (fun q => ?A) (fun q => ?B)
    case' A =>
      obtain ⟨y, hy, ey, hv0, x1⟩ := q
      refine ⟨kvT g.ho, .inr n, s1 _ _ x.tab.top, rfl, lkv, fun v hv => ?_, fun hv => by rw [hv0] at hv; cases hv⟩
      rw [hv0] at hv
      obtain rfl := (Option.some.inj hv).symm
      obtain ⟨ho1, e1⟩ : ∃ ho1, ho1 = g.ho := ⟨_, rfl⟩
      have f1 : Fr (g.a :: adr g.ho) H (upd H p (.dK [])) := Fr.of s1
      have nk1 : (ho1.map (·.1)).Nodup := by rw [e1]; exact nk
      have el : y.2.2 = lk g.t n := by
        rw [← ey]; exact (lk_fg nk hy).symm
      have st : ∀ l, setT (fg ho1) n l = setT g.t n l := fun l => by rw [e1]; rfl
      have ow : ∀ b ∈ adr ho1, b ∈ adr g.ho ∨ H b = none := fun b hb => by rw [e1] at hb; exact .inl hb
      rw [← e1] at hy x1
      generalize upd H p (.dK []) = H1 at x1 f1 ⊢
      clear e1 hv hv0 hp s1
    case' B =>
      obtain ⟨nin, hv0, x1⟩ := q
      refine ⟨kvT g.ho, .inr n, s1 _ _ x.tab.top, rfl, lkv, fun v hv => (by rw [hv0] at hv; cases hv), fun hv => ?_⟩
      obtain ⟨y, e0⟩ : ∃ y : Str × Addr × Hs, y = (n, p, []) := ⟨_, rfl⟩
      have ey : y.1 = n := by rw [e0]
      obtain ⟨ho1, e1⟩ : ∃ ho1, ho1 = g.ho ++ [(n, p, [])] := ⟨_, rfl⟩
      have f1 : Fr (g.a :: adr g.ho) H (upd (upd H p (.dK [])) g.a (.dK (putK (kvT g.ho) (.inr n) (.ref p)))) := (Fr.of s1).trans (Fr.sx SameX.upd (by simp))
      have nk1 : (ho1.map (·.1)).Nodup := by
        rw [e1, List.map_append]
        exact List.nodup_append.mpr ⟨nk, by simp, fun b hb c hc e => nin (by
          have : c = n := by simpa using hc
          rw [← this, ← e]; exact hb)⟩
      have hy : y ∈ ho1 := by rw [e0, e1]; simp
      have nin2 : n ∉ g.t.map (·.1) := by unfold LG.t; rw [keys_fg]; exact nin
      have el : y.2.2 = lk g.t n := by
        rw [e0]
        rcases valV_kvT n g.ho with ⟨_, _, h3⟩ | ⟨z, hz, ez, _⟩
        · exact h3.symm
        · exact absurd (by rw [← ez]; exact List.mem_map_of_mem hz) nin
      have st : ∀ l, setT (fg ho1) n l = setT g.t n l := fun l => by
        rw [e1]
        have : fg (g.ho ++ [(n, p, [])]) = g.t ++ [(n, [])] := by unfold fg LG.t; rw [List.map_append]; rfl
        rw [this]; exact setT_new nin2
      have ow : ∀ b ∈ adr ho1, b ∈ adr g.ho ∨ H b = none := fun b hb => by
        rw [e1] at hb
        unfold adr at hb
        rw [List.map_append] at hb
        rcases List.mem_append.mp hb with z | z
        · exact .inl z
        · have : b = p := by simpa using z
          rw [this]; exact .inr hp
      rw [← e1] at x1
      have ep : p = y.2.1 := by rw [e0]
      rw [ep] at x1 f1 ⊢
      generalize upd (upd H y.2.1 (.dK [])) g.a (.dK (putK (kvT g.ho) (.inr n) (.ref y.2.1))) = H1 at x1 f1 ⊢
      clear e1 hv hv0 s1 e0
    all_goals
      have hin := x1.inn y hy
      have ndw : (whos y.2.2).Nodup := by rw [el]; exact tok.nd n
      have l5 : y.2.2.length ≤ 5 := by rw [el]; exact tok.len n
      have dg : DGet H1 y.2.1 (.int w) ((lkI y.2.2 w).map fun b => V.str (hw b)) := by
        have := dGet_k (k := .inl w) (.inl hin)
        rw [valV_kvH] at this; exact this
      have lk5 : (kvH y.2.2).length < sizeLine := by unfold kvH; rw [List.length_map, sizeLine_eq]; omega
      have fin : ∀ (b : Bool), (al || (lkI y.2.2 w).getD al) = b → Q .non (upd H1 y.2.1 (.dK (putK (kvH y.2.2) (.inl w) (.str (hw b))))) := fun b hb => by
        have ek : putK (kvH y.2.2) (.inl w) (.str (hw b)) = kvH (tkH (lk g.t n) w al) := by
          rw [kvH_put, ← el]; unfold tkH; rw [hb]
        rw [ek]
        refine k _ (setHo ho1 y.1 g.a (tkH (lk g.t n) w al)) ?_ (x1.put nk1 hy SameX.upd upd_same) ?_ ?_
        · intro d o h hn
          rw [upd_ne, f1 _ _ h hn]
          intro e
          rcases ow y.2.1 (List.mem_map_of_mem hy) with z | z
          · exact hn (by rw [e]; exact List.mem_cons_of_mem _ z)
          · rw [← e, h] at z; cases z
        · rw [fg_set, ey, st]; rfl
        · intro d hd
          have : d ∈ adr ho1 := by
            have hin2 : y.1 ∈ ho1.map (·.1) := List.mem_map_of_mem hy
            unfold setHo at hd
            rw [if_pos hin2] at hd
            unfold adr at hd ⊢
            rw [List.map_map] at hd
            obtain ⟨z, hz, e⟩ := List.mem_map.mp hd
            refine List.mem_map.mpr ⟨z, hz, ?_⟩
            rw [← e]
            show z.2.1 = (if z.1 = y.1 then (z.1, z.2.1, tkH (lk g.t n) w al) else z).2.1
            split <;> rfl
          exact ow d this
      have fin2 : ∀ (b : Bool), (al || (lkI y.2.2 w).getD al) = b → ∀ (σ : L2.St), σ[4]? = some (some (.ref y.2.1)) → σ[1]? = some (some (.int w)) → True := fun _ _ _ _ _ => trivial
      refine ⟨_, rfl, y.2.1, rfl, .inl ⟨_, .inl hin⟩, _, rfl, _, dg, (by cases lkI y.2.2 w <;> rfl), _, rfl, ?_⟩
      cases e : lkI y.2.2 w with
      | none =>
        rw [e] at fin
        refine iteF ⟨_, rfl, _, rfl, _, rfl, y.2.1, _, rfl, DPut.k (k := .inl w) hin lk5, fin al (by simp)⟩
      | some b =>
        rw [e] at fin
        cases b with
        | true => exact iteT ⟨_, rfl, _, rfl, y.2.1, _, rfl, DPut.k (k := .inl w) hin lk5, fin true (by simp)⟩
        | false => exact iteF ⟨_, rfl, _, rfl, _, rfl, y.2.1, _, rfl, DPut.k (k := .inl w) hin lk5, fin al (by simp)⟩
theorem scDro : FnScope ["state", "who", "name", "held"] ["state", "who", "name"] (defScope sDro) := ⟨rfl, rfl, rfl, by decide +kernel, rfl, by decide +kernel, by decide +kernel⟩
theorem ok_dro {f : Addr} {fd : FuncData} (F : L2.Fun K "_law_drop" "_law_drop" sDro f fd) : FnOk P w K mg base L2.CX0 1 f fd ["state", "who", "name"] spDro := by
  refine F.ok scDro (fun vs H Q E h => ?_) (fun cdv A outer s H vs Q E hr h => ?_)
  · obtain ⟨c, g, w, n, rfl, _⟩ := h
    rfl
  · obtain ⟨c, g, w, n, rfl, x, ⟨S, tok, hS⟩, hw', k⟩ := h
    refine ⟨_, pss_cons (ps_set (i := 3) scDro.nd rfl (Or.inl rfl) (pe_dget (hu_of hr) (pv 0) pe_str (fun _ _ => rfl)))
      (pss_cons (ps_expr (pe_dpop1 (pe_dget (hu_of hr) (pv 3) (pv 2) (fun _ _ => rfl)) (pv 1) ⟨rfl, rfl, rfl, rfl⟩))
      (pss_one (ps_if (pt_cmpR (r := HKE.rEqDD K) (by exact HKE.op_eqDD (room66 hr)) (pe_dget (hu_of hr) (pv 3) (pv 2) (fun _ _ => rfl)) pe_dnewK (nomark _)) (pss_one (ps_expr (pe_dpop1 (pv 3) (pv 2) ⟨rfl, rfl, rfl, rfl⟩))) pss_nil))), ?_⟩
    have nk := tok.nk
    obtain ⟨y, hy, ey, hv, el⟩ : ∃ y ∈ g.ho, y.1 = n ∧ valV (kvT g.ho) (.inr n) = some (.ref y.2.1) ∧ lk (fg g.ho) n = y.2.2 := by
      rcases valV_kvT n g.ho with ⟨_, _, h3⟩ | h
      · unfold LG.t at hw'
        rw [h3] at hw'; cases hw'
      · exact h
    have el' : lk g.t n = y.2.2 := el
    have ndw : (whos y.2.2).Nodup := by rw [← el]; exact tok.nd n
    have dg : DGet H g.a (.str n) (some (.ref y.2.1)) := by
      have := dGet_k (k := .inr n) (.inl x.tab.top)
      rw [hv] at this; exact this
    obtain ⟨v0, hv0⟩ : ∃ v, valV (kvH y.2.2) (.inl w) = some v := by
      rw [el'] at hw'
      exact Option.isSome_iff_exists.mp (inH_iff.mpr hw')
    refine ⟨_, rfl, c, _, rfl, x.held, _, rfl, _, rfl, g.a, _, rfl, dg, y.2.1, rfl, .inl ⟨_, .inl (x.tab.inn y hy)⟩, _, rfl, _, .inl w, v0, x.tab.inn y hy, rfl, hv0, ?_⟩
    rw [kvH_drop]
    have x1 : TAt (upd H y.2.1 (.dK (kvH (dropH y.2.2 w)))) g.a (setHo g.ho y.1 g.a (dropH y.2.2 w)) := x.tab.put nk hy SameX.upd upd_same
    have f1 : Fr (g.a :: adr g.ho) H (upd H y.2.1 (.dK (kvH (dropH y.2.2 w)))) := Fr.sx SameX.upd (List.mem_cons_of_mem _ (List.mem_map_of_mem hy))
    have hin1 : y.1 ∈ g.ho.map (·.1) := List.mem_map_of_mem hy
    have hy1 : (upd H y.2.1 (.dK (kvH (dropH y.2.2 w)))) y.2.1 = some (.dK (kvH (dropH y.2.2 w))) := upd_same
    obtain ⟨ho1, eh⟩ : ∃ ho1, ho1 = setHo g.ho y.1 g.a (dropH y.2.2 w) := ⟨_, rfl⟩
    have nk1 : (ho1.map (·.1)).Nodup := by
      rw [← keys_fg, eh, fg_set]
      exact ndk_set (by rw [keys_fg]; exact nk) _ _
    have mem1 : (n, y.2.1, dropH y.2.2 w) ∈ ho1 := by
      rw [eh]; unfold setHo
      rw [if_pos hin1]
      exact List.mem_map.mpr ⟨y, hy, by rw [if_pos rfl, ey]⟩
    have ad1 : ∀ b ∈ adr ho1, b ∈ adr g.ho := fun b hb => by
      rw [eh] at hb
      unfold setHo at hb
      rw [if_pos hin1] at hb
      unfold adr at hb ⊢
      rw [List.map_map] at hb
      obtain ⟨z, hz, e⟩ := List.mem_map.mp hb
      refine List.mem_map.mpr ⟨z, hz, ?_⟩
      rw [← e]
      show z.2.1 = (if z.1 = y.1 then (z.1, z.2.1, dropH y.2.2 w) else z).2.1
      split <;> rfl
    have ef : fg ho1 = setT g.t n (dropH y.2.2 w) := by rw [eh, fg_set, ey]; rfl
    rw [← eh] at x1
    clear eh
    generalize upd H y.2.1 (.dK (kvH (dropH y.2.2 w))) = H1 at x1 f1 hy1 ⊢
    have hvn : valV (kvT ho1) (.inr n) = some (.ref y.2.1) := val_fg nk1 mem1
    have dg1 : DGet H1 g.a (.str n) (some (.ref y.2.1)) := by
      have := dGet_k (k := .inr n) (.inl x1.top)
      rw [hvn] at this; exact this
    refine ⟨_, rfl, _, rfl, g.a, _, rfl, dg1, fun nd hnd => ?_⟩
    have s2 : Same H1 (upd H1 nd (.dK [])) := same_upd hnd
    refine ⟨y.2.1, nd, kvH (dropH y.2.2 w), [], dH (dropH y.2.2 w), dH [], rfl, rfl, s2 _ _ hy1, upd_same, dvs_H ?_, dvs_nil, ?_⟩
    · rw [whos_drop]; exact ndw.filter _
    rw [dEq_nil]
    have x2 := x1.same s2
    have f2 := f1.trans (Fr.of s2)
    generalize upd H1 nd (.dK []) = H2 at x2 f2 ⊢
    refine ⟨_, rfl, ite2 (fun c1 => ?_) (fun c1 => ?_)⟩
    · have c1 : dropH y.2.2 w = [] := by simpa using c1
      refine ⟨_, rfl, g.a, rfl, .inl ⟨_, .inl x2.top⟩, _, rfl, _, .inr n, .ref y.2.1, x2.top, rfl, hvn, ?_⟩
      refine k _ (delHo ho1 n) (f2.trans (Fr.sx SameX.upd (by simp))) (x2.del n SameX.upd upd_same) ?_ (fun b hb => ad1 b (adr_del hb))
      rw [fg_del, ef]
      unfold drp
      rw [el', if_pos c1]
      exact del_set _ _ _
    · have c1 : ¬ dropH y.2.2 w = [] := by simpa using c1
      refine k _ ho1 f2 x2 ?_ ad1
      rw [ef]; unfold drp; rw [el', if_neg c1]
end
end K16
namespace K16
open PySem L2 HK
/-! ### the law's own walk: mathematics -/
section
variable (f : Int → List Int)
/-- one more that is waited for -/
def st1 (s : List Int) (x : Int) : List Int := s ++ (srt (f x)).filter fun y => decide (y ∉ s)
def stF (s : List Int) (l : List Int) : List Int := l.foldl (st1 f) s
theorem st1_sub {s : List Int} {x y : Int} (h : y ∈ s) : y ∈ st1 f s x := List.mem_append_left _ h
theorem st1_new {s : List Int} {x y : Int} (h : y ∈ f x) : y ∈ st1 f s x := by
  unfold st1
  by_cases c : y ∈ s
  · exact List.mem_append_left _ c
  · exact List.mem_append_right _ (List.mem_filter.mpr ⟨mem_srt.mpr h, decide_eq_true c⟩)
theorem st1_inv {s : List Int} {x y : Int} (h : y ∈ st1 f s x) : y ∈ s ∨ y ∈ f x := by
  rcases List.mem_append.mp h with z | z
  · exact .inl z
  · exact .inr (mem_srt.mp (List.mem_filter.mp z).1)
theorem stF_sub {y : Int} : ∀ {l s : List Int}, y ∈ s → y ∈ stF f s l
  | [], _, h => h
  | x :: l, s, h => stF_sub (s := st1 f s x) (st1_sub f h)
theorem stF_new {x y : Int} : ∀ {l s : List Int}, x ∈ l → y ∈ f x → y ∈ stF f s l
  | a :: l, s, h, k => by
    show y ∈ stF f (st1 f s a) l
    rcases List.mem_cons.mp h with z | z
    · rw [z] at k; exact stF_sub f (st1_new f k)
    · exact stF_new z k
theorem stF_rch {w : Int} : ∀ {l s : List Int}, (∀ y ∈ s, Rch f w y) → (∀ y ∈ l, Rch f w y) → ∀ y ∈ stF f s l, Rch f w y
  | [], _, h, _ => h
  | a :: l, s, h, k => stF_rch (s := st1 f s a) (fun y hy => by
      rcases st1_inv f hy with z | z
      · exact h y z
      · exact (k a (by simp)).trans (.one z)) (fun y hy => k y (by simp [hy]))
theorem stF_rg {l s : List Int} (h : ∀ y ∈ s, InW y) (g : ∀ x y, y ∈ f x → InW y) : ∀ y ∈ stF f s l, InW y := by
  induction l generalizing s with
  | nil => exact h
  | cons a l ih =>
    refine ih (s := st1 f s a) (fun y hy => ?_)
    rcases st1_inv f hy with z | z
    · exact h y z
    · exact g a y z
theorem stF_nd {l : List Int} (fn : ∀ x, (f x).Nodup) : ∀ {s : List Int}, s.Nodup → (stF f s l).Nodup := by
  induction l with
  | nil => exact fun h => h
  | cons a l ih =>
    intro s h
    refine ih (s := st1 f s a) (List.nodup_append.mpr ⟨h, ((srt_perm _).nodup_iff.mpr (fn a)).filter _, fun x hx y hy e => ?_⟩)
    have := (List.mem_filter.mp hy).2
    rw [decide_eq_true_eq] at this
    exact this (by rw [← e]; exact hx)
theorem stF_closed {s : List Int} (c : ∀ x ∈ s, ∀ y ∈ f x, y ∈ s) : ∀ {l : List Int}, (∀ x ∈ l, x ∈ s) → stF f s l = s
  | [], _ => rfl
  | a :: l, h => by
    show stF f (st1 f s a) l = s
    have : st1 f s a = s := by
      unfold st1
      rw [List.filter_eq_nil_iff.mpr fun y hy => by rw [decide_eq_true_eq]; exact fun z => z (c a (h a (by simp)) y (mem_srt.mp hy)), List.append_nil]
    rw [this]
    exact stF_closed c fun x hx => h x (by simp [hx])
/-- so many rounds -/
def rds : Nat → List Int → List Int
  | 0, s => s
  | k + 1, s => stF f (rds k s) (rds k s)
theorem rds_step {q : List Int} (hq : ∀ x, f x ≠ [] → x ∈ q) (s : List Int) : ∀ k : Nat, (∀ x ∈ rds f k s, ∀ y ∈ f x, y ∈ rds f k s) ∨ k ≤ (q.filter fun x => decide (x ∈ rds f k s)).length
  | 0 => .inr (Nat.zero_le _)
  | k + 1 => by
    have ih := rds_step hq s k
    by_cases c : ∀ x ∈ rds f k s, ∀ y ∈ f x, y ∈ rds f k s
    · left
      show ∀ x ∈ stF f (rds f k s) (rds f k s), ∀ y ∈ f x, y ∈ stF f (rds f k s) (rds f k s)
      rw [stF_closed f c fun x h => h]
      exact c
    · have ih := ih.resolve_left c
      by_cases d : ∀ x ∈ rds f (k + 1) s, ∀ y ∈ f x, y ∈ rds f (k + 1) s
      · exact .inl d
      · right
        -- one who waits was not met before
        obtain ⟨x, hx, y, hy, ny⟩ : ∃ x, x ∈ rds f (k + 1) s ∧ ∃ y, y ∈ f x ∧ y ∉ rds f (k + 1) s := by
          refine Classical.byContradiction fun h => d fun x hx y hy => Classical.byContradiction fun z => h ⟨x, hx, y, hy, z⟩
        have nx : x ∉ rds f k s := fun z => ny (stF_new f z hy)
        have xq : x ∈ q := hq x (fun e => by rw [e] at hy; cases hy)
        have sub : ∀ z, z ∈ rds f k s → z ∈ rds f (k + 1) s := fun z hz => stF_sub f hz
        have lt : ∀ q : List Int, x ∈ q → (q.filter fun z => decide (z ∈ rds f k s)).length < (q.filter fun z => decide (z ∈ rds f (k + 1) s)).length := by
          have le : ∀ q : List Int, (q.filter fun z => decide (z ∈ rds f k s)).length ≤ (q.filter fun z => decide (z ∈ rds f (k + 1) s)).length := by
            intro q
            induction q with
            | nil => exact Nat.le_refl _
            | cons a q ih =>
              rw [List.filter_cons, List.filter_cons]
              by_cases m : a ∈ rds f k s
              · rw [if_pos (decide_eq_true m), if_pos (decide_eq_true (sub a m))]
                exact Nat.succ_le_succ ih
              · rw [if_neg (by simp [m])]
                split
                · exact Nat.le_succ_of_le ih
                · exact ih
          intro q
          induction q with
          | nil => intro h; cases h
          | cons a q ih =>
            intro h
            rw [List.filter_cons, List.filter_cons]
            by_cases m : a ∈ rds f k s
            · rw [if_pos (decide_eq_true m), if_pos (decide_eq_true (sub a m))]
              refine Nat.succ_lt_succ (ih ?_)
              rcases List.mem_cons.mp h with z | z
              · exact absurd (by rw [z]; exact m) nx
              · exact z
            · rw [if_neg (by simp [m])]
              rcases List.mem_cons.mp h with z | z
              · rw [if_pos (decide_eq_true (by rw [← z]; exact hx))]
                exact Nat.lt_succ_of_le (le q)
              · split
                · exact Nat.lt_succ_of_lt (ih z)
                · exact ih z
        have := lt q xq
        omega
theorem rds_rch {w : Int} : ∀ (k : Nat), ∀ y ∈ rds f k (srt (f w)), Rch f w y
  | 0, y, h => .one (mem_srt.mp h)
  | k + 1, y, h => stF_rch f (rds_rch k) (rds_rch k) y h
theorem rds_sub {s : List Int} {y : Int} (h : y ∈ s) : ∀ k, y ∈ rds f k s
  | 0 => h
  | k + 1 => stF_sub f (rds_sub h k)
/-- after so many rounds as there are who wait, and one -/
theorem rds_end {q : List Int} (hq : ∀ x, f x ≠ [] → x ∈ q) (w : Int) : w ∈ rds f (q.length + 1) (srt (f w)) ↔ Rch f w w := by
  refine ⟨fun h => rds_rch f _ w h, fun h => ?_⟩
  have c := (rds_step f hq (srt (f w)) (q.length + 1)).resolve_right fun z => by
    have := List.length_filter_le (fun x => decide (x ∈ rds f (q.length + 1) (srt (f w)))) q
    omega
  exact Rch.closed (fun x hx => rds_sub f (mem_srt.mpr hx) _) c h
end
section
variable {P : Program} {w : World} {K : PySem.W.Frag} {mg : Str → Option Value} {base : Heap}
abbrev NR : List Str := ["state", "who", "seen", "turn", "one", "other"]
theorem scRin : FnScope NR ["state", "who"] (defScope sRin) := ⟨rfl, rfl, rfl, by decide +kernel, rfl, by decide +kernel, by decide +kernel⟩
theorem ok_rin {f fW : Addr} {fd fdW : FuncData} (F : L2.Fun K "_law_ring" "_law_ring" sRin f fd) (T : LTx2 mg)
    (FW : FnOk P w K mg base L2.CX0 2 fW fdW ["state", "who"] spWai) (mW : mg "_law_waits" = some (.ref fW)) (kW : PySem.W.keepIn K (.ref fW) = true) (bW : Binds K fdW ["state", "who"] []) :
    FnOk P w K mg base L2.CX0 3 f fd ["state", "who"] spRin := by
  refine F.ok scRin (fun vs H Q E h => ?_) (fun cdv A outer s H vs Q E hr h => ?_)
  · obtain ⟨c, g, w, rfl, _⟩ := h
    rfl
  · obtain ⟨c, g, w, rfl, x, ⟨S, sok, wf⟩, k⟩ := h
    refine ⟨_, pss_cons (ps_set (i := 2) scRin.nd rfl (Or.inr rfl) (pe_call FW hr (by rfl) mW kW bW .nil pass0 (pa_cons (pv 0) (pa_cons (pv 1) pa_nil))))
      (pss_cons (ps_for PassesOwn.never rfl (pi_range1 (by rfl) T.range (pa_cons (pe_op op_add (pe_callB call_len_seq (by rfl) T.len PySem.boot_len (pa_cons (pe_dget (hu_of hr) (pv 0) pe_str (fun _ _ => rfl)) pa_nil)) pe_int) pa_nil)) (pg_name (i := 3) scRin.nd rfl (Or.inl rfl))
        (pss_one (ps_for PassesOwn.never rfl (pi_list (pe_callTy call_list_of (by rfl) T.list PyProof.Rows.Boot.«list» (pa_cons (pv 2) pa_nil))) (pg_name (i := 4) scRin.nd rfl (Or.inl rfl))
          (pss_one (ps_set (i := 2) scRin.nd rfl (Or.inr rfl) (pe_op op_cat (pv 2) (pe_lc (own := [("other", 5)]) (g := gName 5) (te := tVar 5) (by rfl) scRin.nd (pi_list (pe_call FW hr (by rfl) mW kW bW .nil pass0 (pa_cons (pv 0) (pa_cons (pv 4) pa_nil)))) (blkOk_by (N := NR) (sc := defScope sRin) (by decide +kernel))
            (fun _ _ _ _ _ => pg_name (i := 5) scRin.nd rfl (Or.inl rfl)) (fun _ _ _ _ _ => pts_one (pt_cmpR (r := rIn K true) (by exact op_notIn_seq) (pv 5) (pv 2) rfl)) (fun _ _ _ _ _ => pv 5))))))))
      (pss_one (ps_ret (pe_cmpR op_in_seq (pv 1) (pv 2) rfl)))), ?_⟩
    have q5 := wf5 wf
    have lq := lenq g
    refine ⟨_, rfl, _, rfl, c, g, w, rfl, x, ⟨S, sok, wf⟩, fun H1 A0 s1 nA hA => ?_⟩
    have x1 := x.same s1
    refine ⟨_, rfl, c, _, rfl, x1.queueG, g.l, _, rfl, .inl (SqL.of x1.que.lst), _, _, rfl, rfl, g.q.length + 1, ?r1, ?r2, ?r3, ?_⟩
    case r1 => rw [List.length_map, ← lq]
    case r2 => omega
    case r3 => omega
    have etn : ((g.q.length : Int) + 1).toNat = g.q.length + 1 := by omega
    rw [etn]
    have rgf : ∀ a b, b ∈ wts g.t g.q a → InW b := fun a b h => wts_rg wf h
    have ndf : ∀ a, (wts g.t g.q a).Nodup := fun a => wts_nd wf.tok wf.ndq a
    have l5 : ∀ l : List Int, l.Nodup → (∀ y ∈ l, InW y) → l.length ≤ 5 := fun l nd h => nd_range5 5 l nd fun m hm => by have := h m hm; exact ⟨this.1, by have := this.2; omega⟩
    refine for_range (n := g.q.length + 1) (fun i σ H' => Same H H' ∧ (∀ y ∈ rds (wts g.t g.q) i (srt (wts g.t g.q w)), InW y) ∧ (rds (wts g.t g.q) i (srt (wts g.t g.q w))).Nodup ∧ ∃ A, H' A = some (.lst ((rds (wts g.t g.q) i (srt (wts g.t g.q w))).map V.int)) ∧ ∃ u3 u4 u5, σ = [some (.ref c), some (.int w), some (.ref A), u3, u4, u5]) ?start (fun i σ H' hi q => ?turn) (fun σ H' q => ?fin)
    case start =>
      exact ⟨s1, fun y hy => rgf _ _ (mem_srt.mp hy), (srt_perm _).nodup_iff.mpr (ndf w), A0, hA, none, none, none, rfl⟩
    case fin =>
      obtain ⟨sm, rg, nd, A, hA', u3, u4, u5, rfl⟩ := q
      refine ⟨_, rfl, _, rfl, A, _, rfl, .inl (SqL.of hA'), rfl, ints_all _, ?_⟩
      rw [show (if false = true then !inV (V.int w) ((rds (wts g.t g.q) (g.q.length + 1) (srt (wts g.t g.q w))).map V.int) else inV (V.int w) ((rds (wts g.t g.q) (g.q.length + 1) (srt (wts g.t g.q w))).map V.int)) = inV (V.int w) ((rds (wts g.t g.q) (g.q.length + 1) (srt (wts g.t g.q w))).map V.int) from rfl, inV_ints]
      refine k H' _ sm ?_
      rw [decide_eq_true_eq]
      have := rds_end (wts g.t g.q) (q := wq g.q) (fun x hx => Classical.byContradiction fun z => hx (wts_none z)) w
      unfold wq at this
      rw [List.length_map] at this
      exact this
    case turn =>
      obtain ⟨sm, rg, nd, A, hA', u3, u4, u5, rfl⟩ := q
      have x2 := x.same sm
      refine ⟨_, rfl, A, _, rfl, .inl (SqL.of hA'), fun L1 nL => ?_⟩
      show _
      have er : rds (wts g.t g.q) (i + 1) (srt (wts g.t g.q w)) = stF (wts g.t g.q) (rds (wts g.t g.q) i (srt (wts g.t g.q w))) (rds (wts g.t g.q) i (srt (wts g.t g.q w))) := rfl
      rw [er]
      generalize rds (wts g.t g.q) i (srt (wts g.t g.q w)) = s0 at rg nd hA' nL ⊢
      have s2 : Same H' (upd H' L1 (.lst (s0.map V.int))) := same_upd nL
      have hL2 : (upd H' L1 (.lst (s0.map V.int))) L1 = some (.lst (s0.map V.int)) := upd_same
      have hA2 := s2 _ _ hA'
      have sm2 := sm.trans s2
      generalize upd H' L1 (.lst (s0.map V.int)) = H2 at hL2 hA2 sm2 ⊢
      refine ⟨L1, rfl, ⟨_, SqL.of hL2⟩, ?_⟩
      refine for_list (K := K) (a := L1) (xs := s0.map V.int) (fun j σ H3 => Same H2 H3 ∧ (∀ y ∈ stF (wts g.t g.q) s0 (s0.take j), InW y) ∧ (stF (wts g.t g.q) s0 (s0.take j)).Nodup ∧ ∃ B, H3 B = some (.lst ((stF (wts g.t g.q) s0 (s0.take j)).map V.int)) ∧ ∃ u3 u4 u5, σ = [some (.ref c), some (.int w), some (.ref B), u3, u4, u5]) ⟨fun _ _ h => h, rg, nd, A, hA2, _, _, _, rfl⟩ (fun j σ H3 hj q => SqL.of (q.1 _ _ hL2)) (fun j z σ H3 hx q => ?_) (fun σ H3 q => ?_)
      · obtain ⟨sm3, rg3, nd3, B, hB, v3, v4, v5, rfl⟩ := q
        rw [List.getElem?_map] at hx
        obtain ⟨y, hy, rfl⟩ := Option.map_eq_some_iff.mp hx
        have et : stF (wts g.t g.q) s0 (s0.take (j + 1)) = st1 (wts g.t g.q) (stF (wts g.t g.q) s0 (s0.take j)) y := by
          rw [List.take_add_one, hy]; unfold stF; rw [List.foldl_append]; rfl
        rw [et]
        have rg4 : ∀ z ∈ st1 (wts g.t g.q) (stF (wts g.t g.q) s0 (s0.take j)) y, InW z := fun z hz => by
          rcases st1_inv _ hz with m | m
          · exact rg3 z m
          · exact rgf _ _ m
        have nd4 : (st1 (wts g.t g.q) (stF (wts g.t g.q) s0 (s0.take j)) y).Nodup := by
          refine List.nodup_append.mpr ⟨nd3, ((srt_perm _).nodup_iff.mpr (ndf y)).filter _, fun a ha b hb e => ?_⟩
          have := (List.mem_filter.mp hb).2
          rw [decide_eq_true_eq] at this
          exact this (by rw [← e]; exact ha)
        generalize stF (wts g.t g.q) s0 (s0.take j) = sj at rg3 nd3 hB rg4 nd4 ⊢
        have lj := l5 _ nd3 rg3
        have x3 := x.same (sm2.trans sm3)
        have ly := wts_len wf y
        refine ⟨_, rfl, _, rfl, _, rfl, c, g, y, rfl, x3, ⟨S, sok, wf⟩, fun H4 W s4 nW hW => ?_⟩
        have hB4 := s4 _ _ hB
        refine ⟨W, rfl, ⟨_, SqL.of hW⟩, fun Z nZ => ?_⟩
        refine lc_list (K := K) (a := W) (xs := (srt (wts g.t g.q y)).map V.int) (fun m H5 => Same H4 H5 ∧ H5 Z = some (.lst ((((srt (wts g.t g.q y)).take m).filter fun v => decide (v ∉ sj)).map V.int))) ⟨same_upd nZ, upd_same⟩ (fun m H5 hm q => SqL.of (q.1 _ _ hW)) (fun m z H5 hx q => ?_) (fun H5 q => ?_)
        · obtain ⟨sm5, hZ⟩ := q
          rw [List.getElem?_map] at hx
          obtain ⟨v, hv, rfl⟩ := Option.map_eq_some_iff.mp hx
          have et2 : (srt (wts g.t g.q y)).take (m + 1) = (srt (wts g.t g.q y)).take m ++ [v] := by rw [List.take_add_one, hv]; rfl
          have lf : (((srt (wts g.t g.q y)).take m).filter fun v => decide (v ∉ sj)).length ≤ 5 := by
            refine Nat.le_trans (List.length_filter_le _ _) ?_
            rw [List.length_take, srt_len]; omega
          refine ⟨rfl, _, rfl, _, rfl, B, _, rfl, .inl (SqL.of (sm5 _ _ hB4)), rfl, ints_all _, _, rfl, ?_⟩
          rw [show (if true = true then !inV (V.int v) (sj.map V.int) else inV (V.int v) (sj.map V.int)) = decide (v ∉ sj) from by rw [inV_ints]; simp]
          rw [et2, List.filter_append, List.map_append, List.filter_cons, List.filter_nil]
          refine ite2 (fun c2 => ?_) (fun c2 => ?_)
          · rw [if_pos c2]
            refine ⟨_, rfl, _, hZ, by rw [List.length_map, sizeLine_eq]; omega, fun a o h => by rw [upd_ne (ne_of_none h nZ)]; exact sm5 _ _ h, ?_⟩
            rw [upd_same]; rfl
          · rw [if_neg c2]
            refine ⟨sm5, ?_⟩
            rw [hZ]; simp
        obtain ⟨sm5, hZ⟩ := q
        rw [List.length_map, List.take_length] at hZ
        have lw : ((srt (wts g.t g.q y)).filter fun v => decide (v ∉ sj)).length ≤ 5 := by
          refine Nat.le_trans (List.length_filter_le _ _) ?_
          rw [srt_len]; exact ly
        refine ⟨B, Z, _, _, rfl, rfl, sm5 _ _ hB4, hZ, by rw [List.length_map, List.length_map, sizeLine_eq]; omega, fun B2 nB2 => ?_⟩
        refine ⟨fun a o h => ?_, rg4, nd4, B2, ?_, _, _, _, rfl⟩
        · rw [upd_ne (ne_of_none (sm5 _ _ (s4 _ _ (sm3 _ _ h))) nB2)]
          exact sm5 _ _ (s4 _ _ (sm3 _ _ h))
        · rw [upd_same]
          unfold st1
          rw [List.map_append]
      · obtain ⟨sm3, rg3, nd3, B, hB, v3, v4, v5, rfl⟩ := q
        rw [List.length_map, List.take_length] at rg3 nd3 hB
        exact ⟨sm2.trans sm3, rg3, nd3, B, hB, _, _, _, rfl⟩
end
end K16
namespace K16
open PySem L2 HK
theorem svF_len (l : List (Row Str)) : ∀ s : SS, (svF l s).f.length ≤ s.f.length + l.length := by
  induction l with
  | nil => intro s; exact Nat.le_refl _
  | cons r l ih =>
    intro s
    have := ih (sv1 s r)
    show (svF l (sv1 s r)).f.length ≤ s.f.length + (l.length + 1)
    have h1 : (sv1 s r).f.length ≤ s.f.length + 1 := by
      unfold sv1
      split
      · show (s.f ++ [r.1]).length ≤ _; rw [List.length_append]; exact Nat.le_refl _
      · omega
    omega
def spSer : Sp := fun vs H Q _ => ∃ c g, vs = [.ref c] ∧ SAt H c g ∧ (∃ S, Sok S ∧ Inv S g.t g.q) ∧
  ∀ H' g' r, Go c g g' H H' → SAt H' c g' → g'.t = (served g.t g.q).t → g'.q = (served g.t g.q).q → H r = none → r ∉ own c g' → H' r = some (.lst ((served g.t g.q).f.map V.int)) → Q (.ref r) H'
section
variable {P : Program} {w : World} {K : PySem.W.Frag} {mg : Str → Option Value} {base : Heap}
theorem scSer : FnScope ["state", "found", "again", "turn", "row", "queue"] ["state"] (defScope sSer) := ⟨rfl, rfl, rfl, by decide +kernel, rfl, by decide +kernel, by decide +kernel⟩
theorem ok_ser {f fB fT : Addr} {fd fdB fdT : FuncData} (F : L2.Fun K "_law_serve" "_law_serve" sSer f fd) (T : LTx2 mg)
    (FB : FnOk P w K mg base L2.CX0 1 fB fdB ["state", "who", "name", "how"] spBkd) (mB : mg "_law_blocked" = some (.ref fB)) (kB : PySem.W.keepIn K (.ref fB) = true) (bB : Binds K fdB ["state", "who", "name", "how"] [])
    (FT : FnOk P w K mg base L2.CX0 1 fT fdT ["state", "who", "name", "how"] spTke) (mT : mg "_law_take" = some (.ref fT)) (kT : PySem.W.keepIn K (.ref fT) = true) (bT : Binds K fdT ["state", "who", "name", "how"] []) :
    FnOk P w K mg base L2.CX0 2 f fd ["state"] spSer := by
  refine F.ok scSer (fun vs H Q E h => ?_) (fun cdv A outer s H vs Q E hr h => ?_)
  · obtain ⟨c, g, rfl, _⟩ := h
    rfl
  · obtain ⟨c, g, rfl, x, ⟨S, sok, iv⟩, k⟩ := h
    refine ⟨_, pss_cons (ps_par (i := 1) (j := 2) rfl scSer.nd rfl rfl (by decide) rfl rfl (pa_cons (pe_lst pa_nil) (pa_cons pe_bl pa_nil)) rfl)
      (pss_cons (ps_for PassesOwn.never rfl (pi_range1 (by rfl) T.range (pa_cons pe_int pa_nil)) (pg_name (i := 3) scSer.nd rfl (Or.inl rfl))
        (pss_cons (ps_if (pt_not (pt_val (pv 2))) (pss_one ps_break) pss_nil)
        (pss_cons (ps_set (i := 2) scSer.nd rfl (Or.inl rfl) pe_bl)
        (pss_one (ps_for PassesOwn.never rfl (pi_list (pe_callTy call_list_of (by rfl) T.list PyProof.Rows.Boot.«list» (pa_cons (pe_dget (hu_of hr) (pv 0) pe_str (fun _ _ => rfl)) pa_nil))) (pg_name (i := 4) scSer.nd rfl (Or.inl rfl))
          (pss_one (ps_if (pt_cmpR (op_eqD hr.units) (pe_call FB hr (by rfl) mB kB bB .nil pass0 (pa_cons (pv 0) (pa_cons (pe_ix ix_tup (pv 4) pe_int (fun _ _ => rfl)) (pa_cons (pe_ix ix_tup (pv 4) pe_int (fun _ _ => rfl)) (pa_cons (pe_ix ix_tup (pv 4) pe_int (fun _ _ => rfl)) pa_nil))))) (pe_lst pa_nil) (nomark _))
            (pss_cons (ps_set (i := 5) scSer.nd rfl (Or.inl rfl) (pe_dget (hu_of hr) (pv 0) pe_str (fun _ _ => rfl)))
            (pss_cons (ps_expr (pe_bm PySem.F.plainAttrs_list PySem.F.slot_list_remove PySem.F.type_list_remove (HKE.mt_removeD (room65 hr)) (pv 5) (pa_cons (pv 4) pa_nil)))
            (pss_cons (ps_expr (pe_call FT hr (by rfl) mT kT bT .nil pass0 (pa_cons (pv 0) (pa_cons (pe_ix ix_tup (pv 4) pe_int (fun _ _ => rfl)) (pa_cons (pe_ix ix_tup (pv 4) pe_int (fun _ _ => rfl)) (pa_cons (pe_ix ix_tup (pv 4) pe_int (fun _ _ => rfl)) pa_nil))))))
            (pss_cons (ps_expr (pe_bm PySem.F.plainAttrs_list PySem.F.slot_list_append PySem.F.type_list_append mt_append (pv 1) (pa_cons (pe_ix ix_tup (pv 4) pe_int (fun _ _ => rfl)) pa_nil)))
            (pss_one (ps_set (i := 2) scSer.nd rfl (Or.inl rfl) pe_bl)))))) pss_nil)))))))
      (pss_one (ps_ret (pv 1)))), ?_⟩
    refine ⟨by show 0 ≤ sizeLine; decide, fun F0 nF => ⟨_, _, rfl, ?_⟩⟩
    have s1 : Same H (upd H F0 (.lst [])) := same_upd nF
    have hF1 : (upd H F0 (.lst [])) F0 = some (.lst []) := upd_same
    have x1 := x.same s1
    have nF1 := x.new_ne nF
    generalize upd H F0 (.lst []) = H1 at s1 hF1 x1 ⊢
    refine ⟨50, rfl, by decide, by decide, ?_⟩
    refine for_range (n := 50) (fun i σ H' => ∃ gi f b u3 u4 u5, Go c g gi H H' ∧ SAt H' c gi ∧ Inv S gi.t gi.q ∧ H' F0 = some (.lst (f.map V.int)) ∧ F0 ∉ own c gi ∧ f.length ≤ 5 ∧ (i = 0 → gi.t = g.t ∧ gi.q = g.q ∧ f = [] ∧ b = true) ∧ (0 < i → gi.t = (served g.t g.q).t ∧ gi.q = (served g.t g.q).q ∧ f = (served g.t g.q).f) ∧ σ = [some (.ref c), some (.ref F0), some (.bl b), u3, u4, u5])
      ⟨g, [], true, none, none, none, .same s1, x1, iv, hF1, nF1, by simp, fun _ => ⟨rfl, rfl, rfl, rfl⟩, fun h => absurd h (by omega), rfl⟩ (fun i σ H' hi q => ?turn) (fun σ H' q => ?fin)
    case fin =>
      obtain ⟨gi, f, b, u3, u4, u5, go, xi, ivi, hF, nFi, lf, _, st, rfl⟩ := q
      obtain ⟨e1, e2, e3⟩ := st (by omega)
      rw [e3] at hF
      exact ⟨_, rfl, k H' gi F0 go xi e1 e2 nF nFi hF⟩
    case turn =>
      obtain ⟨gi, f, b, u3, u4, u5, go, xi, ivi, hF, nFi, lf, st0, st, rfl⟩ := q
      refine ⟨_, rfl, b, rfl, ?_⟩
      cases b with
      | false =>
        have i0 : 0 < i := Nat.pos_of_ne_zero fun z => by
          have := (st0 z).2.2.2
          cases this
        obtain ⟨e1, e2, e3⟩ := st i0
        rw [e3] at hF
        exact iteT ⟨_, rfl, k H' gi F0 go xi e1 e2 nF nFi hF⟩
      | true =>
        refine iteF ?_
        -- all rows, in their turn
        have lq : gi.q.length = gi.qs.length := lenq gi
        have q5 : gi.qs.length ≤ 5 := wf5 ivi.wf
        refine ⟨_, rfl, c, _, rfl, xi.queueG, gi.l, _, rfl, .inl (SqL.of xi.que.lst), fun L1 nL => ?_⟩
        have s2 : Same H' (upd H' L1 (.lst (gi.qs.map fun y => V.ref y.1))) := same_upd nL
        have hL2 : (upd H' L1 (.lst (gi.qs.map fun y => V.ref y.1))) L1 = some (.lst (gi.qs.map fun y => V.ref y.1)) := upd_same
        have hF2 := s2 _ _ hF
        have x2 := xi.same s2
        have go2 := go.then s2
        have nFL : F0 ≠ L1 := ne_of_none hF nL
        have nL2 : L1 ∉ own c gi := xi.new_ne nL
        have nLH : H L1 = none ∨ L1 ∈ own c g := by
          by_cases m : L1 ∈ own c g
          · exact .inr m
          · left
            cases e : H L1 with
            | none => rfl
            | some o => rw [go.fr L1 o e m] at nL; cases nL
        generalize upd H' L1 (.lst (gi.qs.map fun y => V.ref y.1)) = H2 at hL2 hF2 x2 go2 ⊢
        refine ⟨L1, rfl, ⟨_, SqL.of hL2⟩, ?_⟩
        refine for_list (K := K) (a := L1) (xs := gi.qs.map fun y => V.ref y.1) (fun j σ H3 => ∃ gj b u4 u5, Go c g gj H H3 ∧ SAt H3 c gj ∧ (∀ y ∈ gi.qs, H3 y.1 = some (rowO y.2)) ∧ gj.t = (svF (gi.q.take j) ⟨f, gi.t, gi.q⟩).t ∧ gj.q = (svF (gi.q.take j) ⟨f, gi.t, gi.q⟩).q ∧
            H3 L1 = some (.lst (gi.qs.map fun y => V.ref y.1)) ∧ H3 F0 = some (.lst ((svF (gi.q.take j) ⟨f, gi.t, gi.q⟩).f.map V.int)) ∧ F0 ∉ own c gj ∧ L1 ∉ own c gj ∧ σ = [some (.ref c), some (.ref F0), some (.bl b), some (.int (0 + (i : Int))), u4, u5])
          ⟨gi, false, u4, u5, go2, x2, x2.que.tup, rfl, rfl, hL2, hF2, nFi, nL2, rfl⟩ (fun j σ H3 hj q => ?_) (fun j z σ H3 hx q => ?_) (fun σ H3 q => ?_)
        · obtain ⟨gj, _, _, _, _, _, _, _, _, h, _⟩ := q
          exact SqL.of h
        · obtain ⟨gj, b, v4, v5, goj, xj, rows, et, eq', hL, hFj, nF', nL', rfl⟩ := q
          rw [List.getElem?_map] at hx
          obtain ⟨y, hy, rfl⟩ := Option.map_eq_some_iff.mp hx
          have ym := List.mem_of_getElem? hy
          have hq : gi.q[j]? = some y.2 := by unfold LG.q qf; rw [List.getElem?_map, hy]; rfl
          have hj : j < gi.q.length := (List.getElem?_eq_some_iff.mp hq).1
          have sv := SvI.all (f0 := f) ivi j (by omega)
          have est : svF (gi.q.take (j + 1)) ⟨f, gi.t, gi.q⟩ = sv1 (svF (gi.q.take j) ⟨f, gi.t, gi.q⟩) y.2 := by
            rw [List.take_add_one, hq]; exact svF_snoc _ _ _
          have wf := sv.wf
          obtain ⟨pre, ep, _⟩ := sv.pre
          have inq : y.2 ∈ (svF (gi.q.take j) ⟨f, gi.t, gi.q⟩).q := by
            rw [ep]
            obtain ⟨_, e2⟩ := List.getElem?_eq_some_iff.mp hq
            rw [List.drop_eq_getElem_cons hj, e2]; simp
          have lsf : (svF (gi.q.take j) ⟨f, gi.t, gi.q⟩).f.length ≤ 10 := by
            have h1 := svF_len (gi.q.take j) ⟨f, gi.t, gi.q⟩
            rw [List.length_take] at h1
            have h1 : (svF (gi.q.take j) ⟨f, gi.t, gi.q⟩).f.length ≤ f.length + min j gi.q.length := h1
            omega
          generalize svF (gi.q.take j) ⟨f, gi.t, gi.q⟩ = s at *
          rw [← et, ← eq'] at wf
          rw [← eq'] at inq
          rw [est]
          have hT := rows y ym
          refine ⟨_, rfl, _, rfl, y.1, _, _, _, rfl, rfl, SqT.of hT, at0 _ _ _, _, rfl, y.1, _, _, _, rfl, rfl, SqT.of hT, at1 _ _ _, _, rfl, y.1, _, _, _, rfl, rfl, SqT.of hT, at2 _ _ _, ?_⟩
          refine ⟨c, gj, y.2.1, y.2.2.1, y.2.2.2, rfl, xj, ⟨S, wf⟩, fun H4 r s3 nr hr3 => ?_⟩
          refine ⟨by show 0 ≤ sizeLine; decide, fun e ne => ?_⟩
          have s4 := s3.trans (same_upd (o := .lst []) ne)
          have hr4 : (upd H4 e (.lst [])) r = some (.lst ((srt (raw gj.t gj.q y.2.1 y.2.2.1 y.2.2.2)).map V.int)) := by rw [upd_ne (ne_of_none hr3 ne)]; exact hr3
          refine ⟨_, .list [], dp_ints hr4, Dp.lst (SqL.of upd_same) .nil, shaped_ints _, rfl, ?_⟩
          rw [eqv_srt_nil]
          have go4 := goj.then s4
          have x4 := xj.same s4
          have rows4 : ∀ y ∈ gi.qs, (upd H4 e (.lst [])) y.1 = some (rowO y.2) := fun y hy => s4 _ _ (rows y hy)
          have hL4 := s4 _ _ hL
          have hF4 := s4 _ _ hFj
          generalize upd H4 e (.lst []) = H5 at go4 x4 rows4 hL4 hF4 ⊢
          have cc : (raw s.t s.q y.2.1 y.2.2.1 y.2.2.2 = []) = (raw gj.t gj.q y.2.1 y.2.2.1 y.2.2.2 = []) := by rw [et, eq']
          refine ⟨_, rfl, ite2 (fun c1 => ?_) (fun c1 => ?_)⟩
          · have c1 : raw gj.t gj.q y.2.1 y.2.2.1 y.2.2.2 = [] := by simpa using c1
            have e1 : sv1 s y.2 = ⟨s.f ++ [y.2.1], tk s.t y.2.2.1 y.2.1 y.2.2.2, rmv s.q y.2.1⟩ := by unfold sv1; rw [if_pos (by rw [cc]; exact c1)]
            rw [e1]
            refine ⟨_, rfl, c, _, rfl, x4.queueG, ?_⟩
            refine ⟨_, rfl, .inl ⟨rfl, _, SqL.of x4.que.lst⟩, _, rfl, ?_⟩
            obtain ⟨m, hm⟩ := List.getElem?_of_mem inq
            have hrq : ∀ r ∈ gj.q, r.2.1 ∈ S := fun r hr => (wf.rq r hr).2
            refine ⟨gj.l, _, .ref y.1, rowD y.2, (qf gj.qs).map rowD, m, rowD y.2, rfl, rfl, x4.que.lst, Dp.lst (SqL.of x4.que.lst) (dps_rows x4.que.tup), dp_row (rows4 y ym), shaped_rows sok.nm hrq, shaped_row sok.nm (hrq _ inq), ?_, eqv_row_self _, fun m' z' hm' hz => ?_, ?_⟩
            · rw [List.getElem?_map, show (qf gj.qs)[m]? = some y.2 from hm]; rfl
            · rw [List.getElem?_map] at hz
              obtain ⟨r', hr', rfl⟩ := Option.map_eq_some_iff.mp hz
              refine eqv_row_ne fun e => ?_
              have nd := wf.ndq
              have h1 : (wq gj.q)[m']? = some r'.1 := by unfold wq; rw [List.getElem?_map, show gj.q[m']? = some r' from hr']; rfl
              have h2 : (wq gj.q)[m]? = some y.2.1 := by unfold wq; rw [List.getElem?_map, hm]; rfl
              obtain ⟨b1, b2⟩ := List.getElem?_eq_some_iff.mp h1
              obtain ⟨b3, b4⟩ := List.getElem?_eq_some_iff.mp h2
              have := (List.getElem_inj nd).mp (b2.trans (e.trans b4.symm))
              omega
            rw [map_erase]
            have xq : ∀ z ∈ gj.qs.eraseIdx m, z ∈ gj.qs := fun z hz => List.mem_of_mem_eraseIdx hz
            have x6 : SAt (upd H5 gj.l (.lst ((gj.qs.eraseIdx m).map fun y => V.ref y.1))) c { gj with qs := gj.qs.eraseIdx m } := x4.queue SameX.upd upd_same (fun z hz => by
              rw [upd_ne (ne_of (x4.que.tup z (xq z hz)) x4.que.lst (by intro z; cases z))]; exact x4.que.tup z (xq z hz))
            have go6 := go4.trans (Go.queue (g := gj) (c := c) (qs' := gj.qs.eraseIdx m) (SameX.upd (D := gj.l) (H := H5) (o := .lst ((gj.qs.eraseIdx m).map fun y => V.ref y.1))))
            have nFl : F0 ≠ gj.l := fun e => nF' (by rw [e]; simp [own])
            have nLl : L1 ≠ gj.l := fun e => nL' (by rw [e]; simp [own])
            have hL6 : (upd H5 gj.l (.lst ((gj.qs.eraseIdx m).map fun y => V.ref y.1))) L1 = some (.lst (gi.qs.map fun y => V.ref y.1)) := by rw [upd_ne nLl]; exact hL4
            have hF6 : (upd H5 gj.l (.lst ((gj.qs.eraseIdx m).map fun y => V.ref y.1))) F0 = some (.lst (s.f.map V.int)) := by rw [upd_ne nFl]; exact hF4
            have rows6 : ∀ z ∈ gi.qs, (upd H5 gj.l (.lst ((gj.qs.eraseIdx m).map fun y => V.ref y.1))) z.1 = some (rowO z.2) := fun z hz => by
              rw [upd_ne (ne_of (rows4 z hz) x4.que.lst (by intro z; cases z))]; exact rows4 z hz
            generalize upd H5 gj.l (.lst ((gj.qs.eraseIdx m).map fun y => V.ref y.1)) = H6 at x6 go6 hL6 hF6 rows6 ⊢
            have eq6 : ({ gj with qs := gj.qs.eraseIdx m } : LG).q = rmv s.q y.2.1 := by
              show qf (gj.qs.eraseIdx m) = _
              rw [qf_erase, ← eq']
              exact erase_rmv wf.ndq hm
            have hT6 := rows6 y ym
            refine ⟨_, rfl, _, rfl, y.1, _, _, _, rfl, rfl, SqT.of hT6, at0 _ _ _, _, rfl, y.1, _, _, _, rfl, rfl, SqT.of hT6, at1 _ _ _, _, rfl, y.1, _, _, _, rfl, rfl, SqT.of hT6, at2 _ _ _, ?_⟩
            refine ⟨c, { gj with qs := gj.qs.eraseIdx m }, y.2.1, y.2.2.1, y.2.2.2, rfl, x6, ⟨S, wf.tok, sok.four⟩, fun H7 ho' f7 t7 e7 o7 => ?_⟩
            have x7 := x6.tabs f7 t7 o7
            have go7 := go6.trans (Go.tabs (c := c) f7 o7)
            have kp7 := (Go.tabs (c := c) f7 o7).keepS x6
            have nin : ∀ b, (∃ xs, H6 b = some (.lst xs)) → b ∉ gj.a :: adr gj.ho := fun b ⟨xs, hb⟩ z => by
              rcases List.mem_cons.mp z with e | h
              · rw [e, x6.tab.top] at hb; cases hb
              · obtain ⟨y', hy', e⟩ := List.mem_map.mp h
                rw [← e, x6.tab.inn y' hy'] at hb; cases hb
            have hL7 := f7 _ _ hL6 (nin _ ⟨_, hL6⟩)
            have hF7 := f7 _ _ hF6 (nin _ ⟨_, hF6⟩)
            have hT7 := kp7 _ _ hT6
            have out : ∀ b o, H6 b = some o → b ∉ own c gj → b ∉ own c { gj with qs := gj.qs.eraseIdx m, ho := ho' } := fun b o hb nb z => by
              rcases (Go.tabs (c := c) (g := { gj with qs := gj.qs.eraseIdx m }) f7 o7).ow b z with k1 | k1
              · exact nb k1
              · rw [hb] at k1; cases k1
            refine ⟨_, rfl, .inl ⟨rfl, _, SqL.of hF7⟩, _, rfl, y.1, _, _, _, rfl, rfl, SqT.of hT7, at0 _ _ _, F0, _, _, rfl, rfl, hF7, by rw [List.length_map, sizeLine_eq]; omega, ?_⟩
            have nF8 := out _ _ hF6 nF'
            have x8 : SAt (upd H7 F0 (.lst (s.f.map V.int ++ [.int y.2.1]))) c { gj with qs := gj.qs.eraseIdx m, ho := ho' } := by
              have st : ∀ b o, H7 b = some o → b ≠ F0 → (upd H7 F0 (.lst (s.f.map V.int ++ [.int y.2.1]))) b = some o := fun b o hb n => by rw [upd_ne n]; exact hb
              have no : ∀ b, b ∈ own c { gj with qs := gj.qs.eraseIdx m, ho := ho' } → b ≠ F0 := fun b hb e => nF8 (by rw [← e]; exact hb)
              refine ⟨st _ _ x7.top (no _ (by simp [own])), ⟨st _ _ x7.tab.top (no _ (by simp [own])), fun y' hy' => st _ _ (x7.tab.inn y' hy') (no _ ?_), x7.tab.nd⟩, ⟨st _ _ x7.que.lst (no _ (by simp [own])), fun y' hy' => st _ _ (x7.que.tup y' hy') (ne_of (x7.que.tup y' hy') hF7 (by intro z; cases z))⟩, x7.nca⟩
              unfold own
              exact List.mem_cons_of_mem _ (List.mem_cons_of_mem _ (List.mem_cons_of_mem _ (List.mem_map_of_mem hy')))
            refine ⟨{ gj with qs := gj.qs.eraseIdx m, ho := ho' }, true, _, _, ?_, x8, fun z hz => ?_, ?_, eq6, ?_, ?_, nF8, out _ _ hL6 nL', rfl⟩
            · refine ⟨fun b o hb nb => ?_, go7.ow⟩
              rw [upd_ne (ne_of_none hb nF)]
              exact go7.fr b o hb nb
            · rw [upd_ne (ne_of (kp7 _ _ (rows6 z hz)) hF7 (by intro z; cases z))]; exact kp7 _ _ (rows6 z hz)
            · show fg ho' = _
              rw [e7, ← et]; rfl
            · rw [upd_ne (Ne.symm nFL)]; exact hL7
            · rw [upd_same, List.map_append]; rfl
          · have c1 : ¬ raw gj.t gj.q y.2.1 y.2.2.1 y.2.2.2 = [] := by simpa using c1
            have e1 : sv1 s y.2 = s := by unfold sv1; rw [if_neg (by rw [cc]; exact c1)]
            rw [e1]
            exact ⟨gj, _, _, _, go4, x4, rows4, et, eq', hL4, hF4, nF', nL', rfl⟩
        · obtain ⟨gj, b, v4, v5, goj, xj, rows, et, eq', hL, hFj, nF', nL', rfl⟩ := q
          rw [List.length_map, ← lq, List.take_length] at et eq' hFj
          have fin : Inv S gj.t gj.q ∧ (svF gi.q ⟨f, gi.t, gi.q⟩).f.length ≤ 5 ∧ gj.t = (served g.t g.q).t ∧ gj.q = (served g.t g.q).q ∧ (svF gi.q ⟨f, gi.t, gi.q⟩).f = (served g.t g.q).f := by
            by_cases i0 : i = 0
            · obtain ⟨e1, e2, e3, _⟩ := st0 i0
              have es : svF gi.q ⟨f, gi.t, gi.q⟩ = served g.t g.q := by rw [e1, e2, e3]; rfl
              rw [es] at et eq' ⊢
              have so := served_ok iv
              rw [et, eq']
              refine ⟨so.1, ?_, rfl, rfl, rfl⟩
              have l1 := svF_len g.q ⟨[], g.t, g.q⟩
              have l2 : g.q.length = g.qs.length := lenq g
              have l3 := wf5 iv.wf
              show (svF g.q ⟨[], g.t, g.q⟩).f.length ≤ 5
              have l4 : (svF g.q ⟨[], g.t, g.q⟩).f.length ≤ 0 + g.q.length := l1
              omega
            · obtain ⟨e1, e2, e3⟩ := st (Nat.pos_of_ne_zero i0)
              have bl : Blk gi.t gi.q := by rw [e1, e2]; exact (served_ok iv).2
              have es : svF gi.q ⟨f, gi.t, gi.q⟩ = ⟨f, gi.t, gi.q⟩ := sv_blk (s := ⟨f, gi.t, gi.q⟩) bl gi.q fun r hr => hr
              rw [es] at et eq' ⊢
              rw [et, eq']
              exact ⟨ivi, lf, e1, e2, e3⟩
          exact ⟨gj, _, b, _, _, _, goj, xj, fin.1, hFj, nF', fin.2.1, fun z => absurd z (by omega), fun _ => ⟨fin.2.2.1, fin.2.2.2.1, fin.2.2.2.2⟩, rfl⟩
end
end K16
namespace K16
open PySem L2 HK
/-! ### leaving, whatever the order of names -/
def lvx (w : Int) (D : List Str) (x : Str × Hs) : Option (Str × Hs) := if x.1 ∈ D ∧ w ∈ whos x.2 then (if dropH x.2 w = [] then none else some (x.1, dropH x.2 w)) else some x
theorem fm_congr {α β : Type} {f g : α → Option β} : ∀ {l : List α}, (∀ x ∈ l, f x = g x) → l.filterMap f = l.filterMap g
  | [], _ => rfl
  | a :: l, h => by
    rw [List.filterMap_cons, List.filterMap_cons, h a (by simp), fm_congr fun x hx => h x (by simp [hx])]
theorem lk_of {t : Tb Str} (nd : (t.map (·.1)).Nodup) {x : Str × Hs} (h : x ∈ t) : lk t x.1 = x.2 := by
  induction t with
  | nil => cases h
  | cons a r ih =>
    have nd' := List.nodup_cons.mp nd
    show (if a.1 = x.1 then a.2 else lk r x.1) = x.2
    rcases List.mem_cons.mp h with z | z
    · rw [if_pos (by rw [z]), z]
    · rw [if_neg (fun e => nd'.1 (by show a.1 ∈ _; rw [e]; exact List.mem_map_of_mem z))]
      exact ih nd'.2 z
theorem lv_one {t : Tb Str} (nd : (t.map (·.1)).Nodup) (n : Str) (w : Int) : (if w ∈ whos (lk t n) then drp t n w else t) = t.filterMap (lvx w [n]) := by
  by_cases c : w ∈ whos (lk t n)
  · rw [if_pos c]
    unfold drp
    by_cases d : dropH (lk t n) w = []
    · rw [if_pos d]
      unfold delT
      rw [← List.filterMap_eq_filter]
      refine fm_congr fun x hx => ?_
      unfold lvx
      by_cases e : x.1 = n
      · have e2 : x.2 = lk t n := by rw [← e, lk_of nd hx]
        rw [if_pos ⟨by simp [e], by rw [e2]; exact c⟩, if_pos (by rw [e2]; exact d)]
        simp [Option.guard, e]
      · rw [if_neg (fun z => e (by simpa using z.1))]
        simp [Option.guard, e]
    · rw [if_neg d]
      have hin : n ∈ t.map (·.1) := Classical.byContradiction fun z => by
        have : ∀ t : Tb Str, n ∉ t.map (·.1) → lk t n = [] := by
          intro t
          induction t with
          | nil => intro _; rfl
          | cons a r ih =>
            intro h
            show (if a.1 = n then a.2 else lk r n) = []
            rw [if_neg (fun e => h (by simp [e]))]
            exact ih fun k => h (List.mem_cons_of_mem _ k)
        rw [this t z] at c; cases c
      unfold setT
      rw [if_pos hin, ← List.filterMap_eq_map]
      refine fm_congr fun x hx => ?_
      unfold lvx
      by_cases e : x.1 = n
      · have e2 : x.2 = lk t n := by rw [← e, lk_of nd hx]
        rw [if_pos ⟨by simp [e], by rw [e2]; exact c⟩, if_neg (by rw [e2]; exact d), e2]
        simp [e]
      · rw [if_neg (fun z => e (by simpa using z.1))]
        simp [e]
  · rw [if_neg c]
    have : t.filterMap (lvx w [n]) = t.filterMap some := fm_congr fun x hx => by
      unfold lvx
      rw [if_neg]
      rintro ⟨z1, z2⟩
      have e : x.1 = n := by simpa using z1
      rw [← lk_of nd hx, e] at z2
      exact c z2
    rw [this, List.filterMap_some]
theorem lv_all {w : Int} : ∀ {D : List Str} {t : Tb Str}, (t.map (·.1)).Nodup → lvD w D t = t.filterMap (lvx w D)
  | [], t, _ => by
    show t = _
    have : t.filterMap (lvx w []) = t.filterMap some := fm_congr fun x _ => by unfold lvx; rw [if_neg (by simp)]
    rw [this, List.filterMap_some]
  | n :: D, t, nd => by
    show lvD w D (if w ∈ whos (lk t n) then drp t n w else t) = _
    have nd2 : ((if w ∈ whos (lk t n) then drp t n w else t).map (·.1)).Nodup := by
      split
      · unfold drp
        split
        · exact List.Sublist.nodup (List.Sublist.map (fun y : Str × Hs => y.1) (List.filter_sublist (l := t))) nd
        · exact ndk_set nd _ _
      · exact nd
    rw [lv_all nd2, lv_one nd n w, List.filterMap_filterMap]
    refine fm_congr fun x _ => ?_
    unfold lvx
    by_cases c : x.1 ∈ [n] ∧ w ∈ whos x.2
    · rw [if_pos c]
      have c2 : x.1 ∈ n :: D ∧ w ∈ whos x.2 := ⟨by have := c.1; simp at this; simp [this], c.2⟩
      rw [if_pos c2]
      split
      · rfl
      · show (if _ then _ else _) = _
        rw [if_neg]
        rintro ⟨_, z⟩
        exact (mem_whos_drop.mp z).2 rfl
    · rw [if_neg c]
      show (if _ then _ else _) = _
      by_cases d : x.1 ∈ D ∧ w ∈ whos x.2
      · have d2 : x.1 ∈ n :: D ∧ w ∈ whos x.2 := ⟨List.mem_cons_of_mem _ d.1, d.2⟩
        rw [if_pos d, if_pos d2]
      · rw [if_neg d, if_neg]
        rintro ⟨z1, z2⟩
        rcases List.mem_cons.mp z1 with k | k
        · exact c ⟨by simp [k], z2⟩
        · exact d ⟨k, z2⟩
theorem lv_perm {w : Int} {D E : List Str} {t : Tb Str} (nd : (t.map (·.1)).Nodup) (h : ∀ n, n ∈ D ↔ n ∈ E) : lvD w D t = lvD w E t := by
  rw [lv_all nd, lv_all nd]
  refine fm_congr fun x _ => ?_
  unfold lvx
  exact ifc (by rw [h])
end K16
namespace K16
open PySem L2 HK
structure ToldTxt (K : PySem.W.Frag) (mg : Str → Option Value) (CE g : Addr) : Prop where
  m : mg "_law_told" = some (.ref g)
  k : PySem.W.keepIn K (.ref g) = true
  fn : ∃ (oc kV doc pm cdv ct : Value) (od an : Option Addr) (osl : Array (Option Value)),
    K.lookup g = some ⟨oc, od, .func (PySem.W.fnOf "_law_told" "_law_told" (defArgs sTold) (defBody sTold) (defScope sTold) .none kV doc pm an cdv ct), osl⟩ ∧ PySem.W.codeIn K cdv "_law_told" = true
  mF : mg "ProcessError" = some (.ref CE)
theorem scTold : FnScope ["what"] ["what"] (defScope sTold) := ⟨rfl, rfl, rfl, by decide +kernel, rfl, by decide +kernel, by decide +kernel⟩
theorem pe_told {X : Cx} {C g c P : Addr} {k : Nat} {params : Arguments} {body : Expr} {scope : Scope} {t : XK → TE} {p lpos pos : Pos} (TT : ToldTxt X.K X.mg C g) (TB : LamX.TabB X.base X.mg c P) (hcode : X.env.code = .ref c)
    (hg : Gl X "_law_told") (hr : Room (k + 2) X.A) (L : LamX.LamS X.env.scope scope) (hdef : defaultsOf params X.env = ([], []))
    (hbind : ∀ (q : Str) (cl : List (Str × Addr)) (pm cv ctv : Value), bindArgs (PySem.W.kla_fn "<lambda>" q params body scope cl pm cv ctv) ⟨[], []⟩ = pure [])
    (hbody : ∀ (A : Around) (outer : List Env) (s : Shared) (H : Hp) (E : XK) (f c' : Addr), Room k (A.deeper (LamX.lamEnv X scope s.heap.objs.size f c')) → PE (LamX.lamCx X A outer s H E scope f c') body (t E)) :
    PE X (.Call (.Name "_law_told" p) [.Lambda params body scope lpos] [] pos) (LamX.tLam [(P, X.env.qual ++ "<lambda>")] (LamX.TTold X.K C "ProcessError") t) := by
  obtain ⟨oc, kV, doc, pm, cdv, ct, od, an, osl, lk, hcd⟩ := TT.fn
  refine LamX.pe_lamcall (Ng := ["what"]) (a := "what") hg TT.m TT.k lk hcd (.all fun us hl => match us, hl with | [_], _ => rfl) scTold rfl (Or.inl rfl) (LamX.told_gives (e := "ProcessError") rfl TT.mF rfl (fun _ => rfl)) TB hcode List.mem_cons_self (fun q hq _ => ?_) hr L hdef hbind hbody
  rw [List.mem_singleton.mp hq]
/-! ### what stands through the law -/
abbrev lamQ : Str := "law.<locals>.<lambda>"
/-- what is no tuple, no table, no code object -/
def Soft (o : Option HO) : Prop := (∃ xs, o = some (.lst xs)) ∨ (∃ k, o = some (.dK k)) ∨ ∃ C dx fs, o = some (.ins C dx fs)
theorem Soft.lst {xs : List V} : Soft (some (.lst xs)) := .inl ⟨_, rfl⟩
theorem Soft.dK {k : List (Key × V)} : Soft (some (.dK k)) := .inr (.inl ⟨_, rfl⟩)
theorem Soft.ins {C dx : Addr} {fs : List (Str × V)} : Soft (some (.ins C dx fs)) := .inr (.inr ⟨_, _, _, rfl⟩)
theorem Soft.not_tup {o : Option HO} (h : Soft o) (xs : List V) : o ≠ some (.tup xs) := by
  rcases h with ⟨_, h⟩ | ⟨_, h⟩ | ⟨_, _, _, h⟩ <;> rw [h] <;> intro z <;> cases z
theorem Soft.not_tbl {o : Option HO} (h : Soft o) (ps : Array Value) : o ≠ some (.tbl ps) := by
  rcases h with ⟨_, h⟩ | ⟨_, h⟩ | ⟨_, _, _, h⟩ <;> rw [h] <;> intro z <;> cases z
theorem Soft.not_code {o : Option HO} (h : Soft o) (c : Addr) (q : Str) : o ≠ some (LamX.CodeO c q) := by
  rcases h with ⟨_, h⟩ | ⟨_, h⟩ | ⟨_, _, _, h⟩ <;> rw [h] <;> intro z <;> unfold LamX.CodeO at z <;> cases z
/-- all stands but what is soft and at l -/
def Mv (l : List Addr) (H H' : Hp) : Prop := (∀ b ∈ l, Soft (H b)) ∧ ∀ b o, H b = some o → b ∉ l → H' b = some o
theorem Mv.tabs {l : List Addr} {H H' : Hp} {T : List (Addr × Str)} (m : Mv l H H') (h : LamX.Tabs T H) : LamX.Tabs T H' := fun p hp => by
  obtain ⟨ps, h1, h2, h3⟩ := h p hp
  refine ⟨ps, m.2 _ _ h1 (fun hd => (m.1 _ hd).not_tbl ps h1), h2, fun pos cv hc => ?_⟩
  obtain ⟨c, e1, e2⟩ := h3 pos cv hc
  exact ⟨c, e1, m.2 _ _ e2 (fun hd => (m.1 _ hd).not_code c _ e2)⟩
theorem Mv.keep {l : List Addr} {H H' : Hp} (m : Mv l H H') : Keep H H' := fun t xs h => m.2 _ _ h (fun hd => (m.1 _ hd).not_tup xs h)
abbrev S4 : List Str := ["p", "q", "r", "s"]
theorem s4ok : Sok S4 := ⟨by decide, fun n hn => by
  simp only [List.mem_cons, List.not_mem_nil, or_false] at hn
  rcases hn with e | e | e | e <;> rw [e] <;> decide +kernel⟩
theorem LAt.soft {CL : Addr} {H : Hp} {c : Addr} {g : LG} (x : LAt CL H c g) : ∀ b ∈ own c g, Soft (H b) := fun b h => by
  unfold own at h
  rcases List.mem_cons.mp h with e | h
  · rw [e, x.ins]; exact Soft.ins
  rcases List.mem_cons.mp h with e | h
  · rw [e, x.que.lst]; exact Soft.lst
  rcases List.mem_cons.mp h with e | h
  · rw [e, x.tab.top]; exact Soft.dK
  obtain ⟨y, hy, e⟩ := List.mem_map.mp h
  rw [← e, x.tab.inn y hy]; exact Soft.dK
theorem SAt.soft {H : Hp} {c : Addr} {g : LG} (x : SAt H c g) : ∀ b ∈ own c g, Soft (H b) := fun b h => by
  unfold own at h
  rcases List.mem_cons.mp h with e | h
  · rw [e, x.top]; exact Soft.dK
  rcases List.mem_cons.mp h with e | h
  · rw [e, x.que.lst]; exact Soft.lst
  rcases List.mem_cons.mp h with e | h
  · rw [e, x.tab.top]; exact Soft.dK
  obtain ⟨y, hy, e⟩ := List.mem_map.mp h
  rw [← e, x.tab.inn y hy]; exact Soft.dK
theorem LAt.fr {CL : Addr} {l : List Addr} {H H' : Hp} {c : Addr} {g : LG} (x : LAt CL H c g) (m : Mv l H H') (n : ∀ b ∈ own c g, b ∉ l) : LAt CL H' c g :=
  ⟨m.2 _ _ x.ins (n _ (by simp [own])), ⟨m.2 _ _ x.tab.top (n _ (by simp [own])), fun y hy => m.2 _ _ (x.tab.inn y hy) (n _ (by unfold own; exact List.mem_cons_of_mem _ (List.mem_cons_of_mem _ (List.mem_cons_of_mem _ (List.mem_map_of_mem hy))))), x.tab.nd⟩,
   ⟨m.2 _ _ x.que.lst (n _ (by simp [own])), fun y hy => m.keep _ _ (x.que.tup y hy)⟩⟩
theorem SAt.fr {l : List Addr} {H H' : Hp} {c : Addr} {g : LG} (x : SAt H c g) (m : Mv l H H') (n : ∀ b ∈ own c g, b ∉ l) : SAt H' c g :=
  ⟨m.2 _ _ x.top (n _ (by simp [own])), ⟨m.2 _ _ x.tab.top (n _ (by simp [own])), fun y hy => m.2 _ _ (x.tab.inn y hy) (n _ (by unfold own; exact List.mem_cons_of_mem _ (List.mem_cons_of_mem _ (List.mem_cons_of_mem _ (List.mem_map_of_mem hy))))), x.tab.nd⟩,
   ⟨m.2 _ _ x.que.lst (n _ (by simp [own])), fun y hy => m.keep _ _ (x.que.tup y hy)⟩, x.nca⟩
theorem LAt.ext {CL : Addr} {H H' : Hp} {c : Addr} {g : LG} (x : LAt CL H c g) (s : LamX.ExtN H H') : LAt CL H' c g :=
  ⟨s _ _ x.ins (fun _ z => by cases z), ⟨s _ _ x.tab.top (fun _ z => by cases z), fun y hy => s _ _ (x.tab.inn y hy) (fun _ z => by cases z), x.tab.nd⟩, ⟨s _ _ x.que.lst (fun _ z => by cases z), fun y hy => s _ _ (x.que.tup y hy) (fun _ z => by cases z)⟩⟩
theorem SAt.ext {H H' : Hp} {c : Addr} {g : LG} (x : SAt H c g) (s : LamX.ExtN H H') : SAt H' c g :=
  ⟨s _ _ x.top (fun _ z => by cases z), ⟨s _ _ x.tab.top (fun _ z => by cases z), fun y hy => s _ _ (x.tab.inn y hy) (fun _ z => by cases z), x.tab.nd⟩, ⟨s _ _ x.que.lst (fun _ z => by cases z), fun y hy => s _ _ (x.que.tup y hy) (fun _ z => by cases z)⟩, x.nca⟩
/-- the dice, its row, the tables of code, the locks, the law's own state: in step or not -/
structure WL (CL R PT D c sd : Addr) (gp gl : LG) (dc : Dice) (H : Hp) : Prop where
  dice : H D = some (.lst dc.vs)
  row : H R = some (.lst [.ref D])
  tabs : LamX.Tabs [(PT, lamQ)] H
  loc : LAt CL H c gp
  st : SAt H sd gl
  apt : ∀ b ∈ own c gp, b ∉ own sd gl
  nDR : D ≠ R
  nDc : D ∉ own c gp
  nDs : D ∉ own sd gl
  nRc : R ∉ own c gp
  nRs : R ∉ own sd gl
section
variable {CL R PT D c sd : Addr} {gp gl : LG} {dc : Dice} {H H' : Hp}
theorem WL.same (x : WL CL R PT D c sd gp gl dc H) (s : Same H H') : WL CL R PT D c sd gp gl dc H' := { x with dice := s _ _ x.dice, row := s _ _ x.row, tabs := x.tabs.ext s, loc := x.loc.same s, st := x.st.same s }
theorem WL.ext (x : WL CL R PT D c sd gp gl dc H) (s : LamX.ExtN H H') (t : LamX.Tabs [(PT, lamQ)] H') : WL CL R PT D c sd gp gl dc H' :=
  { x with dice := s _ _ x.dice (fun _ z => by cases z), row := s _ _ x.row (fun _ z => by cases z), tabs := t, loc := x.loc.ext s, st := x.st.ext s }
theorem WL.rolled (x : WL CL R PT D c sd gp gl dc H) {dc' : Dice} (s : SameX D H H') (h : H' D = some (.lst dc'.vs)) : WL CL R PT D c sd gp gl dc' H' := by
  have m : Mv [D] H H' := ⟨fun b hb => by rw [List.mem_singleton.mp hb, x.dice]; exact Soft.lst, fun b o hb n => s b o (fun e => n (by rw [e]; simp)) hb⟩
  exact { x with dice := h, row := s _ _ x.nDR.symm x.row, tabs := m.tabs x.tabs, loc := x.loc.fr m (fun b hb z => x.nDc (by rw [← List.mem_singleton.mp z]; exact hb)), st := x.st.fr m (fun b hb z => x.nDs (by rw [← List.mem_singleton.mp z]; exact hb)) }
/-- the locks go on -/
theorem WL.locks (x : WL CL R PT D c sd gp gl dc H) {gp' : LG} (go : Go c gp gp' H H') (l' : LAt CL H' c gp') : WL CL R PT D c sd gp' gl dc H' := by
  have m : Mv (own c gp) H H' := ⟨x.loc.soft, go.fr⟩
  have nw : ∀ {b : Addr}, b ∉ own c gp → (∃ o, H b = some o) → b ∉ own c gp' := fun {b} n ⟨o, ho⟩ z => by
    rcases go.ow b z with k | k
    · exact n k
    · rw [ho] at k; cases k
  refine { x with dice := m.2 _ _ x.dice x.nDc, row := m.2 _ _ x.row x.nRc, tabs := m.tabs x.tabs, loc := l', st := x.st.fr m (fun b hb z => x.apt b z hb), apt := fun b hb z => ?_, nDc := nw x.nDc ⟨_, x.dice⟩, nRc := nw x.nRc ⟨_, x.row⟩ }
  rcases go.ow b hb with k | k
  · exact x.apt b k z
  · obtain ⟨o, ho, _⟩ := x.st.there z
    rw [ho] at k; cases k
/-- the law's own state goes on -/
theorem WL.state (x : WL CL R PT D c sd gp gl dc H) {gl' : LG} (go : Go sd gl gl' H H') (s' : SAt H' sd gl') : WL CL R PT D c sd gp gl' dc H' := by
  have m : Mv (own sd gl) H H' := ⟨x.st.soft, go.fr⟩
  have nw : ∀ {b : Addr}, b ∉ own sd gl → (∃ o, H b = some o) → b ∉ own sd gl' := fun {b} n ⟨o, ho⟩ z => by
    rcases go.ow b z with k | k
    · exact n k
    · rw [ho] at k; cases k
  refine { x with dice := m.2 _ _ x.dice x.nDs, row := m.2 _ _ x.row x.nRs, tabs := m.tabs x.tabs, loc := x.loc.fr m (fun b hb z => x.apt b hb z), st := s', apt := fun b hb z => ?_, nDs := nw x.nDs ⟨_, x.dice⟩, nRs := nw x.nRs ⟨_, x.row⟩ }
  rcases go.ow b z with k | k
  · exact x.apt b hb k
  · obtain ⟨o, ho, _⟩ := x.loc.there hb
    rw [ho] at k; cases k
end
end K16
namespace K16
open PySem L2 HK
structure LTxt2 (P : Program) (w : World) (K : PySem.W.Frag) (mg : Str → Option Value) (base : Heap) (CL CE g : Addr) : Prop where
  told : ToldTxt K mg CE g
  e11 : PySem.W.exmOne K (.ref CE) (.ref CE) = some true
  X : LTxt K mg CL CE
  G : LTx2 mg
  rounds : ∃ f fd, FnOk P w K mg base L2.CX0 2 f fd ["script", "most"] (spRounds K) ∧ mg "_law_rounds" = some (.ref f) ∧ PySem.W.keepIn K (.ref f) = true ∧ Binds K fd ["script", "most"] []
  roll : ∃ f fd, FnOk P w K mg base L2.CX0 1 f fd ["dice", "many"] spRoll ∧ mg "_law_roll" = some (.ref f) ∧ PySem.W.keepIn K (.ref f) = true ∧ Binds K fd ["dice", "many"] []
  bkd : ∃ f fd, FnOk P w K mg base L2.CX0 1 f fd ["state", "who", "name", "how"] spBkd ∧ mg "_law_blocked" = some (.ref f) ∧ PySem.W.keepIn K (.ref f) = true ∧ Binds K fd ["state", "who", "name", "how"] []
  wai : ∃ f fd, FnOk P w K mg base L2.CX0 2 f fd ["state", "who"] spWai ∧ mg "_law_waits" = some (.ref f) ∧ PySem.W.keepIn K (.ref f) = true ∧ Binds K fd ["state", "who"] []
  rin : ∃ f fd, FnOk P w K mg base L2.CX0 3 f fd ["state", "who"] spRin ∧ mg "_law_ring" = some (.ref f) ∧ PySem.W.keepIn K (.ref f) = true ∧ Binds K fd ["state", "who"] []
  tke : ∃ f fd, FnOk P w K mg base L2.CX0 1 f fd ["state", "who", "name", "how"] spTke ∧ mg "_law_take" = some (.ref f) ∧ PySem.W.keepIn K (.ref f) = true ∧ Binds K fd ["state", "who", "name", "how"] []
  ser : ∃ f fd, FnOk P w K mg base L2.CX0 2 f fd ["state"] spSer ∧ mg "_law_serve" = some (.ref f) ∧ PySem.W.keepIn K (.ref f) = true ∧ Binds K fd ["state"] []
  dro : ∃ f fd, FnOk P w K mg base L2.CX0 1 f fd ["state", "who", "name"] spDro ∧ mg "_law_drop" = some (.ref f) ∧ PySem.W.keepIn K (.ref f) = true ∧ Binds K fd ["state", "who", "name"] []
  init : ∃ f fd, FnOk P w K mg base L2.CX0 1 f fd ["self"] (spInit CL) ∧ Mk K CL f ∧ Binds K fd ["self"] []
  hof : ∃ f fd, FnOk P w K mg base L2.CX0 1 f fd ["self", "name"] (spHof CL) ∧ Meth K CL "holders_of" f ∧ Binds K fd ["self", "name"] []
  fit : ∃ f fd, FnOk P w K mg base L2.CX0 2 f fd ["self", "who", "name", "how"] (spFit CL) ∧ Meth K CL "fits" f ∧ Binds K fd ["self", "who", "name", "how"] []
  ahd : ∃ f fd, FnOk P w K mg base L2.CX0 1 f fd ["self", "who", "name"] (spAhd CL) ∧ Meth K CL "ahead" f ∧ Binds K fd ["self", "who", "name"] []
  blk : ∃ f fd, FnOk P w K mg base L2.CX0 2 f fd ["self", "who", "name", "how"] (spBlk CL) ∧ Meth K CL "blockers" f ∧ Binds K fd ["self", "who", "name", "how"] []
  ask : ∃ f fd, FnOk P w K mg base (L2.CX P w) 5 f fd ["self", "who", "name", "how"] (spAsk CL CE) ∧ Meth K CL "ask" f ∧ Binds K fd ["self", "who", "name", "how"] []
  wts : ∃ f fd, FnOk P w K mg base L2.CX0 3 f fd ["self", "who"] (spWts CL) ∧ Meth K CL "waits_for" f ∧ Binds K fd ["self", "who"] []
  rng : ∃ f fd, FnOk P w K mg base L2.CX0 4 f fd ["self", "who"] (spRng CL) ∧ Meth K CL "in_ring" f ∧ Binds K fd ["self", "who"] []
  rel : ∃ f fd, FnOk P w K mg base (L2.CX P w) 4 f fd ["self", "who", "name"] (spRel CL CE) ∧ Meth K CL "release" f ∧ Binds K fd ["self", "who", "name"] []
  lve : ∃ f fd, FnOk P w K mg base L2.CX0 4 f fd ["self", "who"] (spLve CL) ∧ Meth K CL "leave" f ∧ Binds K fd ["self", "who"] []
  shw : ∃ f fd, FnOk P w K mg base L2.CX0 1 f fd ["self"] (spShw CL) ∧ Meth K CL "shown" f ∧ Binds K fd ["self"] []
def forBody : Stmt → List Stmt
  | .For _ _ b _ _ => b
  | _ => []
def ifBody : Stmt → List Stmt
  | .If _ b _ _ => b
  | _ => []
def elseBody : Stmt → List Stmt
  | .If _ _ b _ => b
  | _ => []
abbrev noS : Stmt := .Pass ⟨0, 0, 0, 0⟩
abbrev lawBody : List Stmt := defBody sLaw
abbrev diceBody : List Stmt := forBody (lawBody.getD 0 noS)
abbrev stepBody : List Stmt := forBody (diceBody.getD 1 noS)
abbrev NL : List Str := ["script", "dice", "state", "step", "sort", "busy", "due", "queue", "told_now", "one", "held", "rows", "how", "locks", "name", "who", "row", "other"]
theorem scLaw : FnScope NL ["script"] (defScope sLaw) := ⟨rfl, rfl, rfl, by decide +kernel, rfl, by decide +kernel, by decide +kernel⟩
abbrev LCx (P : Program) (w : World) (K : PySem.W.Frag) (mg : Str → Option Value) (base : Heap) (f c : Addr) (A : Around) (outer : List Env) (s : Shared) (H : Hp) (E : XK) : Cx := (cxOf L2.CX0 P w K mg base NL "law" (defScope sLaw) f (.ref c) A outer s H E).nox
def outLSc : Stmt → Scope
  | .Assign _ (.Call _ [.ListComp _ _ sc _] _ _) _ => { sc with names := sc.names.map fun q => if q.2 == NameKind.free then (q.1, NameKind.cell) else q }
  | _ => default
abbrev outL : Scope := outLSc (stepBody.getD 3 noS)
abbrev teL (K : PySem.W.Frag) : TE := tTup (tCons (tVar 9) (tCons (tCB (rTupOf K) (tCons (tLc (iList K (tCB rSDI (tCons (tDGet (tVar 10) (tVar 9)) tNil))) (gName 17) tYes (tTup (tCons (tVar 17) (tCons (tDGet (tDGet (tVar 10) (tVar 9)) (tVar 17)) tNil))) [17]) tNil)) tNil))
theorem lay_pair (l : Hs) (w : Int) : (pairD l w).canLay0 = true ∧ (pairD l w).depth ≤ 1 := by
  have := hw_ok ((lkI l w).getD false)
  constructor
  · simp [pairD, PyData.canLay0, PyData.canLayAll0, this]
  · simp [pairD, PyData.depth, PyData.depthAll]
theorem lay_nm (t : Tb Str) {n : Str} (h : PyData.strOk n = true) : (nmD t n).canLay0 = true ∧ (nmD t n).depth ≤ 3 := by
  have h1 : PyData.canLayAll0 ((srt (whos (lk t n))).map (pairD (lk t n))) = true := canAll fun d hd => by
    obtain ⟨w, _, rfl⟩ := List.mem_map.mp hd
    exact (lay_pair _ _).1
  have h2 : PyData.depthAll ((srt (whos (lk t n))).map (pairD (lk t n))) ≤ 1 := depAll fun d hd => by
    obtain ⟨w, _, rfl⟩ := List.mem_map.mp hd
    exact (lay_pair _ _).2
  constructor
  · simp [nmD, PyData.canLay0, PyData.canLayAll0, h, h1]
  · simp [nmD, PyData.depth, PyData.depthAll]; omega
theorem shaped_sh {S : List Str} (ok : NmOk S) {t : Tb Str} {ys : List Str} {q : List (Row Str)} (hy : ∀ n ∈ ys, n ∈ S) (hq : ∀ r ∈ q, r.2.1 ∈ S) : SeqAt.shaped (shD t ys q) = true := by
  have h1 : PyData.canLayAll0 (ys.map (nmD t)) = true := canAll fun d hd => by
    obtain ⟨n, hn, rfl⟩ := List.mem_map.mp hd
    exact (lay_nm t (ok n (hy n hn))).1
  have h2 : PyData.depthAll (ys.map (nmD t)) ≤ 3 := depAll fun d hd => by
    obtain ⟨n, hn, rfl⟩ := List.mem_map.mp hd
    exact (lay_nm t (ok n (hy n hn))).2
  have h3 : PyData.canLayAll0 (q.map rowD) = true := canAll fun d hd => by
    obtain ⟨r, hr, rfl⟩ := List.mem_map.mp hd
    exact SeqAt.canLay_of_shaped (shaped_row ok (hq r hr))
  have h4 : PyData.depthAll (q.map rowD) ≤ 1 := depAll fun d hd => by
    obtain ⟨r, hr, rfl⟩ := List.mem_map.mp hd
    simp [rowD, PyData.depth, PyData.depthAll]
  simp [SeqAt.shaped, shD, PyData.canLay0, PyData.canLayAll0, PyData.depth, PyData.depthAll, h1, h3]; omega
section
variable {P : Program} {w : World} {K : PySem.W.Frag} {mg : Str → Option Value} {base : Heap} {CL CE g0 : Addr}
/-- what is shown is the same, nobody waits for themselves -/
theorem shown_ok (L : LTxt2 P w K mg base CL CE g0) {f c0 : Addr} {A : Around} {outer : List Env} {s : Shared} {H0 : Hp} {E9 : XK} (hr : Room 7 (LCx P w K mg base f c0 A outer s H0 E9).A) :
    ∃ t, PSs (LCx P w K mg base f c0 A outer s H0 E9) ((stepBody.drop 2).take 4) t ∧ ∀ (R PT a D c sd : Addr) (gp gl : LG) (dc : Dice) (wv : Int) (n : Str) (Dn : Ends) (H : Hp) (u3 u4 u5 u6 u7 u8 u9 u10 u11 u12 u16 u17 : Option V),
      WL CL R PT D c sd gp gl dc H → Inv S4 gp.t gp.q → gl.t = gp.t → gl.q = gp.q →
      (∀ H' u9 u11, WL CL R PT D c sd gp gl dc H' → Dn.nx [some (.ref a), some (.ref D), some (.ref sd), u3, u4, u5, u6, u7, u8, u9, some (.ref gl.a), u11, u12, some (.ref c), some (.str n), some (.int wv), u16, u17] H') →
      t Dn [some (.ref a), some (.ref D), some (.ref sd), u3, u4, u5, u6, u7, u8, u9, u10, u11, u12, some (.ref c), some (.str n), some (.int wv), u16, u17] H := by
  have T := L.X
  have G := L.G
  obtain ⟨fSh, dSh, FSh, mSh, bSh⟩ := L.shw
  obtain ⟨fW, dW, FW, mW, bW⟩ := L.wts
  obtain ⟨fR, dR, FR, mR, bR⟩ := L.rng
  obtain ⟨fV, dV, FV, mV, kV, bV⟩ := L.wai
  have rSh := FSh.mono (show 1 ≤ 7 by decide)
  have rW := FW.mono (show 3 ≤ 7 by decide)
  have rR := FR.mono (show 4 ≤ 7 by decide)
  have rV := FV.mono (show 2 ≤ 7 by decide)
  refine ⟨_, pss_cons (ps_set (i := 10) scLaw.nd rfl (Or.inr rfl) (pe_dget (hu_of hr) (pv 2) pe_str (fun _ _ => rfl)))
    (pss_cons (ps_set (i := 11) scLaw.nd rfl (Or.inl rfl) (pe_callTy call_tuple_of (by rfl) G.tup PyProof.Rows.Boot.«tuple» (pa_cons
      (pe_lc (own := [("one", 9)]) (g := gName 9) (te := teL K) (by rfl) scLaw.nd (pi_list (pe_callB (call_sortedD rfl) (by rfl) G.sorted (by decide +kernel) (pa_cons (pv 10) pa_nil))) (blkOk_by (N := NL) (sc := defScope sLaw) (by decide +kernel))
        (fun _ _ _ _ _ => pg_name (i := 9) scLaw.nd rfl (Or.inr rfl)) (fun _ _ _ _ _ => pts_nil)
        (fun _ _ _ _ _ => pe_tup (pa_cons (pv 9) (pa_cons (pe_callTy (r := rTupOf K) (by exact call_tuple_of) (by rfl) G.tup PyProof.Rows.Boot.«tuple» (pa_cons
          (pe_lc (own := [("other", 17)]) (g := gName 17) (by rfl) scLaw.nd (pi_list (pe_callB (r := rSDI) (by exact call_sortedDI rfl) (by rfl) G.sorted (by decide +kernel) (pa_cons (pe_dget (by exact hu_of hr) (pv 10) (pv 9) (fun _ _ => rfl)) pa_nil))) (blkOk_by (N := NL) (sc := outL) (by decide +kernel))
            (fun _ _ _ _ _ => pg_name (i := 17) scLaw.nd rfl (Or.inl rfl)) (fun _ _ _ _ _ => pts_nil)
            (fun _ _ _ _ _ => pe_tup (pa_cons (pv 17) (pa_cons (pe_dget (by exact hu_of hr) (pe_dget (by exact hu_of hr) (pv 10) (pv 9) (fun _ _ => rfl)) (pv 17) (fun _ _ => rfl)) pa_nil)))) pa_nil)) pa_nil)))) pa_nil)))
    (pss_cons (ps_if (pt_cmpR (op_neD hr.units) (pe_meth0 (pv 13) T.cl mSh rSh hr bSh .nil pass0) (pe_tup (pa_cons (pv 11) (pa_cons (pe_callTy call_tuple_of (by rfl) G.tup PyProof.Rows.Boot.«tuple» (pa_cons (pe_dget (hu_of hr) (pv 2) pe_str (fun _ _ => rfl)) pa_nil)) pa_nil))) (nomark _)) (pss_one (ps_ret pe_bl)) pss_nil)
    (pss_one (ps_for PassesOwn.never rfl (pi_range2 (by rfl) G.range (pa_cons pe_int (pa_cons pe_int pa_nil))) (pg_name (i := 9) scLaw.nd rfl (Or.inl rfl))
      (pss_one (ps_if (PW.pt (pw_or (pt_cmpR (op_neD hr.units) (pe_meth (pv 13) T.cl mW rW hr bW .nil pass0 (pa_cons (pv 9) pa_nil)) (pe_call rV hr (by rfl) mV kV bV .nil pass0 (pa_cons (pv 2) (pa_cons (pv 9) pa_nil))) (nomark _))
        (pw_or1 (pt_val (pe_meth (pv 13) T.cl mR rR hr bR .nil pass0 (pa_cons (pv 9) pa_nil)))))) (pss_one (ps_ret pe_bl)) pss_nil)))))), ?_⟩
  intro R PT a D c sd gp gl dc wv n Dn H u3 u4 u5 u6 u7 u8 u9 u10 u11 u12 u16 u17 x iv et eq' k
  have iv2 : Inv S4 gl.t gl.q := by rw [et, eq']; exact iv
  have few : gl.ho.length ≤ 4 := iv2.tok.few (by decide)
  have q5 : gl.qs.length ≤ 5 := wf5 iv2.wf
  have nk := iv2.tok.nk
  have ek : gl.t.map (·.1) = gl.ho.map (·.1) := keys_fg gl.ho
  refine ⟨_, rfl, sd, _, rfl, x.st.held, ?_⟩
  refine ⟨_, rfl, gl.a, kvT gl.ho, gl.ho.map (·.1), rfl, .inl x.st.tab.top, ?_, by rw [List.length_map]; omega, fun ys Y pm so nY => ?_⟩
  · unfold kvT; rw [List.map_map, List.map_map]; rfl
  have s1 : Same H (upd H Y (.lst (ys.map V.str))) := same_upd nY
  have hY : (upd H Y (.lst (ys.map V.str))) Y = some (.lst (ys.map V.str)) := upd_same
  have x1 := x.st.same s1
  generalize upd H Y (.lst (ys.map V.str)) = H1 at s1 hY x1 ⊢
  have ly : ys.length ≤ 4 := by rw [pm.length_eq, List.length_map]; exact few
  refine ⟨Y, rfl, ⟨_, SqL.of hY⟩, fun Z nZ => ?_⟩
  refine lc_list (K := K) (a := Y) (xs := ys.map V.str) (fun i H' => Same H1 H' ∧ ∃ vs, H' Z = some (.lst vs) ∧ TDs H' vs ((ys.take i).map (nmD gl.t))) ⟨same_upd nZ, [], upd_same, .nil⟩ (fun i H' hi q => SqL.of (q.1 _ _ hY)) (fun i z H' hx q => ?_) (fun H' q => ?_)
  · obtain ⟨sm, vs, hZ, td⟩ := q
    rw [List.getElem?_map] at hx
    obtain ⟨n', hn, rfl⟩ := Option.map_eq_some_iff.mp hx
    have nm : n' ∈ gl.ho.map (·.1) := pm.mem_iff.mp (List.mem_of_getElem? hn)
    obtain ⟨y, hy, ey⟩ := key_of nm
    have hv := val_fg nk hy
    have el := lk_fg nk hy
    rw [ey] at hv el
    have el : lk gl.t n' = y.2.2 := el
    have nd2 : (whos y.2.2).Nodup := by rw [← el]; exact iv2.tok.nd n'
    have l5 : y.2.2.length ≤ 5 := by rw [← el]; exact iv2.tok.len n'
    have dg : ∀ H2, Same H1 H2 → DGet H2 gl.a (.str n') (some (.ref y.2.1)) := fun H2 s2 => by
      have := dGet_k (k := .inr n') (.inl (s2 _ _ x1.tab.top))
      rw [hv] at this; exact this
    have hin : ∀ H2, Same H1 H2 → H2 y.2.1 = some (.dK (kvH y.2.2)) := fun H2 s2 => s2 _ _ (x1.tab.inn y hy)
    refine ⟨rfl, _, rfl, _, rfl, _, rfl, gl.a, _, rfl, dg _ sm, y.2.1, kvH y.2.2, whos y.2.2, rfl, .inl (hin _ sm), ?_, by unfold whos; rw [List.length_map]; omega, fun ws W pw sw nW => ?_⟩
    · unfold kvH whos; rw [List.map_map, List.map_map]; rfl
    have ew := srt_of pw sw
    subst ew
    have s3 : Same H' (upd H' W (.lst ((srt (whos y.2.2)).map V.int))) := same_upd nW
    have hW : (upd H' W (.lst ((srt (whos y.2.2)).map V.int))) W = some (.lst ((srt (whos y.2.2)).map V.int)) := upd_same
    have hZ3 := s3 _ _ hZ
    have td3 := td.keep (Keep.of s3)
    have sm3 := sm.trans s3
    generalize upd H' W (.lst ((srt (whos y.2.2)).map V.int)) = H3 at hW hZ3 td3 sm3 ⊢
    have lw : (srt (whos y.2.2)).length ≤ 5 := by rw [srt_len]; unfold whos; rw [List.length_map]; exact l5
    refine ⟨W, rfl, ⟨_, SqL.of hW⟩, fun Z2 nZ2 => ?_⟩
    refine lc_list (K := K) (a := W) (xs := (srt (whos y.2.2)).map V.int) (fun j H4 => Same H3 H4 ∧ ∃ us, H4 Z2 = some (.lst us) ∧ TDs H4 us (((srt (whos y.2.2)).take j).map (pairD y.2.2))) ⟨same_upd nZ2, [], upd_same, .nil⟩ (fun j H4 hj q => SqL.of (q.1 _ _ hW)) (fun j z H4 hx q => ?_) (fun H4 q => ?_)
    · obtain ⟨sm4, us, hZ4, td4⟩ := q
      rw [List.getElem?_map] at hx
      obtain ⟨wv, hwv, rfl⟩ := Option.map_eq_some_iff.mp hx
      have wm : wv ∈ whos y.2.2 := mem_srt.mp (List.mem_of_getElem? hwv)
      obtain ⟨b, hb⟩ : ∃ b, lkI y.2.2 wv = some b := by
        cases e : lkI y.2.2 wv with
        | none => exact absurd wm (lkI_none.mp e)
        | some b => exact ⟨b, rfl⟩
      have sm14 := sm3.trans sm4
      have dg2 : DGet H4 y.2.1 (.int wv) (some (.str (hw b))) := by
        have := dGet_k (k := .inl wv) (.inl (hin _ sm14))
        rw [valV_kvH, hb] at this; exact this
      refine ⟨rfl, _, rfl, _, rfl, _, rfl, gl.a, _, rfl, dg _ sm14, _, rfl, y.2.1, _, rfl, dg2, by show 2 ≤ sizeLine; decide, fun T2 nT => ?_⟩
      have s5 : Same H4 (upd H4 T2 (.tup [.int wv, .str (hw b)])) := same_upd nT
      have hT : (upd H4 T2 (.tup [.int wv, .str (hw b)])) T2 = some (.tup [.int wv, .str (hw b)]) := upd_same
      have hZ5 := s5 _ _ hZ4
      have td5 := td4.keep (Keep.of s5)
      generalize upd H4 T2 (.tup [.int wv, .str (hw b)]) = H5 at s5 hT hZ5 td5 ⊢
      have et2 : (srt (whos y.2.2)).take (j + 1) = (srt (whos y.2.2)).take j ++ [wv] := by rw [List.take_add_one, hwv]; rfl
      have lus := td5.len
      rw [List.length_map, List.length_take] at lus
      refine ⟨_, hZ5, by rw [sizeLine_eq]; omega, fun a o h => ?_, us ++ [.ref T2], upd_same, ?_⟩
      · rw [upd_ne (ne_of_none h nZ2)]; exact s5 _ _ (sm4 _ _ h)
      · rw [et2, List.map_append]
        refine TDs.snoc ?_ (td5.keep (Keep.lst hZ5))
        have hT' : (upd H5 Z2 (.lst (us ++ [.ref T2]))) T2 = some (.tup [.int wv, .str (hw b)]) := Keep.lst hZ5 _ _ hT
        show TD _ _ (.tuple [.int wv, .str (hw ((lkI y.2.2 wv).getD false))])
        rw [hb]
        exact .tup hT' (.cons (.int _) (.cons (.str _) .nil))
    · obtain ⟨sm4, us, hZ4, td4⟩ := q
      rw [List.length_map, List.take_length] at td4
      have hZ0 := sm4 _ _ hZ3
      have td0 := td3.keep (Keep.of sm4)
      have sm14 := sm3.trans sm4
      refine ⟨Z2, us, rfl, .inl ⟨SqL.of hZ4, fun T3 nT3 => ?_⟩⟩
      have s5 : Same H4 (upd H4 T3 (.tup us)) := same_upd nT3
      have hT3 : (upd H4 T3 (.tup us)) T3 = some (.tup us) := upd_same
      have hZ5 := s5 _ _ hZ0
      have td5 := td0.keep (Keep.of s5)
      have tu5 := td4.keep (Keep.of s5)
      have sm5 := sm14.trans s5
      generalize upd H4 T3 (.tup us) = H5 at s5 hT3 hZ5 td5 tu5 sm5 ⊢
      refine ⟨by show 2 ≤ sizeLine; decide, fun T4 nT4 => ?_⟩
      have s6 : Same H5 (upd H5 T4 (.tup [.str n', .ref T3])) := same_upd nT4
      have hT4 : (upd H5 T4 (.tup [.str n', .ref T3])) T4 = some (.tup [.str n', .ref T3]) := upd_same
      have hZ6 := s6 _ _ hZ5
      have td6 := td5.keep (Keep.of s6)
      have tu6 := tu5.keep (Keep.of s6)
      have hT36 := s6 _ _ hT3
      have sm6 := sm5.trans s6
      generalize upd H5 T4 (.tup [.str n', .ref T3]) = H6 at hT4 hZ6 td6 tu6 hT36 sm6 ⊢
      have et2 : ys.take (i + 1) = ys.take i ++ [n'] := by rw [List.take_add_one, hn]; rfl
      have lvs := td6.len
      rw [List.length_map, List.length_take] at lvs
      refine ⟨_, hZ6, by rw [sizeLine_eq]; omega, fun a o h => ?_, vs ++ [.ref T4], upd_same, ?_⟩
      · rw [upd_ne (ne_of_none h nZ)]; exact sm6 _ _ h
      · rw [et2, List.map_append]
        have kp := Keep.lst (o := .lst (vs ++ [.ref T4])) hZ6
        refine TDs.snoc ?_ (td6.keep kp)
        show TD _ _ (.tuple [.str n', .tuple ((srt (whos (lk gl.t n'))).map (pairD (lk gl.t n')))])
        rw [el]
        exact .tup (kp _ _ hT4) (.cons (.str _) (.cons (.tup (kp _ _ hT36) (tu6.keep kp)) .nil))
  obtain ⟨sm, vs, hZ, td⟩ := q
  rw [List.length_map, List.take_length] at td
  have sH : Same H H' := s1.trans sm
  refine ⟨Z, vs, rfl, .inl ⟨SqL.of hZ, fun T5 nT5 => ?_⟩⟩
  have s2 : Same H' (upd H' T5 (.tup vs)) := same_upd nT5
  have h5 : (upd H' T5 (.tup vs)) T5 = some (.tup vs) := upd_same
  have td2 := td.keep (Keep.of s2)
  have x2 := x.same (sH.trans s2)
  generalize upd H' T5 (.tup vs) = H2 at h5 td2 x2 ⊢
  clear s2 sH sm hZ td x1 hY s1
  -- the same is shown
  refine ⟨_, rfl, c, gp.cx, _, rfl, x2.loc.ins, rfl, c, gp, rfl, x2.loc, ⟨S4, s4ok, iv.wf⟩, fun H3 r ys' s3 pm' so' td3 => ?_⟩
  have h53 := s3 _ _ h5
  have td23 := td2.keep (Keep.of s3)
  have x3 := x2.same s3
  refine ⟨_, rfl, _, rfl, sd, _, rfl, x3.st.queueG, gl.l, _, rfl, .inl ⟨SqL.of x3.st.que.lst, fun T6 nT6 => ?_⟩⟩
  have s4 : Same H3 (upd H3 T6 (.tup (gl.qs.map fun y => V.ref y.1))) := same_upd nT6
  have h6 : (upd H3 T6 (.tup (gl.qs.map fun y => V.ref y.1))) T6 = some (.tup (gl.qs.map fun y => V.ref y.1)) := upd_same
  have td4 := td23.keep (Keep.of s4)
  have tq4 := (td_rows x3.st.que.tup).keep (Keep.of s4)
  have h54 := s4 _ _ h53
  have tr4 := td3.keep (Keep.of s4)
  have x4 := x3.same s4
  generalize upd H3 T6 (.tup (gl.qs.map fun y => V.ref y.1)) = H4 at h6 td4 tq4 h54 tr4 x4 ⊢
  refine ⟨by show 2 ≤ sizeLine; decide, fun T7 nT7 => ?_⟩
  have s5 : Same H4 (upd H4 T7 (.tup [.ref T5, .ref T6])) := same_upd nT7
  have kp := Keep.of s5
  have tl5 : TD (upd H4 T7 (.tup [.ref T5, .ref T6])) (.ref T7) (shD gl.t ys gl.q) := .tup upd_same (.cons (.tup (kp _ _ h54) (td4.keep kp)) (.cons (.tup (kp _ _ h6) (tq4.keep kp)) .nil))
  have tr5 := tr4.keep kp
  have x5 := x4.same s5
  generalize upd H4 T7 (.tup [.ref T5, .ref T6]) = H5 at tl5 tr5 x5 ⊢
  have ey : ys' = ys := ss_unique (pm'.trans ((by rw [← et, ek] : gp.t.map (·.1) = gl.ho.map (·.1)) ▸ pm.symm)) so' so
  rw [ey, ← et, ← eq'] at tr5
  have sh : SeqAt.shaped (shD gl.t ys gl.q) = true := shaped_sh s4ok.nm (fun m hm => by
    have : m ∈ gl.ho.map (·.1) := pm.mem_iff.mp hm
    obtain ⟨y, hy, e⟩ := key_of this
    rw [← e]
    exact iv2.ks (y.1, y.2.2) (List.mem_map.mpr ⟨y, hy, rfl⟩)) (fun r hr => (iv2.rq r hr).2)
  refine ⟨_, _, tr5.dp, tl5.dp, sh, sh, _, rfl, ?_⟩
  rw [SeqAt.eqv_refl _ (SeqAt.canLay_of_shaped sh)]
  refine iteF ?_
  clear td23 td4 tq4 tr4 tl5 tr5 h6 h54 h53 td3 td2 h5
  -- nobody waits for themselves
  refine ⟨1, 6, rfl, ⟨by decide, by decide, by decide, by decide⟩, ?_⟩
  refine for_range (lo := 1) (n := 5) (fun i σ H' => WL CL R PT D c sd gp gl dc H' ∧ ∃ v9, σ = [some (.ref a), some (.ref D), some (.ref sd), u3, u4, u5, u6, u7, u8, v9, some (.ref gl.a), some (.ref T5), u12, some (.ref c), some (.str n), some (.int wv), u16, u17]) ⟨x5, u9, rfl⟩ (fun i σ H' hi q => ?_) (fun σ H' q => ?_)
  · obtain ⟨x6, v9, rfl⟩ := q
    refine ⟨_, rfl, c, gp.cx, _, rfl, x6.loc.ins, rfl, _, rfl, c, gp, 1 + (i : Int), rfl, x6.loc, ⟨S4, iv.wf, s4ok.four⟩, fun H7 r7 s7 n7 h7 => ?_⟩
    have x7 := x6.same s7
    refine ⟨_, rfl, _, rfl, sd, gl, 1 + (i : Int), rfl, x7.st, ⟨S4, s4ok, iv2.wf⟩, fun H8 r8 s8 n8 h8 => ?_⟩
    have x8 := x7.same s8
    rw [et, eq'] at h8
    have h78 := s8 _ _ h7
    refine ⟨_, _, dp_ints h78, dp_ints h8, shaped_ints _, shaped_ints _, _, rfl, ?_⟩
    rw [SeqAt.eqv_refl _ (SeqAt.canLay_of_shaped (shaped_ints _))]
    refine iteF ?_
    refine ⟨_, rfl, c, gp.cx, _, rfl, x8.loc.ins, rfl, _, rfl, c, gp, 1 + (i : Int), rfl, x8.loc, ⟨S4, iv.wf, s4ok.four⟩, fun H9 b s9 hb => ?_⟩
    have x9 := x8.same s9
    have b0 : b = false := by
      cases b with
      | false => rfl
      | true => exact absurd (hb.mp rfl) (iv.acy _)
    rw [b0]
    exact ⟨_, rfl, iteF ⟨x9, _, rfl⟩⟩
  · obtain ⟨x6, v9, rfl⟩ := q
    exact k H' v9 _ x6
end
end K16
namespace K16
open PySem L2 HK
abbrev relIf : Stmt := (elseBody (stepBody.getD 1 noS)).getD 0 noS
abbrev relBody : List Stmt := ifBody relIf
abbrev lveBody : List Stmt := elseBody relIf
abbrev askBody : List Stmt := ifBody (stepBody.getD 1 noS)
/-- both in step, and what stands -/
structure WS (CL R PT D c sd : Addr) (gp gl : LG) (dc : Dice) (H : Hp) : Prop where
  wl : WL CL R PT D c sd gp gl dc H
  iv : Inv S4 gp.t gp.q
  bl : Blk gp.t gp.q
  et : gl.t = gp.t
  eq : gl.q = gp.q
section
variable {P : Program} {w : World} {K : PySem.W.Frag} {mg : Str → Option Value} {base : Heap} {CL CE g0 : Addr}
theorem rel_ok (L : LTxt2 P w K mg base CL CE g0) {f c0 PT : Addr} {A : Around} {outer : List Env} {s : Shared} {H0 : Hp} {E9 : XK} (TB : LamX.TabB base mg c0 PT) (hr : Room 7 (LCx P w K mg base f c0 A outer s H0 E9).A) :
    ∃ t, PSs (LCx P w K mg base f c0 A outer s H0 E9) relBody t ∧ ∀ (R a D c sd : Addr) (gp gl : LG) (dc : Dice) (wv : Int) (n : Str) (Dn : Ends) (H : Hp) (u3 u4 u5 u6 u7 u8 u9 u10 u11 u12 u16 u17 : Option V),
      WS CL R PT D c sd gp gl dc H →
      (∀ H' gp' gl' u8, WS CL R PT D c sd gp' gl' dc H' → Dn.nx [some (.ref a), some (.ref D), some (.ref sd), u3, u4, u5, u6, u7, u8, u9, u10, u11, u12, some (.ref c), some (.str n), some (.int wv), u16, u17] H') →
      (∀ H' u8, WS CL R PT D c sd gp gl dc H' → Dn.ct [some (.ref a), some (.ref D), some (.ref sd), u3, u4, u5, u6, u7, u8, u9, u10, u11, u12, some (.ref c), some (.str n), some (.int wv), u16, u17] H') →
      t Dn [some (.ref a), some (.ref D), some (.ref sd), u3, u4, u5, u6, u7, u8, u9, u10, u11, u12, some (.ref c), some (.str n), some (.int wv), u16, u17] H := by
  have T := L.X
  have lexm := L.e11
  obtain ⟨fL, dL, FL, mL, bL⟩ := L.rel
  obtain ⟨fD, dD, FD, mD, kD, bD⟩ := L.dro
  obtain ⟨fS, dS, FS, mS, kS, bS⟩ := L.ser
  have rL := FL.mono (show 4 ≤ 5 by decide)
  have rD := FD.mono (show 1 ≤ 7 by decide)
  have rS := FS.mono (show 2 ≤ 7 by decide)
  refine ⟨_, pss_cons (ps_set (i := 8) scLaw.nd rfl (Or.inl rfl) (pe_told (k := 5) L.told TB rfl (by rfl) hr (LamX.lamS_by (sc := defScope sLaw) (by decide +kernel)) rfl (fun _ _ _ _ _ => rfl)
        (fun A1 o1 s1 H1 E1 f1 c1 hr5 => pe_meth (pv 13) T.cl mL rL hr5 bL .nil (passes_call (takes_of rfl rfl rfl rfl) (fun _ _ _ _ h => h)) (pa_cons (pv 15) (pa_cons (pv 14) pa_nil)))))
    (pss_cons (ps_if (pt_cmp (pc_dnotin (hu_of hr) (pv 15) (pe_dget2 (hu_of hr) (pe_dget (hu_of hr) (pv 2) pe_str (fun _ _ => rfl)) (pv 14) pe_dnewK ⟨rfl, rfl, rfl, rfl⟩)))
      (pss_cons (ps_if (pt_cmpR (op_neD hr.units) (pv 8) pe_str (nomark _)) (pss_one (ps_ret pe_bl)) pss_nil) (pss_one ps_continue)) pss_nil)
    (pss_cons (ps_expr (pe_call rD hr (by rfl) mD kD bD .nil pass0 (pa_cons (pv 2) (pa_cons (pv 15) (pa_cons (pv 14) pa_nil)))))
    (pss_one (ps_if (pt_cmpR (op_neD hr.units) (pv 8) (pe_call rS hr (by rfl) mS kS bS .nil pass0 (pa_cons (pv 2) pa_nil)) (nomark _)) (pss_one (ps_ret pe_bl)) pss_nil)))), ?_⟩
  intro R a D c sd gp gl dc wv n Dn H u3 u4 u5 u6 u7 u8 u9 u10 u11 u12 u16 u17 x knx kct
  refine ⟨x.wl.tabs, fun H1 e1 t1 => ?_⟩
  have w1 := x.wl.ext e1 t1
  have x1 : WS CL R PT D c sd gp gl dc H1 := { x with wl := w1 }
  clear x e1 t1 w1
  refine ⟨_, rfl, c, gp.cx, _, rfl, x1.wl.loc.ins, rfl, _, rfl, _, rfl, c, gp, wv, n, rfl, x1.wl.loc, ?_⟩
  have tail : ∀ (H2 : Hp), SAt H2 sd gl → ∀ p, H2 p = none → ∃ b, (valV (kvT gl.ho) (.inr n)).getD (.ref p) = .ref b ∧ (upd H2 p (.dK [])) b = some (.dK (kvH (lk gp.t n))) := fun H2 st p hp => by
    have := get_hs st.tab n hp
    rw [← x1.et]
    exact this
  by_cases hin : wv ∈ whos (lk gp.t n)
  · refine .inr ⟨hin, ⟨S4, s4ok, x1.iv, x1.bl⟩, fun H2 gp' r go lo e1 e2 nr nr2 hrr => ?_⟩
    have w2 := x1.wl.locks go lo
    have nrs : r ∉ own sd gl := fun z => by
      rcases nr with k | k
      · obtain ⟨o, ho, _⟩ := x1.wl.st.there z
        rw [ho] at k; cases k
      · exact x1.wl.apt r k z
    refine ⟨_, rfl, _, rfl, sd, _, rfl, w2.st.held, gl.a, rfl, .inl ⟨_, .inl w2.st.tab.top⟩, _, rfl, fun nd hnd => ?_⟩
    obtain ⟨b, eb, hb⟩ := tail H2 w2.st nd hnd
    have s3 : Same H2 (upd H2 nd (.dK [])) := same_upd hnd
    have w3 := w2.same s3
    have hr3 := s3 _ _ hrr
    refine ⟨_, dGet_k (k := .inr n) (.inl w3.st.tab.top), ?_⟩
    rw [eb]
    generalize upd H2 nd (.dK []) = H3 at hb s3 w3 hr3 ⊢
    refine ⟨b, _, rfl, dGet_k (k := .inl wv) (.inl hb), _, rfl, ?_⟩
    rw [show (valV (kvH (lk gp.t n)) (.inl wv)).isSome = true from inH_iff.mpr hin]
    refine iteF ?_
    have iv2 : Inv S4 gl.t gl.q := by rw [x1.et, x1.eq]; exact x1.iv
    refine ⟨_, rfl, _, rfl, _, rfl, sd, gl, wv, n, rfl, w3.st, ⟨S4, iv2.tok, s4ok.four⟩, by rw [x1.et]; exact hin, fun H4 ho' f4 t4 e4 o4 => ?_⟩
    have g4 := Go.tabs (c := sd) (g := gl) f4 (fun b hb => .inl (o4 b hb))
    have st4 := w3.st.tabs f4 t4 (fun b hb => .inl (o4 b hb))
    have w4 := w3.state g4 st4
    have hr4 := g4.fr _ _ hr3 nrs
    have iv4 : Inv S4 ({ gl with ho := ho' } : LG).t ({ gl with ho := ho' } : LG).q := by
      show Inv S4 (fg ho') gl.q
      rw [e4, x1.et, x1.eq]
      exact x1.iv.release x1.bl hin
    refine ⟨_, rfl, _, rfl, sd, { gl with ho := ho' }, rfl, w4.st, ⟨S4, s4ok, iv4⟩, fun H5 gl' r2 g5 st5 e5 e6 n5 n6 h5 => ?_⟩
    have w5 := w4.state g5 st5
    have hr5 := (g4.trans g5).fr _ _ hr3 nrs
    have es : served ({ gl with ho := ho' } : LG).t ({ gl with ho := ho' } : LG).q = served (drp gp.t n wv) gp.q := by
      show served (fg ho') gl.q = _
      rw [e4, x1.et, x1.eq]
    rw [es] at e5 e6 h5
    refine ⟨_, _, dp_ints hr5, dp_ints h5, shaped_ints _, shaped_ints _, _, rfl, ?_⟩
    rw [SeqAt.eqv_refl _ (SeqAt.canLay_of_shaped (shaped_ints _))]
    refine iteF (knx H5 gp' gl' _ ⟨w5, ?_, ?_, by rw [e5, e1], by rw [e6, e2]⟩)
    · rw [e1, e2]; exact (served_ok (x1.iv.release x1.bl hin)).1
    · rw [e1, e2]; exact (served_ok (x1.iv.release x1.bl hin)).2
  · refine .inl ⟨hin, fun H2 s2 => ⟨true, lexm, fun _ => ?_, fun z => Bool.noConfusion z⟩⟩
    have w2 := x1.wl.same s2
    refine ⟨_, rfl, _, rfl, sd, _, rfl, w2.st.held, gl.a, rfl, .inl ⟨_, .inl w2.st.tab.top⟩, _, rfl, fun nd hnd => ?_⟩
    obtain ⟨b, eb, hb⟩ := tail H2 w2.st nd hnd
    have s3 : Same H2 (upd H2 nd (.dK [])) := same_upd hnd
    have w3 := w2.same s3
    refine ⟨_, dGet_k (k := .inr n) (.inl w3.st.tab.top), ?_⟩
    rw [eb]
    generalize upd H2 nd (.dK []) = H3 at hb s3 w3 ⊢
    refine ⟨b, _, rfl, dGet_k (k := .inl wv) (.inl hb), _, rfl, ?_⟩
    have hn : (valV (kvH (lk gp.t n)) (.inl wv)).isSome = false := by
      cases e : (valV (kvH (lk gp.t n)) (.inl wv)).isSome with
      | false => rfl
      | true => exact absurd (inH_iff.mp e) hin
    rw [hn]
    refine iteT ?_
    have so : PyData.strOk ("ProcessError" : Str) = true := by decide +kernel
    refine ⟨_, rfl, .str "ProcessError", .str "ProcessError", Dp.str _, Dp.str _, by simp [SeqAt.shaped, PyData.canLay0, PyData.depth, so], by simp [SeqAt.shaped, PyData.canLay0, PyData.depth, so], _, rfl, ?_⟩
    rw [SeqAt.eqv_refl _ (by simp [PyData.canLay0, so])]
    exact iteF (kct H3 _ { x1 with wl := w3 })
end
end K16
namespace K16
open PySem L2 HK
section
variable {P : Program} {w : World} {K : PySem.W.Frag} {mg : Str → Option Value} {base : Heap} {CL CE g0 : Addr}
theorem lve_ok (L : LTxt2 P w K mg base CL CE g0) {f c0 : Addr} {A : Around} {outer : List Env} {s : Shared} {H0 : Hp} {E9 : XK} (hr : Room 7 (LCx P w K mg base f c0 A outer s H0 E9).A) :
    ∃ t, PSs (LCx P w K mg base f c0 A outer s H0 E9) lveBody t ∧ ∀ (R PT a D c sd : Addr) (gp gl : LG) (dc : Dice) (wv : Int) (n : Str) (Dn : Ends) (H : Hp) (u3 u4 u5 u6 u7 u8 u9 u10 u11 u12 u16 u17 : Option V),
      WS CL R PT D c sd gp gl dc H →
      (∀ H' gp' gl' u8 u9, WS CL R PT D c sd gp' gl' dc H' → Dn.nx [some (.ref a), some (.ref D), some (.ref sd), u3, u4, u5, u6, u7, u8, u9, u10, u11, u12, some (.ref c), some (.str n), some (.int wv), u16, u17] H') →
      t Dn [some (.ref a), some (.ref D), some (.ref sd), u3, u4, u5, u6, u7, u8, u9, u10, u11, u12, some (.ref c), some (.str n), some (.int wv), u16, u17] H := by
  have T := L.X
  have G := L.G
  obtain ⟨fL, dL, FL, mL, bL⟩ := L.lve
  obtain ⟨fD, dD, FD, mD, kD, bD⟩ := L.dro
  obtain ⟨fS, dS, FS, mS, kS, bS⟩ := L.ser
  have rL := FL.mono (show 4 ≤ 7 by decide)
  have rD := FD.mono (show 1 ≤ 7 by decide)
  have rS := FS.mono (show 2 ≤ 7 by decide)
  refine ⟨_, pss_cons (ps_set (i := 8) scLaw.nd rfl (Or.inl rfl) (pe_meth (pv 13) T.cl mL rL hr bL .nil pass0 (pa_cons (pv 15) pa_nil)))
    (pss_cons (ps_dput (hu_of hr) (pv 2) pe_str (pe_lc (own := [("row", 16)]) (g := gName 16) (te := tVar 16) (by rfl) scLaw.nd (pi_list (pe_dget (hu_of hr) (pv 2) pe_str (fun _ _ => rfl))) (blkOk_by (N := NL) (sc := defScope sLaw) (by decide +kernel))
        (fun _ _ _ _ _ => pg_name (i := 16) scLaw.nd rfl (Or.inl rfl)) (fun _ _ _ _ _ => pts_one (pt_cmpR op_ne (pe_ix (r := rIxT K) (by exact ix_tup) (pv 16) pe_int (fun _ _ => rfl)) (pv 15) (nomark _))) (fun _ _ _ _ _ => pv 16)) rfl)
    (pss_cons (ps_for PassesOwn.never rfl (pi_list (pe_callB (call_sortedD rfl) (by rfl) G.sorted (by decide +kernel) (pa_cons (pe_dget (hu_of hr) (pv 2) pe_str (fun _ _ => rfl)) pa_nil))) (pg_name (i := 9) scLaw.nd rfl (Or.inl rfl))
      (pss_one (ps_if (pt_cmp (pc_din (hu_of hr) (pv 15) (pe_dget (hu_of hr) (pe_dget (hu_of hr) (pv 2) pe_str (fun _ _ => rfl)) (pv 9) (fun _ _ => rfl)))) (pss_one (ps_expr (pe_call rD hr (by rfl) mD kD bD .nil pass0 (pa_cons (pv 2) (pa_cons (pv 15) (pa_cons (pv 9) pa_nil)))))) pss_nil)))
    (pss_one (ps_if (pt_cmpR (op_neD hr.units) (pv 8) (pe_call rS hr (by rfl) mS kS bS .nil pass0 (pa_cons (pv 2) pa_nil)) (nomark _)) (pss_one (ps_ret pe_bl)) pss_nil)))), ?_⟩
  intro R PT a D c sd gp gl dc wv n Dn H u3 u4 u5 u6 u7 u8 u9 u10 u11 u12 u16 u17 x knx
  have iv2 : Inv S4 gl.t gl.q := by rw [x.et, x.eq]; exact x.iv
  have q5 : gl.qs.length ≤ 5 := wf5 iv2.wf
  have few : gl.ho.length ≤ 4 := iv2.tok.few (by decide)
  have ek : gl.t.map (·.1) = gl.ho.map (·.1) := keys_fg gl.ho
  refine ⟨_, rfl, c, gp.cx, _, rfl, x.wl.loc.ins, rfl, _, rfl, c, gp, wv, rfl, x.wl.loc, ⟨S4, s4ok, x.iv⟩, fun H2 gp' r go lo e1 e2 nr nr2 hrr => ?_⟩
  have w2 := x.wl.locks go lo
  have nrs : r ∉ own sd gl := fun z => by
    rcases nr with k | k
    · obtain ⟨o, ho, _⟩ := x.wl.st.there z
      rw [ho] at k; cases k
    · exact x.wl.apt r k z
  -- the queue without them
  refine ⟨_, rfl, sd, _, rfl, w2.st.queueG, gl.l, rfl, ⟨_, SqL.of w2.st.que.lst⟩, fun Z nZ => ?_⟩
  refine lc_list (K := K) (a := gl.l) (xs := gl.qs.map fun y => V.ref y.1) (fun i H' => Same H2 H' ∧ H' Z = some (.lst (((gl.qs.take i).filter fun y => decide (y.2.1 ≠ wv)).map fun y => V.ref y.1))) ⟨same_upd nZ, upd_same⟩ (fun i H' hi q => SqL.of (q.1 _ _ w2.st.que.lst)) (fun i z H' hx q => ?_) (fun H' q => ?_)
  · obtain ⟨sm, hZ⟩ := q
    rw [List.getElem?_map] at hx
    obtain ⟨y, hy, rfl⟩ := Option.map_eq_some_iff.mp hx
    have ym := List.mem_of_getElem? hy
    have et : gl.qs.take (i + 1) = gl.qs.take i ++ [y] := by rw [List.take_add_one, hy]; rfl
    have lf : ((gl.qs.take i).filter fun y => decide (y.2.1 ≠ wv)).length ≤ 5 := by
      refine Nat.le_trans (List.length_filter_le _ _) ?_
      rw [List.length_take]; omega
    refine ⟨rfl, _, rfl, y.1, _, _, _, rfl, rfl, SqT.of (sm _ _ (w2.st.que.tup y ym)), at0 _ _ _, _, rfl, rfl, _, rfl, ?_⟩
    rw [et, List.filter_append, List.map_append]
    refine ite2 (fun c1 => ?_) (fun c1 => ?_)
    · have c1 : y.2.1 ≠ wv := by simpa using c1
      refine ⟨_, rfl, _, hZ, by rw [List.length_map, sizeLine_eq]; omega, fun b o hb => by rw [upd_ne (ne_of_none hb nZ)]; exact sm _ _ hb, ?_⟩
      rw [upd_same, List.filter_cons, if_pos (decide_eq_true c1)]; rfl
    · have c1 : y.2.1 = wv := by simpa using c1
      refine ⟨sm, ?_⟩
      rw [hZ, List.filter_cons_of_neg (by simp [c1])]; simp
  obtain ⟨sm, hZ⟩ := q
  rw [List.length_map, List.take_length] at hZ
  have w3 := w2.same sm
  have hr3 := sm _ _ hrr
  refine ⟨_, rfl, sd, _, rfl, DPut.k (k := .inr "queue") w3.st.top (by show 2 < sizeLine; decide), ?_⟩
  have eput : putK [((.inr "held" : Key), V.ref gl.a), (.inr "queue", .ref gl.l)] (.inr "queue") (.ref Z) = [(.inr "held", .ref gl.a), (.inr "queue", .ref Z)] := by
    have ne : ¬ ((.inr "held" : Key)) = .inr "queue" := by decide +kernel
    unfold putK
    rw [if_pos (by simp)]
    rw [List.map_cons, List.map_cons, List.map_nil]
    rw [if_neg ne, if_pos rfl]
  rw [eput]
  have i4 : (upd H' sd (.dK [(.inr "held", .ref gl.a), (.inr "queue", .ref Z)])) sd = some (.dK [(.inr "held", .ref gl.a), (.inr "queue", .ref Z)]) := upd_same
  have s4 : SameX sd H' (upd H' sd (.dK [(.inr "held", .ref gl.a), (.inr "queue", .ref Z)])) := SameX.upd
  have nZs : Z ≠ sd := fun e => by rw [e, w2.st.top] at nZ; cases nZ
  have hZ4 := s4 _ _ nZs hZ
  have nas : ∀ b ∈ gl.a :: adr gl.ho, b ≠ sd := fun b hb e => w2.st.nca (by rw [← e]; exact hb)
  have st4 : SAt (upd H' sd (.dK [(.inr "held", .ref gl.a), (.inr "queue", .ref Z)])) sd { gl with l := Z, qs := gl.qs.filter fun y => decide (y.2.1 ≠ wv) } :=
    ⟨i4, ⟨s4 _ _ (nas _ (by simp)) w3.st.tab.top, fun y hy => s4 _ _ (nas _ (List.mem_cons_of_mem _ (List.mem_map_of_mem hy))) (w3.st.tab.inn y hy), w3.st.tab.nd⟩, ⟨hZ4, fun y hy => by
      have := w3.st.que.tup y (List.mem_filter.mp hy).1
      exact s4 _ _ (ne_of this w3.st.top (by intro z; cases z)) this⟩, w3.st.nca⟩
  have go4 : Go sd gl { gl with l := Z, qs := gl.qs.filter fun y => decide (y.2.1 ≠ wv) } H2 (upd H' sd (.dK [(.inr "held", .ref gl.a), (.inr "queue", .ref Z)])) := by
    refine ⟨(Fr.of sm).trans (Fr.sx s4 (by simp [own])), fun b hb => ?_⟩
    unfold own at hb ⊢
    rcases List.mem_cons.mp hb with e | h
    · rw [e]; simp
    rcases List.mem_cons.mp h with e | h
    · rw [e]; exact .inr nZ
    · exact .inl (List.mem_cons_of_mem _ (List.mem_cons_of_mem _ h))
  have eq4 : ({ gl with l := Z, qs := gl.qs.filter fun y => decide (y.2.1 ≠ wv) } : LG).q = rmv gl.q wv := qf_filter _ _
  have et4 : ({ gl with l := Z, qs := gl.qs.filter fun y => decide (y.2.1 ≠ wv) } : LG).t = gl.t := rfl
  have eh4 : ({ gl with l := Z, qs := gl.qs.filter fun y => decide (y.2.1 ≠ wv) } : LG).ho = gl.ho := rfl
  have ea4 : ({ gl with l := Z, qs := gl.qs.filter fun y => decide (y.2.1 ≠ wv) } : LG).a = gl.a := rfl
  generalize ({ gl with l := Z, qs := gl.qs.filter fun y => decide (y.2.1 ≠ wv) } : LG) = g1 at st4 go4 eq4 et4 eh4 ea4
  show tSeq _ _ _ _ (upd H' sd (.dK [(.inr "held", .ref gl.a), (.inr "queue", .ref Z)]))
  generalize upd H' sd (.dK [(.inr "held", .ref gl.a), (.inr "queue", .ref Z)]) = H4 at st4 go4 ⊢
  clear i4 s4 hZ4 hZ sm w3 hr3 nZ nZs eput
  -- all that is held
  refine ⟨_, rfl, sd, _, rfl, st4.held, g1.a, kvT g1.ho, gl.ho.map (·.1), rfl, .inl st4.tab.top, ?_, by rw [List.length_map]; omega, fun ys Y pm so nY => ?_⟩
  · rw [eh4]; unfold kvT; rw [List.map_map, List.map_map]; rfl
  have s5 : Same H4 (upd H4 Y (.lst (ys.map V.str))) := same_upd nY
  have hY : (upd H4 Y (.lst (ys.map V.str))) Y = some (.lst (ys.map V.str)) := upd_same
  have st5 := st4.same s5
  have go5 := go4.then s5
  have nY5 := st4.new_ne nY
  generalize upd H4 Y (.lst (ys.map V.str)) = H5 at hY st5 go5 ⊢
  have iv1 : Inv S4 gl.t (rmv gl.q wv) := iv2.unwait List.filter_sublist
  have ynd : ys.Nodup := pm.nodup_iff.mpr iv2.tok.nk
  refine ⟨Y, rfl, ⟨_, SqL.of hY⟩, ?_⟩
  refine for_list (K := K) (a := Y) (xs := ys.map V.str) (fun i σ H6 => ∃ gi, Go sd gl gi H2 H6 ∧ SAt H6 sd gi ∧ gi.t = lvD wv (ys.take i) gl.t ∧ gi.q = rmv gl.q wv ∧ H6 Y = some (.lst (ys.map V.str)) ∧ Y ∉ own sd gi ∧ ∃ v9, σ = [some (.ref a), some (.ref D), some (.ref sd), u3, u4, u5, u6, u7, some (.ref r), v9, u10, u11, u12, some (.ref c), some (.str n), some (.int wv), u16, u17])
    ⟨g1, go5, st5, et4, eq4, hY, nY5, u9, rfl⟩ (fun i σ H6 hi q => ?_) (fun i z σ H6 hx q => ?_) (fun σ H6 q => ?_)
  · obtain ⟨gi, _, _, _, _, h, _⟩ := q
    exact SqL.of h
  · obtain ⟨gi, go, xi, et, eq', hL, nL', v9, rfl⟩ := q
    rw [List.getElem?_map] at hx
    obtain ⟨m, hn, rfl⟩ := Option.map_eq_some_iff.mp hx
    have nm : m ∈ gl.ho.map (·.1) := pm.mem_iff.mp (List.mem_of_getElem? hn)
    have etk : ys.take (i + 1) = ys.take i ++ [m] := by rw [List.take_add_one, hn]; rfl
    have nin : m ∉ ys.take i := fun z => by
      have nd := (List.nodup_append.mp (by rw [← etk]; exact List.Sublist.nodup (List.take_sublist _ _) ynd : (ys.take i ++ [m]).Nodup)).2.2
      exact nd m z m (by simp) rfl
    have ivi : Inv S4 gi.t gi.q := by rw [et, eq']; exact Inv.lv (rmv_not _ _) iv1
    have kin : m ∈ gi.ho.map (·.1) := by
      have : m ∈ gi.t.map (·.1) := by rw [et]; exact key_lvD nin (by rw [ek]; exact nm)
      unfold LG.t at this
      rw [keys_fg] at this; exact this
    obtain ⟨y, hy, ey⟩ := key_of kin
    have hv := val_fg ivi.tok.nk hy
    have el := lk_fg ivi.tok.nk hy
    rw [ey] at hv el
    have dg : DGet H6 gi.a (.str m) (some (.ref y.2.1)) := by
      have := dGet_k (k := .inr m) (.inl xi.tab.top)
      rw [hv] at this; exact this
    have hin := xi.tab.inn y hy
    have el' : lk gi.t m = y.2.2 := el
    rw [etk, lvD_snoc, ← et]
    refine ⟨_, rfl, _, rfl, sd, _, rfl, xi.held, _, rfl, gi.a, _, rfl, dg, y.2.1, _, rfl, dGet_k (k := .inl wv) (.inl hin), _, rfl, ite2 (fun c1 => ?_) (fun c1 => ?_)⟩
    · have c1 : wv ∈ whos (lk gi.t m) := by rw [el']; exact inH_iff.mp c1
      rw [if_pos c1]
      refine ⟨_, rfl, _, rfl, _, rfl, sd, gi, wv, m, rfl, xi, ⟨S4, ivi.tok, s4ok.four⟩, c1, fun H7 ho' f7 t7 e7 o7 => ?_⟩
      have go7 := Go.tabs (c := sd) (g := gi) f7 (fun b hb => .inl (o7 b hb))
      refine ⟨{ gi with ho := ho' }, go.trans go7, xi.tabs f7 t7 (fun b hb => .inl (o7 b hb)), e7, eq', go7.fr _ _ hL nL', ?_, _, rfl⟩
      intro z
      rcases go7.ow _ z with k1 | k1
      · exact nL' k1
      · rw [hL] at k1; cases k1
    · have c1 : ¬ wv ∈ whos (lk gi.t m) := by rw [el']; exact fun z => c1 (inH_iff.mpr z)
      rw [if_neg c1]
      exact ⟨gi, go, xi, rfl, eq', hL, nL', _, rfl⟩
  · obtain ⟨gi, go, xi, et, eq', hL, nL', v9, rfl⟩ := q
    rw [List.length_map, List.take_length] at et
    have el : lvD wv ys gl.t = lvD wv (gp.t.map (·.1)) gp.t := by
      rw [← x.et]
      exact lv_perm iv2.ndk fun m => by rw [ek]; exact pm.mem_iff
    have ivi : Inv S4 gi.t gi.q := by rw [et, eq']; exact Inv.lv (rmv_not _ _) iv1
    have w6 := w2.state go xi
    refine ⟨_, rfl, _, rfl, sd, gi, rfl, xi, ⟨S4, s4ok, ivi⟩, fun H7 gl' r2 g7 st7 e5 e6 n5 n6 h7 => ?_⟩
    have w7 := w6.state g7 st7
    have hr7 := (go.trans g7).fr _ _ hrr nrs
    have es : served gi.t gi.q = served (lvD wv (gp.t.map (·.1)) gp.t) (rmv gp.q wv) := by rw [et, eq', el, x.eq]
    have ivs : Inv S4 (lvD wv (gp.t.map (·.1)) gp.t) (rmv gp.q wv) := by rw [← el, ← x.eq, ← et, ← eq']; rw [eq'] at ivi ⊢; exact ivi
    rw [es] at e5 e6 h7
    refine ⟨_, _, dp_ints hr7, dp_ints h7, shaped_ints _, shaped_ints _, _, rfl, ?_⟩
    rw [SeqAt.eqv_refl _ (SeqAt.canLay_of_shaped (shaped_ints _))]
    refine iteF (knx H7 gp' gl' _ _ ⟨w7, ?_, ?_, by rw [e5, e1], by rw [e6, e2]⟩)
    · rw [e1, e2]; exact (served_ok ivs).1
    · rw [e1, e2]; exact (served_ok ivs).2
end
end K16
namespace K16
open PySem L2 HK
/-- x is True, x is False, where x may be a text -/
def rIsD : R2 := fun x y H Q => ∃ b : Bool, y = .bl b ∧ ((∃ a : Bool, x = .bl a ∧ Q (.bl (decide (a = b))) H) ∨ ∃ s, x = .str s ∧ Q (.bl false) H)
theorem op_isD {X : Cx} : OpR X (compareOp .Is) rIsD := by
  intro pins s σ H x y v u Q I rx ry h
  obtain ⟨b, rfl, h | h⟩ := h
  · obtain ⟨a, rfl, q⟩ := h
    exact op_isBl (X := X) pins s σ H (.bl a) (.bl b) v u Q I rx ry ⟨a, b, rfl, rfl, q⟩
  · obtain ⟨t, rfl, q⟩ := h
    obtain ⟨k, rfl⟩ := (show ∃ k, v = Value.str t k from rx)
    cases (show u = Value.bool b from ry)
    exact PySem.wpAny_is_other rfl (fun z => by cases z) ⟨.bl false, H, I, rfl, q⟩
section
variable {P : Program} {w : World} {K : PySem.W.Frag} {mg : Str → Option Value} {base : Heap} {CL CE g0 : Addr}
theorem ask_ok (L : LTxt2 P w K mg base CL CE g0) {f c0 PT : Addr} {A : Around} {outer : List Env} {s : Shared} {H0 : Hp} {E9 : XK} (TB : LamX.TabB base mg c0 PT) (hr : Room 7 (LCx P w K mg base f c0 A outer s H0 E9).A) :
    ∃ t, PSs (LCx P w K mg base f c0 A outer s H0 E9) askBody t ∧ ∀ (R a D c sd : Addr) (gp gl : LG) (dc : Dice) (wv : Int) (n : Str) (Dn : Ends) (H : Hp) (u3 u4 u5 u6 u7 u8 u9 u10 u11 u12 u16 u17 : Option V),
      WS CL R PT D c sd gp gl dc H → InW wv → n ∈ S4 →
      (∀ H' gp' gl' dc' u5 u6 u7 u12, WS CL R PT D c sd gp' gl' dc' H' → Dn.nx [some (.ref a), some (.ref D), some (.ref sd), u3, u4, u5, u6, u7, u8, u9, u10, u11, u12, some (.ref c), some (.str n), some (.int wv), u16, u17] H') →
      t Dn [some (.ref a), some (.ref D), some (.ref sd), u3, u4, u5, u6, u7, u8, u9, u10, u11, u12, some (.ref c), some (.str n), some (.int wv), u16, u17] H := by
  have T := L.X
  have G := L.G
  have lexm := L.e11
  obtain ⟨fO, dO, FO, mO, kO, bO⟩ := L.roll
  obtain ⟨fB, dB, FB, mB, kB, bB⟩ := L.bkd
  obtain ⟨fK, dK, FK, mK, bK⟩ := L.blk
  obtain ⟨fT, dT, FT, mT, kT, bT⟩ := L.tke
  obtain ⟨fI, dI, FI, mI, kI, bI⟩ := L.rin
  obtain ⟨fA, dA, FA, mA, bA⟩ := L.ask
  have rO := FO.mono (show 1 ≤ 7 by decide)
  have rB := FB.mono (show 1 ≤ 7 by decide)
  have rK := FK.mono (show 2 ≤ 7 by decide)
  have rT := FT.mono (show 1 ≤ 7 by decide)
  have rI := FI.mono (show 3 ≤ 7 by decide)
  refine ⟨_, pss_cons (ps_set (i := 12) scLaw.nd rfl (Or.inr rfl) (pe_ix ix_list (pe_lst (pa_cons pe_str (pa_cons pe_str pa_nil))) (pe_call rO hr (by rfl) mO kO bO .nil pass0 (pa_cons (pv 1) (pa_cons pe_int pa_nil))) (fun _ _ => rfl)))
    (pss_cons (ps_set (i := 5) scLaw.nd rfl (Or.inl rfl) (pe_cmpR (op_neD hr.units) (pe_lc (own := [("row", 16)]) (g := gName 16) (te := tVar 16) (by rfl) scLaw.nd (pi_list (pe_dget (hu_of hr) (pv 2) pe_str (fun _ _ => rfl))) (blkOk_by (N := NL) (sc := defScope sLaw) (by decide +kernel))
        (fun _ _ _ _ _ => pg_name (i := 16) scLaw.nd rfl (Or.inl rfl)) (fun _ _ _ _ _ => pts_one (pt_cmpR op_eq (pe_ix (r := rIxT K) (by exact ix_tup) (pv 16) pe_int (fun _ _ => rfl)) (pv 15) (nomark _))) (fun _ _ _ _ _ => pv 16)) (pe_lst pa_nil) (nomark _)))
    (pss_cons (ps_set (i := 6) scLaw.nd rfl (Or.inl rfl) (pe_ifExp (pt_val (pv 5)) pe_str (pe_cmpR (op_eqD hr.units) (pe_call rB hr (by rfl) mB kB bB .nil pass0 (pa_cons (pv 2) (pa_cons (pv 15) (pa_cons (pv 14) (pa_cons (pv 12) pa_nil))))) (pe_lst pa_nil) (nomark _))))
    (pss_cons (ps_if (PW.pt (pw_and (pt_not (pt_val (pv 5))) (pw_and1 (pt_cmpR (op_neD hr.units) (pe_meth (pv 13) T.cl mK rK hr bK .nil pass0 (pa_cons (pv 15) (pa_cons (pv 14) (pa_cons (pv 12) pa_nil)))) (pe_call rB hr (by rfl) mB kB bB .nil pass0 (pa_cons (pv 2) (pa_cons (pv 15) (pa_cons (pv 14) (pa_cons (pv 12) pa_nil))))) (nomark _))))) (pss_one (ps_ret pe_bl)) pss_nil)
    (pss_cons (ps_if (pt_cmpR op_isD (pv 6) pe_bl (nomark _)) (pss_one (ps_expr (pe_call rT hr (by rfl) mT kT bT .nil pass0 (pa_cons (pv 2) (pa_cons (pv 15) (pa_cons (pv 14) (pa_cons (pv 12) pa_nil)))))))
      (pss_one (ps_if (pt_cmpR op_isD (pv 6) pe_bl (nomark _))
        (pss_cons (ps_set (i := 7) scLaw.nd rfl (Or.inl rfl) (pe_dget (hu_of hr) (pv 2) pe_str (fun _ _ => rfl)))
        (pss_cons (ps_expr (pe_bm PySem.F.plainAttrs_list PySem.F.slot_list_append PySem.F.type_list_append mt_append (pv 7) (pa_cons (pe_tup (pa_cons (pv 15) (pa_cons (pv 14) (pa_cons (pv 12) pa_nil)))) pa_nil)))
        (pss_one (ps_if (pt_val (pe_call rI hr (by rfl) mI kI bI .nil pass0 (pa_cons (pv 2) (pa_cons (pv 15) pa_nil))))
          (pss_cons (ps_expr (pe_bm0 PySem.F.plainAttrs_list PySem.F.slot_list_pop PySem.F.type_list_pop mt_pop (pv 7)))
          (pss_one (ps_set (i := 6) scLaw.nd rfl (Or.inl rfl) pe_str))) pss_nil)))) pss_nil)))
    (pss_one (ps_if (pt_cmpR (op_neD hr.units) (pe_told (k := 5) L.told TB rfl (by rfl) hr (LamX.lamS_by (sc := defScope sLaw) (by decide +kernel)) rfl (fun _ _ _ _ _ => rfl)
        (fun A1 o1 s1 H1 E1 f1 c1 hr5 => pe_meth (pv 13) T.cl mA FA hr5 bA .nil (passes_call (takes_of rfl rfl rfl rfl) (fun _ _ _ _ h => h)) (pa_cons (pv 15) (pa_cons (pv 14) (pa_cons (pv 12) pa_nil))))) (pv 6) (nomark _)) (pss_one (ps_ret pe_bl)) pss_nil)))))), ?_⟩
  intro R a D c sd gp gl dc wv n Dn H u3 u4 u5 u6 u7 u8 u9 u10 u11 u12 u16 u17 x rw_ rn knx
  -- how
  refine ⟨by show 2 ≤ sizeLine; decide, fun l nl => ?_⟩
  have w1 := x.wl.same (same_upd (o := .lst [.str "shared", .str "alone"]) nl)
  have hl1 : (upd H l (.lst [.str "shared", .str "alone"])) l = some (.lst [.str "shared", .str "alone"]) := upd_same
  generalize upd H l (.lst [.str "shared", .str "alone"]) = H1 at w1 hl1 ⊢
  have r2 := roll_range dc (m := 2) (by decide)
  have nlD : l ≠ D := fun e => by rw [e, x.wl.dice] at nl; cases nl
  refine ⟨_, rfl, D, dc, 2, rfl, w1.dice, by decide, by decide, ?_⟩
  have w2 := w1.rolled (dc' := (roll dc 2).2) (SameX.upd (o := .lst (roll dc 2).2.vs)) upd_same
  have hl2 : (upd H1 D (.lst (roll dc 2).2.vs)) l = some (.lst [.str "shared", .str "alone"]) := by rw [upd_ne nlD]; exact hl1
  generalize upd H1 D (.lst (roll dc 2).2.vs) = H2 at w2 hl2 ⊢
  obtain ⟨al, hal⟩ : ∃ al : Bool, atI [V.str "shared", .str "alone"] (roll dc 2).1 = some (.str (hw al)) := by
    rcases (by omega : (roll dc 2).1 = 0 ∨ (roll dc 2).1 = 1) with e | e
    · exact ⟨false, by rw [e]; rfl⟩
    · exact ⟨true, by rw [e]; rfl⟩
  refine ⟨l, _, _, _, rfl, rfl, SqL.of hl2, hal, ?_⟩
  generalize (roll dc 2).2 = dc2 at w2
  generalize (roll dc 2).1 = i2 at *
  have x2 : WS CL R PT D c sd gp gl dc2 H2 := { wl := w2, iv := x.iv, bl := x.bl, et := x.et, eq := x.eq }
  clear x w1 w2 hl1 hl2 nl nlD hal r2
  have iv2 : Inv S4 gl.t gl.q := by rw [x2.et, x2.eq]; exact x2.iv
  have q5 : gl.qs.length ≤ 5 := wf5 iv2.wf
  -- busy
  refine ⟨_, rfl, sd, _, rfl, x2.wl.st.queueG, gl.l, rfl, ⟨_, SqL.of x2.wl.st.que.lst⟩, fun Z nZ => ?_⟩
  refine lc_list (K := K) (a := gl.l) (xs := gl.qs.map fun y => V.ref y.1) (fun i H' => Same H2 H' ∧ H' Z = some (.lst (((gl.qs.take i).filter fun y => decide (y.2.1 = wv)).map fun y => V.ref y.1))) ⟨same_upd nZ, upd_same⟩ (fun i H' hi q => SqL.of (q.1 _ _ x2.wl.st.que.lst)) (fun i z H' hx q => ?_) (fun H' q => ?_)
  · obtain ⟨sm, hZ⟩ := q
    rw [List.getElem?_map] at hx
    obtain ⟨y, hy, rfl⟩ := Option.map_eq_some_iff.mp hx
    have ym := List.mem_of_getElem? hy
    have et : gl.qs.take (i + 1) = gl.qs.take i ++ [y] := by rw [List.take_add_one, hy]; rfl
    have lf : ((gl.qs.take i).filter fun y => decide (y.2.1 = wv)).length ≤ 5 := by
      refine Nat.le_trans (List.length_filter_le _ _) ?_
      rw [List.length_take]; omega
    refine ⟨rfl, _, rfl, y.1, _, _, _, rfl, rfl, SqT.of (sm _ _ (x2.wl.st.que.tup y ym)), at0 _ _ _, _, rfl, rfl, _, rfl, ?_⟩
    rw [et, List.filter_append, List.map_append]
    refine ite2 (fun c1 => ?_) (fun c1 => ?_)
    · have c1 : y.2.1 = wv := by simpa using c1
      refine ⟨_, rfl, _, hZ, by rw [List.length_map, sizeLine_eq]; omega, fun b o hb => by rw [upd_ne (ne_of_none hb nZ)]; exact sm _ _ hb, ?_⟩
      rw [upd_same, List.filter_cons, if_pos (decide_eq_true c1)]; rfl
    · have c1 : ¬ y.2.1 = wv := by simpa using c1
      refine ⟨sm, ?_⟩
      rw [hZ, List.filter_cons_of_neg (by simp [c1])]; simp
  obtain ⟨sm, hZ⟩ := q
  rw [List.length_map, List.take_length] at hZ
  have w3 := x2.wl.same sm
  have eqf : qf (gl.qs.filter fun y => decide (y.2.1 = wv)) = gl.q.filter fun r => decide (r.1 = wv) := by unfold LG.q qf; rw [List.filter_map]; rfl
  have rowsin : ∀ y ∈ gl.qs.filter (fun y => decide (y.2.1 = wv)), H' y.1 = some (rowO y.2) := fun y hy => w3.st.que.tup y (List.mem_filter.mp hy).1
  generalize gl.qs.filter (fun y => decide (y.2.1 = wv)) = rs at hZ eqf rowsin
  refine ⟨by show 0 ≤ sizeLine; decide, fun e ne => ?_⟩
  have s4 : Same H' (upd H' e (.lst [])) := same_upd ne
  have hZ4 := s4 _ _ hZ
  have rin4 : ∀ y ∈ rs, (upd H' e (.lst [])) y.1 = some (rowO y.2) := fun y hy => s4 _ _ (rowsin y hy)
  refine ⟨.list ((qf rs).map rowD), .list [], Dp.lst (SqL.of hZ4) (dps_rows rin4), Dp.lst (SqL.of upd_same) .nil, shaped_rows s4ok.nm (fun r hr => (iv2.rq r (by rw [eqf] at hr; exact (List.mem_filter.mp hr).1)).2), rfl, ?_⟩
  have w4 := w3.same s4
  have ebz : (!PyData.eqv (.list ((qf rs).map rowD)) (.list [])) = decide (wv ∈ wq gl.q) := by
    have key : rs = [] ↔ ¬ wv ∈ wq gl.q := by
      constructor
      · intro h z
        obtain ⟨r, hr, e⟩ := List.mem_map.mp z
        have : r ∈ qf rs := by rw [eqf]; exact List.mem_filter.mpr ⟨hr, decide_eq_true e⟩
        rw [h] at this; cases this
      · intro h
        have : qf rs = [] := by
          rw [eqf]
          exact List.filter_eq_nil_iff.mpr fun r hr e => h (by rw [← of_decide_eq_true e]; exact List.mem_map_of_mem hr)
        unfold qf at this
        simpa using this
    cases rs with
    | nil => rw [decide_eq_false (key.mp rfl)]; rfl
    | cons y r =>
      have : wv ∈ wq gl.q := Classical.byContradiction fun z => by
        have := key.mpr z
        cases this
      rw [decide_eq_true this]; rfl
  rw [ebz]
  generalize upd H' e (.lst []) = H4 at w4 ⊢
  clear ebz rin4 hZ4 s4 ne rowsin eqf w3 hZ sm nZ
  have so : PyData.strOk ("ProcessError" : Str) = true := by decide +kernel
  have shp : SeqAt.shaped (.str ("ProcessError" : Str)) = true := by simp [SeqAt.shaped, PyData.canLay0, PyData.depth, so]
  by_cases bz : wv ∈ wq gl.q
  · rw [decide_eq_true bz]
    refine ⟨_, rfl, true, rfl, iteT ?_⟩
    refine ⟨_, rfl, true, rfl, iteF ?_⟩
    refine ⟨_, rfl, true, rfl, .inr ⟨_, rfl, _, rfl, iteF ?_⟩⟩
    refine ⟨_, rfl, false, rfl, .inr ⟨_, rfl, _, rfl, iteF ?_⟩⟩
    refine ⟨w4.tabs, fun H5 e5 t5 => ?_⟩
    have w5 := w4.ext e5 t5
    refine ⟨_, rfl, c, gp.cx, _, rfl, w5.loc.ins, rfl, _, rfl, _, rfl, _, rfl, c, gp, wv, n, hw al, rfl, w5.loc, .inr (.inl ⟨S4, s4ok, x2.iv.wf, by rw [← x2.eq]; exact bz, fun H6 s6 => ⟨true, lexm, fun _ => ?_, fun z => Bool.noConfusion z⟩⟩)⟩
    refine ⟨_, rfl, .str "ProcessError", .str "ProcessError", Dp.str _, Dp.str _, shp, shp, _, rfl, ?_⟩
    rw [SeqAt.eqv_refl _ (SeqAt.canLay_of_shaped shp)]
    exact iteF (knx H6 gp gl dc2 _ _ _ _ { wl := w5.same s6, iv := x2.iv, bl := x2.bl, et := x2.et, eq := x2.eq })
  rw [decide_eq_false bz]
  have nw : wv ∉ wq gp.q := by rw [← x2.eq]; exact bz
  -- what is in the way
  refine ⟨_, rfl, false, rfl, iteF ?_⟩
  refine ⟨_, rfl, _, rfl, _, rfl, _, rfl, sd, gl, wv, n, al, rfl, w4.st, ⟨S4, iv2.wf⟩, fun H5 r5 s5 n5 h5 => ?_⟩
  refine ⟨by show 0 ≤ sizeLine; decide, fun e ne => ?_⟩
  have h5' : (upd H5 e (.lst [])) r5 = some (.lst ((srt (raw gl.t gl.q wv n al)).map V.int)) := by rw [upd_ne (ne_of_none h5 ne)]; exact h5
  refine ⟨_, .list [], dp_ints h5', Dp.lst (SqL.of upd_same) .nil, shaped_ints _, rfl, ?_⟩
  rw [eqv_srt_nil]
  have w6 := w4.same (s5.trans (same_upd (o := .lst []) ne))
  generalize upd H5 e (.lst []) = H6 at w6 ⊢
  clear h5' h5 n5 s5 w4 ne
  refine ⟨_, rfl, false, rfl, iteT ?_⟩
  refine ⟨_, rfl, c, gp.cx, _, rfl, w6.loc.ins, rfl, _, rfl, _, rfl, _, rfl, c, gp, wv, n, al, rfl, w6.loc, ⟨S4, x2.iv.tok⟩, wf5 x2.iv.wf, fun H7 r7 s7 n7 h7 => ?_⟩
  have w7 := w6.same s7
  refine ⟨_, rfl, _, rfl, _, rfl, _, rfl, sd, gl, wv, n, al, rfl, w7.st, ⟨S4, iv2.wf⟩, fun H8 r8 s8 n8 h8 => ?_⟩
  have w8 := w7.same s8
  have h78 := s8 _ _ h7
  rw [x2.et, x2.eq] at h8
  refine ⟨_, _, dp_ints h78, dp_ints h8, shaped_ints _, shaped_ints _, _, rfl, ?_⟩
  rw [SeqAt.eqv_refl _ (SeqAt.canLay_of_shaped (shaped_ints _))]
  refine iteF ?_
  clear h78 h8 h7 s8 s7 w7 w6 n7 n8
  have tok2 : ∃ S : List Str, Tok S gl.t ∧ S.length ≤ 4 := ⟨S4, iv2.tok, s4ok.four⟩
  by_cases cr : raw gl.t gl.q wv n al = []
  · rw [decide_eq_true cr]
    refine ⟨_, rfl, true, rfl, .inl ⟨_, rfl, _, rfl, iteT ?_⟩⟩
    refine ⟨_, rfl, _, rfl, _, rfl, _, rfl, sd, gl, wv, n, al, rfl, w8.st, tok2, fun H9 ho' f9 t9 e9 o9 => ?_⟩
    have w9 := w8.state (Go.tabs (c := sd) f9 o9) (w8.st.tabs f9 t9 o9)
    refine ⟨w9.tabs, fun H10 e10 t10 => ?_⟩
    have w10 := w9.ext e10 t10
    have cr' : raw gp.t gp.q wv n al = [] := by rw [← x2.et, ← x2.eq]; exact cr
    refine ⟨_, rfl, c, gp.cx, _, rfl, w10.loc.ins, rfl, _, rfl, _, rfl, _, rfl, c, gp, wv, n, hw al, rfl, w10.loc, .inr (.inr ⟨S4, al, rfl, s4ok, x2.iv, x2.bl, rw_, rn, nw, .inl ⟨cr', fun H11 gp' go lo e1 e2 => ?_⟩⟩)⟩
    have w11 := w10.locks go lo
    refine ⟨_, rfl, .bool true, .bool true, Dp.bl _, Dp.bl _, rfl, rfl, _, rfl, ?_⟩
    refine iteF (knx H11 gp' _ dc2 _ _ _ _ { wl := w11, iv := ?_, bl := ?_, et := ?_, eq := ?_ })
    · rw [e1, e2]; exact x2.iv.take rn rw_ nw cr'
    · rw [e1, e2]; exact x2.bl.take (x2.iv.nd n) al nw
    · show fg ho' = _
      rw [e9, e1, x2.et]
    · show gl.q = _
      rw [e2, x2.eq]
  rw [decide_eq_false cr]
  have cr' : raw gp.t gp.q wv n al ≠ [] := by rw [← x2.et, ← x2.eq]; exact cr
  refine ⟨_, rfl, true, rfl, .inl ⟨_, rfl, _, rfl, iteF ?_⟩⟩
  refine ⟨_, rfl, false, rfl, .inl ⟨_, rfl, _, rfl, iteT ?_⟩⟩
  refine ⟨_, rfl, sd, _, rfl, w8.st.queueG, ?_⟩
  refine ⟨_, rfl, .inl ⟨rfl, _, SqL.of w8.st.que.lst⟩, _, rfl, _, rfl, _, rfl, by show 3 ≤ sizeLine; decide, fun T2 nT2 => ?_⟩
  have w9 := w8.same (same_upd (o := rowO (wv, n, al)) nT2)
  have hT9 : (upd H8 T2 (rowO (wv, n, al))) T2 = some (rowO (wv, n, al)) := upd_same
  generalize upd H8 T2 (rowO (wv, n, al)) = H9 at w9 hT9 ⊢
  refine ⟨gl.l, _, _, rfl, rfl, w9.st.que.lst, by rw [List.length_map, sizeLine_eq]; omega, ?_⟩
  have e6 : (gl.qs.map fun y => V.ref y.1) ++ [V.ref T2] = (gl.qs ++ [(T2, (wv, n, al))]).map fun y => V.ref y.1 := by rw [List.map_append]; rfl
  rw [e6]
  have st10 : SAt (upd H9 gl.l (.lst ((gl.qs ++ [(T2, (wv, n, al))]).map fun y => V.ref y.1))) sd { gl with qs := gl.qs ++ [(T2, (wv, n, al))] } := w9.st.queue SameX.upd upd_same (fun y hy => by
    rcases List.mem_append.mp hy with z | z
    · rw [upd_ne (ne_of (w9.st.que.tup y z) w9.st.que.lst (by intro z; cases z))]; exact w9.st.que.tup y z
    · have : y = (T2, (wv, n, al)) := by simpa using z
      rw [this, upd_ne (ne_of hT9 w9.st.que.lst (by intro z; cases z))]; exact hT9)
  have w10 := w9.state (gl' := { gl with qs := gl.qs ++ [(T2, (wv, n, al))] }) (Go.queue SameX.upd) st10
  have q10 : ({ gl with qs := gl.qs ++ [(T2, (wv, n, al))] } : LG).q = gl.q ++ [(wv, n, al)] := by show qf _ = qf _ ++ _; unfold qf; rw [List.map_append]; rfl
  generalize upd H9 gl.l (.lst ((gl.qs ++ [(T2, (wv, n, al))]).map fun y => V.ref y.1)) = H10 at st10 w10 ⊢
  have wf10 : Wf S4 ({ gl with qs := gl.qs ++ [(T2, (wv, n, al))] } : LG).t ({ gl with qs := gl.qs ++ [(T2, (wv, n, al))] } : LG).q := by
    rw [q10]
    refine ⟨iv2.tok, ?_, fun r hr => ?_⟩
    · rw [wq_app]
      exact List.nodup_append.mpr ⟨iv2.ndq, by simp, fun y hy z hz e => bz (by
        have ez : z = wv := List.mem_singleton.mp hz
        rw [← ez, ← e]; exact hy)⟩
    · rcases List.mem_append.mp hr with z | z
      · exact iv2.rq r z
      · rw [List.mem_singleton.mp z]; exact ⟨rw_, rn⟩
  refine ⟨_, rfl, _, rfl, sd, { gl with qs := gl.qs ++ [(T2, (wv, n, al))] }, wv, rfl, w10.st, ⟨S4, s4ok, wf10⟩, fun H11 b s11 hb => ?_⟩
  have hb : b = true ↔ Rch (wts gp.t (gp.q ++ [(wv, n, al)])) wv wv := by rw [← x2.et, ← x2.eq, ← q10]; exact hb
  have w11 := w10.same s11
  refine ⟨_, rfl, ?_⟩
  cases b with
  | true =>
    refine iteT ?_
    refine ⟨_, rfl, .inl ⟨rfl, _, SqL.of w11.st.que.lst⟩, gl.l, _, .ref T2, rfl, rfl, w11.st.que.lst, ?_, ?_⟩
    · rw [List.map_append]; simp
    have e8 : ((gl.qs ++ [(T2, (wv, n, al))]).map fun y => V.ref y.1).dropLast = gl.qs.map fun y => V.ref y.1 := by
      rw [List.map_append]
      show (_ ++ [V.ref T2]).dropLast = _
      rw [List.dropLast_concat]
    rw [e8]
    have st12 : SAt (upd H11 gl.l (.lst (gl.qs.map fun y => V.ref y.1))) sd gl := w11.st.queue (qs' := gl.qs) SameX.upd upd_same (fun y hy => by
      have := w11.st.que.tup y (by simp [hy])
      rw [upd_ne (ne_of this w11.st.que.lst (by intro z; cases z))]; exact this)
    have w12 := w11.state (gl' := gl) (Go.queue (g := { gl with qs := gl.qs ++ [(T2, (wv, n, al))] }) (qs' := gl.qs) SameX.upd) st12
    generalize upd H11 gl.l (.lst (gl.qs.map fun y => V.ref y.1)) = H12 at w12 ⊢
    refine ⟨w12.tabs, fun H13 e13 t13 => ?_⟩
    have w13 := w12.ext e13 t13
    refine ⟨_, rfl, c, gp.cx, _, rfl, w13.loc.ins, rfl, _, rfl, _, rfl, _, rfl, c, gp, wv, n, hw al, rfl, w13.loc, .inr (.inr ⟨S4, al, rfl, s4ok, x2.iv, x2.bl, rw_, rn, nw, .inr ⟨cr', fun _ H14 go lo => ⟨true, lexm, fun _ => ?_, fun z => Bool.noConfusion z⟩, fun z => absurd (hb.mp rfl) z⟩⟩)⟩
    have w14 := w13.locks go lo
    refine ⟨_, rfl, .str "ProcessError", .str "ProcessError", Dp.str _, Dp.str _, shp, shp, _, rfl, ?_⟩
    rw [SeqAt.eqv_refl _ (SeqAt.canLay_of_shaped shp)]
    exact iteF (knx H14 gp gl dc2 _ _ _ _ { wl := w14, iv := x2.iv, bl := x2.bl, et := x2.et, eq := x2.eq })
  | false =>
    refine iteF ?_
    have nr : ¬ Rch (wts gp.t (gp.q ++ [(wv, n, al)])) wv wv := fun z => by cases hb.mpr z
    refine ⟨w11.tabs, fun H13 e13 t13 => ?_⟩
    have w13 := w11.ext e13 t13
    refine ⟨_, rfl, c, gp.cx, _, rfl, w13.loc.ins, rfl, _, rfl, _, rfl, _, rfl, c, gp, wv, n, hw al, rfl, w13.loc, .inr (.inr ⟨S4, al, rfl, s4ok, x2.iv, x2.bl, rw_, rn, nw, .inr ⟨cr', fun z => absurd z nr, fun _ H14 gp' go lo e1 e2 => ?_⟩⟩)⟩
    have w14 := w13.locks go lo
    have pu := x2.iv.push x2.bl (r := (wv, n, al)) rn rw_ nw cr' nr
    refine ⟨_, rfl, .bool false, .bool false, Dp.bl _, Dp.bl _, rfl, rfl, _, rfl, ?_⟩
    refine iteF (knx H14 gp' _ dc2 _ _ _ _ { wl := w14, iv := ?_, bl := ?_, et := ?_, eq := ?_ })
    · rw [e1, e2]; exact pu.1
    · rw [e1, e2]; exact pu.2
    · show gl.t = _
      rw [e1, x2.et]
    · rw [q10, e2, x2.eq]
end
end K16
/-! a walk over a dict that is locked, or locked from here on -/
namespace HKE
open PySem PySem.Spec PyProof.Rows L2
def iKeysF (td : TE) : TI := fun σ H R => td σ H fun x H1 => ∃ d kvs, x = .ref d ∧ ((∃ o, H1 d = some (.frz o (.dK kvs)) ∧ R (Itk d o kvs) H1) ∨ (H1 d = some (.dK kvs) ∧ ∀ o, R (Itk d o kvs) (upd H1 d (.frz o (.dK kvs)))))
section
variable {X : Cx} {tg e : Expr} {td : TE}
theorem pi_keysF (he : PE X e td) : PI X tg e (iKeysF td) := by
  refine ⟨fun pins s σ H R I h => ?_⟩
  refine thn (he.run pins s σ H _ I h) fun u s1 ⟨x, H1, I1, rx, d, kvs, ex, q⟩ => ?_
  subst ex
  obtain rfl : u = Value.ref d := rx
  rcases q with ⟨o, hd, q⟩ | ⟨hd, q⟩
  · obtain ⟨hs, hgd, hx, es, ep, vs, hdt, hsz, kv, hm⟩ := I1.frzK hd
    refine iter_keys hs hgd hx hdt (pi_one (tk := s1.toks) I1 _ (turn_keys _ hdt) ⟨_, Heap.get?_push_size _ rfl, rfl, ?_⟩ q)
    rw [hsz] <;> rfl
  · obtain ⟨o, I2⟩ := I1.lock hd trivial
    obtain ⟨hs, hgd, hx, es, ep, vs, hdt, hsz, kv, hm⟩ := I2.frzK upd_same
    refine iter_keys hs hgd hx hdt (pi_one (tk := s1.toks) I2 _ (turn_keys _ hdt) ⟨_, Heap.get?_push_size _ rfl, rfl, ?_⟩ (q o))
    rw [hsz] <;> rfl
end
end HKE
namespace K16
open PySem L2 HK
section
variable {P : Program} {w : World} {K : PySem.W.Frag} {mg : Str → Option Value} {base : Heap} {CL CE g0 : Addr}
theorem agst_all (l : Hs) (w : Int) : agst l w true = (whos l).filter fun x => decide (x ≠ w) := by
  unfold agst whos
  rw [List.filter_map]
  congr 1
  refine List.filter_congr fun y _ => ?_
  simp
theorem iteF2 {b : Bool} {A B : Prop} (h : b = false) (k : B) : if b = true then A else B := by rw [h]; exact iteF k
theorem fits_ok (L : LTxt2 P w K mg base CL CE g0) {f c0 : Addr} {A : Around} {outer : List Env} {s : Shared} {H0 : Hp} {E9 : XK} (hr : Room 7 (LCx P w K mg base f c0 A outer s H0 E9).A) :
    ∃ t, PSs (LCx P w K mg base f c0 A outer s H0 E9) (stepBody.drop 6) t ∧ ∀ (R PT a D c sd : Addr) (gp gl : LG) (dc : Dice) (wv : Int) (n : Str) (Dn : Ends) (H : Hp) (u3 u4 u5 u6 u7 u8 u9 u11 u12 u16 u17 : Option V),
      WS CL R PT D c sd gp gl dc H →
      (∀ H', WS CL R PT D c sd gp gl dc H' → Dn.nx [some (.ref a), some (.ref D), some (.ref sd), u3, u4, u5, u6, u7, u8, u9, some (.ref gl.a), u11, u12, some (.ref c), some (.str n), some (.int wv), u16, u17] H') →
      t Dn [some (.ref a), some (.ref D), some (.ref sd), u3, u4, u5, u6, u7, u8, u9, some (.ref gl.a), u11, u12, some (.ref c), some (.str n), some (.int wv), u16, u17] H := by
  have T := L.X
  have G := L.G
  obtain ⟨fH, dHf, FH, mH, bH⟩ := L.hof
  obtain ⟨fF, dF, FF, mF, bF⟩ := L.fit
  have rH := FH.mono (show 1 ≤ 7 by decide)
  have rF := FF.mono (show 2 ≤ 7 by decide)
  refine ⟨_, pss_one (ps_if (PW.pt (pw_or (pt_cmpR (r := HKE.rNeDD K) (by exact HKE.op_neDD (room66 hr)) (pe_meth (pv 13) T.cl mH rH hr bH .nil pass0 (pa_cons (pv 14) pa_nil)) (pe_dget2 (hu_of hr) (pv 10) (pv 14) pe_dnewK ⟨rfl, rfl, rfl, rfl⟩) (nomark _))
      (pw_or1 (pt_cmpR op_ne (pe_meth (pv 13) T.cl mF rF hr bF .nil pass0 (pa_cons (pv 15) (pa_cons (pv 14) (pa_cons pe_str pa_nil))))
        (pe_cmpR (op_eqD hr.units) (pe_lock (pe_lc (own := [("one", 9)]) (g := gName 9) (te := tVar 9) (by rfl) scLaw.nd (HKE.pi_keysF (pe_dget2 (hu_of hr) (pv 10) (pv 14) pe_dnewK ⟨rfl, rfl, rfl, rfl⟩)) (blkOk_by (N := NL) (sc := defScope sLaw) (by decide +kernel))
          (fun _ _ _ _ _ => pg_name (i := 9) scLaw.nd rfl (Or.inl rfl)) (fun _ _ _ _ _ => pts_one (pt_cmpR op_ne (pv 9) (pv 15) (nomark _))) (fun _ _ _ _ _ => pv 9))) (pe_lst pa_nil) (nomark _)) (nomark _))))) (pss_one (ps_ret pe_bl)) pss_nil), ?_⟩
  intro R PT a D c sd gp gl dc wv n Dn H u3 u4 u5 u6 u7 u8 u9 u11 u12 u16 u17 x knx
  have iv2 : Inv S4 gl.t gl.q := by rw [x.et, x.eq]; exact x.iv
  have ndw := x.iv.nd n
  refine ⟨_, rfl, c, gp.cx, _, rfl, x.wl.loc.ins, rfl, _, rfl, c, gp, n, rfl, x.wl.loc, fun H1 r s1 nr hr1 => ?_⟩
  have w1 := x.wl.same s1
  refine ⟨_, rfl, gl.a, rfl, .inl ⟨_, .inl w1.st.tab.top⟩, _, rfl, fun nd hnd => ?_⟩
  obtain ⟨b, eb, hb⟩ := get_hs w1.st.tab n hnd
  have hb : (upd H1 nd (.dK [])) b = some (.dK (kvH (lk gp.t n))) := by rw [← x.et]; exact hb
  have s2 : Same H1 (upd H1 nd (.dK [])) := same_upd hnd
  have w2 := w1.same s2
  have hr2 := s2 _ _ hr1
  refine ⟨_, dGet_k (k := .inr n) (.inl w2.st.tab.top), ?_⟩
  rw [eb]
  generalize upd H1 nd (.dK []) = H2 at hb w2 hr2 ⊢
  refine ⟨r, b, kvH (lk gp.t n), kvH (lk gp.t n), dH (lk gp.t n), dH (lk gp.t n), rfl, rfl, hr2, hb, dvs_H ndw, dvs_H ndw, ?_⟩
  rw [dEq_self]
  refine ⟨_, rfl, iteF ?_⟩
  -- fits
  refine ⟨_, rfl, c, gp.cx, _, rfl, w2.loc.ins, rfl, _, rfl, _, rfl, c, gp, wv, n, true, rfl, w2.loc, ⟨S4, x.iv.tok⟩, fun H3 s3 => ?_⟩
  have w3 := w2.same s3
  clear w2 w1 hb eb hr2 hr1 s2 s1 s3
  obtain ⟨l, el⟩ : ∃ l, l = lk gp.t n := ⟨_, rfl⟩
  have ll : l.length ≤ 5 := by rw [el]; exact x.iv.tok.len n
  rw [← el] at ndw ⊢
  refine Or.elim (valV_kvT n gl.ho) (fun q => ?A) (fun q => ?B)
  case' A =>
    obtain ⟨hv, _, hl⟩ := q
    have l0 : l = [] := by rw [el, ← x.et]; exact hl
    obtain ⟨dL, edL⟩ : ∃ dL, dL = D := ⟨_, rfl⟩
    obtain ⟨uL, euL⟩ : ∃ uL : HO, uL = .lst dc.vs := ⟨_, rfl⟩
    have hdL : H3 dL = some uL := by rw [edL, euL]; exact w3.dice
    refine ⟨dL, uL, hdL, by rw [euL]; trivial, fun od0 => ?_⟩
    have na : gl.a ≠ dL := by rw [edL]; exact ne_of w3.st.tab.top w3.dice (by intro z; cases z)
    have f4 : SameX dL H3 (upd H3 dL (.frz od0 uL)) := SameX.upd
    have hL4 : (upd H3 dL (.frz od0 uL)) dL = some (.frz od0 uL) := upd_same
    have ht4 := f4 _ _ na w3.st.tab.top
    generalize upd H3 dL (.frz od0 uL) = H4 at f4 hL4 ht4 ⊢
    refine ⟨_, rfl, gl.a, rfl, .inl ⟨_, .inl ht4⟩, _, rfl, fun nd hnd => ?_⟩
    have s5 : Same H4 (upd H4 nd (.dK [])) := same_upd hnd
    have hn5 : (upd H4 nd (.dK [])) nd = some (.dK (kvH l)) := by rw [upd_same, l0]; rfl
    refine ⟨_, dGet_k (k := .inr n) (.inl (s5 _ _ ht4)), ?_⟩
    rw [hv]
    have nndL : dL ≠ nd := ne_of_none hL4 hnd
    refine ⟨nd, kvH l, rfl, .inr ⟨hn5, fun od Z nZ => ?_⟩⟩
    have hd5 : (upd (upd H4 nd (.dK [])) nd (.frz od (.dK (kvH l)))) nd = some (.frz od (.dK (kvH l))) := upd_same
    have hL5 : (upd (upd H4 nd (.dK [])) nd (.frz od (.dK (kvH l)))) dL = some (.frz od0 uL) := by rw [upd_ne nndL]; exact s5 _ _ hL4
    have f5 : SameX dL H3 (upd (upd H4 nd (.dK [])) nd (.frz od (.dK (kvH l)))) := fun b o nb hb => by
      have := f4 _ _ nb hb
      rw [upd_ne (ne_of_none this hnd)]
      exact s5 _ _ this
    generalize upd (upd H4 nd (.dK [])) nd (.frz od (.dK (kvH l))) = H5 at nZ hd5 hL5 f5 ⊢
    obtain ⟨dW, edW⟩ : ∃ dW, dW = nd := ⟨_, rfl⟩
    rw [← edW] at hd5 ⊢
    clear f4 hL4 ht4 s5 hn5 nndL hnd edW hv hl na
  case' B =>
    obtain ⟨y, hy, ey, hv, hl⟩ := q
    have l0 : l = y.2.2 := by rw [el, ← x.et]; exact hl
    obtain ⟨dL, edL⟩ : ∃ dL, dL = y.2.1 := ⟨_, rfl⟩
    obtain ⟨uL, euL⟩ : ∃ uL : HO, uL = .dK (kvH l) := ⟨_, rfl⟩
    have hdL : H3 dL = some uL := by rw [edL, euL, l0]; exact w3.st.tab.inn y hy
    refine ⟨dL, uL, hdL, by rw [euL]; trivial, fun od0 => ?_⟩
    have na : gl.a ≠ dL := by rw [edL]; exact Ne.symm (w3.st.tab.ne hy)
    have f4 : SameX dL H3 (upd H3 dL (.frz od0 uL)) := SameX.upd
    have hL4 : (upd H3 dL (.frz od0 uL)) dL = some (.frz od0 uL) := upd_same
    have ht4 := f4 _ _ na w3.st.tab.top
    generalize upd H3 dL (.frz od0 uL) = H4 at f4 hL4 ht4 ⊢
    refine ⟨_, rfl, gl.a, rfl, .inl ⟨_, .inl ht4⟩, _, rfl, fun nd hnd => ?_⟩
    have s5 : Same H4 (upd H4 nd (.dK [])) := same_upd hnd
    refine ⟨_, dGet_k (k := .inr n) (.inl (s5 _ _ ht4)), ?_⟩
    rw [hv]
    have hL5 : (upd H4 nd (.dK [])) dL = some (.frz od0 uL) := s5 _ _ hL4
    have f5 : SameX dL H3 (upd H4 nd (.dK [])) := fun b o nb hb => s5 _ _ (f4 _ _ nb hb)
    obtain ⟨dW, edW⟩ : ∃ dW, dW = y.2.1 := ⟨_, rfl⟩
    have hd5 : (upd H4 nd (.dK [])) dW = some (.frz od0 (.dK (kvH l))) := by rw [edW, ← edL, hL5, euL]
    refine ⟨dW, kvH l, by rw [edW]; rfl, .inl ⟨od0, hd5, fun Z nZ => ?_⟩⟩
    generalize upd H4 nd (.dK []) = H5 at nZ hd5 hL5 f5 ⊢
    clear f4 hL4 ht4 s5 hnd edW hv hl na
  all_goals
    have nZL : Z ≠ dL := fun e => by rw [e, hL5] at nZ; cases nZ
    refine lc_it walk_keys (fun i H' => Same H5 H' ∧ H' Z = some (.lst (((whos (l.take i)).filter fun v => decide (v ≠ wv)).map V.int))) ⟨same_upd nZ, upd_same⟩ (fun i H' hi q => q.1 _ _ hd5) (fun i z H' H'' hi q yy => ?_) (fun H' q => ?_)
    · obtain ⟨sm, hZ⟩ := q
      obtain ⟨rfl, kk, vv, hkv, rfl⟩ := yy
      unfold kvH at hkv
      rw [List.getElem?_map] at hkv
      obtain ⟨y', hy', ey'⟩ := Option.map_eq_some_iff.mp hkv
      injection ey' with e1 e2
      subst e1 e2
      have et : whos (l.take (i + 1)) = whos (l.take i) ++ [y'.1] := by
        rw [List.take_add_one, hy']; unfold whos; rw [List.map_append]; rfl
      have lf : ((whos (l.take i)).filter fun v => decide (v ≠ wv)).length ≤ 5 := by
        refine Nat.le_trans (List.length_filter_le _ _) ?_
        unfold whos
        rw [List.length_map, List.length_take]; omega
      rw [et, List.filter_append, List.map_append]
      refine ⟨rfl, _, rfl, _, rfl, rfl, _, rfl, ite2 (fun c1 => ?_) (fun c1 => ?_)⟩
      · have c1 : y'.1 ≠ wv := by
          intro e
          have c1 : ¬ kV (Sum.inl y'.1) = V.int wv := by simpa using c1
          exact c1 (by rw [e]; rfl)
        refine ⟨_, rfl, _, hZ, by rw [List.length_map, sizeLine_eq]; omega, fun a o h => by rw [upd_ne (ne_of_none h nZ)]; exact sm _ _ h, ?_⟩
        rw [upd_same, List.filter_cons, if_pos (decide_eq_true c1)]; rfl
      · have c1 : y'.1 = wv := by
          have e0 : kV (Sum.inl y'.1) = V.int wv := by simpa using c1
          injection e0
        refine ⟨sm, ?_⟩
        rw [hZ, List.filter_cons_of_neg (by simp [c1])]; simp
    · obtain ⟨sm, hZ⟩ := q
      rw [List.take_of_length_le (by unfold kvH; rw [List.length_map]; exact Nat.le_refl _), ← agst_all] at hZ
      refine ⟨sm _ _ hL5, ?_⟩
      have s6 : Same H3 (upd H' dL uL) := fun b o hb => by
        by_cases e : b = dL
        · rw [e, upd_same]; rw [e, hdL] at hb; exact hb
        · rw [upd_ne e]; exact sm _ _ (f5 _ _ e hb)
      have hZ6 : (upd H' dL uL) Z = some (.lst ((agst l wv true).map V.int)) := by rw [upd_ne nZL]; exact hZ
      have w6 := w3.same s6
      generalize upd H' dL uL = H6 at hZ6 w6 ⊢
      refine ⟨by show 0 ≤ sizeLine; decide, fun e ne => ?_⟩
      have hZ7 : (upd H6 e (.lst [])) Z = some (.lst ((agst l wv true).map V.int)) := by rw [upd_ne (ne_of_none hZ6 ne)]; exact hZ6
      refine ⟨_, .list [], dp_ints hZ7, Dp.lst (SqL.of upd_same) .nil, shaped_ints _, rfl, ?_⟩
      rw [eqv_nil]
      refine ⟨rfl, _, rfl, ?_⟩
      have w7 := w6.same (same_upd (o := .lst []) ne)
      refine iteF2 ?_ (knx _ { x with wl := w7 })
      simp
end
end K16
namespace K16
open PySem L2 HK
theorem execs_app (env : Env) (b : List Stmt) : ∀ a : List Stmt, execs (a ++ b) env = (execs a env >>= fun f => match f with | .next => execs b env | f => pure f)
  | [] => rfl
  | s :: r => by
    rw [List.cons_append, execs_cons, execs_cons, bind_assoc]
    refine congrArg (fun k => exec s env >>= k) (funext fun f => ?_)
    cases f with
    | next => exact execs_app env b r
    | _ => rfl
theorem pss_app {X : Cx} {a b : List Stmt} {t u : TS} (h1 : PSs X a t) (h2 : PSs X b u) : PSs X (a ++ b) (tSeq t u) := by
  refine ⟨fun pins s σ H D I h => ?_⟩
  rw [execs_app]
  refine wpAny_bind (thn (h1.run pins s σ H { D with nx := u D } I h) fun f s1 q => ?_)
  cases f with
  | next =>
    obtain ⟨σ', H', I', q⟩ := q
    exact h2.run pins s1 σ' H' D I' q
  | _ => exact wpAny_pure q
theorem step_cut : stepBody.drop 2 = (stepBody.drop 2).take 4 ++ stepBody.drop 6 := rfl
section
variable {P : Program} {w : World} {K : PySem.W.Frag} {mg : Str → Option Value} {base : Heap} {CL CE g0 : Addr}
theorem step_ok (L : LTxt2 P w K mg base CL CE g0) {f c0 PT : Addr} {A : Around} {outer : List Env} {s : Shared} {H0 : Hp} {E9 : XK} (TB : LamX.TabB base mg c0 PT) (hr : Room 7 (LCx P w K mg base f c0 A outer s H0 E9).A) :
    ∃ t, PSs (LCx P w K mg base f c0 A outer s H0 E9) stepBody t ∧ ∀ (R a D c sd : Addr) (gp gl : LG) (dc : Dice) (Dn : Ends) (H : Hp) (u3 u4 u5 u6 u7 u8 u9 u10 u11 u12 u14 u15 u16 u17 : Option V),
      WS CL R PT D c sd gp gl dc H →
      (∀ H' gp' gl' dc' u3 u4 u5 u6 u7 u8 u9 u10 u11 u12 u14 u15 u16 u17, WS CL R PT D c sd gp' gl' dc' H' → Dn.nx [some (.ref a), some (.ref D), some (.ref sd), u3, u4, u5, u6, u7, u8, u9, u10, u11, u12, some (.ref c), u14, u15, u16, u17] H') →
      (∀ H' gp' gl' dc' u3 u4 u5 u6 u7 u8 u9 u10 u11 u12 u14 u15 u16 u17, WS CL R PT D c sd gp' gl' dc' H' → Dn.ct [some (.ref a), some (.ref D), some (.ref sd), u3, u4, u5, u6, u7, u8, u9, u10, u11, u12, some (.ref c), u14, u15, u16, u17] H') →
      t Dn [some (.ref a), some (.ref D), some (.ref sd), u3, u4, u5, u6, u7, u8, u9, u10, u11, u12, some (.ref c), u14, u15, u16, u17] H := by
  obtain ⟨fO, dO, FO, mO, kO, bO⟩ := L.roll
  have rO := FO.mono (show 1 ≤ 7 by decide)
  obtain ⟨ta, hta, qa⟩ := ask_ok (s := s) (H0 := H0) (E9 := E9) L TB hr
  obtain ⟨tr, htr, qr⟩ := rel_ok (s := s) (H0 := H0) (E9 := E9) L TB hr
  obtain ⟨tl, htl, ql⟩ := lve_ok (s := s) (H0 := H0) (E9 := E9) L hr
  obtain ⟨ts, hts, qs⟩ := shown_ok (s := s) (H0 := H0) (E9 := E9) L hr
  obtain ⟨tf, htf, qf'⟩ := fits_ok (s := s) (H0 := H0) (E9 := E9) L hr
  have hrest : PSs (LCx P w K mg base f c0 A outer s H0 E9) (stepBody.drop 2) (tSeq ts tf) := by
    rw [step_cut]
    exact pss_app hts htf
  refine ⟨_, pss_cons (ps_asg (pe_tup (pa_cons (pe_op op_add pe_int (pe_call rO hr (by rfl) mO kO bO .nil pass0 (pa_cons (pv 1) (pa_cons pe_int pa_nil)))) (pa_cons (pe_ix ix_str pe_str (pe_call rO hr (by rfl) mO kO bO .nil pass0 (pa_cons (pv 1) (pa_cons pe_int pa_nil))) (fun _ _ => rfl)) (pa_cons (pe_call rO hr (by rfl) mO kO bO .nil pass0 (pa_cons (pv 1) (pa_cons pe_int pa_nil))) pa_nil))))
      (pg_tup rfl (pgs_cons (pg_name (i := 15) scLaw.nd rfl (Or.inr rfl)) (pgs_cons (pg_name (i := 14) scLaw.nd rfl (Or.inr rfl)) (pgs_cons (pg_name (i := 4) scLaw.nd rfl (Or.inl rfl)) pgs_nil)))))
    (pss_cons (ps_if (pt_cmpR op_lt (pv 4) pe_int (nomark _)) hta (pss_one (ps_if (pt_cmpR op_lt (pv 4) pe_int (nomark _)) htr htl))) hrest), ?_⟩
  intro R a D c sd gp gl dc Dn H u3 u4 u5 u6 u7 u8 u9 u10 u11 u12 u14 u15 u16 u17 x knx kct
  -- who, what, and what is done
  have tail : ∀ (gp gl : LG) (dc : Dice) (wv : Int) (n : Str) (H : Hp) (u3 u4 u5 u6 u7 u8 u9 u10 u11 u12 u16 u17 : Option V), WS CL R PT D c sd gp gl dc H → tSeq ts tf Dn [some (.ref a), some (.ref D), some (.ref sd), u3, u4, u5, u6, u7, u8, u9, u10, u11, u12, some (.ref c), some (.str n), some (.int wv), u16, u17] H := by
    intro gp gl dc wv n H u3 u4 u5 u6 u7 u8 u9 u10 u11 u12 u16 u17 x
    refine qs R PT a D c sd gp gl dc wv n _ H u3 u4 u5 u6 u7 u8 u9 u10 u11 u12 u16 u17 x.wl x.iv x.et x.eq fun H' v9 v11 w' => ?_
    exact qf' R PT a D c sd gp gl dc wv n _ H' u3 u4 u5 u6 u7 u8 v9 v11 u12 u16 u17 { x with wl := w' } fun H2 x2 => knx _ _ _ _ _ _ _ _ _ _ _ _ _ _ _ _ _ _ x2
  obtain ⟨a0, a1⟩ := roll_range dc (m := 5) (by decide)
  refine ⟨_, rfl, D, dc, 5, rfl, x.wl.dice, by decide, by decide, _, _, rfl, rfl, ?_⟩
  have w1 := x.wl.rolled (dc' := (roll dc 5).2) (SameX.upd (o := .lst (roll dc 5).2.vs)) upd_same
  generalize upd H D (.lst (roll dc 5).2.vs) = H1 at w1 ⊢
  generalize (roll dc 5).2 = dc1 at w1 ⊢
  generalize (roll dc 5).1 = i1 at a0 a1 ⊢
  obtain ⟨b0, b1⟩ := roll_range dc1 (m := 4) (by decide)
  refine ⟨_, rfl, D, dc1, 4, rfl, w1.dice, by decide, by decide, ?_⟩
  have w2 := w1.rolled (dc' := (roll dc1 4).2) (SameX.upd (o := .lst (roll dc1 4).2.vs)) upd_same
  generalize upd H1 D (.lst (roll dc1 4).2.vs) = H2 at w2 ⊢
  obtain ⟨ch, n, hch, hn, nS⟩ : ∃ (ch : Nat) (n : Str), atI (("pqrs" : Str).cps.toList) (roll dc1 4).1 = some ch ∧ (⟨#[ch]⟩ : Str) = n ∧ n ∈ S4 := by
    rcases (by omega : (roll dc1 4).1 = 0 ∨ (roll dc1 4).1 = 1 ∨ (roll dc1 4).1 = 2 ∨ (roll dc1 4).1 = 3) with e | e | e | e <;> rw [e]
    · exact ⟨112, _, by decide +kernel, rfl, by decide +kernel⟩
    · exact ⟨113, _, by decide +kernel, rfl, by decide +kernel⟩
    · exact ⟨114, _, by decide +kernel, rfl, by decide +kernel⟩
    · exact ⟨115, _, by decide +kernel, rfl, by decide +kernel⟩
  refine ⟨_, _, ch, rfl, rfl, (by decide +kernel), hch, ?_⟩
  rw [hn]
  generalize (roll dc1 4).2 = dc2 at w2 ⊢
  obtain ⟨d0, d1⟩ := roll_range dc2 (m := 8) (by decide)
  refine ⟨_, rfl, D, dc2, 8, rfl, w2.dice, by decide, by decide, ?_⟩
  have w3 := w2.rolled (dc' := (roll dc2 8).2) (SameX.upd (o := .lst (roll dc2 8).2.vs)) upd_same
  generalize upd H2 D (.lst (roll dc2 8).2.vs) = H3 at w3 ⊢
  generalize (roll dc2 8).2 = dc3 at w3 ⊢
  generalize (roll dc2 8).1 = srt' at d0 d1 ⊢
  refine ⟨by show 3 ≤ sizeLine; decide, fun T3 nT3 => ?_⟩
  have w4 := w3.same (same_upd (o := .tup [.int (1 + i1), .str n, .int srt']) nT3)
  refine ⟨T3, _, rfl, SqT.of upd_same, rfl, _, _, rfl, _, _, rfl, _, _, rfl, rfl, ?_⟩
  generalize upd H3 T3 (.tup [.int (1 + i1), .str n, .int srt']) = H4 at w4 ⊢
  have x4 : WS CL R PT D c sd gp gl dc3 H4 := { x with wl := w4 }
  refine ⟨_, rfl, _, _, rfl, rfl, _, rfl, ite2 (fun _ => ?_) (fun _ => ?_)⟩
  · exact qa R a D c sd gp gl dc3 (1 + i1) n _ H4 u3 (some (.int srt')) u5 u6 u7 u8 u9 u10 u11 u12 u16 u17 x4 ⟨by omega, by omega⟩ nS fun H' gp' gl' dc' v5 v6 v7 v12 x' => tail gp' gl' dc' (1 + i1) n H' u3 (some (.int srt')) v5 v6 v7 u8 u9 u10 u11 v12 u16 u17 x'
  · refine ⟨_, rfl, _, _, rfl, rfl, _, rfl, ite2 (fun _ => ?_) (fun _ => ?_)⟩
    · exact qr R a D c sd gp gl dc3 (1 + i1) n _ H4 u3 (some (.int srt')) u5 u6 u7 u8 u9 u10 u11 u12 u16 u17 x4 (fun H' gp' gl' v8 x' => tail gp' gl' dc3 (1 + i1) n H' u3 (some (.int srt')) u5 u6 u7 v8 u9 u10 u11 u12 u16 u17 x') (fun H' v8 x' => kct _ _ _ _ _ _ _ _ _ _ _ _ _ _ _ _ _ _ x')
    · exact ql R PT a D c sd gp gl dc3 (1 + i1) n _ H4 u3 (some (.int srt')) u5 u6 u7 u8 u9 u10 u11 u12 u16 u17 x4 fun H' gp' gl' v8 v9 x' => tail gp' gl' dc3 (1 + i1) n H' u3 (some (.int srt')) u5 u6 u7 v8 v9 u10 u11 u12 u16 u17 x'
end
end K16
namespace K16
open PySem L2 HK
def spLaw (K : PySem.W.Frag) (P : Addr) : Sp := fun vs H Q _ => ∃ (a : Addr) (ns : List Int), vs = [.ref a] ∧ SqL K H a (ns.map V.int) ∧ LamX.Tabs [(P, lamQ)] H ∧ ∀ H', Q (.bl true) H'
theorem inv_nil (S : List Str) : Inv S ([] : Tb Str) [] :=
  { ndk := List.nodup_nil, ks := fun x h => (by cases h), nd := fun n => List.nodup_nil, rg := fun n w h => (by cases h), ndq := List.nodup_nil, rq := fun r h => (by cases h), cmp := fun n w h => (by cases h), acy := fun a k => by
      obtain ⟨c, hc⟩ := k.head
      cases hc }
theorem blk_nil : Blk ([] : Tb Str) [] := fun r h => by cases h
section
variable {P : Program} {w : World} {K : PySem.W.Frag} {mg : Str → Option Value} {base : Heap} {CL CE g0 : Addr}
theorem ok_law {f c0 PT : Addr} {oc kV doc pm ct : Value} {od an : Option Addr} {osl : Array (Option Value)}
    (lk : K.lookup f = some ⟨oc, od, .func (PySem.W.fnOf "law" "law" (defArgs sLaw) (defBody sLaw) (defScope sLaw) .none kV doc pm an (.ref c0) ct), osl⟩) (hcd : PySem.W.codeIn K (.ref c0) "law" = true) (TB : LamX.TabB base mg c0 PT) (L : LTxt2 P w K mg base CL CE g0) :
    FnOk P w K mg base L2.CX0 8 f (PySem.W.fnOf "law" "law" (defArgs sLaw) (defBody sLaw) (defScope sLaw) .none kV doc pm an (.ref c0) ct) ["script"] (spLaw K PT) := by
  obtain ⟨f2, d2, F2, m2, k2, b2⟩ := L.rounds
  obtain ⟨f3, d3, F3, m3, k3, b3⟩ := L.roll
  obtain ⟨fI, dI, FI, MI, bI⟩ := L.init
  obtain ⟨fA, dA, FA, mA, bA⟩ := L.ask
  obtain ⟨fH, dHh, FH, mH, bH⟩ := L.ahd
  have T := L.X
  have G := L.G
  have lexm := L.e11
  have r2 := F2.mono (show 2 ≤ 7 by decide)
  have r3 := F3.mono (show 1 ≤ 7 by decide)
  have rI := FI.mono (show 1 ≤ 6 by decide)
  have rI4 := FI.mono (show 1 ≤ 4 by decide)
  have rH := FH.mono (show 1 ≤ 7 by decide)
  refine fn_of lk hcd scLaw (fun vs H Q E h => ?_) (fun A outer s H vs Q E hr h => ?_)
  · obtain ⟨a, ns, rfl, _⟩ := h
    rfl
  · obtain ⟨a, ns, rfl, ha, hT, k⟩ := h
    suffices hX : ∃ t, PSs (cxOf L2.CX0 P w K mg base NL "law" (defScope sLaw) f (.ref c0) A outer s H E).nox (defBody sLaw) t ∧ t { nx := fun _ H' => Q .non H', rt := Q } (L2.start NL [.ref a]) H by
      obtain ⟨t, h1, h2⟩ := hX
      exact ⟨t, h1.nox, h2⟩
    have hr : Room 7 (cxOf L2.CX0 P w K mg base NL "law" (defScope sLaw) f (.ref c0) A outer s H E).nox.A := hr
    obtain ⟨ts, hts, qs⟩ := step_ok (s := s) (H0 := H) (E9 := E) L TB hr
    refine ⟨_, pss_cons (ps_for PassesOwn.never rfl (pi_list (pe_call r2 hr (by rfl) m2 k2 b2 .nil pass0 (pa_cons (pv 0) (pa_cons pe_int pa_nil)))) (pg_name (i := 1) scLaw.nd rfl (Or.inl rfl))
        (pss_cons (ps_asg (pe_tup (pa_cons (pe_make0 MI rI hr (by rfl) T.gC bI .nil pass0) (pa_cons (pe_disp (pps_cons pe_str pe_dnewK (pps_cons pe_str (pe_lst pa_nil) pps_nil)) (by rfl) (by rfl) (fun z => by cases z) (by decide)) pa_nil))) (pg_tup rfl (pgs_cons (pg_name (i := 13) scLaw.nd rfl (Or.inr rfl)) (pgs_cons (pg_name (i := 2) scLaw.nd rfl (Or.inl rfl)) pgs_nil))))
        (pss_one (ps_for PassesOwn.never rfl (pi_range1 (by rfl) G.range (pa_cons (pe_call r3 hr (by rfl) m3 k3 b3 .nil pass0 (pa_cons (pv 1) (pa_cons pe_int pa_nil))) pa_nil)) (pg_name (i := 3) scLaw.nd rfl (Or.inl rfl)) hts))))
      (pss_one (ps_ret (pe_and (pe_cmpR (op_eqD hr.units) (pe_told (k := 5) L.told TB rfl (by rfl) hr (LamX.lamS_by (sc := defScope sLaw) (by decide +kernel)) rfl (fun _ _ _ _ _ => rfl)
          (fun A1 o1 s1 H1 E1 f1 c1 hr5 => pe_meth (pe_make0 MI rI4 hr5 (by rfl) T.gC bI .nil pass0) T.cl mA FA hr5 bA .nil (passes_call (takes_of rfl rfl rfl rfl) (fun _ _ _ _ h => h)) (pa_cons pe_int (pa_cons pe_str (pa_cons pe_str pa_nil))))) pe_str (nomark _))
        (pe_one (pe_cmpR (op_eqD hr.units) (pe_meth (pe_make0 MI rI hr (by rfl) T.gC bI .nil pass0) T.cl mH rH hr bH .nil pass0 (pa_cons pe_int (pa_cons pe_str pa_nil))) (pe_lst pa_nil) (nomark _)))))), ?_⟩
    refine ⟨_, rfl, a, ns, rfl, ha, fun H1 R D s1 nR nD nRD hR hD => ?_⟩
    refine ⟨R, rfl, ⟨_, SqL.of hR⟩, ?_⟩
    generalize mkDice (cell0 ns) = dc0 at hD
    refine for_list (K := K) (a := R) (xs := [.ref D]) (fun i σ H' => H' R = some (.lst [.ref D]) ∧ LamX.Tabs [(PT, lamQ)] H' ∧ (i = 0 → σ = L2.start NL [.ref a] ∧ H' = H1)) ⟨hR, hT.ext s1, fun _ => ⟨rfl, rfl⟩⟩ (fun i σ H' hi q => SqL.of q.1) (fun i x σ H' hx q => ?_) (fun σ H' q => ?_)
    · match i, hx with
      | 0, hx =>
        obtain rfl : V.ref D = x := Option.some.inj hx
        obtain ⟨rfl, rfl⟩ := q.2.2 rfl
        have hT1 := hT.ext s1
        clear q hx hT ha s1 nR nD
        -- the locks and the law's own state
        refine fun c cx nc ncx ncc => ⟨c, cx, rfl, upd_same, fun H2 g f2 lo eho eqs ow => ?_⟩
        have s2 : Same H' H2 := fun b o h => f2 b o (ne_of_none h nc) (by rw [upd_ne (ne_of_none h nc), upd_ne (ne_of_none h ncx)]; exact h)
        have bk : ∀ b ∈ own c g, H' b = none := fun b hb => by
          rcases ow b hb with e | e
          · rw [e]; exact nc
          · by_cases h1 : b = c
            · rw [h1]; exact nc
            · by_cases h2 : b = cx
              · rw [h2]; exact ncx
              · rw [upd_ne h1, upd_ne h2] at e; exact e
        have nDo : D ∉ own c g := fun z => by have := bk D z; rw [hD] at this; cases this
        have nRo : R ∉ own c g := fun z => by have := bk R z; rw [hR] at this; cases this
        have hD2 := s2 _ _ hD
        have hR2 := s2 _ _ hR
        have hT2 := hT1.ext s2
        clear hD hR hT1 s2 bk f2 ow nc ncx ncc
        refine ⟨rfl, fun p np => fun d nd => ⟨by show 0 ≤ sizeLine; decide, fun l nl => ⟨?_, [(.inr "held", .ref d), (.inr "queue", .ref l)], rfl, by show 2 ≤ 15; decide, ?_⟩⟩⟩
        · rw [upd_ne (ne_of_none (same_upd nd _ _ (upd_same (H := H2) (a := p) (o := .dK []))) nl), upd_ne (ne_of_none (upd_same (H := H2) (a := p) (o := .dK [])) nd), upd_same]
        have e1 : mergeK [] [((.inr "held" : Key), V.ref d), (.inr "queue", .ref l)] = [(.inr "held", .ref d), (.inr "queue", .ref l)] := by
          have ne : ¬ ((.inr "held" : Key)) = .inr "queue" := by decide +kernel
          show putK (putK ([] : KVs) (.inr "held") (.ref d)) (.inr "queue") (.ref l) = _
          rw [putK_new _ valV_nil, putK_new]
          · rfl
          · show valV [((.inr "held" : Key), V.ref d)] (.inr "queue") = none
            rw [valV_neg ne, valV_nil]
        rw [e1]
        have spd : Same H2 (upd H2 p (.dK [])) := same_upd np
        have sdd : Same (upd H2 p (.dK [])) (upd (upd H2 p (.dK [])) d (.dK [])) := same_upd nd
        have sll : Same (upd (upd H2 p (.dK [])) d (.dK [])) (upd (upd (upd H2 p (.dK [])) d (.dK [])) l (.lst [])) := same_upd nl
        have hp1 : (upd (upd (upd H2 p (.dK [])) d (.dK [])) l (.lst [])) p = some (.dK []) := sll _ _ (sdd _ _ upd_same)
        have hd1 : (upd (upd (upd H2 p (.dK [])) d (.dK [])) l (.lst [])) d = some (.dK []) := sll _ _ upd_same
        have hl1 : (upd (upd (upd H2 p (.dK [])) d (.dK [])) l (.lst [])) l = some (.lst []) := upd_same
        have ss := (spd.trans sdd).trans sll
        have npd : d ≠ p := fun e => by rw [e, upd_same] at nd; cases nd
        have npl : l ≠ p := fun e => by rw [e] at nl; rw [sdd _ _ upd_same] at nl; cases nl
        have ndl : l ≠ d := fun e => by rw [e, upd_same] at nl; cases nl
        have nd2 : H2 d = none := spd.free nd
        have nl2 : H2 l = none := (spd.trans sdd).free nl
        generalize upd (upd (upd H2 p (.dK [])) d (.dK [])) l (.lst []) = H3 at hp1 hd1 hl1 ss ⊢
        have s3 : Same H2 (upd H3 p (.dK [(.inr "held", .ref d), (.inr "queue", .ref l)])) := fun b o h => by rw [upd_ne (ne_of_none h np)]; exact ss _ _ h
        have hp4 : (upd H3 p (.dK [(.inr "held", .ref d), (.inr "queue", .ref l)])) p = some (.dK [(.inr "held", .ref d), (.inr "queue", .ref l)]) := upd_same
        have hd4 : (upd H3 p (.dK [(.inr "held", .ref d), (.inr "queue", .ref l)])) d = some (.dK []) := by rw [upd_ne npd]; exact hd1
        have hl4 : (upd H3 p (.dK [(.inr "held", .ref d), (.inr "queue", .ref l)])) l = some (.lst []) := by rw [upd_ne npl]; exact hl1
        generalize upd H3 p (.dK [(.inr "held", .ref d), (.inr "queue", .ref l)]) = H4 at s3 hp4 hd4 hl4 ⊢
        refine ⟨by show 2 ≤ sizeLine; decide, fun t nt => ⟨t, _, rfl, SqT.of upd_same, rfl, _, _, rfl, _, _, rfl, rfl, ?_⟩⟩
        have s4 : Same H4 (upd H4 t (.tup [.ref c, .ref p])) := same_upd nt
        generalize upd H4 t (.tup [.ref c, .ref p]) = H5 at s4 ⊢
        have s35 := s3.trans s4
        obtain ⟨gl, egl⟩ : ∃ gl : LG, gl = ⟨p, d, l, [], []⟩ := ⟨_, rfl⟩
        have st5 : SAt H5 p gl := by
          rw [egl]
          exact ⟨s4 _ _ hp4, ⟨s4 _ _ hd4, fun y hy => (by cases hy), by show ([d] : List Addr).Nodup; simp⟩, ⟨s4 _ _ hl4, fun y hy => (by cases hy)⟩, by show p ∉ [d]; simp [Ne.symm npd]⟩
        have og : ∀ b ∈ own p gl, H2 b = none := fun b hb => by
          have : b = p ∨ b = l ∨ b = d := by rw [egl] at hb; simpa [own, adr] using hb
          rcases this with e | e | e
          · rw [e]; exact np
          · rw [e]; exact nl2
          · rw [e]; exact nd2
        have lo5 := lo.same s35
        have wl5 : WL CL R PT D c p g gl dc0 H5 :=
          { dice := s35 _ _ hD2, row := s35 _ _ hR2, tabs := hT2.ext s35, loc := lo5, st := st5, nDR := nRD.symm, nDc := nDo, nRc := nRo
            apt := fun b hb z => by
              obtain ⟨o, ho, _⟩ := lo.there hb
              rw [og b z] at ho; cases ho
            nDs := fun z => by have := og D z; rw [hD2] at this; cases this
            nRs := fun z => by have := og R z; rw [hR2] at this; cases this }
        have egt : g.t = [] := by show fg g.ho = []; rw [eho]; rfl
        have egq : g.q = [] := by show qf g.qs = []; rw [eqs]; rfl
        have W5 : WS CL R PT D c p g gl dc0 H5 := { wl := wl5, iv := by rw [egt, egq]; exact inv_nil _, bl := by rw [egt, egq]; exact blk_nil, et := by rw [egt, egl]; rfl, eq := by rw [egq, egl]; rfl }
        clear wl5 lo5 og st5 s35 s4 s3 hp4 hd4 hl4 hD2 hR2 hT2 lo ss hp1 hd1 hl1
        -- the steps
        obtain ⟨t0, t1⟩ := roll_range dc0 (m := 41) (by decide)
        refine ⟨_, rfl, D, dc0, 41, rfl, W5.wl.dice, by decide, by decide, ?_⟩
        have w6 := W5.wl.rolled (dc' := (roll dc0 41).2) (SameX.upd (o := .lst (roll dc0 41).2.vs)) upd_same
        generalize upd H5 D (.lst (roll dc0 41).2.vs) = H6 at w6 ⊢
        generalize (roll dc0 41).2 = dc1 at w6
        generalize (roll dc0 41).1 = tn at t0 t1 ⊢
        refine ⟨_, rfl, by omega, by omega, ?_⟩
        refine for_range (n := tn.toNat) (fun i σ H' => ∃ gp gl dc u3 u4 u5 u6 u7 u8 u9 u10 u11 u12 u14 u15 u16 u17, σ = [some (.ref a), some (.ref D), some (.ref p), u3, u4, u5, u6, u7, u8, u9, u10, u11, u12, some (.ref c), u14, u15, u16, u17] ∧ WS CL R PT D c p gp gl dc H') ⟨g, gl, dc1, none, none, none, none, none, none, none, none, none, none, none, none, none, none, rfl, { W5 with wl := w6 }⟩ (fun i σ H' hi q => ?_) (fun σ H' q => ?_)
        · obtain ⟨gp, gl, dc, u3, u4, u5, u6, u7, u8, u9, u10, u11, u12, u14, u15, u16, u17, rfl, x⟩ := q
          exact qs R a D c p gp gl dc _ H' _ u4 u5 u6 u7 u8 u9 u10 u11 u12 u14 u15 u16 u17 x (fun H2 gp' gl' dc' v3 v4 v5 v6 v7 v8 v9 v10 v11 v12 v14 v15 v16 v17 x' => ⟨gp', gl', dc', v3, v4, v5, v6, v7, v8, v9, v10, v11, v12, v14, v15, v16, v17, rfl, x'⟩)
            (fun H2 gp' gl' dc' v3 v4 v5 v6 v7 v8 v9 v10 v11 v12 v14 v15 v16 v17 x' => ⟨gp', gl', dc', v3, v4, v5, v6, v7, v8, v9, v10, v11, v12, v14, v15, v16, v17, rfl, x'⟩)
        · obtain ⟨gp, gl, dc, u3, u4, u5, u6, u7, u8, u9, u10, u11, u12, u14, u15, u16, u17, rfl, x⟩ := q
          exact ⟨x.wl.row, x.wl.tabs, fun z => by cases z⟩
      | i + 1, hx => cases hx
    · obtain ⟨_, hT', _⟩ := q
      have so : PyData.strOk ("ProcessError" : Str) = true := by decide +kernel
      have shp : SeqAt.shaped (.str ("ProcessError" : Str)) = true := by simp [SeqAt.shaped, PyData.canLay0, PyData.depth, so]
      refine ⟨hT', fun H2 e2 t2 => ?_⟩
      refine fun c cx nc ncx ncc => ⟨c, cx, rfl, upd_same, fun H3 g f3 lo eho eqs ow => ⟨rfl, ?_⟩⟩
      refine ⟨c, g.cx, _, rfl, lo.ins, rfl, c, g, 1, "a", "both", rfl, lo, .inl ⟨by decide +kernel, fun H4 s4 => ⟨true, lexm, fun _ => ?_, fun z => Bool.noConfusion z⟩⟩⟩
      refine ⟨.str "ProcessError", .str "ProcessError", Dp.str _, Dp.str _, shp, shp, ?_⟩
      rw [SeqAt.eqv_refl _ (SeqAt.canLay_of_shaped shp)]
      refine ⟨true, rfl, iteT ?_⟩
      refine fun c2 cx2 nc2 ncx2 ncc2 => ⟨c2, cx2, rfl, upd_same, fun H5 g2 f5 lo2 eho2 eqs2 ow2 => ⟨rfl, ?_⟩⟩
      refine ⟨c2, g2.cx, _, rfl, lo2.ins, rfl, c2, g2, 1, "a", rfl, lo2, by rw [eqs2]; exact Nat.zero_le _, fun H6 r6 s6 n6 h6 => ?_⟩
      refine ⟨by show 0 ≤ sizeLine; decide, fun e ne => ?_⟩
      have eq2 : g2.q = [] := by show qf g2.qs = []; rw [eqs2]; rfl
      rw [eq2] at h6
      have h7 : (upd H6 e (.lst [])) r6 = some (.lst (([] : List Int).map V.int)) := by rw [upd_ne (ne_of_none h6 ne)]; exact h6
      refine ⟨_, .list [], dp_ints h7, Dp.lst (SqL.of upd_same) .nil, shaped_ints _, rfl, ?_⟩
      exact k _
end
end K16
namespace HK
open PySem PySem.Spec PyProof.Rows L2 LamX
theorem tabIn_of {K : PySem.W.Frag} {x : Str} {f c P : Addr} {fd : FuncData} {oc c1 : Value} {od c2 : Option Addr} {sl c3 : Array (Option Value)} {vs : Array Value} (a : PySem.W.nsIn K mainGlobals x = some (some (.ref f))) (l : K.lookup f = some ⟨oc, od, .func fd, sl⟩) (hc : fd.code = .ref c)
    (lc : K.lookup c = some ⟨c1, c2, .fields vs, c3⟩) (hv : vs[11]? = some (.ref P)) : PySem.W.tabIn K x = some (c, P) := by
  unfold PySem.W.tabIn
  rw [a]
  dsimp only
  rw [l]
  dsimp only
  rw [hc]
  dsimp only
  rw [lc]
  dsimp only
  rw [hv]
/-- the end of a law's row, the law's own table of code objects told -/
theorem walk_TT {l : PySem.W.OpenLaw} {n k : Nat} {q : Program} {loose : List Str} {XP : (Str → Option Value) → Heap → Prop} {YP : World → Heap → Prop} {d : DefRec} {K : Params → PySem.W.Frag} {CX : World → CXT} {x : Str}
    (hn : l.most = some n) (hn2 : n ≤ sizeLine) (hdf : d.params.defaults = []) (hr : Room k callerA) (hY : ∀ (w : World) (h : Heap), YP w h → (K w.params).In h) (hrec : (recsOf q).find? (fun e => e.name == d.name) = some d)
    (F : ∀ (w : World) (mg : Str → Option Value) (fa : Addr) (h : Heap), (∀ c P, PySem.W.tabIn (K w.params) d.name = some (c, P) → PySem.W.CodeHd h c P ∧ h.get? P = some ({ cls := .none, data := .fields #[] } : Obj)) → (K w.params).In h → h.Ns mainGlobals mg → mg d.name = some (.ref fa) → LawAtS l w (K w.params) (CX w) k n x mg fa h)
    (hCX : ∀ (w : World) (H : Hp) (s : Shared) (e : Value) (s' : Shared), CX w [] H s (fun _ _ _ => False) e s' → False) :
    PySem.W.WalkO q loose XP YP l.row.toRowW d [] (fun f vs => PySem.call f vs) := by
  refine Att.attach_callB hn hdf fun w s0 s1 mg mb fa o pm cd doc a vs ns G Y ho hd hcd hmg hobj hints hlen hbits hg => ?_
  have KX := hY w _ Y
  obtain ⟨fd, cs, sp, hT, nT, C, hb, hsp, hF⟩ := F w mg fa _ (fun c P ht => PySem.W.tab_of G.T KX hrec ht) KX G.T.g hmg
  exact law_callTs KX G.T.g G.T.b G.T.builtins G.T.nolimit hg hT nT C G.T.bmain hobj hints (Nat.le_trans hlen hn2) hr hF hb (fun H hH hS => hsp H a ns hlen hbits hH hS) fun H e s' => hCX w H s1 e s'
theorem exm_same {K : PySem.W.Frag} {C : Addr} (h1 : PySem.W.subIn K (.ref C) (.type "BaseException") = some true) (h2 : PySem.W.isClsIn K C = true) (h3 : PySem.W.typeIn K (.ref C) = some (.type "type")) (h4 : PySem.W.subIn K (.ref C) (.ref C) = some true) : PySem.W.exmOne K (.ref C) (.ref C) = some true :=
  by
  have e1 : (PySem.W.subIn K (.ref C) (.type "BaseException") == some true) = true := by rw [h1]; rfl
  unfold PySem.W.exmOne
  rw [if_pos e1]
  show (if ((PySem.W.clsIn K C).isSome && PySem.W.typeIn K (.ref C) == some (.type "type")) = true then PySem.W.subIn K (.ref C) (.ref C) else none) = some true
  have e2 : (PySem.W.clsIn K C).isSome = true := h2
  rw [e2, h3, h4]
  rfl
end HK
namespace K16
open PySem L2 HK
theorem all_mk {l : PySem.W.OpenLaw} {w : World} {K : PySem.W.Frag} {h : Heap} {mg : Str → Option Value} {fa : Addr} (X : K.In h) (G : h.Ns mainGlobals mg) (hfa : mg "law" = some (.ref fa))
    (tabs : ∀ c P, PySem.W.tabIn K "law" = some (c, P) → PySem.W.CodeHd h c P ∧ h.get? P = some ({ cls := .none, data := .fields #[] } : Obj))
    {fDice : Addr} {odDice anDice : Option Addr} {slDice : Array (Option Value)} {ocDice kVDice dcDice pmDice cdDice ctDice : Value}
    {fRoll : Addr} {odRoll anRoll : Option Addr} {slRoll : Array (Option Value)} {ocRoll kVRoll dcRoll pmRoll cdRoll ctRoll : Value}
    {fRounds : Addr} {odRounds anRounds : Option Addr} {slRounds : Array (Option Value)} {ocRounds kVRounds dcRounds pmRounds cdRounds ctRounds : Value}
    {fTold : Addr} {odTold anTold : Option Addr} {slTold : Array (Option Value)} {ocTold kVTold dcTold pmTold cdTold ctTold : Value}
    {fBkd : Addr} {odBkd anBkd : Option Addr} {slBkd : Array (Option Value)} {ocBkd kVBkd dcBkd pmBkd cdBkd ctBkd : Value}
    {fWai : Addr} {odWai anWai : Option Addr} {slWai : Array (Option Value)} {ocWai kVWai dcWai pmWai cdWai ctWai : Value}
    {fRin : Addr} {odRin anRin : Option Addr} {slRin : Array (Option Value)} {ocRin kVRin dcRin pmRin cdRin ctRin : Value}
    {fTke : Addr} {odTke anTke : Option Addr} {slTke : Array (Option Value)} {ocTke kVTke dcTke pmTke cdTke ctTke : Value}
    {fSer : Addr} {odSer anSer : Option Addr} {slSer : Array (Option Value)} {ocSer kVSer dcSer pmSer cdSer ctSer : Value}
    {fDro : Addr} {odDro anDro : Option Addr} {slDro : Array (Option Value)} {ocDro kVDro dcDro pmDro cdDro ctDro : Value}
    {fInit : Addr} {odInit anInit : Option Addr} {slInit : Array (Option Value)} {ocInit kVInit dcInit pmInit cdInit ctInit : Value}
    {fHof : Addr} {odHof anHof : Option Addr} {slHof : Array (Option Value)} {ocHof kVHof dcHof pmHof cdHof ctHof : Value}
    {fAgs : Addr} {odAgs anAgs : Option Addr} {slAgs : Array (Option Value)} {ocAgs kVAgs dcAgs pmAgs cdAgs ctAgs : Value}
    {fFit : Addr} {odFit anFit : Option Addr} {slFit : Array (Option Value)} {ocFit kVFit dcFit pmFit cdFit ctFit : Value}
    {fAhd : Addr} {odAhd anAhd : Option Addr} {slAhd : Array (Option Value)} {ocAhd kVAhd dcAhd pmAhd cdAhd ctAhd : Value}
    {fBlk : Addr} {odBlk anBlk : Option Addr} {slBlk : Array (Option Value)} {ocBlk kVBlk dcBlk pmBlk cdBlk ctBlk : Value}
    {fAsk : Addr} {odAsk anAsk : Option Addr} {slAsk : Array (Option Value)} {ocAsk kVAsk dcAsk pmAsk cdAsk ctAsk : Value}
    {fTak : Addr} {odTak anTak : Option Addr} {slTak : Array (Option Value)} {ocTak kVTak dcTak pmTak cdTak ctTak : Value}
    {fWts : Addr} {odWts anWts : Option Addr} {slWts : Array (Option Value)} {ocWts kVWts dcWts pmWts cdWts ctWts : Value}
    {fRng : Addr} {odRng anRng : Option Addr} {slRng : Array (Option Value)} {ocRng kVRng dcRng pmRng cdRng ctRng : Value}
    {fRel : Addr} {odRel anRel : Option Addr} {slRel : Array (Option Value)} {ocRel kVRel dcRel pmRel cdRel ctRel : Value}
    {fDrp : Addr} {odDrp anDrp : Option Addr} {slDrp : Array (Option Value)} {ocDrp kVDrp dcDrp pmDrp cdDrp ctDrp : Value}
    {fSrv : Addr} {odSrv anSrv : Option Addr} {slSrv : Array (Option Value)} {ocSrv kVSrv dcSrv pmSrv cdSrv ctSrv : Value}
    {fLve : Addr} {odLve anLve : Option Addr} {slLve : Array (Option Value)} {ocLve kVLve dcLve pmLve cdLve ctLve : Value}
    {fShw : Addr} {odShw anShw : Option Addr} {slShw : Array (Option Value)} {ocShw kVShw dcShw pmShw cdShw ctShw : Value}
    {fL cL PT : Addr} {odL anL cdL2 : Option Addr} {slL cslL : Array (Option Value)} {ocL kVL dcL pmL ctL ccL : Value} {vsL : Array Value} {C CE : Addr} {tK tH : PySem.Tok}
    (aDice : PySem.W.nsIn K mainGlobals "_law_dice" = some (some (.ref fDice)))
    (lDice : K.lookup fDice = some ⟨ocDice, odDice, .func (PySem.W.fnOf "_law_dice" "_law_dice" (defArgs sDice) (defBody sDice) (defScope sDice) .none kVDice dcDice pmDice anDice cdDice ctDice), slDice⟩)
    (cDice : PySem.W.codeIn K cdDice "_law_dice" = true)
    (kDice : PySem.W.keepIn K (.ref fDice) = true)
    (aRoll : PySem.W.nsIn K mainGlobals "_law_roll" = some (some (.ref fRoll)))
    (lRoll : K.lookup fRoll = some ⟨ocRoll, odRoll, .func (PySem.W.fnOf "_law_roll" "_law_roll" (defArgs sRoll) (defBody sRoll) (defScope sRoll) .none kVRoll dcRoll pmRoll anRoll cdRoll ctRoll), slRoll⟩)
    (cRoll : PySem.W.codeIn K cdRoll "_law_roll" = true)
    (kRoll : PySem.W.keepIn K (.ref fRoll) = true)
    (aRounds : PySem.W.nsIn K mainGlobals "_law_rounds" = some (some (.ref fRounds)))
    (lRounds : K.lookup fRounds = some ⟨ocRounds, odRounds, .func (PySem.W.fnOf "_law_rounds" "_law_rounds" (defArgs sRounds) (defBody sRounds) (defScope sRounds) .none kVRounds dcRounds pmRounds anRounds cdRounds ctRounds), slRounds⟩)
    (cRounds : PySem.W.codeIn K cdRounds "_law_rounds" = true)
    (kRounds : PySem.W.keepIn K (.ref fRounds) = true)
    (aTold : PySem.W.nsIn K mainGlobals "_law_told" = some (some (.ref fTold)))
    (lTold : K.lookup fTold = some ⟨ocTold, odTold, .func (PySem.W.fnOf "_law_told" "_law_told" (defArgs sTold) (defBody sTold) (defScope sTold) .none kVTold dcTold pmTold anTold cdTold ctTold), slTold⟩)
    (cTold : PySem.W.codeIn K cdTold "_law_told" = true)
    (kTold : PySem.W.keepIn K (.ref fTold) = true)
    (aBkd : PySem.W.nsIn K mainGlobals "_law_blocked" = some (some (.ref fBkd)))
    (lBkd : K.lookup fBkd = some ⟨ocBkd, odBkd, .func (PySem.W.fnOf "_law_blocked" "_law_blocked" (defArgs sBkd) (defBody sBkd) (defScope sBkd) .none kVBkd dcBkd pmBkd anBkd cdBkd ctBkd), slBkd⟩)
    (cBkd : PySem.W.codeIn K cdBkd "_law_blocked" = true)
    (kBkd : PySem.W.keepIn K (.ref fBkd) = true)
    (aWai : PySem.W.nsIn K mainGlobals "_law_waits" = some (some (.ref fWai)))
    (lWai : K.lookup fWai = some ⟨ocWai, odWai, .func (PySem.W.fnOf "_law_waits" "_law_waits" (defArgs sWai) (defBody sWai) (defScope sWai) .none kVWai dcWai pmWai anWai cdWai ctWai), slWai⟩)
    (cWai : PySem.W.codeIn K cdWai "_law_waits" = true)
    (kWai : PySem.W.keepIn K (.ref fWai) = true)
    (aRin : PySem.W.nsIn K mainGlobals "_law_ring" = some (some (.ref fRin)))
    (lRin : K.lookup fRin = some ⟨ocRin, odRin, .func (PySem.W.fnOf "_law_ring" "_law_ring" (defArgs sRin) (defBody sRin) (defScope sRin) .none kVRin dcRin pmRin anRin cdRin ctRin), slRin⟩)
    (cRin : PySem.W.codeIn K cdRin "_law_ring" = true)
    (kRin : PySem.W.keepIn K (.ref fRin) = true)
    (aTke : PySem.W.nsIn K mainGlobals "_law_take" = some (some (.ref fTke)))
    (lTke : K.lookup fTke = some ⟨ocTke, odTke, .func (PySem.W.fnOf "_law_take" "_law_take" (defArgs sTke) (defBody sTke) (defScope sTke) .none kVTke dcTke pmTke anTke cdTke ctTke), slTke⟩)
    (cTke : PySem.W.codeIn K cdTke "_law_take" = true)
    (kTke : PySem.W.keepIn K (.ref fTke) = true)
    (aSer : PySem.W.nsIn K mainGlobals "_law_serve" = some (some (.ref fSer)))
    (lSer : K.lookup fSer = some ⟨ocSer, odSer, .func (PySem.W.fnOf "_law_serve" "_law_serve" (defArgs sSer) (defBody sSer) (defScope sSer) .none kVSer dcSer pmSer anSer cdSer ctSer), slSer⟩)
    (cSer : PySem.W.codeIn K cdSer "_law_serve" = true)
    (kSer : PySem.W.keepIn K (.ref fSer) = true)
    (aDro : PySem.W.nsIn K mainGlobals "_law_drop" = some (some (.ref fDro)))
    (lDro : K.lookup fDro = some ⟨ocDro, odDro, .func (PySem.W.fnOf "_law_drop" "_law_drop" (defArgs sDro) (defBody sDro) (defScope sDro) .none kVDro dcDro pmDro anDro cdDro ctDro), slDro⟩)
    (cDro : PySem.W.codeIn K cdDro "_law_drop" = true)
    (kDro : PySem.W.keepIn K (.ref fDro) = true)
    (aInit : PySem.W.findIn K (.ref C) "__init__" = some (some (.ref fInit)))
    (iInit : PySem.W.isFn K (.ref fInit) = true)
    (lInit : K.lookup fInit = some ⟨ocInit, odInit, .func (PySem.W.fnOf "__init__" "Locks.__init__" (defArgs sInit) (defBody sInit) (defScope sInit) .none kVInit dcInit pmInit anInit cdInit ctInit), slInit⟩)
    (cInit : PySem.W.codeIn K cdInit "Locks.__init__" = true)
    (kInit : PySem.W.keepIn K (.ref fInit) = true)
    (aHof : PySem.W.findIn K (.ref C) "holders_of" = some (some (.ref fHof)))
    (iHof : PySem.W.isFn K (.ref fHof) = true)
    (lHof : K.lookup fHof = some ⟨ocHof, odHof, .func (PySem.W.fnOf "holders_of" "Locks.holders_of" (defArgs sHof) (defBody sHof) (defScope sHof) .none kVHof dcHof pmHof anHof cdHof ctHof), slHof⟩)
    (cHof : PySem.W.codeIn K cdHof "Locks.holders_of" = true)
    (kHof : PySem.W.keepIn K (.ref fHof) = true)
    (aAgs : PySem.W.findIn K (.ref C) "against" = some (some (.ref fAgs)))
    (iAgs : PySem.W.isFn K (.ref fAgs) = true)
    (lAgs : K.lookup fAgs = some ⟨ocAgs, odAgs, .func (PySem.W.fnOf "against" "Locks.against" (defArgs sAgs) (defBody sAgs) (defScope sAgs) .none kVAgs dcAgs pmAgs anAgs cdAgs ctAgs), slAgs⟩)
    (cAgs : PySem.W.codeIn K cdAgs "Locks.against" = true)
    (kAgs : PySem.W.keepIn K (.ref fAgs) = true)
    (aFit : PySem.W.findIn K (.ref C) "fits" = some (some (.ref fFit)))
    (iFit : PySem.W.isFn K (.ref fFit) = true)
    (lFit : K.lookup fFit = some ⟨ocFit, odFit, .func (PySem.W.fnOf "fits" "Locks.fits" (defArgs sFit) (defBody sFit) (defScope sFit) .none kVFit dcFit pmFit anFit cdFit ctFit), slFit⟩)
    (cFit : PySem.W.codeIn K cdFit "Locks.fits" = true)
    (kFit : PySem.W.keepIn K (.ref fFit) = true)
    (aAhd : PySem.W.findIn K (.ref C) "ahead" = some (some (.ref fAhd)))
    (iAhd : PySem.W.isFn K (.ref fAhd) = true)
    (lAhd : K.lookup fAhd = some ⟨ocAhd, odAhd, .func (PySem.W.fnOf "ahead" "Locks.ahead" (defArgs sAhd) (defBody sAhd) (defScope sAhd) .none kVAhd dcAhd pmAhd anAhd cdAhd ctAhd), slAhd⟩)
    (cAhd : PySem.W.codeIn K cdAhd "Locks.ahead" = true)
    (kAhd : PySem.W.keepIn K (.ref fAhd) = true)
    (aBlk : PySem.W.findIn K (.ref C) "blockers" = some (some (.ref fBlk)))
    (iBlk : PySem.W.isFn K (.ref fBlk) = true)
    (lBlk : K.lookup fBlk = some ⟨ocBlk, odBlk, .func (PySem.W.fnOf "blockers" "Locks.blockers" (defArgs sBlk) (defBody sBlk) (defScope sBlk) .none kVBlk dcBlk pmBlk anBlk cdBlk ctBlk), slBlk⟩)
    (cBlk : PySem.W.codeIn K cdBlk "Locks.blockers" = true)
    (kBlk : PySem.W.keepIn K (.ref fBlk) = true)
    (aAsk : PySem.W.findIn K (.ref C) "ask" = some (some (.ref fAsk)))
    (iAsk : PySem.W.isFn K (.ref fAsk) = true)
    (lAsk : K.lookup fAsk = some ⟨ocAsk, odAsk, .func (PySem.W.fnOf "ask" "Locks.ask" (defArgs sAsk) (defBody sAsk) (defScope sAsk) .none kVAsk dcAsk pmAsk anAsk cdAsk ctAsk), slAsk⟩)
    (cAsk : PySem.W.codeIn K cdAsk "Locks.ask" = true)
    (kAsk : PySem.W.keepIn K (.ref fAsk) = true)
    (aTak : PySem.W.findIn K (.ref C) "take" = some (some (.ref fTak)))
    (iTak : PySem.W.isFn K (.ref fTak) = true)
    (lTak : K.lookup fTak = some ⟨ocTak, odTak, .func (PySem.W.fnOf "take" "Locks.take" (defArgs sTak) (defBody sTak) (defScope sTak) .none kVTak dcTak pmTak anTak cdTak ctTak), slTak⟩)
    (cTak : PySem.W.codeIn K cdTak "Locks.take" = true)
    (kTak : PySem.W.keepIn K (.ref fTak) = true)
    (aWts : PySem.W.findIn K (.ref C) "waits_for" = some (some (.ref fWts)))
    (iWts : PySem.W.isFn K (.ref fWts) = true)
    (lWts : K.lookup fWts = some ⟨ocWts, odWts, .func (PySem.W.fnOf "waits_for" "Locks.waits_for" (defArgs sWts) (defBody sWts) (defScope sWts) .none kVWts dcWts pmWts anWts cdWts ctWts), slWts⟩)
    (cWts : PySem.W.codeIn K cdWts "Locks.waits_for" = true)
    (kWts : PySem.W.keepIn K (.ref fWts) = true)
    (aRng : PySem.W.findIn K (.ref C) "in_ring" = some (some (.ref fRng)))
    (iRng : PySem.W.isFn K (.ref fRng) = true)
    (lRng : K.lookup fRng = some ⟨ocRng, odRng, .func (PySem.W.fnOf "in_ring" "Locks.in_ring" (defArgs sRng) (defBody sRng) (defScope sRng) .none kVRng dcRng pmRng anRng cdRng ctRng), slRng⟩)
    (cRng : PySem.W.codeIn K cdRng "Locks.in_ring" = true)
    (kRng : PySem.W.keepIn K (.ref fRng) = true)
    (aRel : PySem.W.findIn K (.ref C) "release" = some (some (.ref fRel)))
    (iRel : PySem.W.isFn K (.ref fRel) = true)
    (lRel : K.lookup fRel = some ⟨ocRel, odRel, .func (PySem.W.fnOf "release" "Locks.release" (defArgs sRel) (defBody sRel) (defScope sRel) .none kVRel dcRel pmRel anRel cdRel ctRel), slRel⟩)
    (cRel : PySem.W.codeIn K cdRel "Locks.release" = true)
    (kRel : PySem.W.keepIn K (.ref fRel) = true)
    (aDrp : PySem.W.findIn K (.ref C) "drop" = some (some (.ref fDrp)))
    (iDrp : PySem.W.isFn K (.ref fDrp) = true)
    (lDrp : K.lookup fDrp = some ⟨ocDrp, odDrp, .func (PySem.W.fnOf "drop" "Locks.drop" (defArgs sDrp) (defBody sDrp) (defScope sDrp) .none kVDrp dcDrp pmDrp anDrp cdDrp ctDrp), slDrp⟩)
    (cDrp : PySem.W.codeIn K cdDrp "Locks.drop" = true)
    (kDrp : PySem.W.keepIn K (.ref fDrp) = true)
    (aSrv : PySem.W.findIn K (.ref C) "served" = some (some (.ref fSrv)))
    (iSrv : PySem.W.isFn K (.ref fSrv) = true)
    (lSrv : K.lookup fSrv = some ⟨ocSrv, odSrv, .func (PySem.W.fnOf "served" "Locks.served" (defArgs sSrv) (defBody sSrv) (defScope sSrv) .none kVSrv dcSrv pmSrv anSrv cdSrv ctSrv), slSrv⟩)
    (cSrv : PySem.W.codeIn K cdSrv "Locks.served" = true)
    (kSrv : PySem.W.keepIn K (.ref fSrv) = true)
    (aLve : PySem.W.findIn K (.ref C) "leave" = some (some (.ref fLve)))
    (iLve : PySem.W.isFn K (.ref fLve) = true)
    (lLve : K.lookup fLve = some ⟨ocLve, odLve, .func (PySem.W.fnOf "leave" "Locks.leave" (defArgs sLve) (defBody sLve) (defScope sLve) .none kVLve dcLve pmLve anLve cdLve ctLve), slLve⟩)
    (cLve : PySem.W.codeIn K cdLve "Locks.leave" = true)
    (kLve : PySem.W.keepIn K (.ref fLve) = true)
    (aShw : PySem.W.findIn K (.ref C) "shown" = some (some (.ref fShw)))
    (iShw : PySem.W.isFn K (.ref fShw) = true)
    (lShw : K.lookup fShw = some ⟨ocShw, odShw, .func (PySem.W.fnOf "shown" "Locks.shown" (defArgs sShw) (defBody sShw) (defScope sShw) .none kVShw dcShw pmShw anShw cdShw ctShw), slShw⟩)
    (cShw : PySem.W.codeIn K cdShw "Locks.shown" = true)
    (kShw : PySem.W.keepIn K (.ref fShw) = true)
    (aL : PySem.W.nsIn K mainGlobals "law" = some (some (.ref fL)))
    (lL : K.lookup fL = some ⟨ocL, odL, .func (PySem.W.fnOf "law" "law" (defArgs sLaw) (defBody sLaw) (defScope sLaw) .none kVL dcL pmL anL (.ref cL) ctL), slL⟩)
    (cL1 : PySem.W.codeIn K (.ref cL) "law" = true)
    (lcL : K.lookup cL = some ⟨ccL, cdL2, .fields vsL, cslL⟩)
    (vL : vsL[11]? = some (.ref PT))
    (nP : K.lookup PT = none)
    (aC : PySem.W.nsIn K mainGlobals "Locks" = some (some (.ref C)))
    (pg : PySem.W.plainGet K C Str.empty = true)
    (hd : PySem.W.hasDictIn K C = true)
    (po : PySem.W.plainOver K C = true)
    (sa : PySem.W.findIn K (.ref C) "__setattr__" = some (some (.builtin "object.__setattr__")))
    (mk : PySem.W.makesIn K C = true)
    (kC : PySem.W.keepIn K (.ref C) = true)
    (n1 : PySem.W.findIn K (.ref C) "holders" = some none)
    (n2 : PySem.W.findIn K (.ref C) "queue" = some none)
    (aE : PySem.W.nsIn K mainGlobals "ProcessError" = some (some (.ref CE)))
    (xE : PySem.W.excIn K CE [.type "ValueError", .type "Exception", .type "BaseException", .type "object"] "ValueError.__new__" = true)
    (kE : PySem.W.keepIn K (.ref CE) = true)
    (bE : PySem.W.subIn K (.ref CE) (.type "BaseException") = some true)
    (tE : PySem.W.typeIn K (.ref CE) = some (.type "type"))
    (isE : PySem.W.isClsIn K CE = true)
    (ssE : PySem.W.subIn K (.ref CE) (.ref CE) = some true)
    (mK : PySem.W.nsIn K mainGlobals "ALONE" = some (some (.str "alone" tK)))
    (mH : PySem.W.nsIn K mainGlobals "SHARED" = some (some (.str "shared" tH)))
    (z_any : PySem.W.nsIn K mainGlobals "any" = some none)
    (z_sorted : PySem.W.nsIn K mainGlobals "sorted" = some none)
    (z_len : PySem.W.nsIn K mainGlobals "len" = some none)
    (z_tuple : PySem.W.nsIn K mainGlobals "tuple" = some none)
    (z_int : PySem.W.nsIn K mainGlobals "int" = some none)
    (z_abs : PySem.W.nsIn K mainGlobals "abs" = some none)
    (z_range : PySem.W.nsIn K mainGlobals "range" = some none)
    (z_list : PySem.W.nsIn K mainGlobals "list" = some none)
    (z_dict : PySem.W.nsIn K mainGlobals "dict" = some none)
    (z_enumerate : PySem.W.nsIn K mainGlobals "enumerate" = some none)
    : LamX.LawAtS l w K L2.CX0 8 63 "script" mg fa h := by
  have e := hfa.symm.trans (PySem.W.mg_of X G aL)
  cases e
  obtain ⟨hd', ht⟩ := tabs cL PT (tabIn_of aL lL rfl lcL vL)
  have T : LTxt K mg C CE := ⟨⟨pg, hd, po, sa⟩, n1, n2, PySem.W.mg_of X G aC, PySem.W.mg_of X G aE, xE, kE, bE, tE, ⟨_, PySem.W.mg_of X G mK⟩, ⟨_, PySem.W.mg_of X G mH⟩, PySem.W.mg_none_of X G z_dict, PySem.W.mg_none_of X G z_list, PySem.W.mg_none_of X G z_tuple, PySem.W.mg_none_of X G z_sorted, PySem.W.mg_none_of X G z_any⟩
  have T2 : LTx2 mg := ⟨PySem.W.mg_none_of X G z_enumerate, PySem.W.mg_none_of X G z_sorted, PySem.W.mg_none_of X G z_dict, PySem.W.mg_none_of X G z_list, PySem.W.mg_none_of X G z_len, PySem.W.mg_none_of X G z_range, PySem.W.mg_none_of X G z_tuple⟩
  have mI := PySem.W.mg_none_of X G z_int
  have mA := PySem.W.mg_none_of X G z_abs
  have GDice := fun_mk (st := sDice) lDice cDice kDice
  have mDice := PySem.W.mg_of X G aDice
  have GRoll := fun_mk (st := sRoll) lRoll cRoll kRoll
  have mRoll := PySem.W.mg_of X G aRoll
  have GRounds := fun_mk (st := sRounds) lRounds cRounds kRounds
  have mRounds := PySem.W.mg_of X G aRounds
  have GTold := fun_mk (st := sTold) lTold cTold kTold
  have mTold := PySem.W.mg_of X G aTold
  have GBkd := fun_mk (st := sBkd) lBkd cBkd kBkd
  have mBkd := PySem.W.mg_of X G aBkd
  have GWai := fun_mk (st := sWai) lWai cWai kWai
  have mWai := PySem.W.mg_of X G aWai
  have GRin := fun_mk (st := sRin) lRin cRin kRin
  have mRin := PySem.W.mg_of X G aRin
  have GTke := fun_mk (st := sTke) lTke cTke kTke
  have mTke := PySem.W.mg_of X G aTke
  have GSer := fun_mk (st := sSer) lSer cSer kSer
  have mSer := PySem.W.mg_of X G aSer
  have GDro := fun_mk (st := sDro) lDro cDro kDro
  have mDro := PySem.W.mg_of X G aDro
  have GInit := fun_mk (st := sInit) lInit cInit kInit
  have GHof := fun_mk (st := sHof) lHof cHof kHof
  have GAgs := fun_mk (st := sAgs) lAgs cAgs kAgs
  have GFit := fun_mk (st := sFit) lFit cFit kFit
  have GAhd := fun_mk (st := sAhd) lAhd cAhd kAhd
  have GBlk := fun_mk (st := sBlk) lBlk cBlk kBlk
  have GAsk := fun_mk (st := sAsk) lAsk cAsk kAsk
  have GTak := fun_mk (st := sTak) lTak cTak kTak
  have GWts := fun_mk (st := sWts) lWts cWts kWts
  have GRng := fun_mk (st := sRng) lRng cRng kRng
  have GRel := fun_mk (st := sRel) lRel cRel kRel
  have GDrp := fun_mk (st := sDrp) lDrp cDrp kDrp
  have GSrv := fun_mk (st := sSrv) lSrv cSrv kSrv
  have GLve := fun_mk (st := sLve) lLve cLve kLve
  have GShw := fun_mk (st := sShw) lShw cShw kShw
  have bDice := GDice.binds (ps := ["cell"]) fun _ _ _ _ _ _ us hl => match us, hl with | [_], _ => rfl
  have bRoll := GRoll.binds (ps := ["dice", "many"]) fun _ _ _ _ _ _ us hl => match us, hl with | [_, _], _ => rfl
  have bRounds := GRounds.binds (ps := ["script", "most"]) fun _ _ _ _ _ _ us hl => match us, hl with | [_, _], _ => rfl
  have bBkd := GBkd.binds (ps := ["state", "who", "name", "how"]) fun _ _ _ _ _ _ us hl => match us, hl with | [_, _, _, _], _ => rfl
  have bWai := GWai.binds (ps := ["state", "who"]) fun _ _ _ _ _ _ us hl => match us, hl with | [_, _], _ => rfl
  have bRin := GRin.binds (ps := ["state", "who"]) fun _ _ _ _ _ _ us hl => match us, hl with | [_, _], _ => rfl
  have bTke := GTke.binds (ps := ["state", "who", "name", "how"]) fun _ _ _ _ _ _ us hl => match us, hl with | [_, _, _, _], _ => rfl
  have bSer := GSer.binds (ps := ["state"]) fun _ _ _ _ _ _ us hl => match us, hl with | [_], _ => rfl
  have bDro := GDro.binds (ps := ["state", "who", "name"]) fun _ _ _ _ _ _ us hl => match us, hl with | [_, _, _], _ => rfl
  have bInit := GInit.binds (ps := ["self"]) fun _ _ _ _ _ _ us hl => match us, hl with | [_], _ => rfl
  have bHof := GHof.binds (ps := ["self", "name"]) fun _ _ _ _ _ _ us hl => match us, hl with | [_, _], _ => rfl
  have bAgs := GAgs.binds (ps := ["self", "who", "name", "how"]) fun _ _ _ _ _ _ us hl => match us, hl with | [_, _, _, _], _ => rfl
  have bFit := GFit.binds (ps := ["self", "who", "name", "how"]) fun _ _ _ _ _ _ us hl => match us, hl with | [_, _, _, _], _ => rfl
  have bAhd := GAhd.binds (ps := ["self", "who", "name"]) fun _ _ _ _ _ _ us hl => match us, hl with | [_, _, _], _ => rfl
  have bBlk := GBlk.binds (ps := ["self", "who", "name", "how"]) fun _ _ _ _ _ _ us hl => match us, hl with | [_, _, _, _], _ => rfl
  have bAsk := GAsk.binds (ps := ["self", "who", "name", "how"]) fun _ _ _ _ _ _ us hl => match us, hl with | [_, _, _, _], _ => rfl
  have bTak := GTak.binds (ps := ["self", "who", "name", "how"]) fun _ _ _ _ _ _ us hl => match us, hl with | [_, _, _, _], _ => rfl
  have bWts := GWts.binds (ps := ["self", "who"]) fun _ _ _ _ _ _ us hl => match us, hl with | [_, _], _ => rfl
  have bRng := GRng.binds (ps := ["self", "who"]) fun _ _ _ _ _ _ us hl => match us, hl with | [_, _], _ => rfl
  have bRel := GRel.binds (ps := ["self", "who", "name"]) fun _ _ _ _ _ _ us hl => match us, hl with | [_, _, _], _ => rfl
  have bDrp := GDrp.binds (ps := ["self", "who", "name"]) fun _ _ _ _ _ _ us hl => match us, hl with | [_, _, _], _ => rfl
  have bSrv := GSrv.binds (ps := ["self"]) fun _ _ _ _ _ _ us hl => match us, hl with | [_], _ => rfl
  have bLve := GLve.binds (ps := ["self", "who"]) fun _ _ _ _ _ _ us hl => match us, hl with | [_, _], _ => rfl
  have bShw := GShw.binds (ps := ["self"]) fun _ _ _ _ _ _ us hl => match us, hl with | [_], _ => rfl
  have bits : ∀ base : Heap, LTxt2 l.prog w K mg base C CE fTold := fun base => by
    have oDice := ok_dice (P := l.prog) (w := w) (mg := mg) (base := base) GDice mA mI
    have oRoll := ok_roll (P := l.prog) (w := w) (mg := mg) (base := base) GRoll mI
    have oRounds := ok_rounds (P := l.prog) (w := w) (mg := mg) (base := base) GRounds oDice mDice kDice bDice
    have oInit := ok_init (P := l.prog) (w := w) (base := base) GInit T
    have oHof := ok_hof (P := l.prog) (w := w) (base := base) GHof T
    have oAgs := ok_ags (P := l.prog) (w := w) (base := base) GAgs T
    have oFit := ok_fit (P := l.prog) (w := w) (base := base) GFit T oAgs bAgs ⟨aAgs, iAgs, kAgs⟩
    have oAhd := ok_ahd (P := l.prog) (w := w) (base := base) GAhd T
    have oBlk := ok_blk (P := l.prog) (w := w) (base := base) GBlk T oAgs bAgs ⟨aAgs, iAgs, kAgs⟩ oAhd bAhd ⟨aAhd, iAhd, kAhd⟩
    have oTak := ok_tak (P := l.prog) (w := w) (base := base) GTak T
    have oDrp := ok_drp (P := l.prog) (w := w) (base := base) GDrp T
    have oWts := ok_wts (P := l.prog) (w := w) (base := base) GWts T oBlk bBlk ⟨aBlk, iBlk, kBlk⟩
    have oRng := ok_rng (P := l.prog) (w := w) (base := base) GRng T oWts bWts ⟨aWts, iWts, kWts⟩
    have oSrv := ok_srv (P := l.prog) (w := w) (base := base) GSrv T oBlk bBlk ⟨aBlk, iBlk, kBlk⟩ oTak bTak ⟨aTak, iTak, kTak⟩
    have oAsk := ok_ask (P := l.prog) (w := w) (base := base) GAsk T oBlk bBlk ⟨aBlk, iBlk, kBlk⟩ oTak bTak ⟨aTak, iTak, kTak⟩ oRng bRng ⟨aRng, iRng, kRng⟩
    have oRel := ok_rel (P := l.prog) (w := w) (base := base) GRel T oHof bHof ⟨aHof, iHof, kHof⟩ oDrp bDrp ⟨aDrp, iDrp, kDrp⟩ oSrv bSrv ⟨aSrv, iSrv, kSrv⟩
    have oLve := ok_lve (P := l.prog) (w := w) (base := base) GLve T oDrp bDrp ⟨aDrp, iDrp, kDrp⟩ oSrv bSrv ⟨aSrv, iSrv, kSrv⟩
    have oShw := ok_shw (P := l.prog) (w := w) (base := base) GShw T
    have oBkd := ok_bkd (P := l.prog) (w := w) (base := base) GBkd T2
    have oWai := ok_wai (P := l.prog) (w := w) (base := base) GWai oBkd mBkd kBkd bBkd
    have oRin := ok_rin (P := l.prog) (w := w) (base := base) GRin T2 oWai mWai kWai bWai
    have oTke := ok_tke (P := l.prog) (w := w) (mg := mg) (base := base) GTke
    have oSer := ok_ser (P := l.prog) (w := w) (base := base) GSer T2 oBkd mBkd kBkd bBkd oTke mTke kTke bTke
    have oDro := ok_dro (P := l.prog) (w := w) (mg := mg) (base := base) GDro
    have MI : Mk K C fInit := ⟨mk, aInit, iInit, kC⟩
    exact ⟨⟨mTold, kTold, ⟨_, _, _, _, _, _, _, _, _, lTold, cTold⟩, PySem.W.mg_of X G aE⟩, exm_same bE isE tE ssE, T, T2, ⟨_, _, oRounds, mRounds, kRounds, bRounds⟩, ⟨_, _, oRoll, mRoll, kRoll, bRoll⟩, ⟨_, _, oBkd, mBkd, kBkd, bBkd⟩, ⟨_, _, oWai, mWai, kWai, bWai⟩, ⟨_, _, oRin, mRin, kRin, bRin⟩, ⟨_, _, oTke, mTke, kTke, bTke⟩, ⟨_, _, oSer, mSer, kSer, bSer⟩, ⟨_, _, oDro, mDro, kDro, bDro⟩, ⟨_, _, oInit, MI, bInit⟩, ⟨_, _, oHof, ⟨aHof, iHof, kHof⟩, bHof⟩, ⟨_, _, oFit, ⟨aFit, iFit, kFit⟩, bFit⟩, ⟨_, _, oAhd, ⟨aAhd, iAhd, kAhd⟩, bAhd⟩, ⟨_, _, oBlk, ⟨aBlk, iBlk, kBlk⟩, bBlk⟩, ⟨_, _, oAsk, ⟨aAsk, iAsk, kAsk⟩, bAsk⟩, ⟨_, _, oWts, ⟨aWts, iWts, kWts⟩, bWts⟩, ⟨_, _, oRng, ⟨aRng, iRng, kRng⟩, bRng⟩, ⟨_, _, oRel, ⟨aRel, iRel, kRel⟩, bRel⟩, ⟨_, _, oLve, ⟨aLve, iLve, kLve⟩, bLve⟩, ⟨_, _, oShw, ⟨aShw, iShw, kShw⟩, bShw⟩⟩
  refine ⟨_, [(cL, PT)], spLaw K PT, fun p hp => ?_, fun p hp => ?_, fun p hp => ?_, fun s u => .of_eq rfl, fun H a ns _ _ hH hS => ⟨a, ns, rfl, hS, fun p hp => ?_, fun _ => rfl⟩, fun base _ _ TB => ok_law lL cL1 (TB _ List.mem_cons_self) (bits base)⟩
  · rw [List.mem_singleton.mp hp]
    exact ht
  · rw [List.mem_singleton.mp hp]
    exact nP
  · rw [List.mem_singleton.mp hp]
    exact hd'
  · rw [List.mem_singleton.mp hp]
    exact LamX.TabS.nil (hH _ List.mem_cons_self)
end K16
open PySem PySem.W PyProof.Rows
set_option maxRecDepth 100000 in
set_option maxHeartbeats 0 in
theorem PySem.Challenge.cw_hoststack_k16_locks_and_rings_holds : PySem.Challenge.rw_hoststack_k16_locks_and_rings.Holds := by
  w_on; o_law; k_head; (case hw => w_witness2)
  k_fill
  refine HK.walk_TT (l := PySem.Challenge.rw_hoststack_k16_locks_and_rings) (n := 63) (k := 8) (x := "script") (CX := fun _ => L2.CX0) rfl (by decide) rfl ⟨rfl, by decide, by decide⟩ (fun w h Y => PySem.W.km_in_of Y) (by rfl) ?F (fun _ _ _ _ _ z => z)
  case F =>
    intro w mg fa h tabs KX G hmg
    refine' K16.all_mk KX G hmg tabs ?aDice ?lDice ?cDice ?kDice ?aRoll ?lRoll ?cRoll ?kRoll ?aRounds ?lRounds ?cRounds ?kRounds ?aTold ?lTold ?cTold ?kTold ?aBkd ?lBkd ?cBkd ?kBkd ?aWai ?lWai ?cWai ?kWai ?aRin ?lRin ?cRin ?kRin ?aTke ?lTke ?cTke ?kTke ?aSer ?lSer ?cSer ?kSer ?aDro ?lDro ?cDro ?kDro ?aInit ?iInit ?lInit ?cInit ?kInit ?aHof ?iHof ?lHof ?cHof ?kHof ?aAgs ?iAgs ?lAgs ?cAgs ?kAgs ?aFit ?iFit ?lFit ?cFit ?kFit ?aAhd ?iAhd ?lAhd ?cAhd ?kAhd ?aBlk ?iBlk ?lBlk ?cBlk ?kBlk ?aAsk ?iAsk ?lAsk ?cAsk ?kAsk ?aTak ?iTak ?lTak ?cTak ?kTak ?aWts ?iWts ?lWts ?cWts ?kWts ?aRng ?iRng ?lRng ?cRng ?kRng ?aRel ?iRel ?lRel ?cRel ?kRel ?aDrp ?iDrp ?lDrp ?cDrp ?kDrp ?aSrv ?iSrv ?lSrv ?cSrv ?kSrv ?aLve ?iLve ?lLve ?cLve ?kLve ?aShw ?iShw ?lShw ?cShw ?kShw ?aL ?lL ?cL1 ?lcL ?vL ?nP ?aC ?pg ?hd ?po ?sa ?mk ?kC ?n1 ?n2 ?aE ?xE ?kE ?bE ?tE ?isE ?ssE ?mK ?mH ?z_any ?z_sorted ?z_len ?z_tuple ?z_int ?z_abs ?z_range ?z_list ?z_dict ?z_enumerate
    (case aDice => k_is)
    (case aRoll => k_is)
    (case aRounds => k_is)
    (case aTold => k_is)
    (case aBkd => k_is)
    (case aWai => k_is)
    (case aRin => k_is)
    (case aTke => k_is)
    (case aSer => k_is)
    (case aDro => k_is)
    (case aL => k_is)
    (case aC => k_is)
    (case aE => k_is)
    (case mK => k_is)
    (case mH => k_is)
    (case z_any => k_is)
    (case z_sorted => k_is)
    (case z_len => k_is)
    (case z_tuple => k_is)
    (case z_int => k_is)
    (case z_abs => k_is)
    (case z_range => k_is)
    (case z_list => k_is)
    (case z_dict => k_is)
    (case z_enumerate => k_is)
    (case lDice => k_is)
    (case cDice => k_is)
    (case kDice => k_is)
    (case lRoll => k_is)
    (case cRoll => k_is)
    (case kRoll => k_is)
    (case lRounds => k_is)
    (case cRounds => k_is)
    (case kRounds => k_is)
    (case lTold => k_is)
    (case cTold => k_is)
    (case kTold => k_is)
    (case lBkd => k_is)
    (case cBkd => k_is)
    (case kBkd => k_is)
    (case lWai => k_is)
    (case cWai => k_is)
    (case kWai => k_is)
    (case lRin => k_is)
    (case cRin => k_is)
    (case kRin => k_is)
    (case lTke => k_is)
    (case cTke => k_is)
    (case kTke => k_is)
    (case lSer => k_is)
    (case cSer => k_is)
    (case kSer => k_is)
    (case lDro => k_is)
    (case cDro => k_is)
    (case kDro => k_is)
    (case aInit => k_is)
    (case iInit => k_is)
    (case lInit => k_is)
    (case cInit => k_is)
    (case kInit => k_is)
    (case aHof => k_is)
    (case iHof => k_is)
    (case lHof => k_is)
    (case cHof => k_is)
    (case kHof => k_is)
    (case aAgs => k_is)
    (case iAgs => k_is)
    (case lAgs => k_is)
    (case cAgs => k_is)
    (case kAgs => k_is)
    (case aFit => k_is)
    (case iFit => k_is)
    (case lFit => k_is)
    (case cFit => k_is)
    (case kFit => k_is)
    (case aAhd => k_is)
    (case iAhd => k_is)
    (case lAhd => k_is)
    (case cAhd => k_is)
    (case kAhd => k_is)
    (case aBlk => k_is)
    (case iBlk => k_is)
    (case lBlk => k_is)
    (case cBlk => k_is)
    (case kBlk => k_is)
    (case aAsk => k_is)
    (case iAsk => k_is)
    (case lAsk => k_is)
    (case cAsk => k_is)
    (case kAsk => k_is)
    (case aTak => k_is)
    (case iTak => k_is)
    (case lTak => k_is)
    (case cTak => k_is)
    (case kTak => k_is)
    (case aWts => k_is)
    (case iWts => k_is)
    (case lWts => k_is)
    (case cWts => k_is)
    (case kWts => k_is)
    (case aRng => k_is)
    (case iRng => k_is)
    (case lRng => k_is)
    (case cRng => k_is)
    (case kRng => k_is)
    (case aRel => k_is)
    (case iRel => k_is)
    (case lRel => k_is)
    (case cRel => k_is)
    (case kRel => k_is)
    (case aDrp => k_is)
    (case iDrp => k_is)
    (case lDrp => k_is)
    (case cDrp => k_is)
    (case kDrp => k_is)
    (case aSrv => k_is)
    (case iSrv => k_is)
    (case lSrv => k_is)
    (case cSrv => k_is)
    (case kSrv => k_is)
    (case aLve => k_is)
    (case iLve => k_is)
    (case lLve => k_is)
    (case cLve => k_is)
    (case kLve => k_is)
    (case aShw => k_is)
    (case iShw => k_is)
    (case lShw => k_is)
    (case cShw => k_is)
    (case kShw => k_is)
    (case lL => k_is)
    (case cL1 => k_is)
    (case lcL => k_is)
    (case vL => rfl)
    (case nP => kernel_rfl)
    (case pg => k_is)
    (case hd => k_is)
    (case po => k_is)
    (case sa => k_is)
    (case mk => k_is)
    (case kC => k_is)
    (case n1 => k_is)
    (case n2 => k_is)
    (case xE => k_exc)
    (case kE => k_is)
    (case bE => k_is)
    (case tE => k_is)
    (case isE => k_is)
    (case ssE => first | rfl | k_is)
