import PyProof.Rows.All
import Wide.All
import OpenK.AllK
import Wide.FinOn
import HandS.ForMost
import HandS.Iter
import HandS.Codes
import HandS.StrMore
import HandS.ForExc
import HandS.ExcInit
import HandS.Lambda
import HandS.EndTab
import HandS.TupMul
import HandS.TupAny
import HandS.ListItems
import HandS.Walk
import HandS.More
import HandS.Defaults
import HandS.Rev
import KE.KEqSeq
import PySem.Challenge.RW_hoststack_k08_devices_and_what_a_crash_l
set_option Elab.async false
set_option linter.all false
set_option maxRecDepth 100000
set_option maxHeartbeats 8000000
namespace HK
open PySem PySem.Spec PyProof.Rows L2 PySem.StrLaws TL
/-- the text of codes; of one code -/
def T (l : List Nat) : Str := ⟨l.toArray⟩
theorem T_len (l : List Nat) : (T l).length = l.length := rfl
theorem T_inj {a b : List Nat} (h : T a = T b) : a = b := by
  have z := congrArg (fun x : Str => x.cps.toList) h
  exact z
/-- the codes of the 95 letters -/
def ls : List Nat := 10 :: 32 :: 33 :: 34 :: 35 :: 36 :: (List.range 89).map (· + 38)
theorem ls_len : ls.length = 95 := by decide
theorem ls_nodup : ls.Nodup := by decide +kernel
theorem ls_text : Str.ofString "\n !\"#$&'()*+,-./0123456789:;<=>?@ABCDEFGHIJKLMNOPQRSTUVWXYZ[\\]^_`abcdefghijklmnopqrstuvwxyz{|}~" = T ls := by decide +kernel
/-- the first place of a code -/
def pos (l : List Nat) (c : Nat) : Option Nat := l.findIdx? (· == c)
theorem at_one (l : List Nat) (c i : Nat) : At (T l) (T [c]) (T l).length i ↔ l[i]? = some c := by
  have hc : (T [c]).length = 1 := rfl
  have hl : (T l).length = l.length := rfl
  unfold At
  rw [hc, hl]
  have key : Builtin.Str.subAt (T l) (T [c]) i = ((l.drop i).take 1 == [c]) := by
    have e : (T l).cps.extract i (i + 1) = ((l.drop i).take 1).toArray := by
      apply Array.ext'
      simp [T, List.extract_eq_drop_take]
    show ((T l).cps.extract i (i + 1) == [c].toArray) = _
    rw [e]
    simp
  rw [key]
  constructor
  · rintro ⟨h1, h2⟩
    have h3 : (l.drop i).take 1 = [c] := eq_of_beq h2
    have h4 : ((l.drop i).take 1)[0]? = some c := by rw [h3]; rfl
    simpa using h4
  · intro h
    obtain ⟨hi, e⟩ := List.getElem?_eq_some_iff.mp h
    refine ⟨by omega, ?_⟩
    rw [List.drop_eq_getElem_cons hi, e]
    simp
theorem occ_pos (l : List Nat) (c : Nat) : (pos l c = none ∧ Builtin.Str.occurrences (T l) (T [c]) 0 (T l).length 1 = []) ∨ ∃ k r, pos l c = some k ∧ Builtin.Str.occurrences (T l) (T [c]) 0 (T l).length 1 = k :: r := by
  rcases occ_head (T l) (T [c]) 1 (Nat.le_refl _) with ⟨e, hn⟩ | ⟨i, r, e, hi, hn⟩
  · refine .inl ⟨?_, e⟩
    unfold pos
    rw [List.findIdx?_eq_none_iff]
    intro x hx
    obtain ⟨j, hj⟩ := List.getElem?_of_mem hx
    cases q : (x == c) with
    | false => rfl
    | true =>
      have e2 : x = c := eq_of_beq q
      rw [e2] at hj
      exact absurd ((at_one l c j).mpr hj) (hn j)
  · refine .inr ⟨i, r, ?_, e⟩
    have h1 := (at_one l c i).mp hi
    obtain ⟨hl, e1⟩ := List.getElem?_eq_some_iff.mp h1
    unfold pos
    rw [List.findIdx?_eq_some_iff_getElem]
    refine ⟨hl, by simp [e1], fun j hj => ?_⟩
    have hjl : j < l.length := Nat.lt_trans hj hl
    intro q
    have e2 : l[j] = c := eq_of_beq q
    exact hn j hj ((at_one l c j).mpr (by rw [List.getElem?_eq_getElem hjl, e2]))
theorem index_one (l : List Nat) (c : Nat) : Txt.index0 (T l) (T [c]) = pos l c := by
  unfold Txt.index0
  rcases occ_pos l c with ⟨h, e⟩ | ⟨k, r, h, e⟩ <;> rw [e, h] <;> rfl
theorem find_one (l : List Nat) (c : Nat) : Txt.find (T l) (T [c]) = match pos l c with | some k => (k : Int) | none => -1 := by
  unfold Txt.find
  rcases occ_pos l c with ⟨h, e⟩ | ⟨k, r, h, e⟩ <;> rw [e, h]
theorem pos_some {l : List Nat} {c k : Nat} (h : pos l c = some k) : l[k]? = some c := by
  unfold pos at h
  rw [List.findIdx?_eq_some_iff_getElem] at h
  obtain ⟨hl, e, _⟩ := h
  rw [List.getElem?_eq_getElem hl, eq_of_beq e]
theorem pos_mem {l : List Nat} {c : Nat} (h : c ∈ l) : ∃ k, pos l c = some k := by
  cases q : pos l c with
  | some k => exact ⟨k, rfl⟩
  | none =>
    unfold pos at q
    rw [List.findIdx?_eq_none_iff] at q
    have := q c h
    simp at this
theorem pos_none {l : List Nat} {c : Nat} (h : c ∉ l) : pos l c = none := by
  cases q : pos l c with
  | none => rfl
  | some k => exact absurd (List.mem_of_getElem? (pos_some q)) h
theorem pos_at {l : List Nat} (nd : l.Nodup) {k c : Nat} (h : l[k]? = some c) : pos l c = some k := by
  obtain ⟨j, e⟩ := pos_mem (List.mem_of_getElem? h)
  have h2 := pos_some e
  rw [e, (nd_ix nd h2 h)]
/-- a comprehension over the signs of a text -/
theorem lc_str {l : List Nat} {g : TG} {tt : TT} {te : TE} {vs : List Nat} {σ : L2.St} {H1 : Hp} {D : Addr} {Qd : Hp → Prop} (Pv : Nat → Hp → Prop) (h0 : Pv 0 (upd H1 D (.lst [])))
    (hs : ∀ i c H, l[i]? = some c → Pv i H → g (.str (T [c])) (wipe σ vs) H fun σ2 H2 => wipe σ2 vs = wipe σ vs ∧ tt σ2 H2 fun b H3 =>
      if b = true then te σ2 H3 fun y H4 => ∃ acc, H4 D = some (.lst acc) ∧ acc.length < sizeLine ∧ Pv (i + 1) (upd H4 D (.lst (acc ++ [y]))) else Pv (i + 1) H3) (hd : ∀ H, Pv l.length H → Qd H) :
    ∃ W : Nat → Nat → Hp → Prop, (∃ m, W 0 m (upd H1 D (.lst []))) ∧ ∀ i m H, W i m H →
      ((Its (T l)).stop i H ∧ Qd H) ∨ ((Its (T l)).go i H ∧ ∃ Nx : Hp → Prop, (∀ H', Nx H' → ∃ m', m' < m ∧ W (i + 1) m' H') ∧ ∀ x H', (Its (T l)).yld i H x H' → g x (wipe σ vs) H' fun σ2 H2 => wipe σ2 vs = wipe σ vs ∧ tt σ2 H2 fun b H3 =>
        if b = true then te σ2 H3 fun y H4 => ∃ acc, H4 D = some (.lst acc) ∧ acc.length < sizeLine ∧ Nx (upd H4 D (.lst (acc ++ [y]))) else Nx H3) := by
  have sz : (T l).cps.size = l.length := rfl
  refine ⟨fun i m H => m = l.length - i ∧ i ≤ l.length ∧ Pv i H, ⟨l.length, by simp, Nat.zero_le _, h0⟩, ?_⟩
  rintro i m H ⟨rfl, hi, p⟩
  by_cases hlt : i < l.length
  · refine .inr ⟨hlt, Pv (i + 1), fun H' p' => ⟨l.length - (i + 1), by omega, rfl, hlt, p'⟩, fun x H' y => ?_⟩
    obtain ⟨e, c, hc, ev⟩ := y
    subst e
    subst ev
    exact hs i c _ (by simpa [T] using hc) p
  · have e : i = l.length := by omega
    subst e
    exact .inl ⟨Nat.le_of_eq sz, hd H p⟩
theorem take_map_succ {α β : Type} (f : α → β) {l : List α} {i : Nat} {c : α} (h : l[i]? = some c) : (l.take (i + 1)).map f = (l.take i).map f ++ [f c] := by
  rw [List.take_add_one, h, List.map_append]
  rfl
theorem mem_take_succ {α : Type} {l : List α} {i : Nat} {c : α} {p : α → Prop} (h : l[i]? = some c) (hp : ∀ x ∈ l.take i, p x) (hc : p c) : ∀ x ∈ l.take (i + 1), p x := by
  intro x hx
  rw [List.take_add_one, h] at hx
  rcases List.mem_append.mp hx with z | z
  · exact hp x z
  · have e : x = c := by simpa using z
    rw [e]
    exact hc
theorem sqT_same {K : PySem.W.Frag} {H H' : Hp} {a : Addr} {xs : List V} (e : Same H H') (h : SqT K H a xs) : SqT K H' a xs := by
  rcases h with (h | ⟨o, h⟩) | h
  · exact .inl (.inl (e _ _ h))
  · exact .inl (.inr ⟨o, e _ _ h⟩)
  · exact .inr h
theorem same_upd {H : Hp} {d : Addr} {o : HO} (h : H d = none) : Same H (upd H d o) := fun b u e => by
  rw [upd_ne (ne_of_none e h)]
  exact e
theorem join_len (l : List Nat) : ((l.map fun c => T [c]).map (·.length)).sum = l.length := by
  induction l with
  | nil => rfl
  | cons c r ih => simp only [List.map_cons, List.sum_cons, ih, T_len, List.length_cons, List.length_nil]; omega
theorem join_T (l : List Nat) : PySem.Txt.join (T []) (l.map fun c => T [c]) = T l := by
  rw [join_eq]
  refine ext_tl ?_
  rw [tl_join]
  show joinL [] ((l.map fun c => T [c]).map tl) = l
  rw [List.map_map]
  induction l with
  | nil => rfl
  | cons c r ih =>
    cases r with
    | nil => rfl
    | cons d q =>
      have e : joinL [] (((c :: d :: q).map (tl ∘ fun c => T [c]))) = [c] ++ ([] ++ joinL [] ((d :: q).map (tl ∘ fun c => T [c]))) := rfl
      rw [e, ih]
      rfl
end HK
namespace K08
open PySem L2 HK
def top (i : Nat) : Stmt := PySem.Challenge.pw_hoststack_k08_devices_and_what_a_crash_l.main.body.getD i (.Pass ⟨0, 0, 0, 0⟩)
/-! ### the dice, as plain mathematics -/
structure Dice where
  a : Int
  b : Int
  c : Int
  deriving DecidableEq
def Dice.vs (d : Dice) : List V := [.int d.a, .int d.b, .int d.c]
def mkDice (n : Int) : Dice := if -10 < n ∧ n < 10 then ⟨if n < 0 then -n else n, 0, 2⟩ else ⟨n, 1 + n % 1009, if 10 ^ 18 ≤ n then 1 else 0⟩
def stepA (d : Dice) : Int := (d.a * 48271 + d.b * 69621 + 11) % 2147483647
/-- what a roll tells, and the dice behind it -/
def roll (d : Dice) (m : Int) : Int × Dice :=
  if d.c = 2 ∨ (d.c = 1 ∧ 0 < d.a) then (d.a % m, ⟨d.a / m, d.b, d.c⟩) else ((stepA d / 7) % m, ⟨stepA d, d.b + 1, 0⟩)
theorem roll_range (d : Dice) {m : Int} (h : 0 < m) : 0 ≤ (roll d m).1 ∧ (roll d m).1 < m := by
  unfold roll
  split
  · exact ⟨Int.emod_nonneg _ (by omega), Int.emod_lt_of_pos _ h⟩
  · exact ⟨Int.emod_nonneg _ (by omega), Int.emod_lt_of_pos _ h⟩
abbrev sDice : Stmt := top 8
abbrev sRoll : Stmt := top 9
abbrev sRounds : Stmt := top 10
/-! ### promises -/
def spDice : Sp := fun vs H Q _ => ∃ n : Int, vs = [.int n] ∧ ∀ p, H p = none → Q (.ref p) (upd H p (.lst (mkDice n).vs))
def spRoll : Sp := fun vs H Q _ => ∃ (D : Addr) (d : Dice) (m : Int), vs = [.ref D, .int m] ∧ H D = some (.lst d.vs) ∧ 0 < m ∧ m < 1000000 ∧ Q (.int (roll d m).1) (upd H D (.lst (roll d m).2.vs))
section
variable {P : Program} {w : World} {K : PySem.W.Frag} {mg : Str → Option Value} {base : Heap}
theorem scDice : FnScope ["cell"] ["cell"] (defScope sDice) := ⟨rfl, rfl, rfl, by decide +kernel, rfl, by decide +kernel, by decide +kernel⟩
theorem ok_dice {f : Addr} {fd : FuncData} (F : L2.Fun K "_law_dice" "_law_dice" sDice f fd) (mA : mg "abs" = none) (mI : mg "int" = none) : FnOk P w K mg base L2.CX0 1 f fd ["cell"] spDice := by
  refine F.ok scDice (fun vs H Q E h => ?_) (fun cdv A outer s H vs Q E hr h => ?_)
  · obtain ⟨n, rfl, _⟩ := h
    rfl
  · obtain ⟨n, rfl, k⟩ := h
    refine ⟨_, pss_cons (ps_if (pt_chain op_lt op_lt (pe_op op_sub pe_int pe_int) (pv 0) pe_int) (pss_one (ps_ret (pe_lst (pa_cons (pe_callB call_abs (by rfl) mA (by decide +kernel) (pa_cons (pv 0) pa_nil)) (pa_cons pe_int (pa_cons pe_int pa_nil)))))) pss_nil)
      (pss_one (ps_ret (pe_lst (pa_cons (pv 0) (pa_cons (pe_op op_add pe_int (pe_op op_mod (pe_callTy call_int1 (by rfl) mI PyProof.Rows.Boot.«int» (pa_cons (pv 0) pa_nil)) pe_int))
        (pa_cons (pe_callTy call_int1 (by rfl) mI PyProof.Rows.Boot.«int» (pa_cons (pe_cmpR op_ge (pv 0) (pe_op op_pow pe_int pe_int) (nomark _)) pa_nil)) pa_nil)))))), ?_⟩
    refine ⟨_, _, rfl, rfl, _, rfl, _, _, rfl, rfl, _, rfl, ?_⟩
    refine ite2 (fun c1 => ⟨_, _, rfl, rfl, _, rfl, ite2 (fun c2 => ?A) (fun c2 => ?B)⟩) (fun c1 => ⟨_, rfl, iteF ?C⟩)
    case A =>
      have hn : -10 < n ∧ n < 10 := ⟨by have z := of_decide_eq_true c1; omega, of_decide_eq_true c2⟩
      refine ⟨_, rfl, _, rfl, by show 3 ≤ sizeLine; decide, fun p hp => ?_⟩
      have e := k p hp
      unfold mkDice at e
      rw [if_pos hn] at e
      exact e
    all_goals
      have hn : ¬ (-10 < n ∧ n < 10) := by
        simp only [decide_eq_true_eq] at *
        omega
      refine ⟨_, rfl, _, rfl, .inl ⟨_, rfl, _, _, rfl, rfl, (by show (0 : Int) < 1009; decide), _, _, rfl, rfl, ?_⟩⟩
      refine ⟨_, rfl, _, _, rfl, rfl, (by refine ⟨by decide, by decide, by decide⟩), _, _, rfl, rfl, .inr ⟨_, rfl, by show 3 ≤ sizeLine; decide, fun p hp => ?_⟩⟩
      have e := k p hp
      unfold mkDice at e
      rw [if_neg hn] at e
      have e2 : (if decide ((10 : Int) ^ (18 : Int).toNat ≤ n) = true then (1 : Int) else 0) = (if 10 ^ 18 ≤ n then 1 else 0) := by
        simp only [decide_eq_true_eq]
        rfl
      rw [e2]
      exact e
theorem scRoll : FnScope ["dice", "many", "found"] ["dice", "many"] (defScope sRoll) := ⟨rfl, rfl, rfl, by decide +kernel, rfl, by decide +kernel, by decide +kernel⟩
theorem at0 (x y z : V) : atI [x, y, z] 0 = some x := rfl
theorem at1 (x y z : V) : atI [x, y, z] 1 = some y := rfl
theorem at2 (x y z : V) : atI [x, y, z] 2 = some z := rfl
theorem ix0 (x y z : V) : ixN [x, y, z].length 0 = some 0 := rfl
theorem ix1 (x y z : V) : ixN [x, y, z].length 1 = some 1 := rfl
theorem ix2 (x y z : V) : ixN [x, y, z].length 2 = some 2 := rfl
theorem ok_roll {f : Addr} {fd : FuncData} (F : L2.Fun K "_law_roll" "_law_roll" sRoll f fd) (mI : mg "int" = none) : FnOk P w K mg base L2.CX0 1 f fd ["dice", "many"] spRoll := by
  refine F.ok scRoll (fun vs H Q E h => ?_) (fun cdv A outer s H vs Q E hr h => ?_)
  · obtain ⟨D, d, m, rfl, _⟩ := h
    rfl
  · obtain ⟨D, ⟨a, b, c⟩, m, rfl, hD, m0, m1, k⟩ := h
    have hD : H D = some (.lst [.int a, .int b, .int c]) := hD
    refine ⟨_, pss_cons (ps_if (PW.pt (pw_or (pt_cmpR op_eq (pe_ix ix_list (pv 0) pe_int (fun _ _ => rfl)) pe_int (nomark _)) (pw_or1 (PW.pt (pw_and (pt_cmpR op_eq (pe_ix ix_list (pv 0) pe_int (fun _ _ => rfl)) pe_int (nomark _)) (pw_and1 (pt_cmpR op_gt (pe_ix ix_list (pv 0) pe_int (fun _ _ => rfl)) pe_int (nomark _))))))))
        (pss_cons (ps_set (i := 2) scRoll.nd rfl (Or.inl rfl) (pe_op op_mod (pe_callTy call_int1 (by rfl) mI PyProof.Rows.Boot.«int» (pa_cons (pe_ix ix_list (pv 0) pe_int (fun _ _ => rfl)) pa_nil)) (pv 1)))
        (pss_cons (ps_asg (pe_op op_fdiv (pe_ix ix_list (pv 0) pe_int (fun _ _ => rfl)) (pv 1)) (pg_sub (pv 0) pe_int set_list))
        (pss_one (ps_ret (pv 2))))) pss_nil)
      (pss_cons (ps_asg pe_int (pg_sub (pv 0) pe_int set_list))
      (pss_cons (ps_asg (pe_op op_mod (pe_callTy call_int1 (by rfl) mI PyProof.Rows.Boot.«int» (pa_cons (pe_op op_add (pe_op op_add (pe_op op_mul (pe_ix ix_list (pv 0) pe_int (fun _ _ => rfl)) pe_int) (pe_op op_mul (pe_ix ix_list (pv 0) pe_int (fun _ _ => rfl)) pe_int)) pe_int) pa_nil)) pe_int) (pg_sub (pv 0) pe_int set_list))
      (pss_cons (ps_asg (pe_op op_add (pe_ix ix_list (pv 0) pe_int (fun _ _ => rfl)) pe_int) (pg_sub (pv 0) pe_int set_list))
      (pss_one (ps_ret (pe_op op_mod (pe_callTy call_int1 (by rfl) mI PyProof.Rows.Boot.«int» (pa_cons (pe_op op_fdiv (pe_ix ix_list (pv 0) pe_int (fun _ _ => rfl)) pe_int) pa_nil)) (pv 1))))))), ?_⟩
    refine ⟨_, rfl, D, _, _, _, rfl, rfl, SqL.of hD, at2 _ _ _, rfl, _, rfl, ite2 (fun c1 => iteT ?T) (fun c1 => ⟨_, rfl, D, _, _, _, rfl, rfl, SqL.of hD, at2 _ _ _, rfl, _, rfl,
      ite2 (fun c2 => ⟨_, rfl, D, _, _, _, rfl, rfl, SqL.of hD, at0 _ _ _, _, _, rfl, rfl, _, rfl, ite2 (fun c3 => ?T2) (fun c3 => ?F)⟩) (fun c2 => iteF ?F2)⟩)⟩
    case T | T2 =>
      have hc : c = 2 ∨ (c = 1 ∧ 0 < a) := by
        simp only [decide_eq_true_eq, V.int.injEq] at *
        omega
      have e : roll ⟨a, b, c⟩ m = (a % m, ⟨a / m, b, c⟩) := by
        unfold roll
        rw [if_pos hc]
      rw [e] at k
      refine ⟨_, rfl, D, _, _, _, rfl, rfl, SqL.of hD, at0 _ _ _, .inl ⟨_, rfl, _, rfl, _, _, rfl, rfl, m0, ?_⟩⟩
      exact ⟨_, rfl, D, _, _, _, rfl, rfl, SqL.of hD, at0 _ _ _, _, rfl, _, _, rfl, rfl, ⟨m0, by omega⟩, _, rfl, D, _, _, _, rfl, rfl, hD, ix0 _ _ _, _, rfl, k⟩
    case F | F2 =>
      have hc : ¬ (c = 2 ∨ (c = 1 ∧ 0 < a)) := by
        simp only [decide_eq_true_eq, V.int.injEq] at *
        omega
      have e : roll ⟨a, b, c⟩ m = ((stepA ⟨a, b, c⟩ / 7) % m, ⟨stepA ⟨a, b, c⟩, b + 1, 0⟩) := by
        unfold roll
        rw [if_neg hc]
      rw [e] at k
      refine ⟨_, rfl, D, _, _, _, rfl, rfl, hD, ix2 _ _ _, ?_⟩
      refine ⟨_, rfl, D, _, _, _, rfl, rfl, SqL.of upd_same, at0 _ _ _, _, _, rfl, rfl, .inr ⟨by decide, by decide⟩, _, rfl, D, _, _, _, rfl, rfl, SqL.of upd_same, at1 _ _ _, _, _, rfl, rfl, .inr ⟨by decide, by decide⟩, _, _, rfl, rfl, _, _, rfl, rfl, .inl ⟨_, rfl, _, _, rfl, rfl, (by show (0 : Int) < 2147483647; decide), ?_⟩⟩
      refine ⟨_, rfl, D, _, _, _, rfl, rfl, upd_same, ix0 _ _ _, ?_⟩
      refine ⟨_, rfl, D, _, _, _, rfl, rfl, SqL.of upd_same, at1 _ _ _, _, _, rfl, rfl, _, rfl, D, _, _, _, rfl, rfl, upd_same, ix1 _ _ _, ?_⟩
      refine ⟨_, rfl, D, _, _, _, rfl, rfl, SqL.of upd_same, at0 _ _ _, _, _, rfl, rfl, ⟨by decide, by decide⟩, .inl ⟨_, rfl, _, rfl, _, _, rfl, rfl, m0, ?_⟩⟩
      rw [upd_upd, upd_upd]
      exact k
theorem scRounds : FnScope ["script", "most", "cells", "cell"] ["script", "most"] (defScope sRounds) := ⟨rfl, rfl, rfl, by decide +kernel, rfl, by decide +kernel, by decide +kernel⟩
def cell0 (ns : List Int) : Int := ns.headD 0
/-- the first cell's dice, alone in a list -/
def spRounds (K : PySem.W.Frag) : Sp := fun vs H Q _ => ∃ (a : Addr) (ns : List Int), vs = [.ref a, .int 1] ∧ SqL K H a (ns.map V.int) ∧
  ∀ H' R D, Same H H' → H R = none → H D = none → R ≠ D → H' R = some (.lst [.ref D]) → H' D = some (.lst (mkDice (cell0 ns)).vs) → Q (.ref R) H'
theorem cut1 (ns : List Int) : cutV (ns.map V.int) none (some 1) = (ns.take 1).map V.int := by
  unfold cutV
  show ((ns.map V.int).drop 0).take (HT.sIx (ns.map V.int).length (ns.map V.int).length (some ((1 : Nat) : Int)) - 0) = _
  rw [HT.sIx_nat]
  cases ns with
  | nil => rfl
  | cons n r => simp
theorem ok_rounds {f fD : Addr} {fd fdD : FuncData} (F : L2.Fun K "_law_rounds" "_law_rounds" sRounds f fd)
    (FD : FnOk P w K mg base L2.CX0 1 fD fdD ["cell"] spDice) (mD : mg "_law_dice" = some (.ref fD)) (kD : PySem.W.keepIn K (.ref fD) = true) (bD : Binds K fdD ["cell"] []) :
    FnOk P w K mg base L2.CX0 2 f fd ["script", "most"] (spRounds K) := by
  refine F.ok scRounds (fun vs H Q E h => ?_) (fun cdv A outer s H vs Q E hr h => ?_)
  · obtain ⟨a, ns, rfl, _⟩ := h
    rfl
  · obtain ⟨a, ns, rfl, ha, k⟩ := h
    refine ⟨_, pss_cons (ps_set (i := 2) scRounds.nd rfl (Or.inl rfl) (pe_slice sl_list (pv 0) po_none (po_some (pv 1))))
      (pss_cons (ps_if (pt_cmpR (op_eqD hr.units) (pv 2) (pe_lst pa_nil) (nomark _)) (pss_one (ps_set (i := 2) scRounds.nd rfl (Or.inl rfl) (pe_lst (pa_cons pe_int pa_nil)))) pss_nil)
      (pss_one (ps_ret (pe_lc (own := [("cell", 3)]) (g := gName 3) (by rfl) scRounds.nd (pi_list (pv 2)) (blkOk_by (N := ["script", "most", "cells", "cell"]) (sc := defScope sRounds) (by decide +kernel))
        (fun _ _ _ _ _ => pg_name (i := 3) scRounds.nd rfl (Or.inl rfl)) (fun _ _ _ _ _ => pts_nil) (fun _ _ _ _ _ => pe_call FD hr (by rfl) mD kD bD .nil pass0 (pa_cons (pv 3) pa_nil)))))), ?_⟩
    -- the list of cells
    have tail : ∀ (p : Addr) (n : Int) (H1 : Hp), Same H H1 → H p = none → H1 p = some (.lst [.int n]) → n = cell0 ns → tLc (iList K (tVar 2)) (gName 3) tYes (tCall spDice [] E0 (tCons (tVar 3) tNil)) [3] [some (.ref a), some (.int 1), some (.ref p), none] H1 Q := by
      intro p n H1 s1 np hp en
      refine ⟨_, rfl, p, rfl, ⟨_, SqL.of hp⟩, fun R nR => ?_⟩
      have npR : p ≠ R := ne_of_none hp nR
      refine lc_list (K := K) (a := p) (xs := [.int n]) (fun i H' => (i = 0 → H' = upd H1 R (.lst [])) ∧ (i = 1 → ∃ D, H1 D = none ∧ R ≠ D ∧ H' R = some (.lst [.ref D]) ∧ H' D = some (.lst (mkDice n).vs) ∧ Same H1 H')) ⟨fun _ => rfl, fun z => by cases z⟩ (fun i H' hi q => ?_) (fun i x H' hx q => ?_) (fun H' q => ?_)
      · have hi : i ≤ 1 := hi
        rcases (by omega : i = 0 ∨ i = 1) with rfl | rfl
        · rw [q.1 rfl]
          exact SqL.of (by rw [upd_ne npR]; exact hp)
        · obtain ⟨D, _, _, _, _, z⟩ := q.2 rfl
          exact SqL.of (z _ _ hp)
      · match i, hx with
        | 0, hx =>
          obtain rfl : V.int n = x := Option.some.inj hx
          obtain rfl := q.1 rfl
          refine ⟨rfl, _, rfl, n, rfl, fun D nD => ?_⟩
          have nRD : R ≠ D := ne_of_none upd_same nD
          have nD1 : H1 D = none := by rw [upd_ne (Ne.symm nRD)] at nD; exact nD
          refine ⟨[], by rw [upd_ne nRD, upd_same], by show 0 < sizeLine; decide, fun z => (by cases z), fun _ => ⟨D, nD1, nRD, upd_same, by rw [upd_ne (Ne.symm nRD), upd_same], fun b o e => ?_⟩⟩
          rw [upd_ne (ne_of_none e nR), upd_ne (ne_of_none e nD1), upd_ne (ne_of_none e nR)]
          exact e
      · obtain ⟨D, nD, nRD, h1, h2, s2⟩ := q.2 rfl
        rw [en] at h2
        exact k H' R D (s1.trans s2) (s1.free nR) (s1.free nD) nRD h1 h2
    refine ⟨_, rfl, _, rfl, _, rfl, a, _, rfl, ha, fun p np => ?_⟩
    rw [cut1]
    refine ⟨_, rfl, by show 0 ≤ sizeLine; decide, fun l nl => ?_⟩
    have npl : p ≠ l := ne_of_none upd_same nl
    have np' : (upd (upd H p (.lst ((ns.take 1).map V.int))) l (.lst [])) p = some (.lst ((ns.take 1).map V.int)) := by rw [upd_ne npl, upd_same]
    have nl' : H l = none := by rw [upd_ne (Ne.symm npl)] at nl; exact nl
    have sm : Same H (upd (upd H p (.lst ((ns.take 1).map V.int))) l (.lst [])) := fun b o e => by
      rw [upd_ne (ne_of_none e nl'), upd_ne (ne_of_none e np)]
      exact e
    cases ns with
    | nil =>
      refine ⟨.list [], .list [], Dp.lst (SqL.of np') .nil, Dp.lst (SqL.of upd_same) .nil, rfl, rfl, _, rfl, iteT ?_⟩
      refine ⟨by show 1 ≤ sizeLine; decide, fun c nc => ?_⟩
      refine tail c 0 _ (sm.trans fun b o e => ?_) (sm.free nc) upd_same rfl
      rw [upd_ne (ne_of_none e nc)]
      exact e
    | cons n r =>
      refine ⟨.list [.int n], .list [], Dp.lst (SqL.of np') (.cons (.int n) .nil), Dp.lst (SqL.of upd_same) .nil, ?_, rfl, _, rfl, iteF ?_⟩
      · rfl
      · exact tail p n _ sm np np' rfl
end
end K08
namespace K08
open PySem L2 HK
/-! ### frames of the heap -/
/-- all but those at l is as it was -/
def Off (l : List Addr) (H H' : Hp) : Prop := ∀ b, b ∉ l → H' b = H b
theorem Off.refl (l : List Addr) (H : Hp) : Off l H H := fun _ _ => rfl
theorem Off.upd {l : List Addr} {H H' : Hp} {a : Addr} {o : HO} (x : Off l H H') (h : a ∈ l) : Off l H (upd H' a o) := fun b hb => by
  have hba : b ≠ a := fun e => hb (by rw [e]; exact h)
  rw [upd_ne hba]
  exact x b hb
theorem Off.trans {l m : List Addr} {H H1 H2 : Hp} (x : Off l H H1) (y : Off m H1 H2) : Off (l ++ m) H H2 := fun b hb => by
  rw [y b (fun e => hb (List.mem_append.mpr (.inr e))), x b (fun e => hb (List.mem_append.mpr (.inl e)))]
/-! ### the device as plain data -/
structure Dv where
  sz : Int
  tot : Int
  fz : V
  dead : Bool
  st : Int
def fsD (d : Dv) (B W : Addr) : List (Str × V) := [("block_size", .int d.sz), ("total", .int d.tot), ("blocks", .ref B), ("waiting", .ref W), ("fuse", d.fz), ("dead", .bl d.dead), ("steps", .int d.st)]
def stepped (d : Dv) : Dv := { d with fz := match d.fz with | .int n => .int (n - 1) | v => v, st := d.st + 1 }
/-- a waiting write: the pair's tuple, the block's number, its data -/
abbrev En := Addr × Int × Addr
structure WaitAt (H : Hp) (W : Addr) (es : List En) : Prop where
  lst : H W = some (.lst (es.map fun e => V.ref e.1))
  tup : ∀ e ∈ es, H e.1 = some (.tup [.int e.2.1, .ref e.2.2])
def toKV (es : List En) : List (Key × V) := es.map fun e => (Sum.inl e.2.1, V.ref e.2.2)
/-- the last data that waits for a block -/
def lastOf (es : List En) (n : Int) : Option Addr := (es.reverse.find? fun e => decide (e.2.1 = n)).map (·.2.2)
def zeros (n : Int) : List V := List.replicate n.toNat (.int 0)
/-! ### the text by places -/
abbrev sInit : Stmt := inClass (top 6) 0
abbrev sArm : Stmt := inClass (top 6) 1
abbrev sAlive : Stmt := inClass (top 6) 2
abbrev sStep : Stmt := inClass (top 6) 3
abbrev sNumber : Stmt := inClass (top 6) 4
abbrev sBlock : Stmt := inClass (top 6) 5
abbrev sKept : Stmt := inClass (top 6) 6
abbrev sRead : Stmt := inClass (top 6) 7
abbrev sWrite : Stmt := inClass (top 6) 8
abbrev sFlush : Stmt := inClass (top 6) 9
abbrev sRest : Stmt := inClass (top 6) 10
structure DTxt (K : PySem.W.Frag) (mg : Str → Option Value) (C CE : Addr) : Prop where
  cl : Cls K C
  n1 : NoAttr K C "block_size"
  n2 : NoAttr K C "total"
  n3 : NoAttr K C "blocks"
  n4 : NoAttr K C "waiting"
  n5 : NoAttr K C "fuse"
  n6 : NoAttr K C "dead"
  n7 : NoAttr K C "steps"
  gC : mg "Device" = some (.ref C)
  gE : mg "DeviceError" = some (.ref CE)
  xE : PySem.W.excIn K CE [.type "ValueError", .type "Exception", .type "BaseException", .type "object"] "ValueError.__new__" = true
  kE : PySem.W.keepIn K (.ref CE) = true
  bE : PySem.W.subIn K (.ref CE) (.type "BaseException") = some true
  tE : PySem.W.typeIn K (.ref CE) = some (.type "type")
  len : mg "len" = none
  tup : mg "tuple" = none
  dict : mg "dict" = none
  rev : mg "reversed" = none
  zip : mg "zip" = none
  kept : ∃ t, mg "KEPT" = some (.int 1 t)
  half : ∃ t, mg "HALF_KEPT" = some (.int 2 t)
/-! ### promises -/
def spAlive (C CE : Addr) : Sp := fun vs H Q E => ∃ p dx d B W, vs = [.ref p] ∧ H p = some (.ins C dx (fsD d B W)) ∧ (d.dead = false → Q .non H) ∧ (d.dead = true → E (.ref CE) none H)
def spStep (C CE : Addr) : Sp := fun vs H Q E => ∃ p dx d B W, vs = [.ref p] ∧ H p = some (.ins C dx (fsD d B W)) ∧ (d.fz = .non ∨ ∃ n, d.fz = .int n) ∧
  (d.dead = true → E (.ref CE) none H) ∧ (d.dead = false → d.fz = .int 0 → E (.ref CE) none (upd H p (.ins C dx (fsD { d with dead := true } B W)))) ∧
  (d.dead = false → d.fz ≠ .int 0 → Q .non (upd H p (.ins C dx (fsD (stepped d) B W))))
def spNumber (C CE : Addr) : Sp := fun vs H Q E => ∃ p dx d B W n, vs = [.ref p, .int n] ∧ H p = some (.ins C dx (fsD d B W)) ∧ (0 ≤ n ∧ n < d.tot → Q .non H) ∧ (¬ (0 ≤ n ∧ n < d.tot) → E (.ref CE) none H)
def spBlock (K : PySem.W.Frag) (C CE : Addr) : Sp := fun vs H Q E => ∃ p dx d B W n t xs, vs = [.ref p, .int n, .ref t] ∧ H p = some (.ins C dx (fsD d B W)) ∧ SqT K H t xs ∧
  ((xs.length : Int) = d.sz → 0 ≤ n ∧ n < d.tot → Q .non H) ∧ (¬ ((xs.length : Int) = d.sz ∧ 0 ≤ n ∧ n < d.tot) → E (.ref CE) none H)
def spKept (C : Addr) : Sp := fun vs H Q _ => ∃ p dx d B W n kvs, vs = [.ref p, .int n] ∧ H p = some (.ins C dx (fsD d B W)) ∧ H B = some (.dK kvs) ∧ 2 ≤ d.sz ∧ d.sz ≤ 1000 ∧
  ∀ H' z, Same H H' → H z = none → H' z = some (.tup (zeros d.sz)) → Q ((valV kvs (.inl n)).getD (.ref z)) H'
section
variable {P : Program} {w : World} {K : PySem.W.Frag} {mg : Str → Option Value} {base : Heap} {C CE : Addr}
theorem scAlive : FnScope ["self"] ["self"] (defScope sAlive) := ⟨rfl, rfl, rfl, by decide +kernel, rfl, by decide +kernel, by decide +kernel⟩
theorem ok_alive {f : Addr} {fd : FuncData} (F : L2.Fun K "check_alive" "Device.check_alive" sAlive f fd) (T : DTxt K mg C CE) : FnOk P w K mg base (L2.CX P w) 1 f fd ["self"] (spAlive C CE) := by
  refine F.okX scAlive (fun vs H Q E h => ?_) (fun cdv A outer s H vs Q E hr h => ?_)
  · obtain ⟨p, dx, d, B, W, rfl, _⟩ := h
    rfl
  · obtain ⟨p, dx, d, B, W, rfl, hp, k0, k1⟩ := h
    refine ⟨_, pss_one (ps_if (pt_val (pe_fld (pv 0) rfl)) (pss_one (ps_raise rfl (takes_of rfl rfl rfl rfl) (pmk_own PySem.F.excBase_ValueError T.xE T.gE T.kE (raises_own T.bE T.tE) rfl))) pss_nil), ?_⟩
    refine ⟨_, rfl, p, C, dx, _, _, rfl, hp, T.cl, T.n6, rfl, _, rfl, ite2 (fun c => k1 c) (fun c => k0 (by simpa using c))⟩
theorem scStep : FnScope ["self"] ["self"] (defScope sStep) := ⟨rfl, rfl, rfl, by decide +kernel, rfl, by decide +kernel, by decide +kernel⟩
theorem ok_step {f fA : Addr} {fd fdA : FuncData} (F : L2.Fun K "step" "Device.step" sStep f fd) (T : DTxt K mg C CE) (FA : FnOk P w K mg base (L2.CX P w) 1 fA fdA ["self"] (spAlive C CE)) (bA : Binds K fdA ["self"] []) (mA : Meth K C "check_alive" fA) :
    FnOk P w K mg base (L2.CX P w) 2 f fd ["self"] (spStep C CE) := by
  refine F.okX scStep (fun vs H Q E h => ?_) (fun cdv A outer s H vs Q E hr h => ?_)
  · obtain ⟨p, dx, d, B, W, rfl, _⟩ := h
    rfl
  · obtain ⟨p, dx, d, B, W, rfl, hp, hf, k1, k2, k3⟩ := h
    refine ⟨_, pss_cons (ps_expr (pe_meth0 (pv 0) T.cl mA FA hr bA .nil (passes_call (takes_of rfl rfl rfl rfl) (fun _ _ _ _ h => h))))
      (pss_cons (ps_if (PW.pt (pw_and (pt_cmpR op_notN (pe_fld (pv 0) rfl) pe_non (nomark _)) (pw_and1 (pt_cmpR op_eq (pe_fld (pv 0) rfl) pe_int (nomark _)))))
        (pss_cons (ps_fld (pv 0) pe_bl rfl) (pss_one (ps_raise rfl (takes_of rfl rfl rfl rfl) (pmk_own PySem.F.excBase_ValueError T.xE T.gE T.kE (raises_own T.bE T.tE) rfl)))) pss_nil)
      (pss_cons (ps_if (pt_cmpR op_notN (pe_fld (pv 0) rfl) pe_non (nomark _)) (pss_one (ps_fld (pv 0) (pe_op op_sub (pe_fld (pv 0) rfl) pe_int) rfl)) pss_nil)
      (pss_one (ps_fld (pv 0) (pe_op op_add (pe_fld (pv 0) rfl) pe_int) rfl)))), ?_⟩
    refine ⟨_, rfl, p, dx, _, rfl, hp, rfl, p, dx, d, B, W, rfl, hp, fun c => ?_, k1⟩
    refine ⟨_, rfl, p, C, dx, _, _, rfl, hp, T.cl, T.n5, rfl, rfl, _, rfl, ?_⟩
    obtain ⟨sz, tot, fz, dead, st⟩ := d
    rcases hf with hf | ⟨n, hf⟩
    · have hf : fz = .non := hf
      subst hf
      refine iteF (iteF ⟨_, rfl, p, C, dx, _, _, rfl, hp, T.cl, T.n5, rfl, rfl, _, rfl, iteF ?_⟩)
      exact ⟨_, rfl, p, C, dx, _, _, rfl, hp, T.cl, T.n7, rfl, _, _, rfl, rfl, _, rfl, p, C, dx, _, rfl, hp, T.cl, T.n7, (by show 7 < 1000; decide), k3 c (fun z => by cases z)⟩
    · have hf : fz = .int n := hf
      subst hf
      refine iteT ⟨_, rfl, p, C, dx, _, _, rfl, hp, T.cl, T.n5, rfl, rfl, _, rfl, ite2 (fun c2 => ?_) (fun c2 => ?_)⟩
      · have e0 : n = 0 := by simpa using c2
        exact ⟨_, rfl, p, C, dx, _, rfl, hp, T.cl, T.n6, (by show 7 < 1000; decide), k2 c (by rw [e0])⟩
      · refine ⟨_, rfl, p, C, dx, _, _, rfl, hp, T.cl, T.n5, rfl, rfl, _, rfl, iteT ?_⟩
        refine ⟨_, rfl, p, C, dx, _, _, rfl, hp, T.cl, T.n5, rfl, _, _, rfl, rfl, _, rfl, p, C, dx, _, rfl, hp, T.cl, T.n5, (by show 7 < 1000; decide), ?_⟩
        refine ⟨_, rfl, p, C, dx, _, _, rfl, upd_same, T.cl, T.n7, rfl, _, _, rfl, rfl, _, rfl, p, C, dx, _, rfl, upd_same, T.cl, T.n7, (by show 7 < 1000; decide), ?_⟩
        rw [upd_upd]
        exact k3 c (fun z => c2 (by simpa using z))
theorem scNumber : FnScope ["self", "number"] ["self", "number"] (defScope sNumber) := ⟨rfl, rfl, rfl, by decide +kernel, rfl, by decide +kernel, by decide +kernel⟩
theorem ok_number {f : Addr} {fd : FuncData} (F : L2.Fun K "check_number" "Device.check_number" sNumber f fd) (T : DTxt K mg C CE) : FnOk P w K mg base (L2.CX P w) 1 f fd ["self", "number"] (spNumber C CE) := by
  refine F.okX scNumber (fun vs H Q E h => ?_) (fun cdv A outer s H vs Q E hr h => ?_)
  · obtain ⟨p, dx, d, B, W, n, rfl, _⟩ := h
    rfl
  · obtain ⟨p, dx, d, B, W, n, rfl, hp, k0, k1⟩ := h
    refine ⟨_, pss_one (ps_if (pt_not (pt_chain op_le op_lt pe_int (pv 1) (pe_fld (pv 0) rfl))) (pss_one (ps_raise rfl (takes_of rfl rfl rfl rfl) (pmk_own PySem.F.excBase_ValueError T.xE T.gE T.kE (raises_own T.bE T.tE) rfl))) pss_nil), ?_⟩
    refine ⟨_, rfl, _, _, rfl, rfl, _, rfl, ite2 (fun c1 => ⟨_, rfl, p, C, dx, _, _, rfl, hp, T.cl, T.n2, rfl, _, _, rfl, rfl, _, rfl, ?_⟩) (fun c1 => ⟨_, rfl, ?_⟩)⟩
    · refine ite2 (fun c2 => ?_) (fun c2 => ?_)
      · exact k1 (fun z => by simp [z.2] at c2)
      · exact k0 ⟨by simpa using c1, by simpa using c2⟩
    · exact iteT (k1 (fun z => by simp [z.1] at c1))
theorem scBlock : FnScope ["self", "number", "data"] ["self", "number", "data"] (defScope sBlock) := ⟨rfl, rfl, rfl, by decide +kernel, rfl, by decide +kernel, by decide +kernel⟩
theorem ok_block {f fN : Addr} {fd fdN : FuncData} (F : L2.Fun K "check_block" "Device.check_block" sBlock f fd) (T : DTxt K mg C CE) (FN : FnOk P w K mg base (L2.CX P w) 1 fN fdN ["self", "number"] (spNumber C CE)) (bN : Binds K fdN ["self", "number"] []) (mN : Meth K C "check_number" fN) :
    FnOk P w K mg base (L2.CX P w) 2 f fd ["self", "number", "data"] (spBlock K C CE) := by
  refine F.okX scBlock (fun vs H Q E h => ?_) (fun cdv A outer s H vs Q E hr h => ?_)
  · obtain ⟨p, dx, d, B, W, n, t, xs, rfl, _⟩ := h
    rfl
  · obtain ⟨p, dx, d, B, W, n, t, xs, rfl, hp, ht, k0, k1⟩ := h
    refine ⟨_, pss_cons (ps_if (pt_cmpR op_ne (pe_callB call_len_seq (by rfl) T.len PySem.boot_len (pa_cons (pv 2) pa_nil)) (pe_fld (pv 0) rfl) (nomark _)) (pss_one (ps_raise rfl (takes_of rfl rfl rfl rfl) (pmk_own PySem.F.excBase_ValueError T.xE T.gE T.kE (raises_own T.bE T.tE) rfl))) pss_nil)
      (pss_one (ps_expr (pe_meth (pv 0) T.cl mN FN hr bN .nil (passes_call (takes_of rfl rfl rfl rfl) (fun _ _ _ _ h => h)) (pa_cons (pv 1) pa_nil)))), ?_⟩
    refine ⟨_, rfl, t, xs, rfl, .inr ht, _, rfl, p, C, dx, _, _, rfl, hp, T.cl, T.n1, rfl, rfl, _, rfl, ite2 (fun c => ?_) (fun c => ?_)⟩
    · exact k1 (fun z => by simp [z.1] at c)
    · have c : (xs.length : Int) = d.sz := by simpa using c
      exact ⟨_, rfl, p, dx, _, rfl, hp, rfl, _, rfl, p, dx, d, B, W, n, rfl, hp, k0 c, fun z => k1 (fun y => z y.2)⟩
theorem scKept : FnScope ["self", "number"] ["self", "number"] (defScope sKept) := ⟨rfl, rfl, rfl, by decide +kernel, rfl, by decide +kernel, by decide +kernel⟩
theorem ok_kept {f : Addr} {fd : FuncData} (F : L2.Fun K "kept" "Device.kept" sKept f fd) (T : DTxt K mg C CE) : FnOk P w K mg base L2.CX0 1 f fd ["self", "number"] (spKept C) := by
  refine F.ok scKept (fun vs H Q E h => ?_) (fun cdv A outer s H vs Q E hr h => ?_)
  · obtain ⟨p, dx, d, B, W, n, kvs, rfl, _⟩ := h
    rfl
  · obtain ⟨p, dx, d, B, W, n, kvs, rfl, hp, hB, h2, h1000, k⟩ := h
    refine ⟨_, pss_one (ps_ret (pe_dget2 (hu_of hr) (pe_fld (pv 0) rfl) (pv 1) (pe_op op_repT (pe_tup (pa_cons pe_int pa_nil)) (pe_fld (pv 0) rfl)) ⟨rfl, rfl, rfl, rfl⟩)), ?_⟩
    refine ⟨_, rfl, p, C, dx, _, _, rfl, hp, T.cl, T.n3, rfl, B, rfl, (.inl ⟨kvs, .inl hB⟩), _, rfl, by show 1 ≤ sizeLine; decide, fun t nt => ?_⟩
    have npt : p ≠ t := ne_of_none hp nt
    refine ⟨_, rfl, p, C, dx, _, _, rfl, by rw [upd_ne npt]; exact hp, T.cl, T.n1, rfl, t, d.sz, [.int 0], rfl, rfl, SqT.of upd_same, (fun z => by cases z), h2, h1000, by decide, fun z nz => ?_⟩
    have s1 : Same H (upd H t (.tup [.int 0])) := same_upd nt
    have s2 := s1.trans (same_upd (o := .tup (List.replicate d.sz.toNat [V.int 0]).flatten) nz)
    refine ⟨_, DGet.k (k := Sum.inl n) (s2 _ _ hB), k _ z s2 (s1.free nz) ?_⟩
    rw [upd_same]
    congr 2
    unfold zeros
    induction d.sz.toNat with
    | zero => rfl
    | succ m ih => rw [List.replicate_succ, List.replicate_succ, List.flatten_cons, ih]; rfl
end
end K08
namespace K08
open PySem L2 HK
/-! ### made, armed -/
def DictIn (H : Hp) (v : V) (kvs : List (Key × V)) : Prop := (v = .non ∧ kvs = []) ∨ ∃ b, v = .ref b ∧ H b = some (.dK kvs)
def spInit (C : Addr) : Sp := fun vs H Q _ => ∃ p dx sz tot v kvs, vs = [.ref p, .int sz, .int tot, v] ∧ H p = some (.ins C dx []) ∧ DictIn H v kvs ∧
  ∀ B W H', H B = none → H W = none → B ≠ W → Off [p, B, W] H H' → H' p = some (.ins C dx (fsD ⟨sz, tot, .non, false, 0⟩ B W)) → H' B = some (.dK kvs) → H' W = some (.lst []) → Q .non H'
def spArm (C : Addr) : Sp := fun vs H Q _ => ∃ p dx d B W v, vs = [.ref p, v] ∧ H p = some (.ins C dx (fsD d B W)) ∧ Q .non (upd H p (.ins C dx (fsD { d with fz := v } B W)))
section
variable {P : Program} {w : World} {K : PySem.W.Frag} {mg : Str → Option Value} {base : Heap} {C CE : Addr}
theorem scInit : FnScope ["self", "block_size", "count", "blocks"] ["self", "block_size", "count", "blocks"] (defScope sInit) := ⟨rfl, rfl, rfl, by decide +kernel, rfl, by decide +kernel, by decide +kernel⟩
abbrev FDI (K : PySem.W.Frag) (f : Addr) (fd : FuncData) : Prop := FunD K "__init__" "Device.__init__" (defArgs sInit) (defBody sInit) (defScope sInit) [.non] [] f fd
theorem ok_init {f : Addr} {fd : FuncData} (F : FDI K f fd) (T : DTxt K mg C CE) : FnOk P w K mg base L2.CX0 1 f fd ["self", "block_size", "count", "blocks"] (spInit C) := by
  refine F.ok scInit (fun vs H Q E h => ?_) (fun cdv A outer s H vs Q E hr h => ?_)
  · obtain ⟨p, dx, sz, tot, v, kvs, rfl, _⟩ := h
    rfl
  · suffices hX : ∃ t, PSs (cxOf L2.CX0 P w K mg base ["self", "block_size", "count", "blocks"] "Device.__init__" (defScope sInit) f cdv A outer s H E).nox (defBody sInit) t ∧ t { nx := fun _ H' => Q .non H', rt := Q } (L2.start ["self", "block_size", "count", "blocks"] vs) H by
      obtain ⟨t, h1, h2⟩ := hX
      exact ⟨t, h1.nox, h2⟩
    obtain ⟨p, dx, sz, tot, v, kvs, rfl, hp, hv, k⟩ := h
    refine ⟨_, pss_cons (ps_fld (pv 0) (pv 1) rfl) (pss_cons (ps_fld (pv 0) (pv 2) rfl)
      (pss_cons (ps_fld (pv 0) (pe_ifExp (pt_cmpR op_isN (pv 3) pe_non (nomark _)) pe_dnewK (pe_callTy call_dictD (by rfl) T.dict PyProof.Rows.Boot.«dict» (pa_cons (pv 3) pa_nil))) rfl)
      (pss_cons (ps_fld (pv 0) (pe_lst pa_nil) rfl) (pss_cons (ps_fld (pv 0) pe_non rfl) (pss_cons (ps_fld (pv 0) pe_bl rfl) (pss_one (ps_fld (pv 0) pe_int rfl))))))), ?_⟩
    refine ⟨_, rfl, _, rfl, p, C, dx, _, rfl, hp, T.cl, T.n1, (by show 0 < 1000; decide), ?_⟩
    refine ⟨_, rfl, _, rfl, p, C, dx, _, rfl, upd_same, T.cl, T.n2, (by show 1 < 1000; decide), ?_⟩
    rw [upd_upd]
    refine ⟨_, rfl, rfl, _, rfl, ?_⟩
    suffices hB : ∀ B, H B = none → ∀ H1, H1 = upd (upd H p (.ins C dx (putF "total" (.int tot) (putF "block_size" (.int sz) [])))) B (.dK kvs) →
        sFld K (tVar 0) (tC (.ref B)) "blocks" { nx := fun σ H2 => tSeq (sFld K (tVar 0) (tLst tNil) "waiting") (tSeq (sFld K (tVar 0) (tC .non) "fuse") (tSeq (sFld K (tVar 0) (tC (.bl false)) "dead") (sFld K (tVar 0) (tC (.int 0)) "steps"))) { nx := fun _ H' => Q .non H', rt := Q } σ H2, rt := Q } [some (.ref p), some (.int sz), some (.int tot), some v] H1 by
      rcases hv with ⟨rfl, rfl⟩ | ⟨b, rfl, hb⟩
      · refine iteT fun B nB => ?_
        have npB : p ≠ B := ne_of_none upd_same nB
        exact hB B (by rw [upd_ne npB.symm] at nB; exact nB) _ rfl
      · have hpb : b ≠ p := ne_of hb hp (by intro z; cases z)
        refine iteF ⟨_, rfl, b, kvs, rfl, .inl (by rw [upd_ne hpb]; exact hb), fun B nB => ?_⟩
        have npB : p ≠ B := ne_of_none upd_same nB
        exact hB B (by rw [upd_ne npB.symm] at nB; exact nB) _ rfl
    intro B nB H1 e1
    have npB : p ≠ B := ne_of_none hp nB
    subst e1
    refine ⟨_, rfl, p, C, dx, _, rfl, by rw [upd_ne npB, upd_same], T.cl, T.n3, (by show 2 < 1000; decide), ?_⟩
    refine ⟨by show 0 ≤ sizeLine; decide, fun W nW => ?_⟩
    have npW : p ≠ W := ne_of_none upd_same nW
    have nBW : B ≠ W := fun z => by
      rw [← z, upd_ne npB.symm, upd_same] at nW
      cases nW
    have nW0 : H W = none := by
      rw [upd_ne npW.symm, upd_ne nBW.symm, upd_ne npW.symm] at nW
      exact nW
    refine ⟨_, rfl, p, C, dx, _, rfl, by rw [upd_ne npW, upd_same], T.cl, T.n4, (by show 3 < 1000; decide), ?_⟩
    refine ⟨_, rfl, p, C, dx, _, rfl, upd_same, T.cl, T.n5, (by show 4 < 1000; decide), ?_⟩
    refine ⟨_, rfl, p, C, dx, _, rfl, upd_same, T.cl, T.n6, (by show 5 < 1000; decide), ?_⟩
    refine ⟨_, rfl, p, C, dx, _, rfl, upd_same, T.cl, T.n7, (by show 6 < 1000; decide), ?_⟩
    refine k B W _ nB nW0 nBW ?_ (by rw [upd_same]; rfl) (by simp only [upd_ne npB.symm, upd_ne nBW, upd_same]) (by simp only [upd_ne npW.symm, upd_same])
    repeat (refine Off.upd ?_ (by simp))
    exact Off.refl _ _
theorem scArm : FnScope ["self", "steps"] ["self", "steps"] (defScope sArm) := ⟨rfl, rfl, rfl, by decide +kernel, rfl, by decide +kernel, by decide +kernel⟩
theorem ok_arm {f : Addr} {fd : FuncData} (F : L2.Fun K "arm" "Device.arm" sArm f fd) (T : DTxt K mg C CE) : FnOk P w K mg base L2.CX0 1 f fd ["self", "steps"] (spArm C) := by
  refine F.ok scArm (fun vs H Q E h => ?_) (fun cdv A outer s H vs Q E hr h => ?_)
  · obtain ⟨p, dx, d, B, W, v, rfl, _⟩ := h
    rfl
  · obtain ⟨p, dx, d, B, W, v, rfl, hp, k⟩ := h
    refine ⟨_, pss_one (ps_fld (pv 0) (pv 1) rfl), ?_⟩
    exact ⟨_, rfl, _, rfl, p, C, dx, _, rfl, hp, T.cl, T.n5, (by show 7 < 1000; decide), k⟩
end
/-! ### read -/
def spRead (C CE : Addr) : Sp := fun vs H Q E => ∃ p dx d B W n kvs es, vs = [.ref p, .int n] ∧ H p = some (.ins C dx (fsD d B W)) ∧ H B = some (.dK kvs) ∧ WaitAt H W es ∧ 2 ≤ d.sz ∧ d.sz ≤ 1000 ∧
  (d.dead = true → E (.ref CE) none H) ∧ (¬ (0 ≤ n ∧ n < d.tot) → E (.ref CE) none H) ∧
  (d.dead = false → 0 ≤ n ∧ n < d.tot → (∀ t, lastOf es n = some t → Q (.ref t) H) ∧ (lastOf es n = none → ∀ H' z, Same H H' → H z = none → H' z = some (.tup (zeros d.sz)) → Q ((valV kvs (.inl n)).getD (.ref z)) H'))
theorem rev_take {es : List En} {i : Nat} (h : i < es.length) : ∃ e, es[es.length - 1 - i]? = some e ∧ es.reverse[i]? = some e := by
  have h2 : es.length - 1 - i < es.length := by omega
  refine ⟨es[es.length - 1 - i], List.getElem?_eq_getElem h2, ?_⟩
  rw [List.getElem?_reverse h, List.getElem?_eq_getElem h2]
theorem find_at {α : Type} {p : α → Bool} {l : List α} {i : Nat} {e : α} (h : l[i]? = some e) (no : ∀ x ∈ l.take i, p x = false) (y : p e = true) : l.find? p = some e := by
  rw [List.find?_eq_some_iff_getElem]
  obtain ⟨hi, he⟩ := List.getElem?_eq_some_iff.mp h
  refine ⟨y, i, hi, he, fun j hj => ?_⟩
  have hj2 : j < l.length := Nat.lt_trans hj hi
  have z := no (l[j]) (by rw [List.mem_take_iff_getElem]; exact ⟨j, by omega, rfl⟩)
  rw [z]
  rfl
section
variable {P : Program} {w : World} {K : PySem.W.Frag} {mg : Str → Option Value} {base : Heap} {C CE : Addr}
theorem scRead : FnScope ["self", "number", "other", "data"] ["self", "number"] (defScope sRead) := ⟨rfl, rfl, rfl, by decide +kernel, rfl, by decide +kernel, by decide +kernel⟩
theorem ok_read {f fA fN fK : Addr} {fd fdA fdN fdK : FuncData} (F : L2.Fun K "read" "Device.read" sRead f fd) (T : DTxt K mg C CE)
    (FA : FnOk P w K mg base (L2.CX P w) 1 fA fdA ["self"] (spAlive C CE)) (bA : Binds K fdA ["self"] []) (mA : Meth K C "check_alive" fA)
    (FN : FnOk P w K mg base (L2.CX P w) 1 fN fdN ["self", "number"] (spNumber C CE)) (bN : Binds K fdN ["self", "number"] []) (mN : Meth K C "check_number" fN)
    (FK : FnOk P w K mg base L2.CX0 1 fK fdK ["self", "number"] (spKept C)) (bK : Binds K fdK ["self", "number"] []) (mK : Meth K C "kept" fK) :
    FnOk P w K mg base (L2.CX P w) 2 f fd ["self", "number"] (spRead C CE) := by
  refine F.okX scRead (fun vs H Q E h => ?_) (fun cdv A outer s H vs Q E hr h => ?_)
  · obtain ⟨p, dx, d, B, W, n, kvs, es, rfl, _⟩ := h
    rfl
  · obtain ⟨p, dx, d, B, W, n, kvs, es, rfl, hp, hB, hW, h2, h1000, k1, k2, k3⟩ := h
    refine ⟨_, pss_cons (ps_expr (pe_meth0 (pv 0) T.cl mA FA hr bA .nil (passes_call (takes_of rfl rfl rfl rfl) (fun _ _ _ _ h => h))))
      (pss_cons (ps_expr (pe_meth (pv 0) T.cl mN FN hr bN .nil (passes_call (takes_of rfl rfl rfl rfl) (fun _ _ _ _ h => h)) (pa_cons (pv 1) pa_nil)))
      (pss_cons (ps_for (passes_of rfl) rfl (pi_reversed (by rfl) T.rev (pa_cons (pe_fld (pv 0) rfl) pa_nil)) (pg_tup rfl (pgs_cons (pg_name (i := 2) scRead.nd rfl (Or.inl rfl)) (pgs_cons (pg_name (i := 3) scRead.nd rfl (Or.inl rfl)) pgs_nil)))
        (pss_one (ps_if (pt_cmpR op_eq (pv 2) (pv 1) (nomark _)) (pss_one (ps_ret (pv 3))) pss_nil)))
      (pss_one (ps_ret (pe_meth (pv 0) T.cl mK FK hr bK .nil pass0 (pa_cons (pv 1) pa_nil)))))), ?_⟩
    refine ⟨_, rfl, p, dx, _, rfl, hp, rfl, p, dx, d, B, W, rfl, hp, fun c => ?_, k1⟩
    refine ⟨_, rfl, p, dx, _, rfl, hp, rfl, _, rfl, p, dx, d, B, W, n, rfl, hp, fun c2 => ?_, k2⟩
    obtain ⟨k4, k5⟩ := k3 c c2
    refine ⟨_, rfl, p, C, dx, _, _, rfl, hp, T.cl, T.n4, rfl, W, _, rfl, SqL.of hW.lst, ?_⟩
    refine for_it (walk_rev (K := K) (a := W) (xs := es.map fun e => V.ref e.1)) (fun i σ H' => H' = H ∧ (∃ u v, σ = [some (.ref p), some (.int n), u, v]) ∧ ∀ e ∈ es.reverse.take i, decide (e.2.1 = n) = false) ⟨rfl, ⟨none, none, rfl⟩, by simp⟩ (fun i σ H' hi q => by rw [q.1]; exact SqL.of hW.lst) (fun i x σ H' H'' hi q y => ?_) (fun σ H' q => ?_)
    · obtain ⟨rfl, ⟨u, v, rfl⟩, no⟩ := q
      obtain ⟨rfl, hx⟩ := y
      rw [List.length_map] at hi hx
      obtain ⟨e, he, her⟩ := rev_take hi
      rw [List.getElem?_map, he] at hx
      obtain rfl := Option.some.inj hx
      have hm : e ∈ es := List.mem_of_getElem? he
      refine ⟨e.1, _, rfl, SqT.of (hW.tup e hm), rfl, _, _, rfl, _, _, rfl, rfl, ?_⟩
      refine ⟨_, rfl, _, rfl, rfl, _, rfl, ite2 (fun c3 => ?_) (fun c3 => ?_)⟩
      · have e3 : e.2.1 = n := by simpa using c3
        refine ⟨_, rfl, k4 _ ?_⟩
        unfold lastOf
        rw [find_at her no (by simp [e3])]
        rfl
      · refine ⟨rfl, ⟨_, _, rfl⟩, fun x hx => ?_⟩
        rw [List.take_add_one, her] at hx
        rcases List.mem_append.mp hx with z | z
        · exact no x z
        · have ex : x = e := by simpa using z
          rw [ex]
          simpa using c3
    · obtain ⟨rfl, ⟨u, v, rfl⟩, no⟩ := q
      rw [List.length_map, ← List.length_reverse, List.take_length] at no
      have e0 : lastOf es n = none := by
        unfold lastOf
        rw [List.find?_eq_none.mpr (fun x hx => by rw [no x hx]; decide)]
        rfl
      exact ⟨_, rfl, p, dx, _, rfl, hp, rfl, _, rfl, p, dx, d, B, W, n, kvs, rfl, hp, hB, h2, h1000, k5 e0⟩
end
end K08
namespace K08
open PySem L2 HK
theorem stepped_nf {d : Dv} (h : d.fz = .non ∨ ∃ n, d.fz = .int n) : (stepped d).fz = .non ∨ ∃ n, (stepped d).fz = .int n := by
  obtain ⟨sz, tot, fz, dead, st⟩ := d
  rcases h with h | ⟨n, h⟩
  · have h : fz = .non := h
    subst h
    exact .inl rfl
  · have h : fz = .int n := h
    subst h
    exact .inr ⟨n - 1, rfl⟩
/-! ### write_block -/
def spWrite (K : PySem.W.Frag) (C CE : Addr) : Sp := fun vs H Q E => ∃ p dx d B W n t xs es, vs = [.ref p, .int n, .ref t] ∧ H p = some (.ins C dx (fsD d B W)) ∧ SqT K H t xs ∧ WaitAt H W es ∧ es.length ≤ 1000 ∧ (d.fz = .non ∨ ∃ n, d.fz = .int n) ∧
  (¬ ((xs.length : Int) = d.sz ∧ 0 ≤ n ∧ n < d.tot) → E (.ref CE) none H) ∧ (d.dead = true → E (.ref CE) none H) ∧
  ((xs.length : Int) = d.sz ∧ 0 ≤ n ∧ n < d.tot → d.dead = false → d.fz = .int 0 → E (.ref CE) none (upd H p (.ins C dx (fsD { d with dead := true } B W)))) ∧
  ((xs.length : Int) = d.sz ∧ 0 ≤ n ∧ n < d.tot → d.dead = false → d.fz ≠ .int 0 → ∀ z H', H z = none → Off [p, z, W] H H' → H' p = some (.ins C dx (fsD (stepped d) B W)) → H' z = some (.tup [.int n, .ref t]) → H' W = some (.lst ((es ++ [(z, n, t)]).map fun e => V.ref e.1)) → Q .non H')
section
variable {P : Program} {w : World} {K : PySem.W.Frag} {mg : Str → Option Value} {base : Heap} {C CE : Addr}
theorem scWrite : FnScope ["self", "number", "data"] ["self", "number", "data"] (defScope sWrite) := ⟨rfl, rfl, rfl, by decide +kernel, rfl, by decide +kernel, by decide +kernel⟩
theorem ok_write {f fB fS : Addr} {fd fdB fdS : FuncData} (F : L2.Fun K "write_block" "Device.write_block" sWrite f fd) (T : DTxt K mg C CE)
    (FB : FnOk P w K mg base (L2.CX P w) 2 fB fdB ["self", "number", "data"] (spBlock K C CE)) (bB : Binds K fdB ["self", "number", "data"] []) (mB : Meth K C "check_block" fB)
    (FS : FnOk P w K mg base (L2.CX P w) 2 fS fdS ["self"] (spStep C CE)) (bS : Binds K fdS ["self"] []) (mS : Meth K C "step" fS) :
    FnOk P w K mg base (L2.CX P w) 3 f fd ["self", "number", "data"] (spWrite K C CE) := by
  refine F.okX scWrite (fun vs H Q E h => ?_) (fun cdv A outer s H vs Q E hr h => ?_)
  · obtain ⟨p, dx, d, B, W, n, t, xs, es, rfl, _⟩ := h
    rfl
  · obtain ⟨p, dx, d, B, W, n, t, xs, es, rfl, hp, ht, hW, hl, hf, k1, k2, k3, k4⟩ := h
    refine ⟨_, pss_cons (ps_expr (pe_meth (pv 0) T.cl mB FB hr bB .nil (passes_call (takes_of rfl rfl rfl rfl) (fun _ _ _ _ h => h)) (pa_cons (pv 1) (pa_cons (pv 2) pa_nil))))
      (pss_cons (ps_expr (pe_meth0 (pv 0) T.cl mS FS hr bS .nil (passes_call (takes_of rfl rfl rfl rfl) (fun _ _ _ _ h => h))))
      (pss_one (ps_expr (pe_bm PySem.F.plainAttrs_list PySem.F.slot_list_append PySem.F.type_list_append mt_append (pe_fld (pv 0) rfl)
        (pa_cons (pe_tup (pa_cons (pv 1) (pa_cons (pe_callTy call_tupleT (by rfl) T.tup PyProof.Rows.Boot.«tuple» (pa_cons (pv 2) pa_nil)) pa_nil))) pa_nil))))), ?_⟩
    refine ⟨_, rfl, p, dx, _, rfl, hp, rfl, _, rfl, _, rfl, p, dx, d, B, W, n, t, xs, rfl, hp, ht, fun c1 c2 => ?_, k1⟩
    refine ⟨_, rfl, p, dx, _, rfl, hp, rfl, p, dx, d, B, W, rfl, hp, hf, k2, k3 ⟨c1, c2⟩, fun c3 c4 => ?_⟩
    have npW : W ≠ p := ne_of hW.lst hp (by intro z; cases z)
    refine ⟨_, rfl, p, C, dx, _, _, rfl, upd_same, T.cl, T.n4, rfl, .inl ⟨rfl, _, SqL.of (by rw [upd_ne npW]; exact hW.lst)⟩, _, rfl, _, rfl, t, xs, rfl, ?_, by show 2 ≤ sizeLine; decide, fun z nz => ?_⟩
    · rcases ht with (h | ⟨o, h⟩) | h
      · exact .inl (.inl (by rw [upd_ne (ne_of h hp (by intro z; cases z))]; exact h))
      · exact .inl (.inr ⟨o, by rw [upd_ne (ne_of h hp (by intro z; cases z))]; exact h⟩)
      · exact .inr h
    · have npz : p ≠ z := ne_of_none upd_same nz
      have nz0 : H z = none := by
        rw [upd_ne npz.symm] at nz
        exact nz
      have nWz : W ≠ z := ne_of_none hW.lst nz0
      refine ⟨W, _, _, rfl, rfl, by rw [upd_ne nWz, upd_ne npW]; exact hW.lst, by rw [List.length_map]; exact small1000 hl, ?_⟩
      refine k4 ⟨c1, c2⟩ c3 c4 z _ nz0 ?_ (by simp only [upd_ne npW.symm, upd_ne npz, upd_same]) (by simp only [upd_ne nWz.symm, upd_same]) (by rw [upd_same, List.map_append]; rfl)
      repeat (refine Off.upd ?_ (by simp))
      exact Off.refl _ _
end
/-! ### flush -/
def spFlush (C CE : Addr) : Sp := fun vs H Q E => ∃ p dx d B W kvs es, vs = [.ref p] ∧ H p = some (.ins C dx (fsD d B W)) ∧ H B = some (.dK kvs) ∧ WaitAt H W es ∧ kvs.length ≤ 5000 ∧ es.length ≤ 1000 ∧ (d.fz = .non ∨ ∃ n, d.fz = .int n) ∧
  (d.dead = true → E (.ref CE) none H) ∧ (d.dead = false → d.fz = .int 0 → E (.ref CE) none (upd H p (.ins C dx (fsD { d with dead := true } B W)))) ∧
  (d.dead = false → d.fz ≠ .int 0 → ∀ L H', H L = none → Off [p, B, L] H H' → H' p = some (.ins C dx (fsD (stepped d) B L)) → H' B = some (.dK (mergeK kvs (toKV es))) → H' L = some (.lst []) → Q .non H')
theorem toKV_take {es : List En} {i : Nat} {e : En} (h : es[i]? = some e) (kvs : List (Key × V)) : mergeK kvs (toKV (es.take (i + 1))) = putK (mergeK kvs (toKV (es.take i))) (.inl e.2.1) (.ref e.2.2) := by
  rw [List.take_add_one, h]
  unfold toKV mergeK
  rw [List.map_append, List.foldl_append]
  rfl
section
variable {P : Program} {w : World} {K : PySem.W.Frag} {mg : Str → Option Value} {base : Heap} {C CE : Addr}
theorem scFlush : FnScope ["self", "number", "data"] ["self"] (defScope sFlush) := ⟨rfl, rfl, rfl, by decide +kernel, rfl, by decide +kernel, by decide +kernel⟩
theorem ok_flush {f fS : Addr} {fd fdS : FuncData} (F : L2.Fun K "flush" "Device.flush" sFlush f fd) (T : DTxt K mg C CE)
    (FS : FnOk P w K mg base (L2.CX P w) 2 fS fdS ["self"] (spStep C CE)) (bS : Binds K fdS ["self"] []) (mS : Meth K C "step" fS) :
    FnOk P w K mg base (L2.CX P w) 3 f fd ["self"] (spFlush C CE) := by
  refine F.okX scFlush (fun vs H Q E h => ?_) (fun cdv A outer s H vs Q E hr h => ?_)
  · obtain ⟨p, dx, d, B, W, kvs, es, rfl, _⟩ := h
    rfl
  · obtain ⟨p, dx, d, B, W, kvs, es, rfl, hp, hB, hW, hk, hl, hf, k1, k2, k3⟩ := h
    refine ⟨_, pss_cons (ps_expr (pe_meth0 (pv 0) T.cl mS FS hr bS .nil (passes_call (takes_of rfl rfl rfl rfl) (fun _ _ _ _ h => h))))
      (pss_cons (ps_for (passes_of rfl) rfl (pi_list (pe_fld (pv 0) rfl)) (pg_tup rfl (pgs_cons (pg_name (i := 1) scFlush.nd rfl (Or.inl rfl)) (pgs_cons (pg_name (i := 2) scFlush.nd rfl (Or.inl rfl)) pgs_nil)))
        (pss_one (ps_dput (hu_of hr) (pe_fld (pv 0) rfl) (pv 1) (pv 2) rfl)))
      (pss_one (ps_fld (pv 0) (pe_lst pa_nil) rfl))), ?_⟩
    refine ⟨_, rfl, p, dx, _, rfl, hp, rfl, p, dx, d, B, W, rfl, hp, hf, k1, k2, fun c1 c2 => ?_⟩
    have npW : W ≠ p := ne_of hW.lst hp (by intro z; cases z)
    have npB : B ≠ p := ne_of hB hp (by intro z; cases z)
    have nWB : W ≠ B := ne_of hW.lst hB (by intro z; cases z)
    refine ⟨_, rfl, p, C, dx, _, _, rfl, upd_same, T.cl, T.n4, rfl, W, rfl, ⟨_, SqL.of (by rw [upd_ne npW]; exact hW.lst)⟩, ?_⟩
    refine for_list (K := K) (a := W) (xs := es.map fun e => V.ref e.1) (fun i σ H' => Off [p, B] H H' ∧ H' p = some (.ins C dx (fsD (stepped d) B W)) ∧ H' B = some (.dK (mergeK kvs (toKV (es.take i)))) ∧ ∃ u v, σ = [some (.ref p), u, v])
      ⟨Off.upd (Off.refl _ _) (by simp), upd_same, by rw [upd_ne npB]; exact hB, none, none, rfl⟩ (fun i σ H' hi q => ?_) (fun i x σ H' hx q => ?_) (fun σ H' q => ?_)
    · exact SqL.of (by rw [q.1 W (by simp [npW, nWB])]; exact hW.lst)
    · obtain ⟨o, h1, h2, u, v, rfl⟩ := q
      rw [List.getElem?_map] at hx
      obtain ⟨e, he, rfl⟩ := Option.map_eq_some_iff.mp hx
      have hm := hW.tup e (List.mem_of_getElem? he)
      refine ⟨e.1, _, rfl, SqT.of (by rw [o e.1 (by simp [ne_of hm hp (by intro z; cases z), ne_of hm hB (by intro z; cases z)])]; exact hm), rfl, _, _, rfl, _, _, rfl, rfl, ?_⟩
      have hlen : (mergeK kvs (toKV (es.take i))).length < sizeLine := by
        have z := length_mergeK (toKV (es.take i)) kvs
        have z2 : (toKV (es.take i)).length ≤ 1000 := by unfold toKV; rw [List.length_map, List.length_take]; omega
        rw [sizeLine_eq]
        omega
      refine ⟨_, rfl, _, rfl, p, C, dx, _, _, rfl, h1, T.cl, T.n3, rfl, _, rfl, B, _, rfl, DPut.k (k := Sum.inl e.2.1) h2 hlen, ?_⟩
      exact ⟨o.upd (by simp), by rw [upd_ne npB.symm]; exact h1, by rw [upd_same, toKV_take he], _, _, rfl⟩
    · obtain ⟨o, h1, h2, u, v, rfl⟩ := q
      rw [List.length_map, List.take_length] at h2
      refine ⟨by show 0 ≤ sizeLine; decide, fun L nL => ?_⟩
      have npL : p ≠ L := ne_of_none h1 nL
      have nBL : B ≠ L := ne_of_none h2 nL
      have nL0 : H L = none := by rw [o L (by simp [npL.symm, nBL.symm])] at nL; exact nL
      refine ⟨_, rfl, p, C, dx, _, rfl, by rw [upd_ne npL]; exact h1, T.cl, T.n4, (by show 7 < 1000; decide), ?_⟩
      refine k3 c1 c2 L _ nL0 ?_ (by rw [upd_same]; rfl) (by simp only [upd_ne npB, upd_ne nBL, h2]) (by simp only [upd_ne npL.symm, upd_same])
      refine Off.upd (Off.upd (fun b hb => o b (fun z => hb ?_)) (by simp)) (by simp)
      rcases List.mem_cons.mp z with z | z
      · simp [z]
      · simp only [List.mem_singleton] at z
        simp [z]
end
end K08
namespace K08
open PySem L2 HK
/-! ### contents of blocks -/
/-- tuples stay -/
def Keep (H H' : Hp) : Prop := ∀ d xs, H d = some (.tup xs) → H' d = some (.tup xs)
theorem Keep.refl (H : Hp) : Keep H H := fun _ _ h => h
theorem Keep.trans {H H1 H2 : Hp} (a : Keep H H1) (b : Keep H1 H2) : Keep H H2 := fun d xs h => b d xs (a d xs h)
theorem Keep.of {H H' : Hp} (s : Same H H') : Keep H H' := fun _ _ h => s _ _ h
theorem Keep.upd {H : Hp} {a : Addr} {o : HO} (h : ∀ xs, H a ≠ some (.tup xs)) : Keep H (upd H a o) := fun d xs e => by
  rw [upd_ne (fun z => h xs (by rw [← z]; exact e))]
  exact e
def setF (f : Int → List Int) (n : Int) (x : List Int) : Int → List Int := fun m => if m = n then x else f m
def tupI (x : List Int) : HO := .tup (x.map V.int)
structure Cont (H : Hp) (sz : Nat) (kvs : List (Key × V)) (f : Int → List Int) : Prop where
  len : ∀ n, (f n).length = sz
  val : ∀ n, (valV kvs (.inl n) = none ∧ f n = List.replicate sz 0) ∨ ∃ d, valV kvs (.inl n) = some (.ref d) ∧ H d = some (tupI (f n))
theorem Cont.keep {H H' : Hp} {sz : Nat} {kvs : List (Key × V)} {f : Int → List Int} (c : Cont H sz kvs f) (k : Keep H H') : Cont H' sz kvs f :=
  ⟨c.len, fun n => (c.val n).imp id fun ⟨d, h1, h2⟩ => ⟨d, h1, k d _ h2⟩⟩
theorem Cont.put {H : Hp} {sz : Nat} {kvs : List (Key × V)} {f : Int → List Int} (c : Cont H sz kvs f) {n : Int} {d : Addr} {x : List Int} (hd : H d = some (tupI x)) (hx : x.length = sz) : Cont H sz (putK kvs (.inl n) (.ref d)) (setF f n x) := by
  refine ⟨fun m => ?_, fun m => ?_⟩
  · unfold setF
    split
    · exact hx
    · exact c.len m
  · rw [valV_put]
    unfold setF
    by_cases h : m = n
    · rw [if_pos (by rw [h]), if_pos h]
      exact .inr ⟨d, rfl, hd⟩
    · rw [if_neg (fun z => h (by injection z)), if_neg h]
      exact c.val m
theorem zeros_eq (sz : Nat) : zeros (sz : Int) = (List.replicate sz (0 : Int)).map V.int := by
  unfold zeros
  rw [Int.toNat_natCast, List.map_replicate]
theorem flat_zeros (n : Int) : (List.replicate n.toNat [V.int 0]).flatten = zeros n := by
  unfold zeros
  induction n.toNat with
  | zero => rfl
  | succ m ih => rw [List.replicate_succ, List.replicate_succ, List.flatten_cons, ih]; rfl
theorem Cont.get {H : Hp} {sz : Nat} {kvs : List (Key × V)} {f : Int → List Int} (c : Cont H sz kvs f) {z : Addr} (hz : H z = some (.tup (zeros (sz : Int)))) (n : Int) : ∃ r, (valV kvs (.inl n)).getD (.ref z) = .ref r ∧ H r = some (tupI (f n)) := by
  rcases c.val n with ⟨e, ef⟩ | ⟨d, e, h⟩
  · refine ⟨z, by rw [e]; rfl, ?_⟩
    rw [hz, ef, zeros_eq]
    rfl
  · exact ⟨d, by rw [e]; rfl, h⟩
/-- one write of which a crash leaves what c tells -/
def crash1 (h : Nat) (f : Int → List Int) (n : Int) (x : List Int) (c : Int) : Int → List Int := if c = 1 then setF f n x else if c = 2 then setF f n (x.take h ++ (f n).drop h) else f
def crash (h : Nat) (dat : Addr → List Int) (f : Int → List Int) (l : List (En × Int)) : Int → List Int := l.foldl (fun f p => crash1 h f p.1.2.1 (dat p.1.2.2) p.2) f
theorem crash_snoc (h : Nat) (dat : Addr → List Int) (f : Int → List Int) (l : List (En × Int)) (e : En) (c : Int) : crash h dat f (l ++ [(e, c)]) = crash1 h (crash h dat f l) e.2.1 (dat e.2.2) c := by
  unfold crash
  rw [List.foldl_append]
  rfl
/-! ### the first half of one, the second of another -/
theorem cut_take {x : List Int} {h : Nat} (hl : h ≤ x.length) : cutV (x.map V.int) none (some ((h : Nat) : Int)) = (x.take h).map V.int := by
  unfold cutV
  rw [HT.sIx_none, HT.sIx_nat, List.drop_zero, List.length_map, Nat.min_eq_left hl, Nat.sub_zero, List.map_take]
theorem cut_drop {x : List Int} {h : Nat} (hl : h ≤ x.length) : cutV (x.map V.int) (some ((h : Nat) : Int)) none = (x.drop h).map V.int := by
  unfold cutV
  rw [HT.sIx_none, HT.sIx_nat, List.length_map, Nat.min_eq_left hl, List.map_drop, List.take_of_length_le (by rw [List.length_drop, List.length_map]; omega)]
theorem half_read {K : PySem.W.Frag} {H : Hp} {a : Addr} {x y : List Int} {h : Nat} {i : Int} {Q : VK} (hx : x.length = 2 * h) (hy : y.length = 2 * h) (h1 : 1 ≤ h) (h2 : h ≤ 500) (ei : i = (h : Int)) (ha : H a = some (tupI x))
    (te : TE) (σ : L2.St) (hte : ∀ H1 Q1, Same H H1 → (∀ b H2, Same H1 H2 → H2 b = some (tupI y) → Q1 (.ref b) H2) → te σ H1 Q1)
    (tj : L2.St → Hp → (Option Int → Hp → Prop) → Prop) (htj : ∀ H1 Q1, Q1 (some i) H1 → tj σ H1 Q1)
    (k : ∀ r H', Same H H' → H' r = some (tupI (x.take h ++ y.drop h)) → Q (.ref r) H') :
    rSlT K (.ref a) none (some i) H fun v1 H1 => (te σ H1 fun w H2 => tj σ H2 fun o H3 => rSlT K w o none H3 fun v2 H4 => rCatT K v1 v2 H4 Q) := by
  subst ei
  refine ⟨a, _, rfl, SqT.of ha, ?_, fun p np => ?_⟩
  · rw [HT.sIx_nat, List.length_map, hx]
    rintro ⟨_, z⟩
    have : min h (2 * h) = 2 * h := z
    omega
  · rw [cut_take (by omega)]
    have s1 : Same H (upd H p (.tup ((x.take h).map V.int))) := same_upd np
    refine hte _ _ s1 fun b H2 s2 hb => htj _ _ ⟨b, _, rfl, SqT.of hb, ?_, fun q nq => ?_⟩
    · rw [HT.sIx_nat, List.length_map, hy]
      rintro ⟨z, _⟩
      have : min h (2 * h) = 0 := z
      omega
    · rw [cut_drop (by omega)]
      have hp : H2 p = some (.tup ((x.take h).map V.int)) := s2 _ _ upd_same
      have s3 : Same H2 (upd H2 q (.tup ((y.drop h).map V.int))) := same_upd nq
      refine ⟨p, q, _, _, rfl, rfl, SqT.of (s3 _ _ hp), SqT.of upd_same, ?_, ?_, fun z => ?_, fun _ r nr => ?_⟩
      · intro z
        have := congrArg List.length z
        rw [List.length_map, List.length_take, hx] at this
        simp at this
        omega
      · rw [List.length_map, List.length_map, List.length_take, List.length_drop, hx, hy, sizeLine_eq]
        omega
      · have := congrArg List.length z
        rw [List.length_map, List.length_drop, hy] at this
        simp at this
        omega
      · refine k r _ (((s1.trans s2).trans s3).trans (same_upd nr)) ?_
        rw [upd_same, tupI, List.map_append]
/-! ### restarted -/
def spRest (C : Addr) : Sp := fun vs H Q _ => ∃ p dx d B W Ch h kvs f es dat cs, vs = [.ref p, .ref Ch] ∧ H p = some (.ins C dx (fsD d B W)) ∧ d.sz = ((2 * h : Nat) : Int) ∧ 1 ≤ h ∧ h ≤ 500 ∧ H B = some (.dK kvs) ∧ kvs.length ≤ 5000 ∧ Cont H (2 * h) kvs f ∧
  WaitAt H W es ∧ es.length ≤ 1000 ∧ (∀ e ∈ es, H e.2.2 = some (tupI (dat e.2.2)) ∧ (dat e.2.2).length = 2 * h) ∧ H Ch = some (.lst (cs.map V.int)) ∧
  ∀ x dx' B' W' kvs' H', Same H H' → H x = none → H' x = some (.ins C dx' (fsD ⟨d.sz, d.tot, .non, false, 0⟩ B' W')) → H' B' = some (.dK kvs') → H' W' = some (.lst []) → Cont H' (2 * h) kvs' (crash h dat f (es.zip cs)) → Q (.ref x) H'
theorem same_off {H H' : Hp} {l : List Addr} (o : Off l H H') (n : ∀ b ∈ l, H b = none) : Same H H' := fun b u e => by
  rw [o b (fun hb => by rw [n b hb] at e; cases e)]
  exact e
section
variable {P : Program} {w : World} {K : PySem.W.Frag} {mg : Str → Option Value} {base : Heap} {C CE : Addr}
theorem scRest : FnScope ["self", "choices", "found", "half", "number", "data", "choice"] ["self", "choices"] (defScope sRest) := ⟨rfl, rfl, rfl, by decide +kernel, rfl, by decide +kernel, by decide +kernel⟩
theorem ok_rest {f fI fK : Addr} {fd fdI fdK : FuncData} (F : L2.Fun K "restarted" "Device.restarted" sRest f fd) (T : DTxt K mg C CE)
    (M : Mk K C fI) (FI : FnOk P w K mg base L2.CX0 1 fI fdI ["self", "block_size", "count", "blocks"] (spInit C)) (bI : Binds K fdI ["self", "block_size", "count", "blocks"] [])
    (FK : FnOk P w K mg base L2.CX0 1 fK fdK ["self", "number"] (spKept C)) (bK : Binds K fdK ["self", "number"] []) (mK : Meth K C "kept" fK) :
    FnOk P w K mg base L2.CX0 3 f fd ["self", "choices"] (spRest C) := by
  obtain ⟨t1, g1⟩ := T.kept
  obtain ⟨t2, g2⟩ := T.half
  refine F.ok scRest (fun vs H Q E h => ?_) (fun cdv A outer s H vs Q E hr h => ?_)
  · obtain ⟨p, dx, d, B, W, Ch, h, kvs, f, es, dat, cs, rfl, _⟩ := h
    rfl
  · obtain ⟨p, dx, d, B, W, Ch, h, kvs, f, es, dat, cs, rfl, hp, hsz, h1, h500, hB, hk, hc, hW, hl, hdat, hC, k⟩ := h
    refine ⟨_, pss_cons (ps_set (i := 2) scRest.nd rfl (Or.inl rfl) (pe_make M FI hr rfl T.gC bI .nil pass0 (pa_cons (pe_fld (pv 0) rfl) (pa_cons (pe_fld (pv 0) rfl) (pa_cons (pe_fld (pv 0) rfl) pa_nil)))))
      (pss_cons (ps_set (i := 3) scRest.nd rfl (Or.inl rfl) (pe_op op_fdiv (pe_fld (pv 0) rfl) pe_int))
      (pss_cons (ps_for PassesOwn.never rfl (pi_zip (by rfl) T.zip (pa_cons (pe_fld (pv 0) rfl) (pa_cons (pv 1) pa_nil)))
          (pg_tup rfl (pgs_cons (pg_tup rfl (pgs_cons (pg_name (i := 4) scRest.nd rfl (Or.inl rfl)) (pgs_cons (pg_name (i := 5) scRest.nd rfl (Or.inl rfl)) pgs_nil))) (pgs_cons (pg_name (i := 6) scRest.nd rfl (Or.inl rfl)) pgs_nil)))
        (pss_one (ps_if (pt_cmpR op_eq (pv 6) (pe_glob (v := .int 1) rfl g1 ⟨_, rfl⟩) (nomark _)) (pss_one (ps_dput (hu_of hr) (pe_fld (pv 2) rfl) (pv 4) (pv 5) rfl))
          (pss_one (ps_if (pt_cmpR op_eq (pv 6) (pe_glob (v := .int 2) rfl g2 ⟨_, rfl⟩) (nomark _))
            (pss_one (ps_dput (hu_of hr) (pe_fld (pv 2) rfl) (pv 4) (pe_op op_catT (pe_slice sl_tup (pv 5) po_none (po_some (pv 3))) (pe_slice sl_tup (pe_meth (pv 2) T.cl mK FK (hr.mono (by decide)) bK .nil pass0 (pa_cons (pv 4) pa_nil)) (po_some (pv 3)) po_none)) rfl)) pss_nil)))))
      (pss_one (ps_ret (pv 2))))), ?_⟩
    refine ⟨_, rfl, p, C, dx, _, _, rfl, hp, T.cl, T.n1, rfl, _, rfl, p, C, dx, _, _, rfl, hp, T.cl, T.n2, rfl, _, rfl, p, C, dx, _, _, rfl, hp, T.cl, T.n3, rfl, fun x dx' nx ndx nex => ?_⟩
    have nBx : B ≠ x := ne_of_none hB nx
    have nBd : B ≠ dx' := ne_of_none hB ndx
    refine ⟨x, dx', _, _, _, kvs, rfl, upd_same, .inr ⟨B, rfl, by rw [upd_ne nBx, upd_ne nBd]; exact hB⟩, fun B' W' H1 nB' nW' nBW o1 hx1 hB1 hW1 => ⟨rfl, ?_⟩⟩
    have nB0 : H B' = none := by
      by_cases z : B' = x
      · rw [z]; exact nx
      · by_cases z2 : B' = dx'
        · rw [z2]; exact ndx
        · rw [upd_ne z, upd_ne z2] at nB'; exact nB'
    have nW0 : H W' = none := by
      by_cases z : W' = x
      · rw [z]; exact nx
      · by_cases z2 : W' = dx'
        · rw [z2]; exact ndx
        · rw [upd_ne z, upd_ne z2] at nW'; exact nW'
    have s1 : Same H H1 := fun b u e => by
      rw [o1 b (by simp [ne_of_none e nx, ne_of_none e nB0, ne_of_none e nW0]), upd_ne (ne_of_none e nx), upd_ne (ne_of_none e ndx)]
      exact e
    refine ⟨_, rfl, p, C, dx, _, _, rfl, s1 _ _ hp, T.cl, T.n1, rfl, _, _, rfl, rfl, ⟨by decide, by decide⟩, ?_⟩
    have eh : d.sz / 2 = ((h : Nat) : Int) := by rw [hsz]; omega
    refine ⟨_, rfl, p, C, dx, _, _, rfl, s1 _ _ hp, T.cl, T.n4, rfl, _, rfl, W, Ch, es.map (fun e => V.ref e.1), cs.map V.int, rfl, SqL.of (s1 _ _ hW.lst), SqL.of (s1 _ _ hC), ?_⟩
    refine for_it (walk_zip (K := K) (a := W) (b := Ch) (xs := es.map fun e => V.ref e.1) (ys := cs.map V.int) (n := (es.zip cs).length) (by simp [List.length_zip])) (fun i σ H' => Same H H' ∧ H' x = some (.ins C dx' (fsD ⟨d.sz, d.tot, .non, false, 0⟩ B' W')) ∧ H' W' = some (.lst []) ∧
        (∃ kvs', H' B' = some (.dK kvs') ∧ kvs'.length ≤ 5000 + i ∧ Cont H' (2 * h) kvs' (crash h dat f ((es.zip cs).take i))) ∧ ∃ u v z, σ = [some (.ref p), some (.ref Ch), some (.ref x), some (.int (h : Nat)), u, v, z])
      ⟨s1, hx1, hW1, ⟨kvs, hB1, by omega, hc.keep (Keep.of s1)⟩, none, none, none, by rw [← eh]; rfl⟩ (fun i σ H' hi q => ⟨SqL.of (q.1 _ _ hW.lst), SqL.of (q.1 _ _ hC)⟩) (fun i y σ H' H'' hi q yy => ?_) (fun σ H' q => ?_)
    · obtain ⟨sm, hx', hW', ⟨kvs', hB', hk', hc'⟩, u, v, z, rfl⟩ := q
      obtain ⟨t, y1, y2, rfl, nt, rfl, e1, e2⟩ := yy
      have hz : (es.zip cs)[i]? = some ((es.zip cs)[i]) := List.getElem?_eq_getElem hi
      obtain ⟨e, c, hec⟩ : ∃ e c, (es.zip cs)[i]? = some (e, c) := ⟨_, _, hz⟩
      have h2 := List.getElem?_zip_eq_some.mp hec
      dsimp only at e1 e2 h2
      rw [List.getElem?_map, h2.1] at e1
      rw [List.getElem?_map, h2.2] at e2
      obtain rfl := Option.some.inj e1
      obtain rfl := Option.some.inj e2
      have hm := List.mem_of_getElem? h2.1
      have s2 : Same H' (upd H' t (.tup [.ref e.1, .int c])) := same_upd nt
      have het := s2 _ _ (sm _ _ (hW.tup e hm))
      have hed := s2 _ _ (sm _ _ (hdat e hm).1)
      have hx2 := s2 _ _ hx'
      have hW2 := s2 _ _ hW'
      have hB2 := s2 _ _ hB'
      have hc2 := hc'.keep (Keep.of s2)
      have sm2 := sm.trans s2
      refine ⟨t, _, rfl, SqT.of upd_same, rfl, _, _, rfl, ⟨e.1, _, rfl, SqT.of het, rfl, _, _, rfl, _, _, rfl, rfl, _, _, rfl, rfl, ?_⟩⟩
      generalize upd H' t (.tup [.ref e.1, .int c]) = H2 at s2 het hed hx2 hW2 hB2 hc2 sm2 ⊢
      have etake : (es.zip cs).take (i + 1) = (es.zip cs).take i ++ [(e, c)] := by rw [List.take_add_one, hec]; rfl
      have hi' : i < 1000 := by
        rw [List.length_zip] at hi
        omega
      have hl' : kvs'.length < sizeLine := by rw [sizeLine_eq]; omega
      have nxB : x ≠ B' := ne_of hx2 hB2 (by intro z; cases z)
      have nWB : W' ≠ B' := ne_of hW2 hB2 (by intro z; cases z)
      have nWx : W' ≠ x := ne_of hW2 hx2 (by intro z; cases z)
      have same_put : ∀ {H3 : Hp} {o : HO}, Same H H3 → Same H (upd H3 B' o) := fun {H3 o} sm b u eb => by
        rw [upd_ne (ne_of_none eb nB0)]
        exact sm _ _ eb
      refine ⟨_, rfl, rfl, _, rfl, ite2 (fun c1 => ?_) (fun c1 => ⟨_, rfl, rfl, _, rfl, ite2 (fun c2 => ?_) (fun c2 => ?_)⟩)⟩
      · have ec : c = 1 := by simpa using c1
        refine ⟨_, rfl, _, rfl, x, C, dx', _, _, rfl, hx2, T.cl, T.n3, rfl, _, rfl, B', _, rfl, DPut.k (k := Sum.inl e.2.1) hB2 hl', ?_⟩
        refine ⟨same_put sm2, by rw [upd_ne nxB]; exact hx2, by rw [upd_ne nWB]; exact hW2, ⟨_, upd_same, by have := length_putK kvs' (Sum.inl e.2.1) (.ref e.2.2); omega, ?_⟩, _, _, _, rfl⟩
        rw [etake, crash_snoc, crash1, if_pos ec]
        exact (hc2.put hed (hdat e hm).2).keep (Keep.upd fun xs z => by rw [hB2] at z; cases z)
      · have ec : c = 2 := by simpa using c2
        have ec1 : c ≠ 1 := by omega
        refine ⟨_, rfl, _, rfl, _, rfl, ?_⟩
        refine half_read (K := K) (x := dat e.2.2) (y := crash h dat f ((es.zip cs).take i) e.2.1) (h := h) (hdat e hm).2 (hc2.len _) h1 h500 rfl hed _ _ (fun H3 Q3 s3 q3 => ?_) _ (fun H3 Q3 q3 => ⟨_, rfl, _, rfl, q3⟩) (fun r H3 s3 hr3 => ?_)
        · refine ⟨_, rfl, x, dx', _, rfl, s3 _ _ hx2, rfl, _, rfl, x, dx', _, B', W', e.2.1, kvs', rfl, s3 _ _ hx2, s3 _ _ hB2, (by show 2 ≤ d.sz; omega), (by show d.sz ≤ 1000; omega), fun H4 z s4 nz hz4 => ?_⟩
          have hz4 : H4 z = some (.tup (zeros d.sz)) := hz4
          rw [hsz] at hz4
          obtain ⟨r, er, hr⟩ := ((hc2.keep (Keep.of s3)).keep (Keep.of s4)).get hz4 e.2.1
          rw [er]
          exact q3 r H4 s4 hr
        · have nxB := nxB
          refine ⟨_, rfl, x, C, dx', _, _, rfl, s3 _ _ hx2, T.cl, T.n3, rfl, _, rfl, B', _, rfl, DPut.k (k := Sum.inl e.2.1) (s3 _ _ hB2) hl', ?_⟩
          refine ⟨same_put (sm2.trans s3), by rw [upd_ne nxB]; exact s3 _ _ hx2, by rw [upd_ne nWB]; exact s3 _ _ hW2, ⟨_, upd_same, by have := length_putK kvs' (Sum.inl e.2.1) (.ref r); omega, ?_⟩, _, _, _, rfl⟩
          rw [etake, crash_snoc, crash1, if_neg ec1, if_pos ec]
          refine ((hc2.keep (Keep.of s3)).put hr3 ?_).keep (Keep.upd fun xs z => by rw [s3 _ _ hB2] at z; cases z)
          rw [List.length_append, List.length_take, List.length_drop, (hdat e hm).2, hc2.len]
          omega
      · refine ⟨sm2, hx2, hW2, ⟨kvs', hB2, by omega, ?_⟩, _, _, _, rfl⟩
        rw [etake, crash_snoc, crash1, if_neg (by simpa using c1), if_neg (by simpa using c2)]
        exact hc2
    · obtain ⟨sm, hx', hW', ⟨kvs', hB', hk', hc'⟩, u, v, z, rfl⟩ := q
      rw [List.take_length] at hc'
      exact ⟨_, rfl, k x dx' B' W' kvs' H' sm nx hx' hB' hW' hc'⟩
end
end K08
namespace K08
open PySem L2 HK
/-! ### data compared -/
theorem dp_ints {K : PySem.W.Frag} {H : Hp} : ∀ ns : List Int, DpAll K H (ns.map V.int) (ns.map PyData.int)
  | [] => .nil
  | n :: r => .cons (.int n) (dp_ints r)
theorem shaped_tup (ns : List Int) : SeqAt.shaped (.tuple (ns.map PyData.int)) = true := PySem.W.ke_shaped_ints ns
theorem eqv_tup (ns : List Int) : PyData.eqv (.tuple (ns.map PyData.int)) (.tuple (ns.map PyData.int)) = true := PySem.SeqAt.eqv_refl _ (SeqAt.canLay_of_shaped (shaped_tup ns))
theorem ne_ints {K : PySem.W.Frag} {H : Hp} {a b : Addr} {ns : List Int} {Q : VK} (ha : H a = some (tupI ns)) (hb : H b = some (tupI ns)) (q : Q (.bl false) H) : rNeD K (.ref a) (.ref b) H Q := by
  refine ⟨_, _, Dp.tup (SqT.of ha) (dp_ints ns), Dp.tup (SqT.of hb) (dp_ints ns), shaped_tup ns, shaped_tup ns, ?_⟩
  rw [eqv_tup]
  exact q
/-! ### dicts merged -/
theorem keys_put (kvs : List (Key × V)) (k : Key) (v : V) (h : (kvs.map (·.1)).Nodup) : ((putK kvs k v).map (·.1)).Nodup := by
  unfold putK
  split
  · rename_i a
    have e : ((kvs.map fun kv => if kv.1 = k then (kv.1, v) else kv).map (·.1)) = kvs.map (·.1) := by
      rw [List.map_map]
      refine List.map_congr_left fun x _ => ?_
      show (if x.1 = k then (x.1, v) else x).1 = x.1
      split <;> rfl
    rw [e]
    exact h
  · rename_i a
    rw [List.map_append, List.nodup_append]
    refine ⟨h, by simp, fun x hx y hy e => ?_⟩
    obtain ⟨kv, hkv, rfl⟩ := List.mem_map.mp hx
    have hy : y = k := by simpa using hy
    refine a ?_
    rw [List.any_eq_true]
    exact ⟨kv, hkv, by simp [e, hy]⟩
theorem keys_merge : ∀ (more kvs : List (Key × V)), (kvs.map (·.1)).Nodup → ((mergeK kvs more).map (·.1)).Nodup
  | [], kvs, h => h
  | m :: r, kvs, h => keys_merge r _ (keys_put kvs m.1 m.2 h)
theorem merge_fresh : ∀ (more kvs : List (Key × V)), ((kvs ++ more).map (·.1)).Nodup → mergeK kvs more = kvs ++ more
  | [], kvs, _ => (List.append_nil kvs).symm
  | m :: r, kvs, h => by
    have hn : valV kvs m.1 = none := by
      cases q : valV kvs m.1 with
      | none => rfl
      | some u =>
        exfalso
        have z : (kvs.any fun kv => decide (kv.1 = m.1)) = true := by rw [valV_any, q]; rfl
        rw [List.any_eq_true] at z
        obtain ⟨kv, hkv, e⟩ := z
        rw [List.map_append, List.nodup_append] at h
        exact h.2.2 kv.1 (List.mem_map.mpr ⟨kv, hkv, rfl⟩) m.1 (by simp) (of_decide_eq_true e)
    show mergeK (putK kvs m.1 m.2) r = _
    rw [putK_new _ hn, merge_fresh r (kvs ++ [(m.1, m.2)]) (by simpa using h)]
    simp
theorem merge_all (kvs more : List (Key × V)) (h : (kvs.map (·.1)).Nodup) : mergeK [] (kvs ++ more) = mergeK kvs more := by
  have e : mergeK [] kvs = kvs := merge_fresh kvs [] (by simpa using h)
  unfold mergeK at e ⊢
  rw [List.foldl_append, e]
theorem lastOf_snoc (es : List En) (e : En) (n : Int) : lastOf (es ++ [e]) n = if e.2.1 = n then some e.2.2 else lastOf es n := by
  unfold lastOf
  rw [List.reverse_append, List.reverse_cons, List.reverse_nil, List.nil_append, List.singleton_append, List.find?_cons]
  by_cases h : e.2.1 = n
  · simp [h]
  · simp [h]
theorem val_merge (kvs : List (Key × V)) (n : Int) : ∀ (k : Nat) (es : List En), es.length = k → valV (mergeK kvs (toKV es)) (.inl n) = match lastOf es n with | some t => some (.ref t) | none => valV kvs (.inl n)
  | 0, es, h => by
    rw [List.eq_nil_of_length_eq_zero h]
    rfl
  | k + 1, es, h => by
    have hne : es ≠ [] := fun z => by rw [z] at h; cases h
    obtain ⟨l, e, rfl⟩ : ∃ l e, es = l ++ [e] := ⟨es.dropLast, es.getLast hne, (List.dropLast_concat_getLast hne).symm⟩
    have hl : l.length = k := by simpa using h
    have ih := val_merge kvs n k l hl
    have e1 : mergeK kvs (toKV (l ++ [e])) = putK (mergeK kvs (toKV l)) (.inl e.2.1) (.ref e.2.2) := by
      unfold toKV mergeK
      rw [List.map_append, List.foldl_append]
      rfl
    rw [e1, valV_put, ih, lastOf_snoc]
    by_cases h2 : e.2.1 = n
    · rw [if_pos (by rw [h2]), if_pos h2]
    · rw [if_neg (fun z => h2 (by injection z with z; exact z.symm)), if_neg h2]
theorem toKV_len (es : List En) : (toKV es).length = es.length := List.length_map _
theorem toKV_eq {es es2 : List En} (h : es2.map (·.2) = es.map (·.2)) : toKV es2 = toKV es := by
  have e : ∀ l : List En, toKV l = (l.map (·.2)).map fun q => (Sum.inl q.1, V.ref q.2) := fun l => by
    unfold toKV
    rw [List.map_map]
    rfl
  rw [e, e, h]
theorem pairedE {K : PySem.W.Frag} {H : Hp} : ∀ es : List En, (∀ e ∈ es, H e.1 = some (.tup [.int e.2.1, .ref e.2.2])) → Paired (fun (t : Addr) (kv : Key × V) => SqT K H t [kV kv.1, kv.2]) (es.map (·.1)) (toKV es)
  | [], _ => .nil
  | e :: r, h => .cons (SqT.of (h e (by simp))) (pairedE r fun x hx => h x (by simp [hx]))
theorem paired_app {α β : Type} {F : α → β → Prop} : ∀ {l₁ : List α} {l₂ : List β} {m₁ : List α} {m₂ : List β}, Paired F l₁ l₂ → Paired F m₁ m₂ → Paired F (l₁ ++ m₁) (l₂ ++ m₂)
  | _, _, _, _, .nil, h => h
  | _, _, _, _, .cons a t, h => .cons a (paired_app t h)
theorem ge_read {i j : Int} {H : Hp} {Q : VK} (b : Bool) (h : decide (j ≤ i) = b) (q : Q (.bl b) H) : rI0 (fun i j => V.bl (decide (j ≤ i))) (.int i) (.int j) H Q := ⟨i, j, rfl, rfl, by subst h; exact q⟩
theorem tC_mk {v : V} {σ : L2.St} {H : Hp} {Q : VK} (h : Q v H) : tC v σ H Q := h
theorem tSeq_mk {t u : TS} {D : Ends} {σ : L2.St} {H : Hp} (h : t { D with nx := u D } σ H) : tSeq t u D σ H := h
theorem tAsg_mk {te : TE} {g : TG} {D : Ends} {σ : L2.St} {H : Hp} (h : te σ H fun x H1 => g x σ H1 D.nx) : tAsg te g D σ H := h
theorem tCB_mk {r : List V → Hp → VK → Prop} {t : TA} {σ : L2.St} {H : Hp} {Q : VK} (h : t σ H fun xs H1 => r xs H1 Q) : tCB r t σ H Q := h
theorem tCons_mk {te : TE} {t : TA} {σ : L2.St} {H : Hp} {Q : List V → Hp → Prop} (h : te σ H fun x H1 => t σ H1 fun xs H2 => Q (x :: xs) H2) : tCons te t σ H Q := h
theorem sh_str {x : Str} (h : PyData.strOk x = true) : SeqAt.shaped (.str x) = true := by simp [SeqAt.shaped, PyData.canLay0, PyData.depth, h]
theorem dev_ok : PyData.strOk (Str.ofString "DeviceError") = true := by decide +kernel
theorem sh_non : SeqAt.shaped .none = true := by simp [SeqAt.shaped, PyData.canLay0, PyData.depth]
theorem eqd_str {K : PySem.W.Frag} {H : Hp} {Q : VK} {x : Str} (h : PyData.strOk x = true) (q : Q (.bl true) H) : rEqD K (.str x) (.str x) H Q := by
  refine ⟨_, _, .str x, .str x, sh_str h, sh_str h, ?_⟩
  rw [PySem.SeqAt.eqv_refl _ (SeqAt.canLay_of_shaped (sh_str h))]
  exact q
theorem eqd_non {K : PySem.W.Frag} {H : Hp} {Q : VK} {x : Str} (h : PyData.strOk x = true) (q : Q (.bl false) H) : rEqD K .non (.str x) H Q := by
  refine ⟨_, _, .non, .str x, sh_non, sh_str h, ?_⟩
  rw [show PyData.eqv .none (.str x) = false by simp [PyData.eqv]]
  exact q
theorem eqd_tup {K : PySem.W.Frag} {H : Hp} {Q : VK} {x : Str} {a : Addr} {ns : List Int} (h : PyData.strOk x = true) (ha : H a = some (tupI ns)) (q : Q (.bl false) H) : rEqD K (.ref a) (.str x) H Q := by
  refine ⟨_, _, Dp.tup (SqT.of ha) (dp_ints ns), .str x, shaped_tup ns, sh_str h, ?_⟩
  rw [show PyData.eqv (.tuple (ns.map PyData.int)) (.str x) = false by simp [PyData.eqv]]
  exact q
theorem iteD {c A B : Prop} [Decidable c] (hc : c) (h : A) : if decide c = true then A else B := by
  rw [decide_eq_true hc]
  exact iteT h
theorem iteDN {c A B : Prop} [Decidable c] (hc : ¬ c) (h : B) : if decide c = true then A else B := by
  rw [decide_eq_false hc]
  exact iteF h
theorem iteND {c A B : Prop} [Decidable c] (hc : ¬ c) (h : A) : if (!decide c) = true then A else B := by
  rw [decide_eq_false hc]
  exact iteT h
/-! ### _law_told -/
abbrev sTold : Stmt := top 11
abbrev sLaw : Stmt := top 12
structure ToldTxt (K : PySem.W.Frag) (mg : Str → Option Value) (C g : Addr) : Prop where
  m : mg "_law_told" = some (.ref g)
  k : PySem.W.keepIn K (.ref g) = true
  fn : ∃ (oc kV doc pm cdv ct : Value) (od an : Option Addr) (osl : Array (Option Value)),
    K.lookup g = some ⟨oc, od, .func (PySem.W.fnOf "_law_told" "_law_told" (defArgs sTold) (defBody sTold) (defScope sTold) .none kV doc pm an cdv ct), osl⟩ ∧ PySem.W.codeIn K cdv "_law_told" = true
  mF : mg "DeviceError" = some (.ref C)
theorem scTold : FnScope ["what"] ["what"] (defScope sTold) := ⟨rfl, rfl, rfl, by decide +kernel, rfl, by decide +kernel, by decide +kernel⟩
theorem pe_told {X : Cx} {C g c P : Addr} {k : Nat} {params : Arguments} {body : Expr} {scope : Scope} {t : XK → TE} {p lpos pos : Pos} (TT : ToldTxt X.K X.mg C g) (TB : LamX.TabB X.base X.mg c P) (hcode : X.env.code = .ref c)
    (hg : Gl X "_law_told") (hr : Room (k + 2) X.A) (L : LamX.LamS X.env.scope scope) (hdef : defaultsOf params X.env = ([], []))
    (hbind : ∀ (q : Str) (cl : List (Str × Addr)) (pm cv ctv : Value), bindArgs (PySem.W.kla_fn "<lambda>" q params body scope cl pm cv ctv) ⟨[], []⟩ = pure [])
    (hbody : ∀ (A : Around) (outer : List Env) (s : Shared) (H : Hp) (E : XK) (f c' : Addr), Room k (A.deeper (LamX.lamEnv X scope s.heap.objs.size f c')) → PE (LamX.lamCx X A outer s H E scope f c') body (t E)) :
    PE X (.Call (.Name "_law_told" p) [.Lambda params body scope lpos] [] pos) (LamX.tLam [(P, X.env.qual ++ "<lambda>")] (LamX.TTold X.K C "DeviceError") t) := by
  obtain ⟨oc, kV, doc, pm, cdv, ct, od, an, osl, lk, hcd⟩ := TT.fn
  refine LamX.pe_lamcall (Ng := ["what"]) (a := "what") hg TT.m TT.k lk hcd (.all fun us hl => match us, hl with | [_], _ => rfl) scTold rfl (Or.inl rfl) (LamX.told_gives (e := "DeviceError") rfl TT.mF rfl (fun _ => rfl)) TB hcode List.mem_cons_self (fun q hq _ => ?_) hr L hdef hbind hbody
  rw [List.mem_singleton.mp hq]
/-! ### what stands through the law -/
/-- nothing, a list, a dict or an instance of a class -/
def Soft (o : Option HO) : Prop := o = none ∨ (∃ xs, o = some (.lst xs)) ∨ (∃ k, o = some (.dK k)) ∨ ∃ C dx fs, o = some (.ins C dx fs)
theorem Soft.none : Soft none := .inl rfl
theorem Soft.lst {xs : List V} : Soft (some (.lst xs)) := .inr (.inl ⟨_, rfl⟩)
theorem Soft.dK {k : List (Key × V)} : Soft (some (.dK k)) := .inr (.inr (.inl ⟨_, rfl⟩))
theorem Soft.ins {C dx : Addr} {fs : List (Str × V)} : Soft (some (.ins C dx fs)) := .inr (.inr (.inr ⟨_, _, _, rfl⟩))
theorem Soft.not_tup {o : Option HO} (h : Soft o) (xs : List V) : o ≠ some (.tup xs) := by
  rcases h with h | ⟨_, h⟩ | ⟨_, h⟩ | ⟨_, _, _, h⟩ <;> rw [h] <;> intro z <;> cases z
theorem Soft.not_tbl {o : Option HO} (h : Soft o) (ps : Array Value) : o ≠ some (.tbl ps) := by
  rcases h with h | ⟨_, h⟩ | ⟨_, h⟩ | ⟨_, _, _, h⟩ <;> rw [h] <;> intro z <;> cases z
theorem Soft.not_code {o : Option HO} (h : Soft o) (c : Addr) (q : Str) : o ≠ some (LamX.CodeO c q) := by
  rcases h with h | ⟨_, h⟩ | ⟨_, h⟩ | ⟨_, _, _, h⟩ <;> rw [h] <;> intro z <;> unfold LamX.CodeO at z <;> cases z
theorem off_keep {l : List Addr} {H H' : Hp} (o : Off l H H') (s : ∀ b ∈ l, Soft (H b)) : Keep H H' := fun d xs e => by
  rw [o d (fun hd => (s d hd).not_tup xs e)]
  exact e
theorem off_tabs {l : List Addr} {H H' : Hp} {T : List (Addr × Str)} (o : Off l H H') (s : ∀ b ∈ l, Soft (H b)) (h : LamX.Tabs T H) : LamX.Tabs T H' := fun p hp => by
  obtain ⟨ps, h1, h2, h3⟩ := h p hp
  refine ⟨ps, by rw [o _ (fun hd => (s _ hd).not_tbl ps h1)]; exact h1, h2, fun pos cv hc => ?_⟩
  obtain ⟨c, e1, e2⟩ := h3 pos cv hc
  exact ⟨c, e1, by rw [o _ (fun hd => (s _ hd).not_code c _ e2)]; exact e2⟩
abbrev lamQ : Str := "law.<locals>.<lambda>"
structure Wst (C R D PT p dx B W Kp Lw : Addr) (h : Nat) (dv : Dv) (dc : Dice) (kvs kvs2 : List (Key × V)) (es es2 : List En) (H : Hp) : Prop where
  dice : H D = some (.lst dc.vs)
  row : H R = some (.lst [.ref D])
  tabs : LamX.Tabs [(PT, lamQ)] H
  dev : H p = some (.ins C dx (fsD dv B W))
  blk : H B = some (.dK kvs)
  kep : H Kp = some (.dK kvs2)
  w1 : WaitAt H W es
  w2 : WaitAt H Lw es2
  vok : ∀ n v, valV kvs (.inl n) = some v → ∃ d xs, v = .ref d ∧ H d = some (tupI xs) ∧ xs.length = 2 * h
  eok : ∀ e ∈ es, ∃ xs, H e.2.2 = some (tupI xs) ∧ xs.length = 2 * h
  nDR : D ≠ R
  nDW : D ≠ W
  nDL : D ≠ Lw
  nRW : R ≠ W
  nRL : R ≠ Lw
  nWL : W ≠ Lw
  nBK : B ≠ Kp
theorem WaitAt.mono {H H' : Hp} {W : Addr} {es : List En} (w : WaitAt H W es) (e : H' W = H W) (k : Keep H H') : WaitAt H' W es := ⟨by rw [e]; exact w.lst, fun x hx => k _ _ (w.tup x hx)⟩
section
variable {C R D PT p dx B W Kp Lw : Addr} {h : Nat} {dv : Dv} {dc : Dice} {kvs kvs2 : List (Key × V)} {es es2 : List En} {H H' : Hp}
/-- those that Wst names stand, the tuples and the tables too -/
theorem Wst.off {l : List Addr} (x : Wst C R D PT p dx B W Kp Lw h dv dc kvs kvs2 es es2 H) (o : Off l H H') (s : ∀ b ∈ l, Soft (H b)) (n : ∀ b ∈ l, b ≠ D ∧ b ≠ R ∧ b ≠ p ∧ b ≠ B ∧ b ≠ Kp ∧ b ≠ W ∧ b ≠ Lw) : Wst C R D PT p dx B W Kp Lw h dv dc kvs kvs2 es es2 H' := by
  have kp := off_keep o s
  have at_ : ∀ b, (b = D ∨ b = R ∨ b = p ∨ b = B ∨ b = Kp ∨ b = W ∨ b = Lw) → H' b = H b := fun b hb => o b fun hl => by
    have z := n b hl
    rcases hb with e | e | e | e | e | e | e
    · exact z.1 e
    · exact z.2.1 e
    · exact z.2.2.1 e
    · exact z.2.2.2.1 e
    · exact z.2.2.2.2.1 e
    · exact z.2.2.2.2.2.1 e
    · exact z.2.2.2.2.2.2 e
  exact ⟨by rw [at_ D (by simp)]; exact x.dice, by rw [at_ R (by simp)]; exact x.row, off_tabs o s x.tabs, by rw [at_ p (by simp)]; exact x.dev, by rw [at_ B (by simp)]; exact x.blk, by rw [at_ Kp (by simp)]; exact x.kep,
    x.w1.mono (at_ W (by simp)) kp, x.w2.mono (at_ Lw (by simp)) kp, fun n v e => by obtain ⟨d, xs, h1, h2, h3⟩ := x.vok n v e; exact ⟨d, xs, h1, kp _ _ h2, h3⟩, fun e he => by obtain ⟨xs, h1, h2⟩ := x.eok e he; exact ⟨xs, kp _ _ h1, h2⟩,
    x.nDR, x.nDW, x.nDL, x.nRW, x.nRL, x.nWL, x.nBK⟩
theorem Wst.same (x : Wst C R D PT p dx B W Kp Lw h dv dc kvs kvs2 es es2 H) (s : Same H H') : Wst C R D PT p dx B W Kp Lw h dv dc kvs kvs2 es es2 H' :=
  ⟨s _ _ x.dice, s _ _ x.row, x.tabs.ext s, s _ _ x.dev, s _ _ x.blk, s _ _ x.kep, ⟨s _ _ x.w1.lst, fun e he => s _ _ (x.w1.tup e he)⟩, ⟨s _ _ x.w2.lst, fun e he => s _ _ (x.w2.tup e he)⟩,
    fun n v e => by obtain ⟨d, xs, h1, h2, h3⟩ := x.vok n v e; exact ⟨d, xs, h1, s _ _ h2, h3⟩, fun e he => by obtain ⟨xs, h1, h2⟩ := x.eok e he; exact ⟨xs, s _ _ h1, h2⟩, x.nDR, x.nDW, x.nDL, x.nRW, x.nRL, x.nWL, x.nBK⟩
theorem Wst.new (x : Wst C R D PT p dx B W Kp Lw h dv dc kvs kvs2 es es2 H) {a : Addr} {o : HO} (n : H a = none) : Wst C R D PT p dx B W Kp Lw h dv dc kvs kvs2 es es2 (upd H a o) := x.same (same_upd n)
theorem Wst.ext (x : Wst C R D PT p dx B W Kp Lw h dv dc kvs kvs2 es es2 H) (e : LamX.ExtN H H') (t : LamX.Tabs [(PT, lamQ)] H') : Wst C R D PT p dx B W Kp Lw h dv dc kvs kvs2 es es2 H' := by
  have s : ∀ b o, H b = some o → (∀ ps, o ≠ .tbl ps) → H' b = some o := e
  have st : ∀ b xs, H b = some (.tup xs) → H' b = some (.tup xs) := fun b xs z => s b _ z (fun ps y => by cases y)
  exact ⟨s _ _ x.dice (fun ps y => by cases y), s _ _ x.row (fun ps y => by cases y), t, s _ _ x.dev (fun ps y => by cases y), s _ _ x.blk (fun ps y => by cases y), s _ _ x.kep (fun ps y => by cases y),
    ⟨s _ _ x.w1.lst (fun ps y => by cases y), fun e he => st _ _ (x.w1.tup e he)⟩, ⟨s _ _ x.w2.lst (fun ps y => by cases y), fun e he => st _ _ (x.w2.tup e he)⟩,
    fun n v e => by obtain ⟨d, xs, h1, h2, h3⟩ := x.vok n v e; exact ⟨d, xs, h1, st _ _ h2, h3⟩, fun e he => by obtain ⟨xs, h1, h2⟩ := x.eok e he; exact ⟨xs, st _ _ h1, h2⟩, x.nDR, x.nDW, x.nDL, x.nRW, x.nRL, x.nWL, x.nBK⟩
theorem Wst.roll (x : Wst C R D PT p dx B W Kp Lw h dv dc kvs kvs2 es es2 H) (dc' : Dice) : Wst C R D PT p dx B W Kp Lw h dv dc' kvs kvs2 es es2 (upd H D (.lst dc'.vs)) := by
  have kp : Keep H (upd H D (.lst dc'.vs)) := Keep.upd fun xs z => by rw [x.dice] at z; cases z
  have o : Off [D] H (upd H D (.lst dc'.vs)) := Off.upd (Off.refl _ _) (by simp)
  have nD : ∀ {b : Addr} {u : HO}, H b = some u → (∀ xs, u ≠ .lst xs) → b ≠ D := fun {b u} e n z => by rw [z, x.dice] at e; exact n _ (Option.some.inj e).symm
  exact ⟨upd_same, by rw [upd_ne x.nDR.symm]; exact x.row, off_tabs o (fun b hb => by rw [List.mem_singleton.mp hb, x.dice]; exact Soft.lst) x.tabs, by rw [upd_ne (nD x.dev (fun xs z => by cases z))]; exact x.dev, by rw [upd_ne (nD x.blk (fun xs z => by cases z))]; exact x.blk, by rw [upd_ne (nD x.kep (fun xs z => by cases z))]; exact x.kep,
    x.w1.mono (upd_ne x.nDW.symm) kp, x.w2.mono (upd_ne x.nDL.symm) kp, fun n v e => by obtain ⟨d, xs, h1, h2, h3⟩ := x.vok n v e; exact ⟨d, xs, h1, kp _ _ h2, h3⟩, fun e he => by obtain ⟨xs, h1, h2⟩ := x.eok e he; exact ⟨xs, kp _ _ h1, h2⟩,
    x.nDR, x.nDW, x.nDL, x.nRW, x.nRL, x.nWL, x.nBK⟩
/-- the device's fields change -/
theorem Wst.dead (x : Wst C R D PT p dx B W Kp Lw h dv dc kvs kvs2 es es2 H) (dv' : Dv) : Wst C R D PT p dx B W Kp Lw h dv' dc kvs kvs2 es es2 (upd H p (.ins C dx (fsD dv' B W))) := by
  have kp : Keep H (upd H p (.ins C dx (fsD dv' B W))) := Keep.upd fun xs z => by rw [x.dev] at z; cases z
  have o : Off [p] H (upd H p (.ins C dx (fsD dv' B W))) := Off.upd (Off.refl _ _) (by simp)
  have n : ∀ {b : Addr} {u : HO}, H b = some u → (∀ C dx fs, u ≠ .ins C dx fs) → b ≠ p := fun {b u} e n z => by rw [z, x.dev] at e; exact n _ _ _ (Option.some.inj e).symm
  exact ⟨by rw [upd_ne (n x.dice (fun _ _ _ z => by cases z))]; exact x.dice, by rw [upd_ne (n x.row (fun _ _ _ z => by cases z))]; exact x.row, off_tabs o (fun b hb => by rw [List.mem_singleton.mp hb, x.dev]; exact Soft.ins) x.tabs, upd_same,
    by rw [upd_ne (n x.blk (fun _ _ _ z => by cases z))]; exact x.blk, by rw [upd_ne (n x.kep (fun _ _ _ z => by cases z))]; exact x.kep,
    x.w1.mono (upd_ne (n x.w1.lst (fun _ _ _ z => by cases z))) kp, x.w2.mono (upd_ne (n x.w2.lst (fun _ _ _ z => by cases z))) kp, fun n v e => by obtain ⟨d, xs, h1, h2, h3⟩ := x.vok n v e; exact ⟨d, xs, h1, kp _ _ h2, h3⟩, fun e he => by obtain ⟨xs, h1, h2⟩ := x.eok e he; exact ⟨xs, kp _ _ h1, h2⟩,
    x.nDR, x.nDW, x.nDL, x.nRW, x.nRL, x.nWL, x.nBK⟩
/-- a block is written on the device -/
theorem Wst.write (x : Wst C R D PT p dx B W Kp Lw h dv dc kvs kvs2 es es2 H) {dv' : Dv} {z t : Addr} {n : Int} {xs : List Int} (ht : H t = some (tupI xs)) (hx : xs.length = 2 * h) (nz : H z = none) (o : Off [p, z, W] H H') (h1 : H' p = some (.ins C dx (fsD dv' B W)))
    (h2 : H' z = some (.tup [.int n, .ref t])) (h3 : H' W = some (.lst ((es ++ [(z, n, t)]).map fun e => V.ref e.1))) : Wst C R D PT p dx B W Kp Lw h dv' dc kvs kvs2 (es ++ [(z, n, t)]) es2 H' := by
  have sf : ∀ b ∈ [p, z, W], Soft (H b) := fun b hb => by
    simp only [List.mem_cons, List.not_mem_nil, or_false] at hb
    rcases hb with e | e | e
    · rw [e, x.dev]; exact Soft.ins
    · rw [e, nz]; exact Soft.none
    · rw [e, x.w1.lst]; exact Soft.lst
  have kp := off_keep o sf
  have at_ : ∀ {b : Addr} {u : HO}, H b = some u → (∀ C dx fs, u ≠ .ins C dx fs) → b ≠ W → H' b = some u := fun {b u} e ni nw => by
    rw [o b]
    · exact e
    · simp only [List.mem_cons, List.not_mem_nil, or_false, not_or]
      refine ⟨fun y => ?_, fun y => ?_, nw⟩
      · rw [y, x.dev] at e; exact ni _ _ _ (Option.some.inj e).symm
      · rw [y, nz] at e; cases e
  have nW : ∀ {b : Addr} {u : HO}, H b = some u → (∀ xs, u ≠ .lst xs) → b ≠ W := fun {b u} e n y => by rw [y, x.w1.lst] at e; exact n _ (Option.some.inj e).symm
  refine ⟨at_ x.dice (fun _ _ _ z => by cases z) x.nDW, at_ x.row (fun _ _ _ z => by cases z) x.nRW, off_tabs o sf x.tabs, h1, at_ x.blk (fun _ _ _ z => by cases z) (nW x.blk (fun _ z => by cases z)), at_ x.kep (fun _ _ _ z => by cases z) (nW x.kep (fun _ z => by cases z)),
    ⟨h3, fun e he => ?_⟩, ⟨at_ x.w2.lst (fun _ _ _ z => by cases z) x.nWL.symm, fun e he => kp _ _ (x.w2.tup e he)⟩, fun n v e => by obtain ⟨d, xs, h1, h2, h3⟩ := x.vok n v e; exact ⟨d, xs, h1, kp _ _ h2, h3⟩, fun e he => ?_,
    x.nDR, x.nDW, x.nDL, x.nRW, x.nRL, x.nWL, x.nBK⟩
  · rcases List.mem_append.mp he with y | y
    · exact kp _ _ (x.w1.tup e y)
    · rw [List.mem_singleton.mp y]; exact h2
  · rcases List.mem_append.mp he with y | y
    · obtain ⟨xs, a, b⟩ := x.eok e y
      exact ⟨xs, kp _ _ a, b⟩
    · rw [List.mem_singleton.mp y]
      exact ⟨xs, kp _ _ ht, hx⟩
/-- the law notes a write -/
theorem Wst.note (x : Wst C R D PT p dx B W Kp Lw h dv dc kvs kvs2 es es2 H) {e : En} (he : H e.1 = some (.tup [.int e.2.1, .ref e.2.2])) : Wst C R D PT p dx B W Kp Lw h dv dc kvs kvs2 es (es2 ++ [e]) (upd H Lw (.lst ((es2.map fun e => V.ref e.1) ++ [.ref e.1]))) := by
  have kp : Keep H (upd H Lw (.lst ((es2.map fun e => V.ref e.1) ++ [.ref e.1]))) := Keep.upd fun xs z => by rw [x.w2.lst] at z; cases z
  have o : Off [Lw] H (upd H Lw (.lst ((es2.map fun e => V.ref e.1) ++ [.ref e.1]))) := Off.upd (Off.refl _ _) (by simp)
  have n : ∀ {b : Addr} {u : HO}, H b = some u → (∀ xs, u ≠ .lst xs) → b ≠ Lw := fun {b u} e n z => by rw [z, x.w2.lst] at e; exact n _ (Option.some.inj e).symm
  refine ⟨by rw [upd_ne x.nDL]; exact x.dice, by rw [upd_ne x.nRL]; exact x.row, off_tabs o (fun b hb => by rw [List.mem_singleton.mp hb, x.w2.lst]; exact Soft.lst) x.tabs, by rw [upd_ne (n x.dev (fun xs z => by cases z))]; exact x.dev, by rw [upd_ne (n x.blk (fun xs z => by cases z))]; exact x.blk, by rw [upd_ne (n x.kep (fun xs z => by cases z))]; exact x.kep,
    x.w1.mono (upd_ne x.nWL) kp, ⟨by rw [upd_same, List.map_append]; rfl, fun y hy => ?_⟩, fun n v e => by obtain ⟨d, xs, h1, h2, h3⟩ := x.vok n v e; exact ⟨d, xs, h1, kp _ _ h2, h3⟩, fun e he => by obtain ⟨xs, h1, h2⟩ := x.eok e he; exact ⟨xs, kp _ _ h1, h2⟩,
    x.nDR, x.nDW, x.nDL, x.nRW, x.nRL, x.nWL, x.nBK⟩
  rcases List.mem_append.mp hy with z | z
  · exact kp _ _ (x.w2.tup y z)
  · rw [List.mem_singleton.mp z]; exact kp _ _ he
/-- the device is flushed -/
theorem Wst.flush (x : Wst C R D PT p dx B W Kp Lw h dv dc kvs kvs2 es es2 H) {dv' : Dv} {L : Addr} (nL : H L = none) (o : Off [p, B, L] H H') (h1 : H' p = some (.ins C dx (fsD dv' B L))) (h2 : H' B = some (.dK (mergeK kvs (toKV es)))) (h3 : H' L = some (.lst [])) :
    Wst C R D PT p dx B L Kp Lw h dv' dc (mergeK kvs (toKV es)) kvs2 [] es2 H' := by
  have sf : ∀ b ∈ [p, B, L], Soft (H b) := fun b hb => by
    simp only [List.mem_cons, List.not_mem_nil, or_false] at hb
    rcases hb with e | e | e
    · rw [e, x.dev]; exact Soft.ins
    · rw [e, x.blk]; exact Soft.dK
    · rw [e, nL]; exact Soft.none
  have kp := off_keep o sf
  have at_ : ∀ {b : Addr} {u : HO}, H b = some u → (∀ C dx fs, u ≠ .ins C dx fs) → b ≠ B → H' b = some u := fun {b u} e ni nb => by
    rw [o b]
    · exact e
    · simp only [List.mem_cons, List.not_mem_nil, or_false, not_or]
      refine ⟨fun y => ?_, nb, fun y => ?_⟩
      · rw [y, x.dev] at e; exact ni _ _ _ (Option.some.inj e).symm
      · rw [y, nL] at e; cases e
  have nB : ∀ {b : Addr} {u : HO}, H b = some u → (∀ xs, u ≠ .dK xs) → b ≠ B := fun {b u} e n y => by rw [y, x.blk] at e; exact n _ (Option.some.inj e).symm
  refine ⟨at_ x.dice (fun _ _ _ z => by cases z) (nB x.dice (fun _ z => by cases z)), at_ x.row (fun _ _ _ z => by cases z) (nB x.row (fun _ z => by cases z)), off_tabs o sf x.tabs, h1, h2, at_ x.kep (fun _ _ _ z => by cases z) x.nBK.symm,
    ⟨h3, (fun e he => by cases he)⟩, ⟨at_ x.w2.lst (fun _ _ _ z => by cases z) (nB x.w2.lst (fun _ z => by cases z)), fun e he => kp _ _ (x.w2.tup e he)⟩, fun n v e => ?_, (fun e he => by cases he),
    x.nDR, ne_of_none x.dice nL, x.nDL, ne_of_none x.row nL, x.nRL, (ne_of_none x.w2.lst nL).symm, x.nBK⟩
  rw [val_merge kvs n _ es rfl] at e
  cases q : lastOf es n with
  | none =>
    rw [q] at e
    obtain ⟨d, xs, h1, h2, h3⟩ := x.vok n v e
    exact ⟨d, xs, h1, kp _ _ h2, h3⟩
  | some t =>
    rw [q] at e
    obtain rfl := Option.some.inj e
    unfold lastOf at q
    obtain ⟨y, hy, hyt⟩ := Option.map_eq_some_iff.mp q
    have hm : y ∈ es := List.mem_reverse.mp (List.mem_of_find?_eq_some hy)
    obtain ⟨xs, a, b⟩ := x.eok y hm
    exact ⟨t, xs, rfl, by rw [← hyt]; exact kp _ _ a, b⟩
/-- the law's dict and list are made anew -/
theorem Wst.anew (x : Wst C R D PT p dx B W Kp Lw h dv dc kvs kvs2 es es2 H) {Kp' Lw' : Addr} {k2 : List (Key × V)} (s : Same H H') (n1 : H Kp' = none) (n2 : H Lw' = none) (h1 : H' Kp' = some (.dK k2)) (h2 : H' Lw' = some (.lst [])) : Wst C R D PT p dx B W Kp' Lw' h dv dc kvs k2 es [] H' :=
  ⟨s _ _ x.dice, s _ _ x.row, x.tabs.ext s, s _ _ x.dev, s _ _ x.blk, h1, ⟨s _ _ x.w1.lst, fun e he => s _ _ (x.w1.tup e he)⟩, ⟨h2, (fun e he => by cases he)⟩,
    fun n v e => by obtain ⟨d, xs, h1, h2, h3⟩ := x.vok n v e; exact ⟨d, xs, h1, s _ _ h2, h3⟩, fun e he => by obtain ⟨xs, h1, h2⟩ := x.eok e he; exact ⟨xs, s _ _ h1, h2⟩, x.nDR, x.nDW, ne_of_none x.dice n2, x.nRW, ne_of_none x.row n2, ne_of_none x.w1.lst n2, ne_of_none x.blk n1⟩
end
end K08
namespace K08
open PySem L2 HK
abbrev NL : List Str := ["script", "dice", "size", "kept", "waiting", "fuse", "dead", "steps", "step", "k", "told_now", "bad", "choices", "due", "choice", "old", "number", "data", "device", "found", "sort", "total"]
theorem scLaw : FnScope NL ["script"] (defScope sLaw) := ⟨rfl, rfl, rfl, by decide +kernel, rfl, by decide +kernel, by decide +kernel⟩
/-- what the law asks of the module -/
structure LTxt (P : Program) (w : World) (K : PySem.W.Frag) (mg : Str → Option Value) (base : Heap) (C CE g : Addr) : Prop where
  told : ToldTxt K mg CE g
  exm : PySem.W.exmOne K (.ref CE) (.ref CE) = some true
  D : DTxt K mg C CE
  range : mg "range" = none
  int : mg "int" = none
  list : mg "list" = none
  enum : mg "enumerate" = none
  rounds : ∃ f fd, FnOk P w K mg base L2.CX0 2 f fd ["script", "most"] (spRounds K) ∧ mg "_law_rounds" = some (.ref f) ∧ PySem.W.keepIn K (.ref f) = true ∧ Binds K fd ["script", "most"] []
  roll : ∃ f fd, FnOk P w K mg base L2.CX0 1 f fd ["dice", "many"] spRoll ∧ mg "_law_roll" = some (.ref f) ∧ PySem.W.keepIn K (.ref f) = true ∧ Binds K fd ["dice", "many"] []
  write : ∃ f fd, FnOk P w K mg base (L2.CX P w) 3 f fd ["self", "number", "data"] (spWrite K C CE) ∧ Meth K C "write_block" f ∧ Binds K fd ["self", "number", "data"] []
  flush : ∃ f fd, FnOk P w K mg base (L2.CX P w) 3 f fd ["self"] (spFlush C CE) ∧ Meth K C "flush" f ∧ Binds K fd ["self"] []
  read : ∃ f fd, FnOk P w K mg base (L2.CX P w) 2 f fd ["self", "number"] (spRead C CE) ∧ Meth K C "read" f ∧ Binds K fd ["self", "number"] []
  rest : ∃ f fd, FnOk P w K mg base L2.CX0 3 f fd ["self", "choices"] (spRest C) ∧ Meth K C "restarted" f ∧ Binds K fd ["self", "choices"] []
  arm : ∃ f fd, FnOk P w K mg base L2.CX0 1 f fd ["self", "steps"] (spArm C) ∧ Meth K C "arm" f ∧ Binds K fd ["self", "steps"] []
  init : ∃ f fd, FnOk P w K mg base L2.CX0 1 f fd ["self", "block_size", "count", "blocks"] (spInit C) ∧ Mk K C f ∧ ∃ ds, Vals [V.non] ds ∧ Binds K fd ["self", "block_size", "count", "blocks"] ds
def forBody : Stmt → List Stmt
  | .For _ _ b _ _ => b
  | _ => []
abbrev turnBody : List Stmt := forBody ((defBody sLaw).getD 0 (.Pass ⟨0, 0, 0, 0⟩))
abbrev stepBody : List Stmt := forBody (turnBody.getD 5 (.Pass ⟨0, 0, 0, 0⟩))
def left (fuse : V) (st : Int) : V := match fuse with
  | .int n => .int (n - st)
  | v => v
theorem stepped_left (sz tot st : Int) (fuse : V) (dead : Bool) : stepped ⟨sz, tot, left fuse st, dead, st⟩ = ⟨sz, tot, left fuse (st + 1), dead, st + 1⟩ := by
  unfold stepped left
  cases fuse <;> simp
  omega
theorem left_nf {fuse : V} (h : fuse = .non ∨ ∃ n, fuse = .int n) (st : Int) : left fuse st = .non ∨ ∃ n, left fuse st = .int n := by
  rcases h with rfl | ⟨n, rfl⟩
  · exact .inl rfl
  · exact .inr ⟨_, rfl⟩
/-- the slots between two steps -/
def slots (a D Kp Lw p : Addr) (size tot steps : Int) (fuse : V) (dead : Bool) (u8 u9 u10 u11 u12 u13 u14 u15 u16 u17 u19 u20 : Option V) : L2.St :=
  [some (.ref a), some (.ref D), some (.int size), some (.ref Kp), some (.ref Lw), some fuse, some (.bl dead), some (.int steps), u8, u9, u10, u11, u12, u13, u14, u15, u16, u17, some (.ref p), u19, u20, some (.int tot)]
def Wl (C R PT dx B a D p : Addr) (h : Nat) (tot : Int) (fuse : V) (i : Nat) (σ : L2.St) (H : Hp) : Prop :=
  ∃ (dead : Bool) (steps : Int) (Kp Lw W : Addr) (dc : Dice) (kvs : List (Key × V)) (es es2 : List En) (u8 u9 u10 u11 u12 u13 u14 u15 u16 u17 u19 u20 : Option V), σ = slots a D Kp Lw p ((2 * h : Nat) : Int) tot steps fuse dead u8 u9 u10 u11 u12 u13 u14 u15 u16 u17 u19 u20 ∧
    Wst C R D PT p dx B W Kp Lw h ⟨((2 * h : Nat) : Int), tot, left fuse steps, dead, steps⟩ dc kvs kvs es es2 H ∧ es2.map (·.2) = es.map (·.2) ∧ (kvs.map (·.1)).Nodup ∧ kvs.length + es.length ≤ i
theorem Wst.add0 {C R D PT p dx B W Kp Lw : Addr} {h : Nat} {sz tot st : Int} {fuse : V} {dead : Bool} {dc : Dice} {kvs kvs2 : List (Key × V)} {es es2 : List En} {H : Hp} (x : Wst C R D PT p dx B W Kp Lw h ⟨sz, tot, left fuse st, dead, st⟩ dc kvs kvs2 es es2 H) :
    Wst C R D PT p dx B W Kp Lw h ⟨sz, tot, left fuse (st + 0), dead, st + 0⟩ dc kvs kvs2 es es2 H := by
  rw [Int.add_zero]
  exact x
section
variable {P : Program} {w : World} {K : PySem.W.Frag} {mg : Str → Option Value} {base : Heap} {C CE g : Addr}
abbrev LX (P : Program) (w : World) (K : PySem.W.Frag) (mg : Str → Option Value) (base : Heap) (f c : Addr) (A : Around) (outer : List Env) (s : Shared) (H : Hp) (E : XK) : Cx := (cxOf L2.CX0 P w K mg base NL "law" (defScope sLaw) f (.ref c) A outer s H E).nox
theorem step_ok (L : LTxt P w K mg base C CE g) {f c PT : Addr} {A : Around} {outer : List Env} {s : Shared} {H0 : Hp} {E0 : XK} (TB : LamX.TabB base mg c PT) (hr7 : Room 7 (LX P w K mg base f c A outer s H0 E0).A) :
    ∃ t, PSs (LX P w K mg base f c A outer s H0 E0) stepBody t ∧ ∀ (R dx B a D p : Addr) (h : Nat) (tot : Int) (fuse : V), 1 ≤ h → h ≤ 4 → 1 ≤ tot → tot ≤ 20 → (fuse = .non ∨ ∃ n, fuse = .int n) → ∀ (Dn : Ends) (i : Nat) (σ : L2.St) (H : Hp), i < 41 → Wl C R PT dx B a D p h tot fuse i σ H → (∀ σ' H', Wl C R PT dx B a D p h tot fuse (i + 1) σ' H' → Dn.nx σ' H') → t Dn σ H := by
  obtain ⟨f3, d3, F3, m3, k3, b3⟩ := L.roll
  obtain ⟨fW, dW, FW, mW, bW⟩ := L.write
  obtain ⟨fF, dF, FF, mF, bF⟩ := L.flush
  obtain ⟨fR, dR, FR, mR, bR⟩ := L.read
  have T := L.D
  have G3 := F3.mono (show 1 ≤ 7 by decide)
  have RW := FW.mono (show 3 ≤ 5 by decide)
  have RF := FF.mono (show 3 ≤ 5 by decide)
  have RR := FR.mono (show 2 ≤ 5 by decide)
  have lexm := L.exm
  refine ⟨_, pss_cons (ps_asg (pe_tup (pa_cons (pe_call G3 hr7 (by rfl) m3 k3 b3 .nil pass0 (pa_cons (pv 1) (pa_cons pe_int pa_nil))) (pa_cons (pe_call G3 hr7 (by rfl) m3 k3 b3 .nil pass0 (pa_cons (pv 1) (pa_cons (pe_op op_add (pv 21) pe_int) pa_nil))) pa_nil)))
        (pg_tup rfl (pgs_cons (pg_name (i := 20) scLaw.nd rfl (Or.inr rfl)) (pgs_cons (pg_name (i := 16) scLaw.nd rfl (Or.inr rfl)) pgs_nil))))
    (pss_cons (ps_set (i := 17) scLaw.nd rfl (Or.inr rfl) (pe_callTy call_tuple_of (by rfl) T.tup PyProof.Rows.Boot.«tuple» (pa_cons (pe_lc (own := [("k", 9)]) (g := gName 9) (by rfl) scLaw.nd
        (pi_range1 (by rfl) L.range (pa_cons (pe_op op_add (pv 2) (pe_callTy call_int1 (by rfl) L.int PyProof.Rows.Boot.«int» (pa_cons (pe_cmpR op_eq (pe_call G3 hr7 (by rfl) m3 k3 b3 .nil pass0 (pa_cons (pv 1) (pa_cons pe_int pa_nil))) pe_int (nomark _)) pa_nil))) pa_nil))
        (blkOk_by (N := NL) (sc := defScope sLaw) (by decide +kernel)) (fun _ _ _ _ _ => pg_name (i := 9) scLaw.nd rfl (Or.inl rfl)) (fun _ _ _ _ _ => pts_nil)
        (fun _ _ _ _ _ => pe_call G3 hr7 (by rfl) m3 k3 b3 .nil pass0 (pa_cons (pv 1) (pa_cons pe_int pa_nil)))) pa_nil)))
    (pss_cons (ps_if (pt_cmpR op_lt (pv 20) pe_int (nomark _))
        (pss_cons (ps_set (i := 10) scLaw.nd rfl (Or.inl rfl) (pe_told (k := 5) L.told TB rfl (by rfl) hr7 (LamX.lamS_by (sc := defScope sLaw) (by decide +kernel)) rfl (fun _ _ _ _ _ => rfl)
            (fun A1 o1 s1 H1 E1 f1 c1 hr5 => pe_meth (pv 18) T.cl mW RW hr5 bW .nil (passes_call (takes_of rfl rfl rfl rfl) (fun _ _ _ _ h => h)) (pa_cons (pv 16) (pa_cons (pv 17) pa_nil)))))
        (pss_one (ps_set (i := 11) scLaw.nd rfl (Or.inl rfl) (pe_or (pv 6) (pe_or (pe_cmpR op_ge (pv 16) (pv 21) (nomark _)) (pe_one (pe_cmpR op_ne (pe_callB call_len_seq (by rfl) T.len PySem.boot_len (pa_cons (pv 17) pa_nil)) (pv 2) (nomark _))))))))
        (pss_cons (ps_set (i := 10) scLaw.nd rfl (Or.inl rfl) (pe_told (k := 5) L.told TB rfl (by rfl) hr7 (LamX.lamS_by (sc := defScope sLaw) (by decide +kernel)) rfl (fun _ _ _ _ _ => rfl)
            (fun A1 o1 s1 H1 E1 f1 c1 hr5 => pe_ifExp (pt_cmpR op_lt (pv 20) pe_int (nomark _)) (pe_meth0 (pv 18) T.cl mF RF hr5 bF .nil (passes_call (takes_of rfl rfl rfl rfl) (fun _ _ _ _ h => h)))
              (pe_meth (pv 18) T.cl mR RR hr5 bR .nil (passes_call (takes_of rfl rfl rfl rfl) (fun _ _ _ _ h => h)) (pa_cons (pv 16) pa_nil)))))
        (pss_one (ps_set (i := 11) scLaw.nd rfl (Or.inl rfl) (pe_or (pv 6) (pe_one (pe_and (pe_cmpR op_eq (pv 20) pe_int (nomark _)) (pe_one (pe_cmpR op_ge (pv 16) (pv 21) (nomark _))))))))))
    (pss_cons (ps_if (PW.pt (pw_and (pt_not (pt_val (pv 11))) (pw_and1 (pt_cmpR op_lt (pv 20) pe_int (nomark _)))))
        (pss_cons (ps_set (i := 6) scLaw.nd rfl (Or.inl rfl) (pe_or (pv 6) (pe_one (pe_and (pe_cmpR op_notN (pv 5) pe_non (nomark _)) (pe_one (pe_cmpR op_eq (pv 7) (pv 5) (nomark _)))))))
        (pss_one (ps_par (i := 11) (j := 7) rfl scLaw.nd rfl rfl (by decide) rfl rfl (pa_cons (pv 6) (pa_cons (pe_op op_add (pv 7) (pe_callTy call_int1 (by rfl) L.int PyProof.Rows.Boot.«int» (pa_cons (pe_not (pv 6)) pa_nil))) pa_nil)) rfl))) pss_nil)
    (pss_cons (ps_if (pt_cmpR op_ne (pe_cmpR (op_eqD hr7.units) (pv 10) pe_str (nomark _)) (pv 11) (nomark _)) (pss_one (ps_ret pe_bl)) pss_nil)
    (pss_cons (ps_if (PW.pt (pw_and (pt_not (pt_val (pv 11))) (pw_and1 (pt_cmpR op_lt (pv 20) pe_int (nomark _)))))
        (pss_one (ps_expr (pe_bm PySem.F.plainAttrs_list PySem.F.slot_list_append PySem.F.type_list_append mt_append (pv 4) (pa_cons (pe_tup (pa_cons (pv 16) (pa_cons (pv 17) pa_nil))) pa_nil))))
        (pss_one (ps_if (PW.pt (pw_and (pt_not (pt_val (pv 11))) (pw_and1 (pt_cmpR op_lt (pv 20) pe_int (nomark _)))))
          (pss_cons (ps_set (i := 3) scLaw.nd rfl (Or.inl rfl) (pe_callTy (call_dictP rfl) (by rfl) T.dict PyProof.Rows.Boot.«dict» (pa_cons (pe_op op_cat (LiI.pe_listItems rfl (pv 3) (by rfl) L.list PyProof.Rows.Boot.«list») (pv 4)) pa_nil)))
          (pss_one (ps_set (i := 4) scLaw.nd rfl (Or.inl rfl) (pe_lst pa_nil))))
          (pss_one (ps_if (PW.pt (pw_and (pt_not (pt_val (pv 11))) (pw_and1 (pt_cmpR (op_neD hr7.units) (pv 10)
              (pe_dget2 (hu_of hr7) (pe_callTy (call_dictP rfl) (by rfl) T.dict PyProof.Rows.Boot.«dict» (pa_cons (pe_op op_cat (LiI.pe_listItems rfl (pv 3) (by rfl) L.list PyProof.Rows.Boot.«list») (pv 4)) pa_nil)) (pv 16)
                (pe_op op_repT (pe_tup (pa_cons pe_int pa_nil)) (pv 2)) ⟨rfl, rfl, rfl, rfl⟩) (nomark _))))) (pss_one (ps_ret pe_bl)) pss_nil)))))
    (pss_one (ps_if (PW.pt (pw_or (pt_cmpR op_ne (pe_fld (pv 18) rfl) (pv 6) (nomark _)) (pw_or1 (pt_cmpR op_ne (pe_fld (pv 18) rfl) (pv 7) (nomark _))))) (pss_one (ps_ret pe_bl)) pss_nil))))))), ?_⟩
  intro R dx B a D p h tot fuse h1 h4 t1 t20 hf Dn i σ H hi hW k
  obtain ⟨dead, steps, Kp, Lw, W, dc, kvs, es, es2, u8, u9, u10, u11, u12, u13, u14, u15, u16, u17, u19, u20, rfl, W0, eqw, nd, cnt⟩ := hW
  -- sort, number
  have r1 := roll_range dc (m := 8) (by decide)
  refine ⟨_, rfl, D, dc, 8, rfl, W0.dice, by decide, by decide, ?_⟩
  have W1 := W0.roll (roll dc 8).2
  generalize (roll dc 8).1 = sort at r1 ⊢
  generalize (roll dc 8).2 = dc1 at W1 ⊢
  generalize upd H D (.lst dc1.vs) = H1 at W1 ⊢
  have r2 := roll_range dc1 (m := tot + 1) (by omega)
  refine ⟨_, rfl, _, rfl, _, _, rfl, rfl, D, dc1, tot + 1, rfl, W1.dice, by omega, by omega, by show 2 ≤ sizeLine; decide, fun t nt => ?_⟩
  have W2 := (W1.roll (roll dc1 (tot + 1)).2).new (o := .tup [.int sort, .int (roll dc1 (tot + 1)).1]) nt
  refine ⟨t, _, rfl, SqT.of upd_same, rfl, _, _, rfl, _, _, rfl, rfl, ?_⟩
  generalize (roll dc1 (tot + 1)).1 = n at r2 W2 ⊢
  generalize (roll dc1 (tot + 1)).2 = dc2 at W2 ⊢
  generalize upd (upd H1 D (.lst dc2.vs)) t (.tup [.int sort, .int n]) = H2 at W2 ⊢
  -- data
  dsimp only [tNext]
  refine tSeq_mk (tAsg_mk (tCB_mk (tCons_mk ?_)))
  have r3 := roll_range dc2 (m := 12) (by decide)
  refine ⟨_, rfl, _, rfl, D, dc2, 12, rfl, W2.dice, by decide, by decide, rfl, .inr ⟨_, rfl, _, _, rfl, rfl, _, rfl, ?_, ?_, fun M nM => ?_⟩⟩
  · split <;> omega
  · split <;> omega
  have W3 := W2.roll (roll dc2 12).2
  have hb : ∀ b : Bool, (((2 * h : Nat) : Int) + (if b = true then 1 else 0)).toNat ≤ 9 := fun b => by cases b <;> simp <;> omega
  generalize (roll dc2 12).2 = dc3 at W3 nM ⊢
  generalize upd H2 D (.lst dc3.vs) = H3 at W3 nM ⊢
  have nMD : M ≠ D := (ne_of_none W3.dice nM).symm
  refine lc_range (lo := 0) (n := _) (fun i H' => ∃ (xs : List Int) (dc' : Dice), xs.length = i ∧ H' M = some (.lst (xs.map V.int)) ∧ Wst C R D PT p dx B W Kp Lw h ⟨((2 * h : Nat) : Int), tot, left fuse steps, dead, steps⟩ dc' kvs kvs es es2 H' ∧ M ≠ D ∧ M ≠ R ∧ M ≠ p ∧ M ≠ B ∧ M ≠ Kp ∧ M ≠ W ∧ M ≠ Lw)
    ⟨[], dc3, rfl, upd_same, W3.new nM, nMD, (ne_of_none W3.row nM).symm, (ne_of_none W3.dev nM).symm, (ne_of_none W3.blk nM).symm, (ne_of_none W3.kep nM).symm, (ne_of_none W3.w1.lst nM).symm, (ne_of_none W3.w2.lst nM).symm⟩ (fun i H' hi q => ?_) (fun H' q => ?_)
  · obtain ⟨xs, dc', e, hM, W', nn⟩ := q
    have hi9 : i < 9 := Nat.lt_of_lt_of_le hi (hb _)
    refine ⟨rfl, _, rfl, D, dc', 256, rfl, W'.dice, by decide, by decide, _, by rw [upd_ne nn.1]; exact hM, by rw [List.length_map, e]; exact small1000 (by omega), xs ++ [(roll dc' 256).1], (roll dc' 256).2, by rw [List.length_append, e]; rfl, by rw [upd_same, List.map_append]; rfl, ?_, nn⟩
    refine (W'.roll (roll dc' 256).2).off (l := [M]) (Off.upd (Off.refl _ _) (by simp)) (fun b hb => ?_) (fun b hb => ?_)
    · rw [List.mem_singleton.mp hb, upd_ne nn.1, hM]
      exact Soft.lst
    · rw [List.mem_singleton.mp hb]
      exact nn
  · obtain ⟨xs, dc4, exl, hM, W4, nn⟩ := q
    refine ⟨_, _, rfl, .inl ⟨SqL.of hM, fun t nt2 => ?_⟩⟩
    have W5 := W4.new (o := .tup (xs.map V.int)) nt2
    have ht : (upd H' t (.tup (xs.map V.int))) t = some (tupI xs) := upd_same
    generalize upd H' t (.tup (xs.map V.int)) = H5 at W5 ht ⊢
    clear exl W4 W3 W2 W1 W0 hM nM nn nMD nt nt2
    have len1000 : es.length ≤ 1000 := by omega
    have nf := left_nf hf steps
    refine ⟨_, rfl, _, _, rfl, rfl, _, rfl, ite2 (fun c1 => ?_) (fun c1 => ?_)⟩
    · have s5 : sort < 5 := of_decide_eq_true c1
      refine ⟨W5.tabs, fun H6 e6 t6 => ?_⟩
      have W6 := W5.ext e6 t6
      have ht6 : H6 t = some (tupI xs) := e6 _ _ ht (fun ps z => by cases z)
      refine ⟨_, rfl, p, dx, _, rfl, W6.dev, rfl, _, rfl, _, rfl, p, dx, _, B, W, n, t, xs.map V.int, es, rfl, W6.dev, SqT.of ht6, W6.w1, len1000, nf, fun c2 => ?bad, fun c2 => ?dead, fun c2 c3 c4 => ?hit, fun c2 c3 c4 z H7 nz o7 h71 h72 h73 => ?ok⟩
      case dead =>
        have c2 : dead = true := c2
        subst c2
        refine ⟨true, lexm, fun _ => ?_, fun z => Bool.noConfusion z⟩
        refine ⟨_, rfl, _, rfl, iteT ?_⟩
        refine ⟨_, rfl, _, rfl, iteF (iteF ?_)⟩
        refine ⟨_, rfl, tC_mk ?_⟩
        refine eqd_str dev_ok ⟨_, rfl, rfl, _, rfl, iteNS rfl ?_⟩
        refine ⟨_, rfl, _, rfl, iteF (iteF ⟨_, rfl, _, rfl, iteF (iteF ⟨_, rfl, _, rfl, iteF (iteF ?_)⟩)⟩)⟩
        refine ⟨_, rfl, p, C, dx, _, _, rfl, W6.dev, T.cl, T.n6, rfl, _, rfl, rfl, _, rfl, iteNS rfl ⟨_, rfl, p, C, dx, _, _, rfl, W6.dev, T.cl, T.n7, rfl, _, rfl, rfl, _, rfl, iteNS rfl ?_⟩⟩
        exact k _ _ ⟨true, steps, Kp, Lw, W, _, kvs, es, es2, _, _, _, _, _, _, _, _, _, _, _, _, rfl, W6, eqw, nd, by omega⟩
      case bad =>
        refine ⟨true, lexm, fun _ => ?_, fun z => Bool.noConfusion z⟩
        refine ⟨_, rfl, _, rfl, ite2 (fun c5 => ?_) (fun c5 => ⟨_, rfl, _, rfl, _, _, rfl, rfl, _, rfl, ite2 (fun c6 => ?_) (fun c6 => ⟨_, rfl, t, xs.map V.int, rfl, .inr (SqT.of ht6), _, rfl, rfl, ?_⟩)⟩)⟩
        rotate_left 2
        · have en : ¬ (V.int (((xs.map V.int).length : Nat) : Int) = V.int ((2 * h : Nat) : Int)) := fun z => by
            injection z with z
            simp only [ge_iff_le, decide_eq_true_eq] at c6
            exact c2 ⟨z, r2.1, (show n < tot by omega)⟩
          rw [show decide (V.int (((xs.map V.int).length : Nat) : Int) = V.int ((2 * h : Nat) : Int)) = false from decide_eq_false en]
          refine ⟨_, rfl, _, rfl, iteF (iteF ?_)⟩
          refine ⟨_, rfl, tC_mk ?_⟩
          refine eqd_str dev_ok ⟨_, rfl, rfl, _, rfl, iteNS rfl ?_⟩
          refine ⟨_, rfl, _, rfl, iteF (iteF ⟨_, rfl, _, rfl, iteF (iteF ⟨_, rfl, _, rfl, iteF (iteF ?_)⟩)⟩)⟩
          refine ⟨_, rfl, p, C, dx, _, _, rfl, W6.dev, T.cl, T.n6, rfl, _, rfl, rfl, _, rfl, iteNS rfl ⟨_, rfl, p, C, dx, _, _, rfl, W6.dev, T.cl, T.n7, rfl, _, rfl, rfl, _, rfl, iteNS rfl ?_⟩⟩
          exact k _ _ ⟨dead, steps, Kp, Lw, W, _, kvs, es, es2, _, _, _, _, _, _, _, _, _, _, _, _, rfl, W6, eqw, nd, by omega⟩
        all_goals
          refine ⟨_, rfl, _, rfl, iteF (iteF ?_)⟩
          refine ⟨_, rfl, tC_mk ?_⟩
          refine eqd_str dev_ok ⟨_, rfl, rfl, _, rfl, iteNS rfl ?_⟩
          refine ⟨_, rfl, _, rfl, iteF (iteF ⟨_, rfl, _, rfl, iteF (iteF ⟨_, rfl, _, rfl, iteF (iteF ?_)⟩)⟩)⟩
          refine ⟨_, rfl, p, C, dx, _, _, rfl, W6.dev, T.cl, T.n6, rfl, _, rfl, rfl, _, rfl, iteNS rfl ⟨_, rfl, p, C, dx, _, _, rfl, W6.dev, T.cl, T.n7, rfl, _, rfl, rfl, _, rfl, iteNS rfl ?_⟩⟩
          exact k _ _ ⟨dead, steps, Kp, Lw, W, _, kvs, es, es2, _, _, _, _, _, _, _, _, _, _, _, _, rfl, W6, eqw, nd, by omega⟩
      case hit =>
        have c3 : dead = false := c3
        subst c3
        have c4 : left fuse steps = .int 0 := c4
        rcases hf with rfl | ⟨n0, rfl⟩
        · cases c4
        have en : n0 = steps := by
          unfold left at c4
          injection c4 with c4
          omega
        subst en
        refine ⟨true, lexm, fun _ => ?_, fun z => Bool.noConfusion z⟩
        have W7 := W6.dead ⟨((2 * h : Nat) : Int), tot, left (.int n0) n0, true, n0⟩
        have ht7 : (upd H6 p (.ins C dx (fsD ⟨((2 * h : Nat) : Int), tot, left (.int n0) n0, true, n0⟩ B W))) t = some (tupI xs) := by
          rw [upd_ne (ne_of ht6 W6.dev (by intro z; unfold tupI at z; cases z))]
          exact ht6
        refine ⟨_, rfl, _, rfl, iteF ⟨_, rfl, _, rfl, _, _, rfl, rfl, _, rfl, iteDN (fun z => absurd c2.2.2 (by show ¬ n < tot; omega)) ⟨_, rfl, t, xs.map V.int, rfl, .inr (SqT.of ht7), _, rfl, rfl, ?_⟩⟩⟩
        rw [show decide (V.int (((xs.map V.int).length : Nat) : Int) = V.int ((2 * h : Nat) : Int)) = true from decide_eq_true (congrArg V.int c2.1)]
        refine ⟨_, rfl, _, rfl, iteT ⟨_, rfl, _, _, rfl, rfl, _, rfl, iteD (by omega) ?_⟩⟩
        refine ⟨_, rfl, _, rfl, iteF ⟨_, rfl, rfl, _, rfl, iteT ⟨_, rfl, _, rfl, rfl, ?_⟩⟩⟩
        rw [show decide (V.int n0 = V.int n0) = true from decide_eq_true rfl]
        refine ⟨_, rfl, _, rfl, _, rfl, _, rfl, .inr ⟨_, rfl, n0, 0, rfl, rfl, _, _, rfl, ?_⟩⟩
        refine ⟨_, rfl, tC_mk ?_⟩
        refine eqd_str dev_ok ⟨_, rfl, rfl, _, rfl, iteNS rfl ?_⟩
        refine ⟨_, rfl, _, rfl, iteF (iteF ⟨_, rfl, _, rfl, iteF (iteF ⟨_, rfl, _, rfl, iteF (iteF ?_)⟩)⟩)⟩
        have Wz := Wst.add0 W7
        refine ⟨_, rfl, p, C, dx, _, _, rfl, Wz.dev, T.cl, T.n6, rfl, _, rfl, rfl, _, rfl, iteNS rfl ⟨_, rfl, p, C, dx, _, _, rfl, Wz.dev, T.cl, T.n7, rfl, _, rfl, rfl, _, rfl, iteNS rfl ?_⟩⟩
        exact k _ _ ⟨true, n0 + 0, Kp, Lw, W, _, kvs, es, es2, _, _, _, _, _, _, _, _, _, _, _, _, rfl, Wz, eqw, nd, by omega⟩
      case ok =>
        have c3 : dead = false := c3
        subst c3
        have c4 : left fuse steps ≠ .int 0 := c4
        rw [stepped_left] at h71
        have hxl : xs.length = 2 * h := by
          have z := c2.1
          rw [List.length_map] at z
          exact Int.ofNat_inj.mp z
        have W7 := W6.write ht6 hxl nz o7 h71 h72 h73
        obtain ⟨ys, hy, hyl⟩ := W7.eok (z, n, t) (by simp)
        refine ⟨_, rfl, _, rfl, iteF ⟨_, rfl, _, rfl, _, _, rfl, rfl, _, rfl, iteDN (fun z => absurd c2.2.2 (by show ¬ n < tot; omega)) ⟨_, rfl, t, ys.map V.int, rfl, .inr (SqT.of hy), _, rfl, rfl, ?_⟩⟩⟩
        rw [show decide (V.int (((ys.map V.int).length : Nat) : Int) = V.int ((2 * h : Nat) : Int)) = true from decide_eq_true (by rw [List.length_map, hyl])]
        refine ⟨_, rfl, _, rfl, iteT ⟨_, rfl, _, _, rfl, rfl, _, rfl, iteD (by omega) ⟨_, rfl, _, rfl, iteF ⟨_, rfl, rfl, _, rfl, ?_⟩⟩⟩⟩
        have hl2 : es2.length = es.length := by simpa using congrArg List.length eqw
        have ef : ∀ b : Bool, (fuse = .non → b = false) → True := fun _ _ => trivial
        rcases hf with rfl | ⟨n0, rfl⟩
        · refine iteF ?_
          refine ⟨_, rfl, _, rfl, _, rfl, _, rfl, .inr ⟨_, rfl, steps, 1, rfl, rfl, _, _, rfl, ?_⟩⟩
          refine ⟨_, rfl, tC_mk ?_⟩
          refine eqd_non dev_ok ⟨_, rfl, rfl, _, rfl, iteNS rfl ?_⟩
          refine ⟨_, rfl, _, rfl, iteT ⟨_, rfl, _, _, rfl, rfl, _, rfl, iteD s5 ⟨_, rfl, .inl ⟨rfl, _, SqL.of W7.w2.lst⟩, _, rfl, _, rfl, by show 2 ≤ sizeLine; decide, fun z2 nz2 => ?_⟩⟩⟩
          have W8 := W7.new (o := .tup [.int n, .ref t]) nz2
          have W9 := W8.note (e := (z2, n, t)) upd_same
          refine ⟨Lw, _, _, rfl, rfl, W8.w2.lst, by rw [List.length_map]; exact small1000 (by omega), ?_⟩
          refine ⟨_, rfl, p, C, dx, _, _, rfl, W9.dev, T.cl, T.n6, rfl, _, rfl, rfl, _, rfl, iteNS rfl ⟨_, rfl, p, C, dx, _, _, rfl, W9.dev, T.cl, T.n7, rfl, _, rfl, rfl, _, rfl, iteNS rfl ?_⟩⟩
          exact k _ _ ⟨false, steps + 1, Kp, Lw, W, _, kvs, _, _, _, _, _, _, _, _, _, _, _, _, _, _, rfl, W9, by rw [List.map_append, List.map_append, eqw]; rfl, nd, by rw [List.length_append]; show kvs.length + (es.length + 1) ≤ i + 1; omega⟩
        · have en : ¬ (V.int steps = V.int n0) := fun z => c4 (by unfold left; injection z with z; rw [z]; simp)
          refine iteT ⟨_, rfl, _, rfl, rfl, ?_⟩
          rw [show decide (V.int steps = V.int n0) = false from decide_eq_false en]
          refine ⟨_, rfl, _, rfl, _, rfl, _, rfl, .inr ⟨_, rfl, steps, 1, rfl, rfl, _, _, rfl, ?_⟩⟩
          refine ⟨_, rfl, tC_mk ?_⟩
          refine eqd_non dev_ok ⟨_, rfl, rfl, _, rfl, iteNS rfl ?_⟩
          refine ⟨_, rfl, _, rfl, iteT ⟨_, rfl, _, _, rfl, rfl, _, rfl, iteD s5 ⟨_, rfl, .inl ⟨rfl, _, SqL.of W7.w2.lst⟩, _, rfl, _, rfl, by show 2 ≤ sizeLine; decide, fun z2 nz2 => ?_⟩⟩⟩
          have W8 := W7.new (o := .tup [.int n, .ref t]) nz2
          have W9 := W8.note (e := (z2, n, t)) upd_same
          refine ⟨Lw, _, _, rfl, rfl, W8.w2.lst, by rw [List.length_map]; exact small1000 (by omega), ?_⟩
          refine ⟨_, rfl, p, C, dx, _, _, rfl, W9.dev, T.cl, T.n6, rfl, _, rfl, rfl, _, rfl, iteNS rfl ⟨_, rfl, p, C, dx, _, _, rfl, W9.dev, T.cl, T.n7, rfl, _, rfl, rfl, _, rfl, iteNS rfl ?_⟩⟩
          exact k _ _ ⟨false, steps + 1, Kp, Lw, W, _, kvs, _, _, _, _, _, _, _, _, _, _, _, _, _, _, rfl, W9, by rw [List.map_append, List.map_append, eqw]; rfl, nd, by rw [List.length_append]; show kvs.length + (es.length + 1) ≤ i + 1; omega⟩
    · have s5 : ¬ sort < 5 := fun z => c1 (decide_eq_true z)
      refine ⟨W5.tabs, fun H6 e6 t6 => ?_⟩
      have W6 := W5.ext e6 t6
      refine ⟨_, rfl, _, _, rfl, rfl, _, rfl, ite2 (fun c2 => ?_) (fun c2 => ?_)⟩
      · have s7 : sort < 7 := of_decide_eq_true c2
        have n7 : ¬ (V.int sort = V.int 7) := fun z => by injection z with z; omega
        refine ⟨_, rfl, p, dx, _, rfl, W6.dev, rfl, p, dx, _, B, W, kvs, es, rfl, W6.dev, W6.blk, W6.w1, by omega, len1000, nf, fun c3 => ?fdead, fun c3 c4 => ?fhit, fun c3 c4 L7 H7 nL o7 h71 h72 h73 => ?fok⟩
        case fdead =>
          have c3 : dead = true := c3
          subst c3
          refine ⟨true, lexm, fun _ => ?_, fun z => Bool.noConfusion z⟩
          refine ⟨_, rfl, _, rfl, iteT ?_⟩
          refine ⟨_, rfl, _, rfl, iteF (iteF ?_)⟩
          refine ⟨_, rfl, tC_mk ?_⟩
          refine eqd_str dev_ok ⟨_, rfl, rfl, _, rfl, iteNS rfl ?_⟩
          refine ⟨_, rfl, _, rfl, iteF (iteF ⟨_, rfl, _, rfl, iteF (iteF ⟨_, rfl, _, rfl, iteF (iteF ?_)⟩)⟩)⟩
          refine ⟨_, rfl, p, C, dx, _, _, rfl, W6.dev, T.cl, T.n6, rfl, _, rfl, rfl, _, rfl, iteNS rfl ⟨_, rfl, p, C, dx, _, _, rfl, W6.dev, T.cl, T.n7, rfl, _, rfl, rfl, _, rfl, iteNS rfl ?_⟩⟩
          exact k _ _ ⟨true, steps, Kp, Lw, W, _, kvs, es, es2, _, _, _, _, _, _, _, _, _, _, _, _, rfl, W6, eqw, nd, by omega⟩
        case fhit =>
          have c3 : dead = false := c3
          subst c3
          have c4 : left fuse steps = .int 0 := c4
          rcases hf with rfl | ⟨n0, rfl⟩
          · cases c4
          have en : n0 = steps := by
            unfold left at c4
            injection c4 with c4
            omega
          subst en
          refine ⟨true, lexm, fun _ => ?_, fun z => Bool.noConfusion z⟩
          have W7 := W6.dead ⟨((2 * h : Nat) : Int), tot, left (.int n0) n0, true, n0⟩
          refine ⟨_, rfl, _, rfl, iteF ⟨_, rfl, rfl, _, rfl, iteDN n7 ?_⟩⟩
          refine ⟨_, rfl, _, rfl, iteT ⟨_, rfl, _, _, rfl, rfl, _, rfl, iteD (by omega) ?_⟩⟩
          refine ⟨_, rfl, _, rfl, iteF ⟨_, rfl, rfl, _, rfl, iteT ⟨_, rfl, _, rfl, rfl, ?_⟩⟩⟩
          rw [show decide (V.int n0 = V.int n0) = true from decide_eq_true rfl]
          refine ⟨_, rfl, _, rfl, _, rfl, _, rfl, .inr ⟨_, rfl, n0, 0, rfl, rfl, _, _, rfl, ?_⟩⟩
          refine ⟨_, rfl, tC_mk ?_⟩
          refine eqd_str dev_ok ⟨_, rfl, rfl, _, rfl, iteNS rfl ?_⟩
          refine ⟨_, rfl, _, rfl, iteF (iteF ⟨_, rfl, _, rfl, iteF (iteF ⟨_, rfl, _, rfl, iteF (iteF ?_)⟩)⟩)⟩
          have Wz := Wst.add0 W7
          refine ⟨_, rfl, p, C, dx, _, _, rfl, Wz.dev, T.cl, T.n6, rfl, _, rfl, rfl, _, rfl, iteNS rfl ⟨_, rfl, p, C, dx, _, _, rfl, Wz.dev, T.cl, T.n7, rfl, _, rfl, rfl, _, rfl, iteNS rfl ?_⟩⟩
          exact k _ _ ⟨true, n0 + 0, Kp, Lw, W, _, kvs, es, es2, _, _, _, _, _, _, _, _, _, _, _, _, rfl, Wz, eqw, nd, by omega⟩
        case fok =>
          have c3 : dead = false := c3
          subst c3
          have c4 : left fuse steps ≠ .int 0 := c4
          rw [stepped_left] at h71
          have W7 := W6.flush nL o7 h71 h72 h73
          have hl2 : es2.length = es.length := by simpa using congrArg List.length eqw
          refine ⟨_, rfl, _, rfl, iteF ⟨_, rfl, rfl, _, rfl, iteDN n7 ?_⟩⟩
          refine ⟨_, rfl, _, rfl, iteT ⟨_, rfl, _, _, rfl, rfl, _, rfl, iteD s7 ⟨_, rfl, _, rfl, iteF ⟨_, rfl, rfl, _, rfl, ?_⟩⟩⟩⟩
          rcases hf with rfl | ⟨n0, rfl⟩
          · refine iteF ?_
            refine ⟨_, rfl, _, rfl, _, rfl, _, rfl, .inr ⟨_, rfl, steps, 1, rfl, rfl, _, _, rfl, ?_⟩⟩
            refine ⟨_, rfl, tC_mk ?_⟩
            refine eqd_non dev_ok ⟨_, rfl, rfl, _, rfl, iteNS rfl ?_⟩
            refine ⟨_, rfl, _, rfl, iteT ⟨_, rfl, _, _, rfl, rfl, _, rfl, iteDN s5 ⟨_, rfl, _, rfl, iteT ⟨_, rfl, _, _, rfl, rfl, _, rfl, iteD s7 ?_⟩⟩⟩⟩
            refine ⟨_, rfl, Kp, kvs, rfl, W7.kep, fun H8 q ts s8 nq nts nin hq pd => ⟨_, rfl, q, Lw, ts.map V.ref, es2.map (fun e => V.ref e.1), rfl, rfl, hq, s8 _ _ W7.w2.lst, by rw [List.length_map, List.length_map, sizeLine_eq]; have := pd.length; omega, fun r nr => ⟨r, ts ++ es2.map (·.1), kvs ++ toKV es2, rfl, SqL.of (by rw [upd_same, List.map_append, List.map_map]; rfl), paired_app (pd.mono fun a b z => SqT.of (same_upd nr _ _ z)) (pairedE es2 fun e he => same_upd nr _ _ (s8 _ _ (W7.w2.tup e he))), fun m nm => ?_⟩⟩⟩
            refine ⟨by show 0 ≤ sizeLine; decide, fun l nl => ?_⟩
            rw [merge_all kvs _ nd, toKV_eq eqw] at nl ⊢
            have s9 : Same H7 _ := (Same.trans s8 (same_upd (o := .lst (ts.map V.ref ++ es2.map fun e => V.ref e.1)) nr)).trans (same_upd (o := .dK (mergeK kvs (toKV es))) nm)
            have W9 := W7.anew (Kp' := m) (Lw' := l) (s9.trans (same_upd (o := .lst []) nl)) ((Same.trans s8 (same_upd nr)).free nm) (s9.free nl) (by rw [upd_ne (ne_of_none upd_same nl), upd_same]) upd_same
            refine ⟨_, rfl, p, C, dx, _, _, rfl, W9.dev, T.cl, T.n6, rfl, _, rfl, rfl, _, rfl, iteNS rfl ⟨_, rfl, p, C, dx, _, _, rfl, W9.dev, T.cl, T.n7, rfl, _, rfl, rfl, _, rfl, iteNS rfl ?_⟩⟩
            exact k _ _ ⟨false, steps + 1, m, l, _, _, _, _, _, _, _, _, _, _, _, _, _, _, _, _, _, rfl, W9, rfl, keys_merge _ _ nd, by have := length_mergeK (toKV es) kvs; rw [toKV_len] at this; show (mergeK kvs (toKV es)).length + 0 ≤ i + 1; omega⟩
          · have en : ¬ (V.int steps = V.int n0) := fun z => c4 (by unfold left; injection z with z; rw [z]; simp)
            refine iteT ⟨_, rfl, _, rfl, rfl, ?_⟩
            rw [show decide (V.int steps = V.int n0) = false from decide_eq_false en]
            refine ⟨_, rfl, _, rfl, _, rfl, _, rfl, .inr ⟨_, rfl, steps, 1, rfl, rfl, _, _, rfl, ?_⟩⟩
            refine ⟨_, rfl, tC_mk ?_⟩
            refine eqd_non dev_ok ⟨_, rfl, rfl, _, rfl, iteNS rfl ?_⟩
            refine ⟨_, rfl, _, rfl, iteT ⟨_, rfl, _, _, rfl, rfl, _, rfl, iteDN s5 ⟨_, rfl, _, rfl, iteT ⟨_, rfl, _, _, rfl, rfl, _, rfl, iteD s7 ?_⟩⟩⟩⟩
            refine ⟨_, rfl, Kp, kvs, rfl, W7.kep, fun H8 q ts s8 nq nts nin hq pd => ⟨_, rfl, q, Lw, ts.map V.ref, es2.map (fun e => V.ref e.1), rfl, rfl, hq, s8 _ _ W7.w2.lst, by rw [List.length_map, List.length_map, sizeLine_eq]; have := pd.length; omega, fun r nr => ⟨r, ts ++ es2.map (·.1), kvs ++ toKV es2, rfl, SqL.of (by rw [upd_same, List.map_append, List.map_map]; rfl), paired_app (pd.mono fun a b z => SqT.of (same_upd nr _ _ z)) (pairedE es2 fun e he => same_upd nr _ _ (s8 _ _ (W7.w2.tup e he))), fun m nm => ?_⟩⟩⟩
            refine ⟨by show 0 ≤ sizeLine; decide, fun l nl => ?_⟩
            rw [merge_all kvs _ nd, toKV_eq eqw] at nl ⊢
            have s9 : Same H7 _ := (Same.trans s8 (same_upd (o := .lst (ts.map V.ref ++ es2.map fun e => V.ref e.1)) nr)).trans (same_upd (o := .dK (mergeK kvs (toKV es))) nm)
            have W9 := W7.anew (Kp' := m) (Lw' := l) (s9.trans (same_upd (o := .lst []) nl)) ((Same.trans s8 (same_upd nr)).free nm) (s9.free nl) (by rw [upd_ne (ne_of_none upd_same nl), upd_same]) upd_same
            refine ⟨_, rfl, p, C, dx, _, _, rfl, W9.dev, T.cl, T.n6, rfl, _, rfl, rfl, _, rfl, iteNS rfl ⟨_, rfl, p, C, dx, _, _, rfl, W9.dev, T.cl, T.n7, rfl, _, rfl, rfl, _, rfl, iteNS rfl ?_⟩⟩
            exact k _ _ ⟨false, steps + 1, m, l, _, _, _, _, _, _, _, _, _, _, _, _, _, _, _, _, _, rfl, W9, rfl, keys_merge _ _ nd, by have := length_mergeK (toKV es) kvs; rw [toKV_len] at this; show (mergeK kvs (toKV es)).length + 0 ≤ i + 1; omega⟩
      · have s7 : ¬ sort < 7 := fun z => c2 (decide_eq_true z)
        have s7e : sort = 7 := by omega
        have hl2 : es2.length = es.length := by simpa using congrArg List.length eqw
        refine ⟨_, rfl, p, dx, _, rfl, W6.dev, rfl, _, rfl, p, dx, _, B, W, n, kvs, es, rfl, W6.dev, W6.blk, W6.w1, (by show 2 ≤ ((2 * h : Nat) : Int); omega), (by show ((2 * h : Nat) : Int) ≤ 1000; omega), fun c3 => ?rdead, fun c3 => ?rbad, fun c3 c4 => ⟨fun t' hlast => ?rlast, fun hlast H7 z s67 nz hz => ?rkept⟩⟩
        case rdead =>
          have c3 : dead = true := c3
          subst c3
          refine ⟨true, lexm, fun _ => ?_, fun z => Bool.noConfusion z⟩
          refine ⟨_, rfl, _, rfl, iteT ?_⟩
          refine ⟨_, rfl, _, rfl, iteF (iteF ?_)⟩
          refine ⟨_, rfl, tC_mk ?_⟩
          refine eqd_str dev_ok ⟨_, rfl, rfl, _, rfl, iteNS rfl ?_⟩
          refine ⟨_, rfl, _, rfl, iteF (iteF ⟨_, rfl, _, rfl, iteF (iteF ⟨_, rfl, _, rfl, iteF (iteF ?_)⟩)⟩)⟩
          refine ⟨_, rfl, p, C, dx, _, _, rfl, W6.dev, T.cl, T.n6, rfl, _, rfl, rfl, _, rfl, iteNS rfl ⟨_, rfl, p, C, dx, _, _, rfl, W6.dev, T.cl, T.n7, rfl, _, rfl, rfl, _, rfl, iteNS rfl ?_⟩⟩
          exact k _ _ ⟨true, steps, Kp, Lw, W, _, kvs, es, es2, _, _, _, _, _, _, _, _, _, _, _, _, rfl, W6, eqw, nd, by omega⟩
        case rbad =>
          refine ⟨true, lexm, fun _ => ?_, fun z => Bool.noConfusion z⟩
          refine ⟨_, rfl, _, rfl, ite2 (fun c5 => ?_) (fun c5 => ⟨_, rfl, rfl, _, rfl, iteD (by rw [s7e]) ⟨_, rfl, _, rfl, ge_read true (decide_eq_true (by have z : ¬ (0 ≤ n ∧ n < tot) := c3; omega)) ?_⟩⟩)⟩
          rotate_left 1
          · skip
            refine ⟨_, rfl, _, rfl, iteF (iteF ?_)⟩
            refine ⟨_, rfl, tC_mk ?_⟩
            refine eqd_str dev_ok ⟨_, rfl, rfl, _, rfl, iteNS rfl ?_⟩
            refine ⟨_, rfl, _, rfl, iteF (iteF ⟨_, rfl, _, rfl, iteF (iteF ⟨_, rfl, _, rfl, iteF (iteF ?_)⟩)⟩)⟩
            refine ⟨_, rfl, p, C, dx, _, _, rfl, W6.dev, T.cl, T.n6, rfl, _, rfl, rfl, _, rfl, iteNS rfl ⟨_, rfl, p, C, dx, _, _, rfl, W6.dev, T.cl, T.n7, rfl, _, rfl, rfl, _, rfl, iteNS rfl ?_⟩⟩
            exact k _ _ ⟨dead, steps, Kp, Lw, W, _, kvs, es, es2, _, _, _, _, _, _, _, _, _, _, _, _, rfl, W6, eqw, nd, by omega⟩
          · skip
            refine ⟨_, rfl, _, rfl, iteF (iteF ?_)⟩
            refine ⟨_, rfl, tC_mk ?_⟩
            refine eqd_str dev_ok ⟨_, rfl, rfl, _, rfl, iteNS rfl ?_⟩
            refine ⟨_, rfl, _, rfl, iteF (iteF ⟨_, rfl, _, rfl, iteF (iteF ⟨_, rfl, _, rfl, iteF (iteF ?_)⟩)⟩)⟩
            refine ⟨_, rfl, p, C, dx, _, _, rfl, W6.dev, T.cl, T.n6, rfl, _, rfl, rfl, _, rfl, iteNS rfl ⟨_, rfl, p, C, dx, _, _, rfl, W6.dev, T.cl, T.n7, rfl, _, rfl, rfl, _, rfl, iteNS rfl ?_⟩⟩
            exact k _ _ ⟨dead, steps, Kp, Lw, W, _, kvs, es, es2, _, _, _, _, _, _, _, _, _, _, _, _, rfl, W6, eqw, nd, by omega⟩
        case rlast =>
          have c3 : dead = false := c3
          subst c3
          have c4 : 0 ≤ n ∧ n < tot := c4
          have hq : ∃ y ∈ es, y.2.2 = t' := by
            unfold lastOf at hlast
            obtain ⟨y, hy, hyt⟩ := Option.map_eq_some_iff.mp hlast
            exact ⟨y, List.mem_reverse.mp (List.mem_of_find?_eq_some hy), hyt⟩
          obtain ⟨y, hym, hyt⟩ := hq
          obtain ⟨ys, hr, hyl⟩ := W6.eok y hym
          rw [hyt] at hr
          have key : ∀ z2 H9, Same H6 H9 → H9 z2 = some (.tup (zeros ((2 * h : Nat) : Int))) → ∃ r2, (valV (mergeK kvs (toKV es)) (.inl n)).getD (.ref z2) = .ref r2 ∧ H9 r2 = some (tupI ys) := fun z2 H9 sm _ => by
            rw [val_merge kvs n _ es rfl, hlast]
            exact ⟨t', rfl, sm _ _ hr⟩
          refine ⟨_, rfl, _, rfl, iteF ⟨_, rfl, rfl, _, rfl, iteD (by rw [s7e]) ⟨_, rfl, _, rfl, ge_read false (decide_eq_false (by omega)) ?_⟩⟩⟩
          refine ⟨_, rfl, _, rfl, iteT ⟨_, rfl, _, _, rfl, rfl, _, rfl, iteDN s7 ?_⟩⟩
          refine ⟨_, rfl, tC_mk ?_⟩
          refine eqd_tup dev_ok hr ⟨_, rfl, rfl, _, rfl, iteNS rfl ?_⟩
          refine ⟨_, rfl, _, rfl, iteT ⟨_, rfl, _, _, rfl, rfl, _, rfl, iteDN s5 ⟨_, rfl, _, rfl, iteT ⟨_, rfl, _, _, rfl, rfl, _, rfl, iteDN s7 ⟨_, rfl, _, rfl, iteT ⟨_, rfl, ?_⟩⟩⟩⟩⟩⟩
          refine ⟨_, rfl, Kp, kvs, rfl, W6.kep, fun H8 q ts s8 nq nts nin hq pd => ⟨_, rfl, q, Lw, ts.map V.ref, es2.map (fun e => V.ref e.1), rfl, rfl, hq, s8 _ _ W6.w2.lst, by rw [List.length_map, List.length_map, sizeLine_eq]; have := pd.length; omega, fun r nr => ⟨r, ts ++ es2.map (·.1), kvs ++ toKV es2, rfl, SqL.of (by rw [upd_same, List.map_append, List.map_map]; rfl), paired_app (pd.mono fun a b z => SqT.of (same_upd nr _ _ z)) (pairedE es2 fun e he => same_upd nr _ _ (s8 _ _ (W6.w2.tup e he))), fun m nm => ?_⟩⟩⟩
          refine ⟨m, rfl, .inl ⟨_, .inl upd_same⟩, _, rfl, by show 1 ≤ sizeLine; decide, fun t1 nt1 => ⟨_, rfl, t1, _, [.int 0], rfl, rfl, SqT.of upd_same, (fun z => by cases z), by omega, by omega, by decide, fun z2 nz2 => ?_⟩⟩
          have s9 : Same H6 _ := (((Same.trans s8 (same_upd (o := .lst (ts.map V.ref ++ es2.map fun e => V.ref e.1)) nr)).trans (same_upd (o := .dK (mergeK [] (kvs ++ toKV es2))) nm)).trans (same_upd (o := .tup [.int 0]) nt1)).trans (same_upd (o := .tup (List.replicate (((2 * h : Nat) : Int)).toNat [V.int 0]).flatten) nz2)
          refine ⟨_, DGet.k (k := Sum.inl n) (by rw [upd_ne (ne_of_none (same_upd nt1 _ _ upd_same) nz2), upd_ne (ne_of_none upd_same nt1), upd_same]), ?_⟩
          rw [merge_all kvs _ nd, toKV_eq eqw] at s9 nt1 nz2 ⊢
          obtain ⟨r2, e2, hr2⟩ := key z2 _ s9 (by rw [upd_same, flat_zeros])
          rw [e2]
          refine ne_ints (s9 _ _ hr) hr2 ?_
          refine ⟨_, rfl, iteF ?_⟩
          have W9 := W6.same s9
          refine ⟨_, rfl, p, C, dx, _, _, rfl, W9.dev, T.cl, T.n6, rfl, _, rfl, rfl, _, rfl, iteNS rfl ⟨_, rfl, p, C, dx, _, _, rfl, W9.dev, T.cl, T.n7, rfl, _, rfl, rfl, _, rfl, iteNS rfl ?_⟩⟩
          exact k _ _ ⟨false, steps, Kp, Lw, W, _, kvs, es, es2, _, _, _, _, _, _, _, _, _, _, _, _, rfl, W9, eqw, nd, by omega⟩
        case rkept =>
          have c3 : dead = false := c3
          subst c3
          have c4 : 0 ≤ n ∧ n < tot := c4
          have W7 := W6.same s67
          have e0 : valV (mergeK kvs (toKV es)) (.inl n) = valV kvs (.inl n) := by rw [val_merge kvs n _ es rfl, hlast]
          cases qv : valV kvs (.inl n) with
          | none =>
            have hr : H7 z = some (tupI (List.replicate (2 * h) 0)) := by
              have hz : H7 z = some (.tup (zeros ((2 * h : Nat) : Int))) := hz
              rw [hz, zeros_eq]
              rfl
            have key : ∀ z2 H9, Same H7 H9 → H9 z2 = some (.tup (zeros ((2 * h : Nat) : Int))) → ∃ r2, (valV (mergeK kvs (toKV es)) (.inl n)).getD (.ref z2) = .ref r2 ∧ H9 r2 = some (tupI (List.replicate (2 * h) 0)) := fun z2 H9 sm h9 => by
              rw [e0, qv]
              exact ⟨z2, rfl, by rw [h9, zeros_eq]; rfl⟩
            refine ⟨_, rfl, _, rfl, iteF ⟨_, rfl, rfl, _, rfl, iteD (by rw [s7e]) ⟨_, rfl, _, rfl, ge_read false (decide_eq_false (by omega)) ?_⟩⟩⟩
            refine ⟨_, rfl, _, rfl, iteT ⟨_, rfl, _, _, rfl, rfl, _, rfl, iteDN s7 ?_⟩⟩
            refine ⟨_, rfl, tC_mk ?_⟩
            refine eqd_tup dev_ok hr ⟨_, rfl, rfl, _, rfl, iteNS rfl ?_⟩
            refine ⟨_, rfl, _, rfl, iteT ⟨_, rfl, _, _, rfl, rfl, _, rfl, iteDN s5 ⟨_, rfl, _, rfl, iteT ⟨_, rfl, _, _, rfl, rfl, _, rfl, iteDN s7 ⟨_, rfl, _, rfl, iteT ⟨_, rfl, ?_⟩⟩⟩⟩⟩⟩
            refine ⟨_, rfl, Kp, kvs, rfl, W7.kep, fun H8 q ts s8 nq nts nin hq pd => ⟨_, rfl, q, Lw, ts.map V.ref, es2.map (fun e => V.ref e.1), rfl, rfl, hq, s8 _ _ W7.w2.lst, by rw [List.length_map, List.length_map, sizeLine_eq]; have := pd.length; omega, fun r nr => ⟨r, ts ++ es2.map (·.1), kvs ++ toKV es2, rfl, SqL.of (by rw [upd_same, List.map_append, List.map_map]; rfl), paired_app (pd.mono fun a b z => SqT.of (same_upd nr _ _ z)) (pairedE es2 fun e he => same_upd nr _ _ (s8 _ _ (W7.w2.tup e he))), fun m nm => ?_⟩⟩⟩
            refine ⟨m, rfl, .inl ⟨_, .inl upd_same⟩, _, rfl, by show 1 ≤ sizeLine; decide, fun t1 nt1 => ⟨_, rfl, t1, _, [.int 0], rfl, rfl, SqT.of upd_same, (fun z => by cases z), by omega, by omega, by decide, fun z2 nz2 => ?_⟩⟩
            have s9 : Same H7 _ := (((Same.trans s8 (same_upd (o := .lst (ts.map V.ref ++ es2.map fun e => V.ref e.1)) nr)).trans (same_upd (o := .dK (mergeK [] (kvs ++ toKV es2))) nm)).trans (same_upd (o := .tup [.int 0]) nt1)).trans (same_upd (o := .tup (List.replicate (((2 * h : Nat) : Int)).toNat [V.int 0]).flatten) nz2)
            refine ⟨_, DGet.k (k := Sum.inl n) (by rw [upd_ne (ne_of_none (same_upd nt1 _ _ upd_same) nz2), upd_ne (ne_of_none upd_same nt1), upd_same]), ?_⟩
            rw [merge_all kvs _ nd, toKV_eq eqw] at s9 nt1 nz2 ⊢
            obtain ⟨r2, e2, hr2⟩ := key z2 _ s9 (by rw [upd_same, flat_zeros])
            rw [e2]
            refine ne_ints (s9 _ _ hr) hr2 ?_
            refine ⟨_, rfl, iteF ?_⟩
            have W9 := W7.same s9
            refine ⟨_, rfl, p, C, dx, _, _, rfl, W9.dev, T.cl, T.n6, rfl, _, rfl, rfl, _, rfl, iteNS rfl ⟨_, rfl, p, C, dx, _, _, rfl, W9.dev, T.cl, T.n7, rfl, _, rfl, rfl, _, rfl, iteNS rfl ?_⟩⟩
            exact k _ _ ⟨false, steps, Kp, Lw, W, _, kvs, es, es2, _, _, _, _, _, _, _, _, _, _, _, _, rfl, W9, eqw, nd, by omega⟩
          | some v =>
            obtain ⟨d, ys, rfl, hr, hyl⟩ := W7.vok n v qv
            have key : ∀ z2 H9, Same H7 H9 → H9 z2 = some (.tup (zeros ((2 * h : Nat) : Int))) → ∃ r2, (valV (mergeK kvs (toKV es)) (.inl n)).getD (.ref z2) = .ref r2 ∧ H9 r2 = some (tupI ys) := fun z2 H9 sm h9 => by
              rw [e0, qv]
              exact ⟨d, rfl, sm _ _ hr⟩
            refine ⟨_, rfl, _, rfl, iteF ⟨_, rfl, rfl, _, rfl, iteD (by rw [s7e]) ⟨_, rfl, _, rfl, ge_read false (decide_eq_false (by omega)) ?_⟩⟩⟩
            refine ⟨_, rfl, _, rfl, iteT ⟨_, rfl, _, _, rfl, rfl, _, rfl, iteDN s7 ?_⟩⟩
            refine ⟨_, rfl, tC_mk ?_⟩
            refine eqd_tup dev_ok hr ⟨_, rfl, rfl, _, rfl, iteNS rfl ?_⟩
            refine ⟨_, rfl, _, rfl, iteT ⟨_, rfl, _, _, rfl, rfl, _, rfl, iteDN s5 ⟨_, rfl, _, rfl, iteT ⟨_, rfl, _, _, rfl, rfl, _, rfl, iteDN s7 ⟨_, rfl, _, rfl, iteT ⟨_, rfl, ?_⟩⟩⟩⟩⟩⟩
            refine ⟨_, rfl, Kp, kvs, rfl, W7.kep, fun H8 q ts s8 nq nts nin hq pd => ⟨_, rfl, q, Lw, ts.map V.ref, es2.map (fun e => V.ref e.1), rfl, rfl, hq, s8 _ _ W7.w2.lst, by rw [List.length_map, List.length_map, sizeLine_eq]; have := pd.length; omega, fun r nr => ⟨r, ts ++ es2.map (·.1), kvs ++ toKV es2, rfl, SqL.of (by rw [upd_same, List.map_append, List.map_map]; rfl), paired_app (pd.mono fun a b z => SqT.of (same_upd nr _ _ z)) (pairedE es2 fun e he => same_upd nr _ _ (s8 _ _ (W7.w2.tup e he))), fun m nm => ?_⟩⟩⟩
            refine ⟨m, rfl, .inl ⟨_, .inl upd_same⟩, _, rfl, by show 1 ≤ sizeLine; decide, fun t1 nt1 => ⟨_, rfl, t1, _, [.int 0], rfl, rfl, SqT.of upd_same, (fun z => by cases z), by omega, by omega, by decide, fun z2 nz2 => ?_⟩⟩
            have s9 : Same H7 _ := (((Same.trans s8 (same_upd (o := .lst (ts.map V.ref ++ es2.map fun e => V.ref e.1)) nr)).trans (same_upd (o := .dK (mergeK [] (kvs ++ toKV es2))) nm)).trans (same_upd (o := .tup [.int 0]) nt1)).trans (same_upd (o := .tup (List.replicate (((2 * h : Nat) : Int)).toNat [V.int 0]).flatten) nz2)
            refine ⟨_, DGet.k (k := Sum.inl n) (by rw [upd_ne (ne_of_none (same_upd nt1 _ _ upd_same) nz2), upd_ne (ne_of_none upd_same nt1), upd_same]), ?_⟩
            rw [merge_all kvs _ nd, toKV_eq eqw] at s9 nt1 nz2 ⊢
            obtain ⟨r2, e2, hr2⟩ := key z2 _ s9 (by rw [upd_same, flat_zeros])
            rw [e2]
            refine ne_ints (s9 _ _ hr) hr2 ?_
            refine ⟨_, rfl, iteF ?_⟩
            have W9 := W7.same s9
            refine ⟨_, rfl, p, C, dx, _, _, rfl, W9.dev, T.cl, T.n6, rfl, _, rfl, rfl, _, rfl, iteNS rfl ⟨_, rfl, p, C, dx, _, _, rfl, W9.dev, T.cl, T.n7, rfl, _, rfl, rfl, _, rfl, iteNS rfl ?_⟩⟩
            exact k _ _ ⟨false, steps, Kp, Lw, W, _, kvs, es, es2, _, _, _, _, _, _, _, _, _, _, _, _, rfl, W9, eqw, nd, by omega⟩
end
end K08
namespace K08
open PySem L2 HK
theorem crash_congr (h : Nat) (dat : Addr → List Int) : ∀ (es es2 : List En) (cs : List Int) (f : Int → List Int), es2.map (·.2) = es.map (·.2) → crash h dat f (es2.zip cs) = crash h dat f (es.zip cs)
  | [], [], _, _, _ => rfl
  | [], _ :: _, _, _, e => by cases e
  | _ :: _, [], _, _, e => by cases e
  | a :: r, b :: q, [], f, e => by simp [crash]
  | a :: r, b :: q, c :: cs, f, e => by
    have e1 : b.2 = a.2 := by simpa using (List.cons.inj e).1
    have e2 : q.map (·.2) = r.map (·.2) := (List.cons.inj e).2
    show crash h dat (crash1 h f b.2.1 (dat b.2.2) c) (q.zip cs) = crash h dat (crash1 h f a.2.1 (dat a.2.2) c) (r.zip cs)
    rw [e1, crash_congr h dat r q cs _ e2]
theorem setF_self (f : Int → List Int) (n : Int) : setF f n (f n) = f := by
  funext m
  unfold setF
  split
  · rename_i e
    rw [e]
  · rfl
section
variable {C R D PT p dx B W Kp Lw : Addr} {h : Nat} {dv : Dv} {dc : Dice} {kvs kvs2 : List (Key × V)} {es es2 : List En} {H : Hp}
/-- the contents of the blocks, of the waiting data -/
theorem Wst.conts (x : Wst C R D PT p dx B W Kp Lw h dv dc kvs kvs2 es es2 H) : ∃ f, Cont H (2 * h) kvs f := by
  have hz : ∀ n : Int, ∃ xs : List Int, xs.length = 2 * h ∧ ((valV kvs (.inl n) = none ∧ xs = List.replicate (2 * h) 0) ∨ ∃ d, valV kvs (.inl n) = some (.ref d) ∧ H d = some (tupI xs)) := fun n => by
    cases q : valV kvs (.inl n) with
    | none => exact ⟨_, List.length_replicate, .inl ⟨rfl, rfl⟩⟩
    | some v =>
      obtain ⟨d, xs, rfl, h1, h2⟩ := x.vok n v q
      exact ⟨xs, h2, .inr ⟨d, rfl, h1⟩⟩
  exact ⟨fun n => Classical.choose (hz n), fun n => (Classical.choose_spec (hz n)).1, fun n => (Classical.choose_spec (hz n)).2⟩
theorem Wst.datas (x : Wst C R D PT p dx B W Kp Lw h dv dc kvs kvs2 es es2 H) : ∃ dat : Addr → List Int, ∀ e ∈ es, H e.2.2 = some (tupI (dat e.2.2)) ∧ (dat e.2.2).length = 2 * h := by
  classical
  refine ⟨fun d => if z : ∃ xs, H d = some (tupI xs) ∧ xs.length = 2 * h then Classical.choose z else [], fun e he => ?_⟩
  have z := x.eok e he
  simp only [dif_pos z]
  exact Classical.choose_spec z
end
/-! ### ahead of the device -/
structure Wd (D R PT : Addr) (dc : Dice) (H : Hp) : Prop where
  dice : H D = some (.lst dc.vs)
  row : H R = some (.lst [.ref D])
  tabs : LamX.Tabs [(PT, lamQ)] H
  ne : D ≠ R
theorem Wd.same {D R PT : Addr} {dc : Dice} {H H' : Hp} (x : Wd D R PT dc H) (s : Same H H') : Wd D R PT dc H' := ⟨s _ _ x.dice, s _ _ x.row, x.tabs.ext s, x.ne⟩
theorem Wd.roll {D R PT : Addr} {dc : Dice} {H : Hp} (x : Wd D R PT dc H) (dc' : Dice) : Wd D R PT dc' (upd H D (.lst dc'.vs)) :=
  ⟨upd_same, by rw [upd_ne x.ne.symm]; exact x.row, off_tabs (l := [D]) (Off.upd (Off.refl _ _) (by simp)) (fun b hb => by rw [List.mem_singleton.mp hb, x.dice]; exact Soft.lst) x.tabs, x.ne⟩
/-- a device is made -/
theorem made_same {C p dx B W : Addr} {H H' : Hp} {fs : List (Str × V)} (np : H p = none) (ndx : H dx = none) (nB : (upd (upd H dx (.own p)) p (.ins C dx fs)) B = none) (nW : (upd (upd H dx (.own p)) p (.ins C dx fs)) W = none) (o : Off [p, B, W] (upd (upd H dx (.own p)) p (.ins C dx fs)) H') : Same H H' ∧ H B = none ∧ H W = none := by
  have z : ∀ b, (upd (upd H dx (.own p)) p (.ins C dx fs)) b = none → H b = none := fun b e => by
    by_cases h1 : b = p
    · rw [h1]; exact np
    · by_cases h2 : b = dx
      · rw [h2]; exact ndx
      · rw [upd_ne h1, upd_ne h2] at e; exact e
  refine ⟨fun b u e => ?_, z B nB, z W nW⟩
  rw [o b (by simp [ne_of_none e np, ne_of_none e (z B nB), ne_of_none e (z W nW)]), upd_ne (ne_of_none e np), upd_ne (ne_of_none e ndx)]
  exact e
theorem left_zero {fuse : V} (h : fuse = .non ∨ ∃ n, fuse = .int n) : left fuse 0 = fuse := by
  rcases h with rfl | ⟨n, rfl⟩
  · rfl
  · show V.int (n - 0) = V.int n
    rw [Int.sub_zero]
/-- all but U stand -/
def But (U : Addr) (H H' : Hp) : Prop := ∀ b o, H b = some o → b ≠ U → H' b = some o
theorem But.same {U : Addr} {H H1 H2 : Hp} (x : But U H H1) (s : Same H1 H2) : But U H H2 := fun b o e n => s _ _ (x b o e n)
theorem But.put {U : Addr} {H H1 : Hp} {o : HO} (x : But U H H1) : But U H (upd H1 U o) := fun b u e n => by rw [upd_ne n]; exact x b u e n
theorem But.tabs {U : Addr} {H H1 : Hp} {T : List (Addr × Str)} (x : But U H H1) (s : Soft (H U)) (h : LamX.Tabs T H) : LamX.Tabs T H1 := fun p hp => by
  obtain ⟨ps, h1, h2, h3⟩ := h p hp
  refine ⟨ps, x _ _ h1 (fun z => s.not_tbl ps (by rw [← z]; exact h1)), h2, fun pos cv hc => ?_⟩
  obtain ⟨c, e1, e2⟩ := h3 pos cv hc
  exact ⟨c, e1, x _ _ e2 (fun z => s.not_code c _ (by rw [← z]; exact e2))⟩
theorem sh_nil : SeqAt.shaped (.list []) = true := by simp [SeqAt.shaped, PyData.canLay0, PyData.depth, PyData.canLayAll0, PyData.depthAll]
theorem add_read {i j k : Int} {H : Hp} {Q : VK} (e : i + j = k) (q : Q (.int k) H) : rI0 (fun i j => V.int (i + j)) (.int i) (.int j) H Q := ⟨i, j, rfl, rfl, by subst e; exact q⟩
theorem mul_read {i j k : Int} {H : Hp} {Q : VK} (l : -(2 ^ 64) < i ∧ i < 2 ^ 64) (e : i * j = k) (q : Q (.int k) H) : rI CMul (fun i j => V.int (i * j)) (.int i) (.int j) H Q := ⟨i, j, rfl, rfl, .inl l, by subst e; exact q⟩
theorem ne_nil {K : PySem.W.Frag} {H : Hp} {a b : Addr} {Q : VK} (ha : H a = some (.lst [])) (hb : H b = some (.lst [])) (q : Q (.bl false) H) : rNeD K (.ref a) (.ref b) H Q := by
  refine ⟨_, _, Dp.lst (SqL.of ha) .nil, Dp.lst (SqL.of hb) .nil, sh_nil, sh_nil, ?_⟩
  rw [show PyData.eqv (.list []) (.list []) = true by simp [PyData.eqv, PyData.eqvAll]]
  exact q
def spLaw (K : PySem.W.Frag) (P : Addr) : Sp := fun vs H Q _ => ∃ (a : Addr) (ns : List Int), vs = [.ref a] ∧ SqL K H a (ns.map V.int) ∧ LamX.Tabs [(P, lamQ)] H ∧ ∀ H', Q (.bl true) H'
section
variable {P : Program} {w : World} {K : PySem.W.Frag} {mg : Str → Option Value} {base : Heap} {C CE g : Addr}
theorem ok_law {f c PT : Addr} {oc kV doc pm ct : Value} {od an : Option Addr} {osl : Array (Option Value)}
    (lk : K.lookup f = some ⟨oc, od, .func (PySem.W.fnOf "law" "law" (defArgs sLaw) (defBody sLaw) (defScope sLaw) .none kV doc pm an (.ref c) ct), osl⟩) (hcd : PySem.W.codeIn K (.ref c) "law" = true) (TB : LamX.TabB base mg c PT) (L : LTxt P w K mg base C CE g) :
    FnOk P w K mg base L2.CX0 8 f (PySem.W.fnOf "law" "law" (defArgs sLaw) (defBody sLaw) (defScope sLaw) .none kV doc pm an (.ref c) ct) ["script"] (spLaw K PT) := by
  obtain ⟨f2, d2, F2, m2, k2, b2⟩ := L.rounds
  obtain ⟨f3, d3, F3, m3, k3, b3⟩ := L.roll
  obtain ⟨fR, dR, FR, mR, bR⟩ := L.read
  obtain ⟨fT, dT, FT, mT, bT⟩ := L.rest
  obtain ⟨fA, dA, FA, mA, bA⟩ := L.arm
  obtain ⟨fI, dI, FI, MI, ds, vds, bI⟩ := L.init
  have T := L.D
  have G2 := F2.mono (show 2 ≤ 7 by decide)
  have G3 := F3.mono (show 1 ≤ 7 by decide)
  have GR := FR.mono (show 2 ≤ 7 by decide)
  have RR := FR.mono (show 2 ≤ 5 by decide)
  have GT := FT.mono (show 3 ≤ 7 by decide)
  have GA := FA.mono (show 1 ≤ 7 by decide)
  have GI := FI.mono (show 1 ≤ 6 by decide)
  have lexm := L.exm
  refine fn_of lk hcd scLaw (fun vs H Q E h => ?_) (fun A outer s H vs Q E hr h => ?_)
  · obtain ⟨a, ns, rfl, _⟩ := h
    rfl
  · obtain ⟨a, ns, rfl, ha, hT, k⟩ := h
    suffices hX : ∃ t, PSs (cxOf L2.CX0 P w K mg base NL "law" (defScope sLaw) f (.ref c) A outer s H E).nox (defBody sLaw) t ∧ t { nx := fun _ H' => Q .non H', rt := Q } (L2.start NL [.ref a]) H by
      obtain ⟨t, h1, h2⟩ := hX
      exact ⟨t, h1.nox, h2⟩
    have hr7 : Room 7 (cxOf L2.CX0 P w K mg base NL "law" (defScope sLaw) f (.ref c) A outer s H E).nox.A := hr
    obtain ⟨ts, hts, stq⟩ := step_ok (s := s) (H0 := H) (E0 := E) L TB hr7
    refine ⟨_, pss_cons (ps_for PassesOwn.never rfl (pi_list (pe_call G2 hr7 (by rfl) m2 k2 b2 .nil pass0 (pa_cons (pv 0) (pa_cons pe_int pa_nil)))) (pg_name (i := 1) scLaw.nd rfl (Or.inr rfl))
        -- size, total
        (pss_cons (ps_asg (pe_tup (pa_cons (pe_op op_mul pe_int (pe_op op_add pe_int (pe_call G3 hr7 (by rfl) m3 k3 b3 .nil pass0 (pa_cons (pv 1) (pa_cons pe_int pa_nil))))) (pa_cons (pe_op op_add pe_int (pe_call G3 hr7 (by rfl) m3 k3 b3 .nil pass0 (pa_cons (pv 1) (pa_cons pe_int pa_nil)))) pa_nil)))
            (pg_tup rfl (pgs_cons (pg_name (i := 2) scLaw.nd rfl (Or.inr rfl)) (pgs_cons (pg_name (i := 21) scLaw.nd rfl (Or.inr rfl)) pgs_nil))))
        -- device, kept, waiting
        (pss_cons (ps_asg (pe_tup (pa_cons (pe_make MI GI hr7 rfl T.gC bI vds pass0 (pa_cons (pv 2) (pa_cons (pv 21) pa_nil))) (pa_cons pe_dnewK (pa_cons (pe_lst pa_nil) pa_nil))))
            (pg_tup rfl (pgs_cons (pg_name (i := 18) scLaw.nd rfl (Or.inr rfl)) (pgs_cons (pg_name (i := 3) scLaw.nd rfl (Or.inl rfl)) (pgs_cons (pg_name (i := 4) scLaw.nd rfl (Or.inl rfl)) pgs_nil)))))
        (pss_cons (ps_set (i := 5) scLaw.nd rfl (Or.inl rfl) (pe_ix ix_list (pe_lst (pa_cons pe_non (pa_cons (pe_call G3 hr7 (by rfl) m3 k3 b3 .nil pass0 (pa_cons (pv 1) (pa_cons pe_int pa_nil))) pa_nil))) (pe_call G3 hr7 (by rfl) m3 k3 b3 .nil pass0 (pa_cons (pv 1) (pa_cons pe_int pa_nil))) (fun _ _ => rfl)))
        (pss_cons (ps_expr (pe_meth (pv 18) T.cl mA GA hr7 bA .nil pass0 (pa_cons (pv 5) pa_nil)))
        (pss_cons (ps_asg (pe_tup (pa_cons pe_bl (pa_cons pe_int pa_nil))) (pg_tup rfl (pgs_cons (pg_name (i := 6) scLaw.nd rfl (Or.inl rfl)) (pgs_cons (pg_name (i := 7) scLaw.nd rfl (Or.inl rfl)) pgs_nil))))
        (pss_cons (ps_for PassesOwn.never rfl (pi_range1 (by rfl) L.range (pa_cons (pe_call G3 hr7 (by rfl) m3 k3 b3 .nil pass0 (pa_cons (pv 1) (pa_cons pe_int pa_nil))) pa_nil)) (pg_name (i := 8) scLaw.nd rfl (Or.inl rfl)) hts)
        -- choices
        (pss_cons (ps_setLc (i := 12) (own := [("k", 9)]) (g := gName 9) (by rfl) scLaw.nd rfl rfl (sw_true rfl rfl rfl (by decide +kernel))
            (pi_range1 (by rfl) L.range (pa_cons (pe_call G3 hr7 (by rfl) m3 k3 b3 .nil pass0 (pa_cons (pv 1) (pa_cons (pe_op op_add (pe_callB call_len_seq (by rfl) T.len PySem.boot_len (pa_cons (pv 4) pa_nil)) pe_int) pa_nil))) pa_nil))
            (blkOk_by (N := NL) (sc := defScope sLaw) (by decide +kernel)) (fun _ _ _ _ _ => pg_name (i := 9) scLaw.nd rfl (Or.inl rfl)) (fun _ _ _ _ _ => pts_nil)
            (fun _ _ _ _ _ => pe_call G3 hr7 (by rfl) m3 k3 b3 .nil pass0 (pa_cons (pv 1) (pa_cons pe_int pa_nil))))
        -- found, due
        (pss_cons (ps_asg (pe_tup (pa_cons (pe_meth (pv 18) T.cl mT GT hr7 bT .nil pass0 (pa_cons (pv 12) pa_nil)) (pa_cons (pe_callTy call_dictD (by rfl) T.dict PyProof.Rows.Boot.«dict» (pa_cons (pv 3) pa_nil)) pa_nil)))
            (pg_tup rfl (pgs_cons (pg_name (i := 19) scLaw.nd rfl (Or.inr rfl)) (pgs_cons (pg_name (i := 13) scLaw.nd rfl (Or.inr rfl)) pgs_nil))))
        (pss_cons (ps_for PassesOwn.never rfl (pi_enum (by rfl) L.enum (pa_cons (pv 4) pa_nil))
            (pg_tup rfl (pgs_cons (pg_name (i := 9) scLaw.nd rfl (Or.inl rfl)) (pgs_cons (pg_tup rfl (pgs_cons (pg_name (i := 16) scLaw.nd rfl (Or.inr rfl)) (pgs_cons (pg_name (i := 17) scLaw.nd rfl (Or.inr rfl)) pgs_nil))) pgs_nil)))
            (pss_cons (ps_par (i := 14) (j := 15) rfl scLaw.nd rfl rfl (by decide) rfl rfl
                (pa_cons (pe_ifExp (pt_cmpR op_lt (pv 9) (pe_callB call_len_seq (by rfl) T.len PySem.boot_len (pa_cons (pv 12) pa_nil)) (nomark _)) (pe_ix ix_list (pv 12) (pv 9) (fun _ _ => rfl)) pe_int)
                (pa_cons (pe_dget2 (hu_of hr7) (pv 13) (pv 16) (pe_op op_repT (pe_tup (pa_cons pe_int pa_nil)) (pv 2)) ⟨rfl, rfl, rfl, rfl⟩) pa_nil)) rfl)
            (pss_one (ps_dput (hu_of hr7) (pv 13) (pv 16) (pe_ifExp (pt_cmpR op_eq (pv 14) pe_int (nomark _)) (pv 17) (pe_ifExp (pt_cmpR op_eq (pv 14) pe_int (nomark _))
                (pe_op op_catT (pe_slice sl_tup (pv 17) po_none (po_some (pe_op op_fdiv (pv 2) pe_int))) (pe_slice sl_tup (pv 15) (po_some (pe_op op_fdiv (pv 2) pe_int)) po_none)) (pv 15))) rfl))))
        (pss_cons (ps_if (PW.pt (pw_or (pt_cmpR (op_neD hr7.units) (pe_lc (own := [("number", 16)]) (g := gName 16) (by rfl) scLaw.nd (pi_range1 (by rfl) L.range (pa_cons (pv 21) pa_nil))
                (blkOk_by (N := NL) (sc := defScope sLaw) (by decide +kernel)) (fun _ _ _ _ _ => pg_name (i := 16) scLaw.nd rfl (Or.inl rfl))
                (fun _ _ _ _ _ => pts_one (pt_cmpR (r := rNeD K) (op_neD (by exact hr7.units)) (pe_meth (pv 19) T.cl mR GR hr7 bR .nil passL (pa_cons (pv 16) pa_nil))
                  (pe_dget2 (by exact hu_of hr7) (pv 13) (pv 16) (pe_op (r := rRepT K) (by exact op_repT) (pe_tup (pa_cons pe_int pa_nil)) (pv 2)) ⟨rfl, rfl, rfl, rfl⟩) (nomark _)))
                (fun _ _ _ _ _ => pv 16)) (pe_lst pa_nil) (nomark _))
              (pw_or (pt_val (pe_fld (pv 19) rfl)) (pw_or1 (pt_cmpR (op_neD hr7.units) (pe_fld (pv 19) rfl) (pe_lst pa_nil) (nomark _)))))) (pss_one (ps_ret pe_bl)) pss_nil)
        (pss_one (ps_if (PW.pt (pw_or (pt_cmpR op_ne (pe_fld (pv 19) rfl) (pv 2) (nomark _)) (pw_or (pt_cmpR op_ne (pe_fld (pv 19) rfl) (pv 21) (nomark _))
              (pw_or1 (pt_cmpR op_ne (pe_told (k := 5) L.told TB rfl (by rfl) hr7 (LamX.lamS_by (sc := defScope sLaw) (by decide +kernel)) rfl (fun _ _ _ _ _ => rfl)
                (fun A1 o1 s1 H1 E1 f1 c1 hr5 => pe_meth (pv 19) T.cl mR RR hr5 bR .nil (passes_call (takes_of rfl rfl rfl rfl) (fun _ _ _ _ h => h)) (pa_cons (pv 21) pa_nil))) pe_str (nomark _)))))) (pss_one (ps_ret pe_bl)) pss_nil)))))))))))))
      (pss_one (ps_ret pe_bl)), ?_⟩
    refine ⟨_, rfl, a, ns, rfl, ha, fun H1 R D s1 nR nD nRD hR hD => ?_⟩
    refine ⟨R, rfl, ⟨_, SqL.of hR⟩, ?_⟩
    have Wd0 : Wd D R PT (mkDice (cell0 ns)) H1 := ⟨hD, hR, hT.ext s1, nRD.symm⟩
    generalize mkDice (cell0 ns) = dc0 at Wd0
    refine for_list (K := K) (a := R) (xs := [.ref D]) (fun i σ H' => H' R = some (.lst [.ref D]) ∧ (i = 0 → σ = L2.start NL [.ref a] ∧ H' = H1)) ⟨hR, fun _ => ⟨rfl, rfl⟩⟩ (fun i σ H' hi q => SqL.of q.1) (fun i x σ H' hx q => ?_) (fun σ H' q => k _)
    match i, hx with
    | 0, hx =>
    obtain rfl : V.ref D = x := Option.some.inj hx
    obtain ⟨rfl, rfl⟩ := q.2 rfl
    clear q hx hD hR nD nR s1 hT ha
    -- size, total
    have r1 := roll_range dc0 (m := 4) (by decide)
    obtain ⟨h, eh⟩ : ∃ h : Nat, 1 + (roll dc0 4).1 = (h : Int) := ⟨(1 + (roll dc0 4).1).toNat, by omega⟩
    have h1 : 1 ≤ h := by omega
    have h4 : h ≤ 4 := by omega
    refine ⟨_, rfl, D, dc0, 4, rfl, Wd0.dice, by decide, by decide, add_read eh (mul_read (k := ((2 * h : Nat) : Int)) ⟨by decide, by decide⟩ (by omega) ?_)⟩
    have Wd1 := Wd0.roll (roll dc0 4).2
    generalize (roll dc0 4).2 = dc1 at Wd1 ⊢
    generalize upd H' D (.lst dc1.vs) = H2 at Wd1 ⊢
    have r2 := roll_range dc1 (m := 20) (by decide)
    obtain ⟨tot, et⟩ : ∃ tot : Int, 1 + (roll dc1 20).1 = tot := ⟨_, rfl⟩
    have t1 : 1 ≤ tot := by omega
    have t20 : tot ≤ 20 := by omega
    refine ⟨_, rfl, D, dc1, 20, rfl, Wd1.dice, by decide, by decide, add_read et ⟨by show 2 ≤ sizeLine; decide, fun t nt => ?_⟩⟩
    refine ⟨t, _, rfl, SqT.of upd_same, rfl, _, _, rfl, _, _, rfl, rfl, ?_⟩
    have Wd2 := (Wd1.roll (roll dc1 20).2).same (same_upd (o := .tup [.int ((2 * h : Nat) : Int), .int tot]) nt)
    generalize (roll dc1 20).2 = dc2 at Wd2 ⊢
    generalize upd (upd H2 D (.lst dc2.vs)) t (.tup [.int ((2 * h : Nat) : Int), .int tot]) = H3 at Wd2 ⊢
    clear et eh r1 r2 Wd1 Wd0 nt
    -- device, kept, waiting
    refine ⟨_, rfl, _, rfl, fun p dx np ndx npd => ⟨p, dx, ((2 * h : Nat) : Int), tot, .non, [], rfl, upd_same, .inl ⟨rfl, rfl⟩, fun B W H4 nB nW nBW o hp hB hW => ⟨rfl, fun Kp nKp => ⟨by show 0 ≤ sizeLine; decide, fun Lw nLw => ⟨by show 3 ≤ sizeLine; decide, fun t nt => ?_⟩⟩⟩⟩⟩
    obtain ⟨s4, nB0, nW0⟩ := made_same np ndx nB nW o
    refine ⟨t, _, rfl, SqT.of upd_same, rfl, _, _, rfl, _, _, rfl, _, _, rfl, rfl, ?_⟩
    have Wd4 := Wd2.same s4
    have s5 : Same H4 (upd (upd (upd H4 Kp (.dK [])) Lw (.lst [])) t (.tup [.ref p, .ref Kp, .ref Lw])) := ((same_upd nKp).trans (same_upd nLw)).trans (same_upd nt)
    have nKp5 := ((same_upd (o := .lst []) nLw).trans (same_upd (o := .tup [.ref p, .ref Kp, .ref Lw]) nt)) Kp _ (upd_same (H := H4) (o := .dK []))
    have nLw5 := (same_upd (o := .tup [.ref p, .ref Kp, .ref Lw]) nt) Lw _ (upd_same (o := .lst []))
    have sK : Same H4 (upd H4 Kp (.dK [])) := same_upd nKp
    have Ws : Wst C R D PT p dx B W Kp Lw h ⟨((2 * h : Nat) : Int), tot, .non, false, 0⟩ dc2 [] [] [] [] (upd (upd (upd H4 Kp (.dK [])) Lw (.lst [])) t (.tup [.ref p, .ref Kp, .ref Lw])) :=
      ⟨s5 _ _ Wd4.dice, s5 _ _ Wd4.row, Wd4.tabs.ext s5, s5 _ _ hp, s5 _ _ hB, nKp5, ⟨s5 _ _ hW, (fun e he => by cases he)⟩, ⟨nLw5, (fun e he => by cases he)⟩, (fun n v e => by cases e), (fun e he => by cases he),
        Wd2.ne, ne_of_none Wd2.dice nW0, ne_of_none (sK _ _ Wd4.dice) nLw, ne_of_none Wd2.row nW0, ne_of_none (sK _ _ Wd4.row) nLw, ne_of_none (sK _ _ hW) nLw, ne_of_none hB nKp⟩
    generalize upd (upd (upd H4 Kp (.dK [])) Lw (.lst [])) t (.tup [.ref p, .ref Kp, .ref Lw]) = H5 at Ws ⊢
    clear s5 nKp5 nLw5 sK Wd4 s4 nB0 nW0 nt nLw nKp hW hB hp o nBW nW nB npd ndx np Wd2
    -- fuse
    dsimp only [tNext]
    refine tSeq_mk (tAsg_mk ?_)
    refine ⟨_, rfl, D, dc2, 40, rfl, Ws.dice, by decide, by decide, by show 2 ≤ sizeLine; decide, fun l nl => ?_⟩
    have Ws1 := (Ws.roll (roll dc2 40).2).new (o := .lst [.non, .int (roll dc2 40).1]) nl
    have hl := upd_same (H := upd H5 D (.lst (roll dc2 40).2.vs)) (a := l) (o := .lst [.non, .int (roll dc2 40).1])
    generalize (roll dc2 40).2 = dc3 at Ws1 nl hl ⊢
    generalize (roll dc2 40).1 = fz at Ws1 hl ⊢
    have nlD : l ≠ D := (ne_of_none (Ws.roll dc3).dice nl).symm
    generalize upd (upd H5 D (.lst dc3.vs)) l (.lst [.non, .int fz]) = H6 at Ws1 hl ⊢
    have r3 := roll_range dc3 (m := 2) (by decide)
    obtain ⟨v, hv, hf⟩ : ∃ v, atI [V.non, V.int fz] (roll dc3 2).1 = some v ∧ (v = .non ∨ ∃ n, v = .int n) := by
      rcases (by omega : (roll dc3 2).1 = 0 ∨ (roll dc3 2).1 = 1) with e | e <;> rw [e]
      · exact ⟨_, rfl, .inl rfl⟩
      · exact ⟨_, rfl, .inr ⟨_, rfl⟩⟩
    refine ⟨_, rfl, D, dc3, 2, rfl, Ws1.dice, by decide, by decide, l, _, _, v, rfl, rfl, SqL.of (by rw [upd_ne nlD]; exact hl), hv, ?_⟩
    have Ws2 := Ws1.roll (roll dc3 2).2
    generalize (roll dc3 2).2 = dc4 at Ws2 ⊢
    generalize upd H6 D (.lst dc4.vs) = H7 at Ws2 ⊢
    -- arm
    refine ⟨_, rfl, p, dx, _, rfl, Ws2.dev, rfl, _, rfl, p, dx, _, B, W, v, rfl, Ws2.dev, ?_⟩
    have Ws3 := Ws2.dead ⟨((2 * h : Nat) : Int), tot, v, false, 0⟩
    have Ws4 : Wst C R D PT p dx B W Kp Lw h ⟨((2 * h : Nat) : Int), tot, left v 0, false, 0⟩ dc4 [] [] [] [] (upd H7 p (.ins C dx (fsD ⟨((2 * h : Nat) : Int), tot, v, false, 0⟩ B W))) := by rw [left_zero hf]; exact Ws3
    have eH : upd H7 p (.ins C dx (fsD { (⟨((2 * h : Nat) : Int), tot, .non, false, 0⟩ : Dv) with fz := v } B W)) = upd H7 p (.ins C dx (fsD ⟨((2 * h : Nat) : Int), tot, v, false, 0⟩ B W)) := rfl
    clear Ws3 Ws2 Ws1 Ws hv r3 nl hl nlD
    generalize upd H7 p (.ins C dx (fsD ⟨((2 * h : Nat) : Int), tot, v, false, 0⟩ B W)) = H8 at Ws4 eH
    rw [eH]
    clear eH
    -- dead, steps
    refine ⟨by show 2 ≤ sizeLine; decide, fun t nt => ⟨t, _, rfl, SqT.of upd_same, rfl, _, _, rfl, _, _, rfl, rfl, ?_⟩⟩
    have Ws5 := Ws4.new (o := .tup [.bl false, .int 0]) nt
    generalize upd H8 t (.tup [.bl false, .int 0]) = H9 at Ws5 ⊢
    clear Ws4 nt
    -- the steps
    have r4 := roll_range dc4 (m := 41) (by decide)
    refine ⟨_, rfl, D, dc4, 41, rfl, Ws5.dice, by decide, by decide, _, rfl, by omega, by omega, ?_⟩
    have Ws6 := Ws5.roll (roll dc4 41).2
    generalize (roll dc4 41).2 = dc5 at Ws6 ⊢
    generalize (roll dc4 41).1 = many at r4 ⊢
    generalize upd H9 D (.lst dc5.vs) = H10 at Ws6 ⊢
    clear Ws5
    refine for_range (lo := 0) (n := many.toNat) (fun i σ H' => Wl C R PT dx B a D p h tot v i σ H') ⟨false, 0, Kp, Lw, W, dc5, [], [], [], _, _, _, _, _, _, _, _, _, _, _, _, rfl, Ws6, rfl, by simp, by simp⟩ (fun i σ H' hi q => ?_) (fun σ H' q => ?_)
    · obtain ⟨dead, steps, Kp, Lw, W, dc, kvs, es, es2, u8, u9, u10, u11, u12, u13, u14, u15, u16, u17, u19, u20, rfl, W0, eqw, nd, cnt⟩ := q
      exact stq R dx B a D p h tot v h1 h4 t1 t20 hf _ i _ _ (by omega) ⟨dead, steps, Kp, Lw, W, dc, kvs, es, es2, _, u9, u10, u11, u12, u13, u14, u15, u16, u17, u19, u20, rfl, W0, eqw, nd, cnt⟩ (fun σ' H' w => w)
    · obtain ⟨dead, steps, Kp, Lw, W, dc, kvs, es, es2, u8, u9, u10, u11, u12, u13, u14, u15, u16, u17, u19, u20, rfl, W0, eqw, nd, cnt⟩ := q
      have cnt2 : kvs.length + es.length ≤ 41 := by omega
      clear cnt Ws6 stq
      -- choices
      dsimp only [tNext]
      have hl2 : es2.length = es.length := by simpa using congrArg List.length eqw
      have r5 := roll_range dc (m := (((es2.map fun e => V.ref e.1).length : Nat) : Int) + 2) (by omega)
      have l5 : (((es2.map fun e => V.ref e.1).length : Nat) : Int) ≤ 41 := by rw [List.length_map]; omega
      refine tSeq_mk (tAsg_mk ⟨_, rfl, _, rfl, Lw, _, rfl, .inl (SqL.of W0.w2.lst), _, _, rfl, rfl, D, dc, _, rfl, W0.dice, by omega, by omega, _, rfl, by omega, by omega, fun M nM => ?_⟩)
      have W1 := W0.roll (roll dc ((((es2.map fun e => V.ref e.1).length : Nat) : Int) + 2)).2
      generalize (roll dc ((((es2.map fun e => V.ref e.1).length : Nat) : Int) + 2)).2 = dc6 at W1 nM ⊢
      generalize (roll dc ((((es2.map fun e => V.ref e.1).length : Nat) : Int) + 2)).1 = m at r5 ⊢
      generalize upd H' D (.lst dc6.vs) = H11 at W1 nM ⊢
      refine lc_range (lo := 0) (n := m.toNat) (fun i H' => ∃ (cs : List Int) (dc' : Dice), cs.length = i ∧ H' M = some (.lst (cs.map V.int)) ∧ Wst C R D PT p dx B W Kp Lw h ⟨((2 * h : Nat) : Int), tot, left v steps, dead, steps⟩ dc' kvs kvs es es2 H' ∧ M ≠ D ∧ M ≠ R ∧ M ≠ p ∧ M ≠ B ∧ M ≠ Kp ∧ M ≠ W ∧ M ≠ Lw)
        ⟨[], dc6, rfl, upd_same, W1.new nM, (ne_of_none W1.dice nM).symm, (ne_of_none W1.row nM).symm, (ne_of_none W1.dev nM).symm, (ne_of_none W1.blk nM).symm, (ne_of_none W1.kep nM).symm, (ne_of_none W1.w1.lst nM).symm, (ne_of_none W1.w2.lst nM).symm⟩ (fun i H' hi q => ?_) (fun H' q => ?_)
      · obtain ⟨cs, dc', e, hM, W', nn⟩ := q
        refine ⟨rfl, _, rfl, D, dc', 3, rfl, W'.dice, by decide, by decide, _, by rw [upd_ne nn.1]; exact hM, by rw [List.length_map, e]; exact small1000 (by omega), cs ++ [(roll dc' 3).1], (roll dc' 3).2, by rw [List.length_append, e]; rfl, by rw [upd_same, List.map_append]; rfl, ?_, nn⟩
        refine (W'.roll (roll dc' 3).2).off (l := [M]) (Off.upd (Off.refl _ _) (by simp)) (fun b hb => ?_) (fun b hb => ?_)
        · rw [List.mem_singleton.mp hb, upd_ne nn.1, hM]
          exact Soft.lst
        · rw [List.mem_singleton.mp hb]
          exact nn
      · obtain ⟨cs, dc7, ecs, hM, W2, nn⟩ := q
        have lcs : cs.length ≤ 100 := by omega
        clear ecs nn W1 W0 nM r5 l5
        -- found, due
        obtain ⟨f, hcf⟩ := W2.conts
        obtain ⟨dat, hdat⟩ := W2.datas
        refine ⟨_, rfl, p, dx, _, rfl, W2.dev, rfl, _, rfl, p, dx, _, B, W, M, h, kvs, f, es, dat, cs, rfl, W2.dev, rfl, h1, by omega, W2.blk, by omega, hcf, W2.w1, by omega, hdat, hM, fun x dx' B' W' kvs' H12 s12 nx hx hB' hW' hC' => ?_⟩
        have hx : H12 x = some (.ins C dx' (fsD ⟨((2 * h : Nat) : Int), tot, .non, false, 0⟩ B' W')) := hx
        have W3 := W2.same s12
        refine ⟨_, rfl, Kp, kvs, rfl, .inl W3.kep, fun U nU => ⟨by show 2 ≤ sizeLine; decide, fun t nt => ⟨t, _, rfl, SqT.of upd_same, rfl, _, _, rfl, _, _, rfl, rfl, ?_⟩⟩⟩
        have sU : Same H12 (upd H12 U (.dK kvs)) := same_upd nU
        have s13 : Same H12 (upd (upd H12 U (.dK kvs)) t (.tup [.ref x, .ref U])) := sU.trans (same_upd nt)
        have hU : (upd (upd H12 U (.dK kvs)) t (.tup [.ref x, .ref U])) U = some (.dK kvs) := (same_upd nt) _ _ upd_same
        have W4 := W3.same s13
        have hx := s13 _ _ hx
        have hB' := s13 _ _ hB'
        have hW' := s13 _ _ hW'
        have hC' := hC'.keep (Keep.of s13)
        have hcf := hcf.keep (Keep.of (s12.trans s13))
        have hM := s13 _ _ (s12 _ _ hM)
        have hdat : ∀ e ∈ es2, (upd (upd H12 U (.dK kvs)) t (.tup [.ref x, .ref U])) e.2.2 = some (tupI (dat e.2.2)) ∧ (dat e.2.2).length = 2 * h := fun e he => by
          have z : e.2 ∈ es.map (·.2) := by rw [← eqw]; exact List.mem_map.mpr ⟨e, he, rfl⟩
          obtain ⟨y, hy, ey⟩ := List.mem_map.mp z
          have z2 := hdat y hy
          rw [ey] at z2
          exact ⟨s13 _ _ (s12 _ _ z2.1), z2.2⟩
        have nBU : B' ≠ U := ne_of_none (by exact (show H12 B' = some (.dK kvs') from by assumption)) nU
        generalize upd (upd H12 U (.dK kvs)) t (.tup [.ref x, .ref U]) = H14 at hU W4 hx hB' hW' hC' hcf hM hdat ⊢
        have nxU : x ≠ U := ne_of hx hU (by intro z; cases z)
        have nWU : W' ≠ U := ne_of hW' hU (by intro z; cases z)
        have nMU : M ≠ U := ne_of hM hU (by intro z; cases z)
        have nLU : Lw ≠ U := ne_of W4.w2.lst hU (by intro z; cases z)
        have nRU : R ≠ U := ne_of W4.row hU (by intro z; cases z)
        have tb : ∀ e ∈ es2, ∀ {H' : Hp}, But U H14 H' → H' e.1 = some (.tup [.int e.2.1, .ref e.2.2]) ∧ H' e.2.2 = some (tupI (dat e.2.2)) := fun e he H' bu =>
          ⟨bu _ _ (W4.w2.tup e he) (ne_of (W4.w2.tup e he) hU (by intro z; cases z)), bu _ _ (hdat e he).1 (ne_of (hdat e he).1 hU (by intro z; unfold tupI at z; cases z))⟩
        refine ⟨_, rfl, Lw, _, rfl, SqL.of W4.w2.lst, ?_⟩
        refine for_it (walk_enum (K := K) (a := Lw) (xs := es2.map fun e => V.ref e.1)) (fun i σ H' => But U H14 H' ∧ (∃ k3, H' U = some (.dK k3) ∧ k3.length ≤ 100 + i ∧ Cont H' (2 * h) k3 (crash h dat f ((es2.zip cs).take i))) ∧
            ∃ y8 y9 y10 y11 y14 y15 y16 y17 y20, σ = [some (.ref a), some (.ref D), some (.int ((2 * h : Nat) : Int)), some (.ref Kp), some (.ref Lw), some v, some (.bl dead), some (.int steps), y8, y9, y10, y11, some (.ref M), some (.ref U), y14, y15, y16, y17, some (.ref p), some (.ref x), y20, some (.int tot)])
          ⟨fun _ _ e _ => e, ⟨kvs, hU, by omega, hcf⟩, _, _, _, _, _, _, _, _, _, rfl⟩ (fun i σ H' hi q => SqL.of (q.1 _ _ W4.w2.lst nLU)) (fun i y σ H' H'' hi q yy => ?_) (fun σ H' q => ?_)
        · obtain ⟨bu, ⟨k3, hU3, hk3, hc3⟩, y8, y9, y10, y11, y14, y15, y16, y17, y20, rfl⟩ := q
          obtain ⟨T1, z1, z2, rfl, nT, rfl, e1, e2⟩ := yy
          dsimp only at e1 e2
          obtain rfl := Option.some.inj e1
          rw [List.getElem?_map] at e2
          obtain ⟨e, he, rfl⟩ := Option.map_eq_some_iff.mp e2
          have hm := List.mem_of_getElem? he
          have sT : Same H' (upd H' T1 (.tup [.int (i : Nat), .ref e.1])) := same_upd nT
          have bu1 := bu.same sT
          have hU1 := sT _ _ hU3
          have hc1 := hc3.keep (Keep.of sT)
          obtain ⟨het, hed⟩ := tb e hm bu1
          refine ⟨T1, _, rfl, SqT.of upd_same, rfl, _, _, rfl, _, _, rfl, ⟨e.1, _, rfl, SqT.of het, rfl, _, _, rfl, _, _, rfl, rfl, rfl, ?_⟩⟩
          generalize upd H' T1 (.tup [.int (i : Nat), .ref e.1]) = H15 at sT bu1 hU1 hc1 het hed ⊢
          have hi2 : i < 1000 := by rw [List.length_map] at hi; omega
          have hM1 := bu1 _ _ hM nMU
          have lk : k3.length < sizeLine := by rw [sizeLine_eq]; omega
          refine ⟨_, rfl, _, rfl, M, _, rfl, .inl (SqL.of hM1), _, _, rfl, rfl, _, rfl, ite2 (fun c1 => ?_) (fun c1 => ?_)⟩
          · have hlt : i < cs.length := by
              have z := of_decide_eq_true c1
              rw [List.length_map] at z
              omega
            obtain ⟨c, hc⟩ : ∃ c, cs[i]? = some c := ⟨_, List.getElem?_eq_getElem hlt⟩
            have etake : (es2.zip cs).take (i + 1) = (es2.zip cs).take i ++ [(e, c)] := by
              rw [List.take_add_one, show (es2.zip cs)[i]? = some (e, c) from List.getElem?_zip_eq_some.mpr ⟨he, hc⟩]
              rfl
            refine ⟨_, rfl, _, rfl, M, _, _, .int c, rfl, rfl, SqL.of hM1, atI_nat (by rw [List.getElem?_map, hc]; rfl), ?_⟩
            refine ⟨_, rfl, U, rfl, .inl ⟨_, .inl hU1⟩, _, rfl, by show 1 ≤ sizeLine; decide, fun t1' nt1 => ⟨_, rfl, t1', _, [.int 0], rfl, rfl, SqT.of upd_same, (fun z => by cases z), by omega, by omega, by decide, fun zz nzz => ?_⟩⟩
            have sz : Same H15 _ := (same_upd (o := .tup [.int 0]) nt1).trans (same_upd (o := .tup (List.replicate (((2 * h : Nat) : Int)).toNat [V.int 0]).flatten) nzz)
            refine ⟨_, DGet.k (k := Sum.inl e.2.1) (sz _ _ hU1), _, _, rfl, ?_⟩
            obtain ⟨r, er, hr⟩ := (hc1.keep (Keep.of sz)).get (z := zz) (by rw [upd_same, flat_zeros]) e.2.1
            rw [er]
            have bu2 := bu1.same sz
            have hU2 := sz _ _ hU1
            have hc2 := hc1.keep (Keep.of sz)
            have hed2 := sz _ _ hed
            generalize upd (upd H15 t1' (.tup [.int 0])) zz (.tup (List.replicate (((2 * h : Nat) : Int)).toNat [V.int 0]).flatten) = H16 at sz hr bu2 hU2 hc2 hed2 ⊢
            refine ⟨_, rfl, rfl, _, rfl, ite2 (fun c2 => ?_) (fun c2 => ⟨_, rfl, rfl, _, rfl, ite2 (fun c3 => ?_) (fun c3 => ?_)⟩)⟩
            · have ec : c = 1 := by simpa using c2
              refine ⟨_, rfl, _, rfl, _, rfl, U, _, rfl, DPut.k (k := Sum.inl e.2.1) hU2 lk, ?_⟩
              refine ⟨bu2.put, ⟨_, upd_same, by have := length_putK k3 (Sum.inl e.2.1) (.ref e.2.2); omega, ?_⟩, _, _, _, _, _, _, _, _, _, rfl⟩
              rw [etake, crash_snoc, crash1, if_pos ec]
              exact (hc2.put hed2 (hdat e hm).2).keep (Keep.upd fun xs z => by rw [hU2] at z; cases z)
            · have ec : c = 2 := by simpa using c3
              have ec1 : c ≠ 1 := by omega
              refine ⟨_, rfl, _, rfl, _, _, rfl, rfl, ⟨by decide, by decide⟩, _, rfl, ?_⟩
              refine half_read (K := K) (x := dat e.2.2) (y := crash h dat f ((es2.zip cs).take i) e.2.1) (h := h) (hdat e hm).2 (hc2.len _) h1 (by omega) (by show ((2 * h : Nat) : Int) / 2 = (h : Int); omega) hed2 _ _ (fun H3 Q3 s3 q3 => ⟨_, rfl, q3 r H3 (Same.refl _) (s3 _ _ hr)⟩) _ (fun H3 Q3 q3 => ⟨_, rfl, _, _, rfl, rfl, ⟨by decide, by decide⟩, _, rfl, q3⟩) (fun r2 H3 s3 hr3 => ?_)
              refine ⟨_, rfl, _, rfl, U, _, rfl, DPut.k (k := Sum.inl e.2.1) (s3 _ _ hU2) lk, ?_⟩
              refine ⟨(bu2.same s3).put, ⟨_, upd_same, by have := length_putK k3 (Sum.inl e.2.1) (.ref r2); omega, ?_⟩, _, _, _, _, _, _, _, _, _, rfl⟩
              rw [etake, crash_snoc, crash1, if_neg ec1, if_pos ec]
              refine ((hc2.keep (Keep.of s3)).put hr3 ?_).keep (Keep.upd fun xs z => by rw [s3 _ _ hU2] at z; cases z)
              rw [List.length_append, List.length_take, List.length_drop, (hdat e hm).2, hc2.len]
              omega
            · refine ⟨_, rfl, _, rfl, _, rfl, U, _, rfl, DPut.k (k := Sum.inl e.2.1) hU2 lk, ?_⟩
              refine ⟨bu2.put, ⟨_, upd_same, by have := length_putK k3 (Sum.inl e.2.1) (.ref r); omega, ?_⟩, _, _, _, _, _, _, _, _, _, rfl⟩
              rw [etake, crash_snoc, crash1, if_neg (by simpa using c2), if_neg (by simpa using c3)]
              have z := (hc2.put (n := e.2.1) hr (hc2.len _)).keep (Keep.upd (a := U) (o := .dK (putK k3 (Sum.inl e.2.1) (.ref r))) fun xs z => by rw [hU2] at z; cases z)
              rw [setF_self] at z
              exact z
          · have hge : cs.length ≤ i := by
              simp only [decide_eq_true_eq, List.length_map] at c1
              omega
            have etake : (es2.zip cs).take (i + 1) = (es2.zip cs).take i := by
              have z : (es2.zip cs).length ≤ i := by rw [List.length_zip]; omega
              rw [List.take_of_length_le z, List.take_of_length_le (by omega)]
            refine ⟨_, rfl, U, rfl, .inl ⟨_, .inl hU1⟩, _, rfl, by show 1 ≤ sizeLine; decide, fun t1' nt1 => ⟨_, rfl, t1', _, [.int 0], rfl, rfl, SqT.of upd_same, (fun z => by cases z), by omega, by omega, by decide, fun zz nzz => ?_⟩⟩
            have sz : Same H15 _ := (same_upd (o := .tup [.int 0]) nt1).trans (same_upd (o := .tup (List.replicate (((2 * h : Nat) : Int)).toNat [V.int 0]).flatten) nzz)
            refine ⟨_, DGet.k (k := Sum.inl e.2.1) (sz _ _ hU1), _, _, rfl, ?_⟩
            obtain ⟨r, er, hr⟩ := (hc1.keep (Keep.of sz)).get (z := zz) (by rw [upd_same, flat_zeros]) e.2.1
            rw [er]
            have bu2 := bu1.same sz
            have hU2 := sz _ _ hU1
            have hc2 := hc1.keep (Keep.of sz)
            generalize upd (upd H15 t1' (.tup [.int 0])) zz (.tup (List.replicate (((2 * h : Nat) : Int)).toNat [V.int 0]).flatten) = H16 at sz hr bu2 hU2 hc2 ⊢
            refine ⟨_, rfl, rfl, _, rfl, iteDN (by intro z; injection z with z; omega) ⟨_, rfl, rfl, _, rfl, iteDN (by intro z; injection z with z; omega) ?_⟩⟩
            refine ⟨_, rfl, _, rfl, _, rfl, U, _, rfl, DPut.k (k := Sum.inl e.2.1) hU2 lk, ?_⟩
            refine ⟨bu2.put, ⟨_, upd_same, by have := length_putK k3 (Sum.inl e.2.1) (.ref r); omega, ?_⟩, _, _, _, _, _, _, _, _, _, rfl⟩
            rw [etake]
            have z := (hc2.put (n := e.2.1) hr (hc2.len _)).keep (Keep.upd (a := U) (o := .dK (putK k3 (Sum.inl e.2.1) (.ref r))) fun xs z => by rw [hU2] at z; cases z)
            rw [setF_self] at z
            exact z
        · obtain ⟨bu, ⟨k3, hU3, hk3, hc3⟩, y8, y9, y10, y11, y14, y15, y16, y17, y20, rfl⟩ := q
          have ecr : (es2.zip cs).take (es2.map fun e => V.ref e.1).length = es2.zip cs := List.take_of_length_le (by rw [List.length_zip, List.length_map]; omega)
          rw [ecr, crash_congr h dat es es2 cs f eqw] at hc3
          have hx3 := bu _ _ hx nxU
          have hB3 := bu _ _ hB' nBU
          have hW3 := bu _ _ hW' nWU
          have hR3 := bu _ _ W4.row nRU
          have hT3 := bu.tabs (by rw [hU]; exact Soft.dK) W4.tabs
          have hC3 : Cont H' (2 * h) kvs' (crash h dat f (es.zip cs)) := hC'.keep fun d xs z => bu _ _ z (ne_of z hU (by intro z; cases z))
          have hw0 : ∀ {H3 : Hp}, H3 W' = some (.lst []) → WaitAt H3 W' [] := fun e => ⟨e, (fun e he => by cases he)⟩
          clear hcf hdat tb W4 W3 W2
          refine ⟨_, rfl, tot, rfl, by omega, by omega, fun Lc nLc => ?_⟩
          refine lc_range (lo := 0) (n := tot.toNat) (fun i H3 => H3 Lc = some (.lst []) ∧ Same H' H3) ⟨upd_same, same_upd nLc⟩ (fun i H3 hi q => ?_) (fun H3 q => ?_)
          · obtain ⟨hLc, s3⟩ := q
            have hx4 := s3 _ _ hx3
            have hB4 := s3 _ _ hB3
            have hW4 := s3 _ _ hW3
            have hU4 := s3 _ _ hU3
            refine ⟨rfl, _, rfl, x, dx', _, rfl, hx4, rfl, _, rfl, x, dx', _, B', W', _, kvs', [], rfl, hx4, hB4, hw0 hW4, (by show 2 ≤ ((2 * h : Nat) : Int); omega), (by show ((2 * h : Nat) : Int) ≤ 1000; omega), (fun z => Bool.noConfusion z), (fun z => z (by show 0 ≤ (0 : Int) + (i : Int) ∧ (0 : Int) + (i : Int) < tot; omega)), fun _ _ => ⟨(fun t z => by cases z), fun _ H4 z s4 nz hz => ?_⟩⟩
            have hz : H4 z = some (.tup (zeros ((2 * h : Nat) : Int))) := hz
            obtain ⟨r1, er1, hr1⟩ := ((hC3.keep (Keep.of s3)).keep (Keep.of s4)).get hz ((0 : Int) + (i : Int))
            rw [er1]
            refine ⟨_, rfl, U, rfl, .inl ⟨_, .inl (s4 _ _ hU4)⟩, _, rfl, by show 1 ≤ sizeLine; decide, fun t1' nt1 => ⟨_, rfl, t1', _, [.int 0], rfl, rfl, SqT.of upd_same, (fun z => by cases z), by omega, by omega, by decide, fun zz nzz => ?_⟩⟩
            have sz : Same H4 _ := (same_upd (o := .tup [.int 0]) nt1).trans (same_upd (o := .tup (List.replicate (((2 * h : Nat) : Int)).toNat [V.int 0]).flatten) nzz)
            refine ⟨_, DGet.k (k := Sum.inl ((0 : Int) + (i : Int))) (sz _ _ (s4 _ _ hU4)), ?_⟩
            obtain ⟨r2, er2, hr2⟩ := (((hc3.keep (Keep.of s3)).keep (Keep.of s4)).keep (Keep.of sz)).get (z := zz) (by rw [upd_same, flat_zeros]) ((0 : Int) + (i : Int))
            rw [er2]
            refine ne_ints (sz _ _ hr1) hr2 ⟨_, rfl, iteF ⟨sz _ _ (s4 _ _ hLc), (s3.trans s4).trans sz⟩⟩
          · obtain ⟨hLc, s3⟩ := q
            have hx4 := s3 _ _ hx3
            refine ⟨by show 0 ≤ sizeLine; decide, fun L2 nL2 => ?_⟩
            have s4 : Same H3 (upd H3 L2 (.lst [])) := same_upd nL2
            refine ne_nil (s4 _ _ hLc) upd_same ⟨_, rfl, iteF ⟨_, rfl, x, C, dx', _, _, rfl, s4 _ _ hx4, T.cl, T.n6, rfl, _, rfl, iteF ⟨_, rfl, x, C, dx', _, _, rfl, s4 _ _ hx4, T.cl, T.n4, rfl, by show 0 ≤ sizeLine; decide, fun L3 nL3 => ?_⟩⟩⟩
            have s5 : Same (upd H3 L2 (.lst [])) (upd (upd H3 L2 (.lst [])) L3 (.lst [])) := same_upd nL3
            have s6 := (s3.trans s4).trans s5
            refine ne_nil (s6 _ _ hW3) upd_same ⟨_, rfl, iteF ?_⟩
            generalize upd (upd H3 L2 (.lst [])) L3 (.lst []) = H5 at s6 ⊢
            have hx5 := s6 _ _ hx3
            refine ⟨_, rfl, x, C, dx', _, _, rfl, hx5, T.cl, T.n1, rfl, _, rfl, rfl, _, rfl, iteNS rfl ⟨_, rfl, x, C, dx', _, _, rfl, hx5, T.cl, T.n2, rfl, _, rfl, rfl, _, rfl, iteNS rfl ⟨hT3.ext s6, fun H6 e6 t6 => ?_⟩⟩⟩
            have hx6 := e6 _ _ hx5 (fun ps z => by cases z)
            have hB6 := e6 _ _ (s6 _ _ hB3) (fun ps z => by cases z)
            have hW6 := e6 _ _ (s6 _ _ hW3) (fun ps z => by cases z)
            have hR6 := e6 _ _ (s6 _ _ hR3) (fun ps z => by cases z)
            refine ⟨_, rfl, x, dx', _, rfl, hx6, rfl, _, rfl, x, dx', _, B', W', tot, kvs', [], rfl, hx6, hB6, hw0 hW6, (by show 2 ≤ ((2 * h : Nat) : Int); omega), (by show ((2 * h : Nat) : Int) ≤ 1000; omega), (fun z => Bool.noConfusion z), (fun _ => ⟨true, lexm, fun _ => ?_, fun z => Bool.noConfusion z⟩), (fun _ z => absurd z.2 (by show ¬ tot < tot; omega))⟩
            refine ⟨rfl, _, rfl, iteNS rfl ?_⟩
            exact ⟨hR6, fun z => by cases z⟩
end
end K08
namespace HK
open PySem PySem.Spec PyProof.Rows L2 LamX
theorem tabIn_of {K : PySem.W.Frag} {x : Str} {f c P : Addr} {fd : FuncData} {oc c1 : Value} {od c2 : Option Addr} {sl c3 : Array (Option Value)} {vs : Array Value} (a : PySem.W.nsIn K mainGlobals x = some (some (.ref f))) (l : K.lookup f = some ⟨oc, od, .func fd, sl⟩) (hc : fd.code = .ref c)
    (lc : K.lookup c = some ⟨c1, c2, .fields vs, c3⟩) (hv : vs[11]? = some (.ref P)) : PySem.W.tabIn K x = some (c, P) := by
  unfold PySem.W.tabIn
  rw [a]
  dsimp only
  rw [l]
  dsimp only
  rw [hc]
  dsimp only
  rw [lc]
  dsimp only
  rw [hv]
/-- the end of a law's row, the law's own table of code objects told -/
theorem walk_TT {l : PySem.W.OpenLaw} {n k : Nat} {q : Program} {loose : List Str} {XP : (Str → Option Value) → Heap → Prop} {YP : World → Heap → Prop} {d : DefRec} {K : Params → PySem.W.Frag} {CX : World → CXT} {x : Str}
    (hn : l.most = some n) (hn2 : n ≤ sizeLine) (hdf : d.params.defaults = []) (hr : Room k callerA) (hY : ∀ (w : World) (h : Heap), YP w h → (K w.params).In h) (hrec : (recsOf q).find? (fun e => e.name == d.name) = some d)
    (F : ∀ (w : World) (mg : Str → Option Value) (fa : Addr) (h : Heap), (∀ c P, PySem.W.tabIn (K w.params) d.name = some (c, P) → PySem.W.CodeHd h c P ∧ h.get? P = some ({ cls := .none, data := .fields #[] } : Obj)) → (K w.params).In h → h.Ns mainGlobals mg → mg d.name = some (.ref fa) → LawAtS l w (K w.params) (CX w) k n x mg fa h)
    (hCX : ∀ (w : World) (H : Hp) (s : Shared) (e : Value) (s' : Shared), CX w [] H s (fun _ _ _ => False) e s' → False) :
    PySem.W.WalkO q loose XP YP l.row.toRowW d [] (fun f vs => PySem.call f vs) := by
  refine Att.attach_callB hn hdf fun w s0 s1 mg mb fa o pm cd doc a vs ns G Y ho hd hcd hmg hobj hints hlen hbits hg => ?_
  have KX := hY w _ Y
  obtain ⟨fd, cs, sp, hT, nT, C, hb, hsp, hF⟩ := F w mg fa _ (fun c P ht => PySem.W.tab_of G.T KX hrec ht) KX G.T.g hmg
  exact law_callTs KX G.T.g G.T.b G.T.builtins G.T.nolimit hg hT nT C G.T.bmain hobj hints (Nat.le_trans hlen hn2) hr hF hb (fun H hH hS => hsp H a ns hlen hbits hH hS) fun H e s' => hCX w H s1 e s'
theorem exm_same {K : PySem.W.Frag} {C : Addr} (h1 : PySem.W.subIn K (.ref C) (.type "BaseException") = some true) (h2 : PySem.W.isClsIn K C = true) (h3 : PySem.W.typeIn K (.ref C) = some (.type "type")) (h4 : PySem.W.subIn K (.ref C) (.ref C) = some true) : PySem.W.exmOne K (.ref C) (.ref C) = some true :=
  by
  have e1 : (PySem.W.subIn K (.ref C) (.type "BaseException") == some true) = true := by rw [h1]; rfl
  unfold PySem.W.exmOne
  rw [if_pos e1]
  show (if ((PySem.W.clsIn K C).isSome && PySem.W.typeIn K (.ref C) == some (.type "type")) = true then PySem.W.subIn K (.ref C) (.ref C) else none) = some true
  have e2 : (PySem.W.clsIn K C).isSome = true := h2
  rw [e2, h3, h4]
  rfl
end HK
namespace K08
open PySem L2 HK
theorem all_mk {l : PySem.W.OpenLaw} {w : World} {K : PySem.W.Frag} {h : Heap} {mg : Str → Option Value} {fa : Addr} (X : K.In h) (G : h.Ns mainGlobals mg) (hfa : mg "law" = some (.ref fa))
    (tabs : ∀ c P, PySem.W.tabIn K "law" = some (c, P) → PySem.W.CodeHd h c P ∧ h.get? P = some ({ cls := .none, data := .fields #[] } : Obj))
    {fDice : Addr} {odDice anDice : Option Addr} {slDice : Array (Option Value)} {ocDice kVDice dcDice pmDice cdDice ctDice : Value}
    {fRoll : Addr} {odRoll anRoll : Option Addr} {slRoll : Array (Option Value)} {ocRoll kVRoll dcRoll pmRoll cdRoll ctRoll : Value}
    {fRounds : Addr} {odRounds anRounds : Option Addr} {slRounds : Array (Option Value)} {ocRounds kVRounds dcRounds pmRounds cdRounds ctRounds : Value}
    {fTold : Addr} {odTold anTold : Option Addr} {slTold : Array (Option Value)} {ocTold kVTold dcTold pmTold cdTold ctTold : Value}
    {fArm : Addr} {odArm anArm : Option Addr} {slArm : Array (Option Value)} {ocArm kVArm dcArm pmArm cdArm ctArm : Value}
    {fAlive : Addr} {odAlive anAlive : Option Addr} {slAlive : Array (Option Value)} {ocAlive kVAlive dcAlive pmAlive cdAlive ctAlive : Value}
    {fStep : Addr} {odStep anStep : Option Addr} {slStep : Array (Option Value)} {ocStep kVStep dcStep pmStep cdStep ctStep : Value}
    {fNumber : Addr} {odNumber anNumber : Option Addr} {slNumber : Array (Option Value)} {ocNumber kVNumber dcNumber pmNumber cdNumber ctNumber : Value}
    {fBlock : Addr} {odBlock anBlock : Option Addr} {slBlock : Array (Option Value)} {ocBlock kVBlock dcBlock pmBlock cdBlock ctBlock : Value}
    {fKept : Addr} {odKept anKept : Option Addr} {slKept : Array (Option Value)} {ocKept kVKept dcKept pmKept cdKept ctKept : Value}
    {fRead : Addr} {odRead anRead : Option Addr} {slRead : Array (Option Value)} {ocRead kVRead dcRead pmRead cdRead ctRead : Value}
    {fWrite : Addr} {odWrite anWrite : Option Addr} {slWrite : Array (Option Value)} {ocWrite kVWrite dcWrite pmWrite cdWrite ctWrite : Value}
    {fFlush : Addr} {odFlush anFlush : Option Addr} {slFlush : Array (Option Value)} {ocFlush kVFlush dcFlush pmFlush cdFlush ctFlush : Value}
    {fRest : Addr} {odRest anRest : Option Addr} {slRest : Array (Option Value)} {ocRest kVRest dcRest pmRest cdRest ctRest : Value}
    {fL cL PT : Addr} {odL anL cdL2 : Option Addr} {slL cslL : Array (Option Value)} {ocL kVL dcL pmL ctL ccL : Value} {vsL : Array Value}
    {fI TI : Addr} {odI anI : Option Addr} {slI : Array (Option Value)} {ocI kVI dcI pmI cdI ctI : Value} {oTI : Obj} {nTI : Nat} {C CE : Addr} {tK tH : Tok}
    (aDice : PySem.W.nsIn K mainGlobals "_law_dice" = some (some (.ref fDice)))
    (lDice : K.lookup fDice = some ⟨ocDice, odDice, .func (PySem.W.fnOf "_law_dice" "_law_dice" (defArgs sDice) (defBody sDice) (defScope sDice) .none kVDice dcDice pmDice anDice cdDice ctDice), slDice⟩)
    (cDice : PySem.W.codeIn K cdDice "_law_dice" = true)
    (kDice : PySem.W.keepIn K (.ref fDice) = true)
    (aRoll : PySem.W.nsIn K mainGlobals "_law_roll" = some (some (.ref fRoll)))
    (lRoll : K.lookup fRoll = some ⟨ocRoll, odRoll, .func (PySem.W.fnOf "_law_roll" "_law_roll" (defArgs sRoll) (defBody sRoll) (defScope sRoll) .none kVRoll dcRoll pmRoll anRoll cdRoll ctRoll), slRoll⟩)
    (cRoll : PySem.W.codeIn K cdRoll "_law_roll" = true)
    (kRoll : PySem.W.keepIn K (.ref fRoll) = true)
    (aRounds : PySem.W.nsIn K mainGlobals "_law_rounds" = some (some (.ref fRounds)))
    (lRounds : K.lookup fRounds = some ⟨ocRounds, odRounds, .func (PySem.W.fnOf "_law_rounds" "_law_rounds" (defArgs sRounds) (defBody sRounds) (defScope sRounds) .none kVRounds dcRounds pmRounds anRounds cdRounds ctRounds), slRounds⟩)
    (cRounds : PySem.W.codeIn K cdRounds "_law_rounds" = true)
    (kRounds : PySem.W.keepIn K (.ref fRounds) = true)
    (aTold : PySem.W.nsIn K mainGlobals "_law_told" = some (some (.ref fTold)))
    (lTold : K.lookup fTold = some ⟨ocTold, odTold, .func (PySem.W.fnOf "_law_told" "_law_told" (defArgs sTold) (defBody sTold) (defScope sTold) .none kVTold dcTold pmTold anTold cdTold ctTold), slTold⟩)
    (cTold : PySem.W.codeIn K cdTold "_law_told" = true)
    (kTold : PySem.W.keepIn K (.ref fTold) = true)
    (aArm : PySem.W.findIn K (.ref C) "arm" = some (some (.ref fArm)))
    (iArm : PySem.W.isFn K (.ref fArm) = true)
    (lArm : K.lookup fArm = some ⟨ocArm, odArm, .func (PySem.W.fnOf "arm" "Device.arm" (defArgs sArm) (defBody sArm) (defScope sArm) .none kVArm dcArm pmArm anArm cdArm ctArm), slArm⟩)
    (cArm : PySem.W.codeIn K cdArm "Device.arm" = true)
    (kArm : PySem.W.keepIn K (.ref fArm) = true)
    (aAlive : PySem.W.findIn K (.ref C) "check_alive" = some (some (.ref fAlive)))
    (iAlive : PySem.W.isFn K (.ref fAlive) = true)
    (lAlive : K.lookup fAlive = some ⟨ocAlive, odAlive, .func (PySem.W.fnOf "check_alive" "Device.check_alive" (defArgs sAlive) (defBody sAlive) (defScope sAlive) .none kVAlive dcAlive pmAlive anAlive cdAlive ctAlive), slAlive⟩)
    (cAlive : PySem.W.codeIn K cdAlive "Device.check_alive" = true)
    (kAlive : PySem.W.keepIn K (.ref fAlive) = true)
    (aStep : PySem.W.findIn K (.ref C) "step" = some (some (.ref fStep)))
    (iStep : PySem.W.isFn K (.ref fStep) = true)
    (lStep : K.lookup fStep = some ⟨ocStep, odStep, .func (PySem.W.fnOf "step" "Device.step" (defArgs sStep) (defBody sStep) (defScope sStep) .none kVStep dcStep pmStep anStep cdStep ctStep), slStep⟩)
    (cStep : PySem.W.codeIn K cdStep "Device.step" = true)
    (kStep : PySem.W.keepIn K (.ref fStep) = true)
    (aNumber : PySem.W.findIn K (.ref C) "check_number" = some (some (.ref fNumber)))
    (iNumber : PySem.W.isFn K (.ref fNumber) = true)
    (lNumber : K.lookup fNumber = some ⟨ocNumber, odNumber, .func (PySem.W.fnOf "check_number" "Device.check_number" (defArgs sNumber) (defBody sNumber) (defScope sNumber) .none kVNumber dcNumber pmNumber anNumber cdNumber ctNumber), slNumber⟩)
    (cNumber : PySem.W.codeIn K cdNumber "Device.check_number" = true)
    (kNumber : PySem.W.keepIn K (.ref fNumber) = true)
    (aBlock : PySem.W.findIn K (.ref C) "check_block" = some (some (.ref fBlock)))
    (iBlock : PySem.W.isFn K (.ref fBlock) = true)
    (lBlock : K.lookup fBlock = some ⟨ocBlock, odBlock, .func (PySem.W.fnOf "check_block" "Device.check_block" (defArgs sBlock) (defBody sBlock) (defScope sBlock) .none kVBlock dcBlock pmBlock anBlock cdBlock ctBlock), slBlock⟩)
    (cBlock : PySem.W.codeIn K cdBlock "Device.check_block" = true)
    (kBlock : PySem.W.keepIn K (.ref fBlock) = true)
    (aKept : PySem.W.findIn K (.ref C) "kept" = some (some (.ref fKept)))
    (iKept : PySem.W.isFn K (.ref fKept) = true)
    (lKept : K.lookup fKept = some ⟨ocKept, odKept, .func (PySem.W.fnOf "kept" "Device.kept" (defArgs sKept) (defBody sKept) (defScope sKept) .none kVKept dcKept pmKept anKept cdKept ctKept), slKept⟩)
    (cKept : PySem.W.codeIn K cdKept "Device.kept" = true)
    (kKept : PySem.W.keepIn K (.ref fKept) = true)
    (aRead : PySem.W.findIn K (.ref C) "read" = some (some (.ref fRead)))
    (iRead : PySem.W.isFn K (.ref fRead) = true)
    (lRead : K.lookup fRead = some ⟨ocRead, odRead, .func (PySem.W.fnOf "read" "Device.read" (defArgs sRead) (defBody sRead) (defScope sRead) .none kVRead dcRead pmRead anRead cdRead ctRead), slRead⟩)
    (cRead : PySem.W.codeIn K cdRead "Device.read" = true)
    (kRead : PySem.W.keepIn K (.ref fRead) = true)
    (aWrite : PySem.W.findIn K (.ref C) "write_block" = some (some (.ref fWrite)))
    (iWrite : PySem.W.isFn K (.ref fWrite) = true)
    (lWrite : K.lookup fWrite = some ⟨ocWrite, odWrite, .func (PySem.W.fnOf "write_block" "Device.write_block" (defArgs sWrite) (defBody sWrite) (defScope sWrite) .none kVWrite dcWrite pmWrite anWrite cdWrite ctWrite), slWrite⟩)
    (cWrite : PySem.W.codeIn K cdWrite "Device.write_block" = true)
    (kWrite : PySem.W.keepIn K (.ref fWrite) = true)
    (aFlush : PySem.W.findIn K (.ref C) "flush" = some (some (.ref fFlush)))
    (iFlush : PySem.W.isFn K (.ref fFlush) = true)
    (lFlush : K.lookup fFlush = some ⟨ocFlush, odFlush, .func (PySem.W.fnOf "flush" "Device.flush" (defArgs sFlush) (defBody sFlush) (defScope sFlush) .none kVFlush dcFlush pmFlush anFlush cdFlush ctFlush), slFlush⟩)
    (cFlush : PySem.W.codeIn K cdFlush "Device.flush" = true)
    (kFlush : PySem.W.keepIn K (.ref fFlush) = true)
    (aRest : PySem.W.findIn K (.ref C) "restarted" = some (some (.ref fRest)))
    (iRest : PySem.W.isFn K (.ref fRest) = true)
    (lRest : K.lookup fRest = some ⟨ocRest, odRest, .func (PySem.W.fnOf "restarted" "Device.restarted" (defArgs sRest) (defBody sRest) (defScope sRest) .none kVRest dcRest pmRest anRest cdRest ctRest), slRest⟩)
    (cRest : PySem.W.codeIn K cdRest "Device.restarted" = true)
    (kRest : PySem.W.keepIn K (.ref fRest) = true)
    (aI : PySem.W.findIn K (.ref C) "__init__" = some (some (.ref fI)))
    (iI : PySem.W.isFn K (.ref fI) = true)
    (lI : K.lookup fI = some ⟨ocI, odI, .func (PySem.W.fnOf "__init__" "Device.__init__" (defArgs sInit) (defBody sInit) (defScope sInit) (.ref TI) kVI dcI pmI anI cdI ctI), slI⟩)
    (cI : PySem.W.codeIn K cdI "Device.__init__" = true)
    (kI : PySem.W.keepIn K (.ref fI) = true)
    (lT : K.lookup TI = some oTI)
    (dT : oTI.data = .seq ([Value.none] : List Value).toArray nTI)
    (aL : PySem.W.nsIn K mainGlobals "law" = some (some (.ref fL)))
    (lL : K.lookup fL = some ⟨ocL, odL, .func (PySem.W.fnOf "law" "law" (defArgs sLaw) (defBody sLaw) (defScope sLaw) .none kVL dcL pmL anL (.ref cL) ctL), slL⟩)
    (cL1 : PySem.W.codeIn K (.ref cL) "law" = true)
    (lcL : K.lookup cL = some ⟨ccL, cdL2, .fields vsL, cslL⟩)
    (vL : vsL[11]? = some (.ref PT))
    (nP : K.lookup PT = none)
    (aC : PySem.W.nsIn K mainGlobals "Device" = some (some (.ref C)))
    (pg : PySem.W.plainGet K C Str.empty = true)
    (hd : PySem.W.hasDictIn K C = true)
    (po : PySem.W.plainOver K C = true)
    (sa : PySem.W.findIn K (.ref C) "__setattr__" = some (some (.builtin "object.__setattr__")))
    (mk : PySem.W.makesIn K C = true)
    (kC : PySem.W.keepIn K (.ref C) = true)
    (n1 : PySem.W.findIn K (.ref C) "block_size" = some none)
    (n2 : PySem.W.findIn K (.ref C) "total" = some none)
    (n3 : PySem.W.findIn K (.ref C) "blocks" = some none)
    (n4 : PySem.W.findIn K (.ref C) "waiting" = some none)
    (n5 : PySem.W.findIn K (.ref C) "fuse" = some none)
    (n6 : PySem.W.findIn K (.ref C) "dead" = some none)
    (n7 : PySem.W.findIn K (.ref C) "steps" = some none)
    (aE : PySem.W.nsIn K mainGlobals "DeviceError" = some (some (.ref CE)))
    (xE : PySem.W.excIn K CE [.type "ValueError", .type "Exception", .type "BaseException", .type "object"] "ValueError.__new__" = true)
    (kE : PySem.W.keepIn K (.ref CE) = true)
    (bE : PySem.W.subIn K (.ref CE) (.type "BaseException") = some true)
    (tE : PySem.W.typeIn K (.ref CE) = some (.type "type"))
    (isE : PySem.W.isClsIn K CE = true)
    (ssE : PySem.W.subIn K (.ref CE) (.ref CE) = some true)
    (mK : PySem.W.nsIn K mainGlobals "KEPT" = some (some (.int 1 tK)))
    (mH : PySem.W.nsIn K mainGlobals "HALF_KEPT" = some (some (.int 2 tH)))
    (z_len : PySem.W.nsIn K mainGlobals "len" = some none)
    (z_tuple : PySem.W.nsIn K mainGlobals "tuple" = some none)
    (z_int : PySem.W.nsIn K mainGlobals "int" = some none)
    (z_abs : PySem.W.nsIn K mainGlobals "abs" = some none)
    (z_range : PySem.W.nsIn K mainGlobals "range" = some none)
    (z_list : PySem.W.nsIn K mainGlobals "list" = some none)
    (z_dict : PySem.W.nsIn K mainGlobals "dict" = some none)
    (z_enumerate : PySem.W.nsIn K mainGlobals "enumerate" = some none)
    (z_reversed : PySem.W.nsIn K mainGlobals "reversed" = some none)
    (z_zip : PySem.W.nsIn K mainGlobals "zip" = some none)
    : LamX.LawAtS l w K L2.CX0 8 63 "script" mg fa h := by
  have e := hfa.symm.trans (PySem.W.mg_of X G aL)
  cases e
  obtain ⟨hd', ht⟩ := tabs cL PT (tabIn_of aL lL rfl lcL vL)
  have T : DTxt K mg C CE := ⟨⟨pg, hd, po, sa⟩, n1, n2, n3, n4, n5, n6, n7, PySem.W.mg_of X G aC, PySem.W.mg_of X G aE, xE, kE, bE, tE, PySem.W.mg_none_of X G z_len, PySem.W.mg_none_of X G z_tuple, PySem.W.mg_none_of X G z_dict, PySem.W.mg_none_of X G z_reversed, PySem.W.mg_none_of X G z_zip,
    ⟨_, PySem.W.mg_of X G mK⟩, ⟨_, PySem.W.mg_of X G mH⟩⟩
  have mI := PySem.W.mg_none_of X G z_int
  have mA := PySem.W.mg_none_of X G z_abs
  have GDice := fun_mk (st := sDice) lDice cDice kDice
  have mDice := PySem.W.mg_of X G aDice
  have GRoll := fun_mk (st := sRoll) lRoll cRoll kRoll
  have mRoll := PySem.W.mg_of X G aRoll
  have GRounds := fun_mk (st := sRounds) lRounds cRounds kRounds
  have mRounds := PySem.W.mg_of X G aRounds
  have GTold := fun_mk (st := sTold) lTold cTold kTold
  have mTold := PySem.W.mg_of X G aTold
  have GArm := fun_mk (st := sArm) lArm cArm kArm
  have GAlive := fun_mk (st := sAlive) lAlive cAlive kAlive
  have GStep := fun_mk (st := sStep) lStep cStep kStep
  have GNumber := fun_mk (st := sNumber) lNumber cNumber kNumber
  have GBlock := fun_mk (st := sBlock) lBlock cBlock kBlock
  have GKept := fun_mk (st := sKept) lKept cKept kKept
  have GRead := fun_mk (st := sRead) lRead cRead kRead
  have GWrite := fun_mk (st := sWrite) lWrite cWrite kWrite
  have GFlush := fun_mk (st := sFlush) lFlush cFlush kFlush
  have GRest := fun_mk (st := sRest) lRest cRest kRest
  have bDice := GDice.binds (ps := ["cell"]) fun _ _ _ _ _ _ us hl => match us, hl with | [_], _ => rfl
  have bRoll := GRoll.binds (ps := ["dice", "many"]) fun _ _ _ _ _ _ us hl => match us, hl with | [_, _], _ => rfl
  have bRounds := GRounds.binds (ps := ["script", "most"]) fun _ _ _ _ _ _ us hl => match us, hl with | [_, _], _ => rfl
  have bArm := GArm.binds (ps := ["self", "steps"]) fun _ _ _ _ _ _ us hl => match us, hl with | [_, _], _ => rfl
  have bAlive := GAlive.binds (ps := ["self"]) fun _ _ _ _ _ _ us hl => match us, hl with | [_], _ => rfl
  have bStep := GStep.binds (ps := ["self"]) fun _ _ _ _ _ _ us hl => match us, hl with | [_], _ => rfl
  have bNumber := GNumber.binds (ps := ["self", "number"]) fun _ _ _ _ _ _ us hl => match us, hl with | [_, _], _ => rfl
  have bBlock := GBlock.binds (ps := ["self", "number", "data"]) fun _ _ _ _ _ _ us hl => match us, hl with | [_, _, _], _ => rfl
  have bKept := GKept.binds (ps := ["self", "number"]) fun _ _ _ _ _ _ us hl => match us, hl with | [_, _], _ => rfl
  have bRead := GRead.binds (ps := ["self", "number"]) fun _ _ _ _ _ _ us hl => match us, hl with | [_, _], _ => rfl
  have bWrite := GWrite.binds (ps := ["self", "number", "data"]) fun _ _ _ _ _ _ us hl => match us, hl with | [_, _, _], _ => rfl
  have bFlush := GFlush.binds (ps := ["self"]) fun _ _ _ _ _ _ us hl => match us, hl with | [_], _ => rfl
  have bRest := GRest.binds (ps := ["self", "choices"]) fun _ _ _ _ _ _ us hl => match us, hl with | [_, _], _ => rfl
  have GI : FDI K fI (PySem.W.fnOf "__init__" "Device.__init__" (defArgs sInit) (defBody sInit) (defScope sInit) (.ref TI) kVI dcI pmI anI cdI ctI) :=
    ⟨⟨ocI, odI, .ref TI, kVI, dcI, pmI, anI, cdI, ctI, slI, rfl, lI, cI, .inr ⟨(fun z => by cases z), TI, oTI, [.none], nTI, rfl, lT, dT, .cons rfl .nil⟩, .inl rfl⟩, kI⟩
  obtain ⟨ds, vds, bI⟩ := GI.binds1 (ps := ["self", "block_size", "count", "blocks"]) 3 0 (fun z => by cases z) rfl (fun _ _ _ _ _ _ _ us its h1 h2 => match us, its, h1, h2 with | [_, _, _], [_], _, _ => ⟨_, rfl, rfl⟩)
  obtain ⟨ds4, vds4, bI4⟩ := GI.binds1 (ps := ["self", "block_size", "count", "blocks"]) 4 1 (fun z => by cases z) rfl (fun _ _ _ _ _ _ _ us its h1 h2 => match us, its, h1, h2 with | [_, _, _, _], [_], _, _ => ⟨_, rfl, rfl⟩)
  cases vds4
  have bits : ∀ base : Heap, LTxt l.prog w K mg base C CE fTold := fun base => by
    have oDice := ok_dice (P := l.prog) (w := w) (mg := mg) (base := base) GDice mA mI
    have oRoll := ok_roll (P := l.prog) (w := w) (mg := mg) (base := base) GRoll mI
    have oRounds := ok_rounds (P := l.prog) (w := w) (mg := mg) (base := base) GRounds oDice mDice kDice bDice
    have oAlive := ok_alive (P := l.prog) (w := w) (base := base) GAlive T
    have oStep := ok_step (P := l.prog) (w := w) (base := base) GStep T oAlive bAlive ⟨aAlive, iAlive, kAlive⟩
    have oNumber := ok_number (P := l.prog) (w := w) (base := base) GNumber T
    have oBlock := ok_block (P := l.prog) (w := w) (base := base) GBlock T oNumber bNumber ⟨aNumber, iNumber, kNumber⟩
    have oKept := ok_kept (P := l.prog) (w := w) (base := base) GKept T
    have oInit := ok_init (P := l.prog) (w := w) (base := base) GI T
    have oArm := ok_arm (P := l.prog) (w := w) (base := base) GArm T
    have oRead := ok_read (P := l.prog) (w := w) (base := base) GRead T oAlive bAlive ⟨aAlive, iAlive, kAlive⟩ oNumber bNumber ⟨aNumber, iNumber, kNumber⟩ oKept bKept ⟨aKept, iKept, kKept⟩
    have oWrite := ok_write (P := l.prog) (w := w) (base := base) GWrite T oBlock bBlock ⟨aBlock, iBlock, kBlock⟩ oStep bStep ⟨aStep, iStep, kStep⟩
    have oFlush := ok_flush (P := l.prog) (w := w) (base := base) GFlush T oStep bStep ⟨aStep, iStep, kStep⟩
    have M : Mk K C fI := ⟨mk, aI, iI, kC⟩
    have oRest := ok_rest (P := l.prog) (w := w) (base := base) GRest T M oInit bI4 oKept bKept ⟨aKept, iKept, kKept⟩
    exact ⟨⟨mTold, kTold, ⟨_, _, _, _, _, _, _, _, _, lTold, cTold⟩, PySem.W.mg_of X G aE⟩, exm_same bE isE tE ssE, T, PySem.W.mg_none_of X G z_range, mI, PySem.W.mg_none_of X G z_list, PySem.W.mg_none_of X G z_enumerate,
      ⟨_, _, oRounds, mRounds, kRounds, bRounds⟩, ⟨_, _, oRoll, mRoll, kRoll, bRoll⟩, ⟨_, _, oWrite, ⟨aWrite, iWrite, kWrite⟩, bWrite⟩, ⟨_, _, oFlush, ⟨aFlush, iFlush, kFlush⟩, bFlush⟩, ⟨_, _, oRead, ⟨aRead, iRead, kRead⟩, bRead⟩,
      ⟨_, _, oRest, ⟨aRest, iRest, kRest⟩, bRest⟩, ⟨_, _, oArm, ⟨aArm, iArm, kArm⟩, bArm⟩, ⟨_, _, oInit, M, ds, vds, bI⟩⟩
  refine ⟨_, [(cL, PT)], spLaw K PT, fun p hp => ?_, fun p hp => ?_, fun p hp => ?_, fun s u => .of_eq rfl, fun H a ns _ _ hH hS => ⟨a, ns, rfl, hS, fun p hp => ?_, fun _ => rfl⟩, fun base _ _ TB => ok_law lL cL1 (TB _ List.mem_cons_self) (bits base)⟩
  · rw [List.mem_singleton.mp hp]
    exact ht
  · rw [List.mem_singleton.mp hp]
    exact nP
  · rw [List.mem_singleton.mp hp]
    exact hd'
  · rw [List.mem_singleton.mp hp]
    exact LamX.TabS.nil (hH _ List.mem_cons_self)
end K08
open PySem PySem.W PyProof.Rows
set_option maxRecDepth 100000 in
set_option maxHeartbeats 0 in
theorem PySem.Challenge.cw_hoststack_k08_devices_and_what_a_crash_l_holds : PySem.Challenge.rw_hoststack_k08_devices_and_what_a_crash_l.Holds := by
  w_on; o_law; k_head; (case hw => w_witness2)
  k_fill
  refine HK.walk_TT (l := PySem.Challenge.rw_hoststack_k08_devices_and_what_a_crash_l) (n := 63) (k := 8) (x := "script") (CX := fun _ => L2.CX0) rfl (by decide) rfl ⟨rfl, by decide, by decide⟩ (fun w h Y => PySem.W.km_in_of Y) (by rfl) ?F (fun _ _ _ _ _ z => z)
  case F =>
    intro w mg fa h tabs KX G hmg
    refine' K08.all_mk KX G hmg tabs ?aDice ?lDice ?cDice ?kDice ?aRoll ?lRoll ?cRoll ?kRoll ?aRounds ?lRounds ?cRounds ?kRounds ?aTold ?lTold ?cTold ?kTold ?aArm ?iArm ?lArm ?cArm ?kArm ?aAlive ?iAlive ?lAlive ?cAlive ?kAlive ?aStep ?iStep ?lStep ?cStep ?kStep ?aNumber ?iNumber ?lNumber ?cNumber ?kNumber ?aBlock ?iBlock ?lBlock ?cBlock ?kBlock ?aKept ?iKept ?lKept ?cKept ?kKept ?aRead ?iRead ?lRead ?cRead ?kRead ?aWrite ?iWrite ?lWrite ?cWrite ?kWrite ?aFlush ?iFlush ?lFlush ?cFlush ?kFlush ?aRest ?iRest ?lRest ?cRest ?kRest ?aI ?iI ?lI ?cI ?kI ?lT ?dT ?aL ?lL ?cL1 ?lcL ?vL ?nP ?aC ?pg ?hd ?po ?sa ?mk ?kC ?n1 ?n2 ?n3 ?n4 ?n5 ?n6 ?n7 ?aE ?xE ?kE ?bE ?tE ?isE ?ssE ?mK ?mH ?z_len ?z_tuple ?z_int ?z_abs ?z_range ?z_list ?z_dict ?z_enumerate ?z_reversed ?z_zip
    (case aDice => k_is)
    (case aRoll => k_is)
    (case aRounds => k_is)
    (case aTold => k_is)
    (case aL => k_is)
    (case aC => k_is)
    (case aE => k_is)
    (case mK => k_is)
    (case mH => k_is)
    (case z_len => k_is)
    (case z_tuple => k_is)
    (case z_int => k_is)
    (case z_abs => k_is)
    (case z_range => k_is)
    (case z_list => k_is)
    (case z_dict => k_is)
    (case z_enumerate => k_is)
    (case z_reversed => k_is)
    (case z_zip => k_is)
    (case lDice => k_is)
    (case cDice => k_is)
    (case kDice => k_is)
    (case lRoll => k_is)
    (case cRoll => k_is)
    (case kRoll => k_is)
    (case lRounds => k_is)
    (case cRounds => k_is)
    (case kRounds => k_is)
    (case lTold => k_is)
    (case cTold => k_is)
    (case kTold => k_is)
    (case aArm => k_is)
    (case iArm => k_is)
    (case lArm => k_is)
    (case cArm => k_is)
    (case kArm => k_is)
    (case aAlive => k_is)
    (case iAlive => k_is)
    (case lAlive => k_is)
    (case cAlive => k_is)
    (case kAlive => k_is)
    (case aStep => k_is)
    (case iStep => k_is)
    (case lStep => k_is)
    (case cStep => k_is)
    (case kStep => k_is)
    (case aNumber => k_is)
    (case iNumber => k_is)
    (case lNumber => k_is)
    (case cNumber => k_is)
    (case kNumber => k_is)
    (case aBlock => k_is)
    (case iBlock => k_is)
    (case lBlock => k_is)
    (case cBlock => k_is)
    (case kBlock => k_is)
    (case aKept => k_is)
    (case iKept => k_is)
    (case lKept => k_is)
    (case cKept => k_is)
    (case kKept => k_is)
    (case aRead => k_is)
    (case iRead => k_is)
    (case lRead => k_is)
    (case cRead => k_is)
    (case kRead => k_is)
    (case aWrite => k_is)
    (case iWrite => k_is)
    (case lWrite => k_is)
    (case cWrite => k_is)
    (case kWrite => k_is)
    (case aFlush => k_is)
    (case iFlush => k_is)
    (case lFlush => k_is)
    (case cFlush => k_is)
    (case kFlush => k_is)
    (case aRest => k_is)
    (case iRest => k_is)
    (case lRest => k_is)
    (case cRest => k_is)
    (case kRest => k_is)
    (case aI => k_is)
    (case iI => k_is)
    (case lI => k_is)
    (case cI => k_is)
    (case kI => k_is)
    (case lT => k_is)
    (case dT => rfl)
    (case lL => k_is)
    (case cL1 => k_is)
    (case lcL => k_is)
    (case vL => rfl)
    (case nP => kernel_rfl)
    (case pg => k_is)
    (case hd => k_is)
    (case po => k_is)
    (case sa => k_is)
    (case mk => k_is)
    (case kC => k_is)
    (case n1 => k_is)
    (case n2 => k_is)
    (case n3 => k_is)
    (case n4 => k_is)
    (case n5 => k_is)
    (case n6 => k_is)
    (case n7 => k_is)
    (case xE => k_exc)
    (case kE => k_is)
    (case bE => k_is)
    (case tE => k_is)
    (case isE => k_is)
    (case ssE => first | rfl | k_is)
