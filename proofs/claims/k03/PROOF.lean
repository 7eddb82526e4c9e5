import PyProof.Rows.All
import Wide.All
import OpenK.AllK
import Wide.FinOn
import HandS.ForMost
import HandS.Iter
import HandS.Codes
import HandS.StrMore
import HandS.ForExc
import HandS.ExcInit
import HandS.Lambda
import HandS.EndTab
import HandS.TupMul
import HandS.TupAny
import HandS.ListItems
import HandS.Walk
import HandS.More
import HandS.Defaults
import HandS.Rev
import HandS.TryMany
import KE.DataAny
import KE.KDictZip
import PyProof.AutoSeq1
import KE.KItemsList
import HandS.Zip
import KE.GoesZip
import KE.GoesMore
import KE.KEqSeq
import HandS.DictComp
import HandS.DeepEq
import KE.KEqDict
import HandS.Conv
import PySem.Challenge.RW_hoststack_k03_blocks_in_memory
set_option Elab.async false
set_option linter.all false
set_option maxRecDepth 100000
set_option maxHeartbeats 8000000
namespace HK
open PySem PySem.Spec PyProof.Rows L2 PySem.StrLaws TL
/-- the text of codes; of one code -/
def T (l : List Nat) : Str := ⟨l.toArray⟩
theorem T_len (l : List Nat) : (T l).length = l.length := rfl
theorem T_inj {a b : List Nat} (h : T a = T b) : a = b := by
  have z := congrArg (fun x : Str => x.cps.toList) h
  exact z
/-- the codes of the 95 letters -/
def ls : List Nat := 10 :: 32 :: 33 :: 34 :: 35 :: 36 :: (List.range 89).map (· + 38)
theorem ls_len : ls.length = 95 := by decide
theorem ls_nodup : ls.Nodup := by decide +kernel
theorem ls_text : Str.ofString "\n !\"#$&'()*+,-./0123456789:;<=>?@ABCDEFGHIJKLMNOPQRSTUVWXYZ[\\]^_`abcdefghijklmnopqrstuvwxyz{|}~" = T ls := by decide +kernel
/-- the first place of a code -/
def pos (l : List Nat) (c : Nat) : Option Nat := l.findIdx? (· == c)
theorem at_one (l : List Nat) (c i : Nat) : At (T l) (T [c]) (T l).length i ↔ l[i]? = some c := by
  have hc : (T [c]).length = 1 := rfl
  have hl : (T l).length = l.length := rfl
  unfold At
  rw [hc, hl]
  have key : Builtin.Str.subAt (T l) (T [c]) i = ((l.drop i).take 1 == [c]) := by
    have e : (T l).cps.extract i (i + 1) = ((l.drop i).take 1).toArray := by
      apply Array.ext'
      simp [T, List.extract_eq_drop_take]
    show ((T l).cps.extract i (i + 1) == [c].toArray) = _
    rw [e]
    simp
  rw [key]
  constructor
  · rintro ⟨h1, h2⟩
    have h3 : (l.drop i).take 1 = [c] := eq_of_beq h2
    have h4 : ((l.drop i).take 1)[0]? = some c := by rw [h3]; rfl
    simpa using h4
  · intro h
    obtain ⟨hi, e⟩ := List.getElem?_eq_some_iff.mp h
    refine ⟨by omega, ?_⟩
    rw [List.drop_eq_getElem_cons hi, e]
    simp
theorem occ_pos (l : List Nat) (c : Nat) : (pos l c = none ∧ Builtin.Str.occurrences (T l) (T [c]) 0 (T l).length 1 = []) ∨ ∃ k r, pos l c = some k ∧ Builtin.Str.occurrences (T l) (T [c]) 0 (T l).length 1 = k :: r := by
  rcases occ_head (T l) (T [c]) 1 (Nat.le_refl _) with ⟨e, hn⟩ | ⟨i, r, e, hi, hn⟩
  · refine .inl ⟨?_, e⟩
    unfold pos
    rw [List.findIdx?_eq_none_iff]
    intro x hx
    obtain ⟨j, hj⟩ := List.getElem?_of_mem hx
    cases q : (x == c) with
    | false => rfl
    | true =>
      have e2 : x = c := eq_of_beq q
      rw [e2] at hj
      exact absurd ((at_one l c j).mpr hj) (hn j)
  · refine .inr ⟨i, r, ?_, e⟩
    have h1 := (at_one l c i).mp hi
    obtain ⟨hl, e1⟩ := List.getElem?_eq_some_iff.mp h1
    unfold pos
    rw [List.findIdx?_eq_some_iff_getElem]
    refine ⟨hl, by simp [e1], fun j hj => ?_⟩
    have hjl : j < l.length := Nat.lt_trans hj hl
    intro q
    have e2 : l[j] = c := eq_of_beq q
    exact hn j hj ((at_one l c j).mpr (by rw [List.getElem?_eq_getElem hjl, e2]))
theorem index_one (l : List Nat) (c : Nat) : Txt.index0 (T l) (T [c]) = pos l c := by
  unfold Txt.index0
  rcases occ_pos l c with ⟨h, e⟩ | ⟨k, r, h, e⟩ <;> rw [e, h] <;> rfl
theorem find_one (l : List Nat) (c : Nat) : Txt.find (T l) (T [c]) = match pos l c with | some k => (k : Int) | none => -1 := by
  unfold Txt.find
  rcases occ_pos l c with ⟨h, e⟩ | ⟨k, r, h, e⟩ <;> rw [e, h]
theorem pos_some {l : List Nat} {c k : Nat} (h : pos l c = some k) : l[k]? = some c := by
  unfold pos at h
  rw [List.findIdx?_eq_some_iff_getElem] at h
  obtain ⟨hl, e, _⟩ := h
  rw [List.getElem?_eq_getElem hl, eq_of_beq e]
theorem pos_mem {l : List Nat} {c : Nat} (h : c ∈ l) : ∃ k, pos l c = some k := by
  cases q : pos l c with
  | some k => exact ⟨k, rfl⟩
  | none =>
    unfold pos at q
    rw [List.findIdx?_eq_none_iff] at q
    have := q c h
    simp at this
theorem pos_none {l : List Nat} {c : Nat} (h : c ∉ l) : pos l c = none := by
  cases q : pos l c with
  | none => rfl
  | some k => exact absurd (List.mem_of_getElem? (pos_some q)) h
theorem pos_at {l : List Nat} (nd : l.Nodup) {k c : Nat} (h : l[k]? = some c) : pos l c = some k := by
  obtain ⟨j, e⟩ := pos_mem (List.mem_of_getElem? h)
  have h2 := pos_some e
  rw [e, (nd_ix nd h2 h)]
/-- a comprehension over the signs of a text -/
theorem lc_str {l : List Nat} {g : TG} {tt : TT} {te : TE} {vs : List Nat} {σ : L2.St} {H1 : Hp} {D : Addr} {Qd : Hp → Prop} (Pv : Nat → Hp → Prop) (h0 : Pv 0 (upd H1 D (.lst [])))
    (hs : ∀ i c H, l[i]? = some c → Pv i H → g (.str (T [c])) (wipe σ vs) H fun σ2 H2 => wipe σ2 vs = wipe σ vs ∧ tt σ2 H2 fun b H3 =>
      if b = true then te σ2 H3 fun y H4 => ∃ acc, H4 D = some (.lst acc) ∧ acc.length < sizeLine ∧ Pv (i + 1) (upd H4 D (.lst (acc ++ [y]))) else Pv (i + 1) H3) (hd : ∀ H, Pv l.length H → Qd H) :
    ∃ W : Nat → Nat → Hp → Prop, (∃ m, W 0 m (upd H1 D (.lst []))) ∧ ∀ i m H, W i m H →
      ((Its (T l)).stop i H ∧ Qd H) ∨ ((Its (T l)).go i H ∧ ∃ Nx : Hp → Prop, (∀ H', Nx H' → ∃ m', m' < m ∧ W (i + 1) m' H') ∧ ∀ x H', (Its (T l)).yld i H x H' → g x (wipe σ vs) H' fun σ2 H2 => wipe σ2 vs = wipe σ vs ∧ tt σ2 H2 fun b H3 =>
        if b = true then te σ2 H3 fun y H4 => ∃ acc, H4 D = some (.lst acc) ∧ acc.length < sizeLine ∧ Nx (upd H4 D (.lst (acc ++ [y]))) else Nx H3) := by
  have sz : (T l).cps.size = l.length := rfl
  refine ⟨fun i m H => m = l.length - i ∧ i ≤ l.length ∧ Pv i H, ⟨l.length, by simp, Nat.zero_le _, h0⟩, ?_⟩
  rintro i m H ⟨rfl, hi, p⟩
  by_cases hlt : i < l.length
  · refine .inr ⟨hlt, Pv (i + 1), fun H' p' => ⟨l.length - (i + 1), by omega, rfl, hlt, p'⟩, fun x H' y => ?_⟩
    obtain ⟨e, c, hc, ev⟩ := y
    subst e
    subst ev
    exact hs i c _ (by simpa [T] using hc) p
  · have e : i = l.length := by omega
    subst e
    exact .inl ⟨Nat.le_of_eq sz, hd H p⟩
theorem take_map_succ {α β : Type} (f : α → β) {l : List α} {i : Nat} {c : α} (h : l[i]? = some c) : (l.take (i + 1)).map f = (l.take i).map f ++ [f c] := by
  rw [List.take_add_one, h, List.map_append]
  rfl
theorem mem_take_succ {α : Type} {l : List α} {i : Nat} {c : α} {p : α → Prop} (h : l[i]? = some c) (hp : ∀ x ∈ l.take i, p x) (hc : p c) : ∀ x ∈ l.take (i + 1), p x := by
  intro x hx
  rw [List.take_add_one, h] at hx
  rcases List.mem_append.mp hx with z | z
  · exact hp x z
  · have e : x = c := by simpa using z
    rw [e]
    exact hc
theorem sqT_same {K : PySem.W.Frag} {H H' : Hp} {a : Addr} {xs : List V} (e : Same H H') (h : SqT K H a xs) : SqT K H' a xs := by
  rcases h with (h | ⟨o, h⟩) | h
  · exact .inl (.inl (e _ _ h))
  · exact .inl (.inr ⟨o, e _ _ h⟩)
  · exact .inr h
theorem same_upd {H : Hp} {d : Addr} {o : HO} (h : H d = none) : Same H (upd H d o) := fun b u e => by
  rw [upd_ne (ne_of_none e h)]
  exact e
theorem join_len (l : List Nat) : ((l.map fun c => T [c]).map (·.length)).sum = l.length := by
  induction l with
  | nil => rfl
  | cons c r ih => simp only [List.map_cons, List.sum_cons, ih, T_len, List.length_cons, List.length_nil]; omega
theorem join_T (l : List Nat) : PySem.Txt.join (T []) (l.map fun c => T [c]) = T l := by
  rw [join_eq]
  refine ext_tl ?_
  rw [tl_join]
  show joinL [] ((l.map fun c => T [c]).map tl) = l
  rw [List.map_map]
  induction l with
  | nil => rfl
  | cons c r ih =>
    cases r with
    | nil => rfl
    | cons d q =>
      have e : joinL [] (((c :: d :: q).map (tl ∘ fun c => T [c]))) = [c] ++ ([] ++ joinL [] ((d :: q).map (tl ∘ fun c => T [c]))) := rfl
      rw [e, ih]
      rfl
end HK
namespace K03
open PySem L2 HK
def top (i : Nat) : Stmt := PySem.Challenge.pw_hoststack_k03_blocks_in_memory.main.body.getD i (.Pass ⟨0, 0, 0, 0⟩)
/-! ### the dice, as plain mathematics -/
structure Dice where
  a : Int
  b : Int
  c : Int
  deriving DecidableEq
def Dice.vs (d : Dice) : List V := [.int d.a, .int d.b, .int d.c]
def mkDice (n : Int) : Dice := if -10 < n ∧ n < 10 then ⟨if n < 0 then -n else n, 0, 2⟩ else ⟨n, 1 + n % 1009, if 10 ^ 18 ≤ n then 1 else 0⟩
def stepA (d : Dice) : Int := (d.a * 48271 + d.b * 69621 + 11) % 2147483647
/-- what a roll tells, and the dice behind it -/
def roll (d : Dice) (m : Int) : Int × Dice :=
  if d.c = 2 ∨ (d.c = 1 ∧ 0 < d.a) then (d.a % m, ⟨d.a / m, d.b, d.c⟩) else ((stepA d / 7) % m, ⟨stepA d, d.b + 1, 0⟩)
theorem roll_range (d : Dice) {m : Int} (h : 0 < m) : 0 ≤ (roll d m).1 ∧ (roll d m).1 < m := by
  unfold roll
  split
  · exact ⟨Int.emod_nonneg _ (by omega), Int.emod_lt_of_pos _ h⟩
  · exact ⟨Int.emod_nonneg _ (by omega), Int.emod_lt_of_pos _ h⟩
abbrev sDice : Stmt := top 26
abbrev sRoll : Stmt := top 27
abbrev sRounds : Stmt := top 28
/-! ### promises -/
def spDice : Sp := fun vs H Q _ => ∃ n : Int, vs = [.int n] ∧ ∀ p, H p = none → Q (.ref p) (upd H p (.lst (mkDice n).vs))
def spRoll : Sp := fun vs H Q _ => ∃ (D : Addr) (d : Dice) (m : Int), vs = [.ref D, .int m] ∧ H D = some (.lst d.vs) ∧ 0 < m ∧ m < 1000000 ∧ Q (.int (roll d m).1) (upd H D (.lst (roll d m).2.vs))
section
variable {P : Program} {w : World} {K : PySem.W.Frag} {mg : Str → Option Value} {base : Heap}
theorem scDice : FnScope ["cell"] ["cell"] (defScope sDice) := ⟨rfl, rfl, rfl, by decide +kernel, rfl, by decide +kernel, by decide +kernel⟩
theorem ok_dice {f : Addr} {fd : FuncData} (F : L2.Fun K "_law_dice" "_law_dice" sDice f fd) (mA : mg "abs" = none) (mI : mg "int" = none) : FnOk P w K mg base L2.CX0 1 f fd ["cell"] spDice := by
  refine F.ok scDice (fun vs H Q E h => ?_) (fun cdv A outer s H vs Q E hr h => ?_)
  · obtain ⟨n, rfl, _⟩ := h
    rfl
  · obtain ⟨n, rfl, k⟩ := h
    refine ⟨_, pss_cons (ps_if (pt_chain op_lt op_lt (pe_op op_sub pe_int pe_int) (pv 0) pe_int) (pss_one (ps_ret (pe_lst (pa_cons (pe_callB call_abs (by rfl) mA (by decide +kernel) (pa_cons (pv 0) pa_nil)) (pa_cons pe_int (pa_cons pe_int pa_nil)))))) pss_nil)
      (pss_one (ps_ret (pe_lst (pa_cons (pv 0) (pa_cons (pe_op op_add pe_int (pe_op op_mod (pe_callTy call_int1 (by rfl) mI PyProof.Rows.Boot.«int» (pa_cons (pv 0) pa_nil)) pe_int))
        (pa_cons (pe_callTy call_int1 (by rfl) mI PyProof.Rows.Boot.«int» (pa_cons (pe_cmpR op_ge (pv 0) (pe_op op_pow pe_int pe_int) (nomark _)) pa_nil)) pa_nil)))))), ?_⟩
    refine ⟨_, _, rfl, rfl, _, rfl, _, _, rfl, rfl, _, rfl, ?_⟩
    refine ite2 (fun c1 => ⟨_, _, rfl, rfl, _, rfl, ite2 (fun c2 => ?A) (fun c2 => ?B)⟩) (fun c1 => ⟨_, rfl, iteF ?C⟩)
    case A =>
      have hn : -10 < n ∧ n < 10 := ⟨by have z := of_decide_eq_true c1; omega, of_decide_eq_true c2⟩
      refine ⟨_, rfl, _, rfl, by show 3 ≤ sizeLine; decide, fun p hp => ?_⟩
      have e := k p hp
      unfold mkDice at e
      rw [if_pos hn] at e
      exact e
    all_goals
      have hn : ¬ (-10 < n ∧ n < 10) := by
        simp only [decide_eq_true_eq] at *
        omega
      refine ⟨_, rfl, _, rfl, .inl ⟨_, rfl, _, _, rfl, rfl, (by show (0 : Int) < 1009; decide), _, _, rfl, rfl, ?_⟩⟩
      refine ⟨_, rfl, _, _, rfl, rfl, (by refine ⟨by decide, by decide, by decide⟩), _, _, rfl, rfl, .inr ⟨_, rfl, by show 3 ≤ sizeLine; decide, fun p hp => ?_⟩⟩
      have e := k p hp
      unfold mkDice at e
      rw [if_neg hn] at e
      have e2 : (if decide ((10 : Int) ^ (18 : Int).toNat ≤ n) = true then (1 : Int) else 0) = (if 10 ^ 18 ≤ n then 1 else 0) := by
        simp only [decide_eq_true_eq]
        rfl
      rw [e2]
      exact e
theorem scRoll : FnScope ["dice", "many", "found"] ["dice", "many"] (defScope sRoll) := ⟨rfl, rfl, rfl, by decide +kernel, rfl, by decide +kernel, by decide +kernel⟩
theorem at0 (x y z : V) : atI [x, y, z] 0 = some x := rfl
theorem at1 (x y z : V) : atI [x, y, z] 1 = some y := rfl
theorem at2 (x y z : V) : atI [x, y, z] 2 = some z := rfl
theorem ix0 (x y z : V) : ixN [x, y, z].length 0 = some 0 := rfl
theorem ix1 (x y z : V) : ixN [x, y, z].length 1 = some 1 := rfl
theorem ix2 (x y z : V) : ixN [x, y, z].length 2 = some 2 := rfl
theorem ok_roll {f : Addr} {fd : FuncData} (F : L2.Fun K "_law_roll" "_law_roll" sRoll f fd) (mI : mg "int" = none) : FnOk P w K mg base L2.CX0 1 f fd ["dice", "many"] spRoll := by
  refine F.ok scRoll (fun vs H Q E h => ?_) (fun cdv A outer s H vs Q E hr h => ?_)
  · obtain ⟨D, d, m, rfl, _⟩ := h
    rfl
  · obtain ⟨D, ⟨a, b, c⟩, m, rfl, hD, m0, m1, k⟩ := h
    have hD : H D = some (.lst [.int a, .int b, .int c]) := hD
    refine ⟨_, pss_cons (ps_if (PW.pt (pw_or (pt_cmpR op_eq (pe_ix ix_list (pv 0) pe_int (fun _ _ => rfl)) pe_int (nomark _)) (pw_or1 (PW.pt (pw_and (pt_cmpR op_eq (pe_ix ix_list (pv 0) pe_int (fun _ _ => rfl)) pe_int (nomark _)) (pw_and1 (pt_cmpR op_gt (pe_ix ix_list (pv 0) pe_int (fun _ _ => rfl)) pe_int (nomark _))))))))
        (pss_cons (ps_set (i := 2) scRoll.nd rfl (Or.inl rfl) (pe_op op_mod (pe_callTy call_int1 (by rfl) mI PyProof.Rows.Boot.«int» (pa_cons (pe_ix ix_list (pv 0) pe_int (fun _ _ => rfl)) pa_nil)) (pv 1)))
        (pss_cons (ps_asg (pe_op op_fdiv (pe_ix ix_list (pv 0) pe_int (fun _ _ => rfl)) (pv 1)) (pg_sub (pv 0) pe_int set_list))
        (pss_one (ps_ret (pv 2))))) pss_nil)
      (pss_cons (ps_asg pe_int (pg_sub (pv 0) pe_int set_list))
      (pss_cons (ps_asg (pe_op op_mod (pe_callTy call_int1 (by rfl) mI PyProof.Rows.Boot.«int» (pa_cons (pe_op op_add (pe_op op_add (pe_op op_mul (pe_ix ix_list (pv 0) pe_int (fun _ _ => rfl)) pe_int) (pe_op op_mul (pe_ix ix_list (pv 0) pe_int (fun _ _ => rfl)) pe_int)) pe_int) pa_nil)) pe_int) (pg_sub (pv 0) pe_int set_list))
      (pss_cons (ps_asg (pe_op op_add (pe_ix ix_list (pv 0) pe_int (fun _ _ => rfl)) pe_int) (pg_sub (pv 0) pe_int set_list))
      (pss_one (ps_ret (pe_op op_mod (pe_callTy call_int1 (by rfl) mI PyProof.Rows.Boot.«int» (pa_cons (pe_op op_fdiv (pe_ix ix_list (pv 0) pe_int (fun _ _ => rfl)) pe_int) pa_nil)) (pv 1))))))), ?_⟩
    refine ⟨_, rfl, D, _, _, _, rfl, rfl, SqL.of hD, at2 _ _ _, rfl, _, rfl, ite2 (fun c1 => iteT ?T) (fun c1 => ⟨_, rfl, D, _, _, _, rfl, rfl, SqL.of hD, at2 _ _ _, rfl, _, rfl,
      ite2 (fun c2 => ⟨_, rfl, D, _, _, _, rfl, rfl, SqL.of hD, at0 _ _ _, _, _, rfl, rfl, _, rfl, ite2 (fun c3 => ?T2) (fun c3 => ?F)⟩) (fun c2 => iteF ?F2)⟩)⟩
    case T | T2 =>
      have hc : c = 2 ∨ (c = 1 ∧ 0 < a) := by
        simp only [decide_eq_true_eq, V.int.injEq] at *
        omega
      have e : roll ⟨a, b, c⟩ m = (a % m, ⟨a / m, b, c⟩) := by
        unfold roll
        rw [if_pos hc]
      rw [e] at k
      refine ⟨_, rfl, D, _, _, _, rfl, rfl, SqL.of hD, at0 _ _ _, .inl ⟨_, rfl, _, rfl, _, _, rfl, rfl, m0, ?_⟩⟩
      exact ⟨_, rfl, D, _, _, _, rfl, rfl, SqL.of hD, at0 _ _ _, _, rfl, _, _, rfl, rfl, ⟨m0, by omega⟩, _, rfl, D, _, _, _, rfl, rfl, hD, ix0 _ _ _, _, rfl, k⟩
    case F | F2 =>
      have hc : ¬ (c = 2 ∨ (c = 1 ∧ 0 < a)) := by
        simp only [decide_eq_true_eq, V.int.injEq] at *
        omega
      have e : roll ⟨a, b, c⟩ m = ((stepA ⟨a, b, c⟩ / 7) % m, ⟨stepA ⟨a, b, c⟩, b + 1, 0⟩) := by
        unfold roll
        rw [if_neg hc]
      rw [e] at k
      refine ⟨_, rfl, D, _, _, _, rfl, rfl, hD, ix2 _ _ _, ?_⟩
      refine ⟨_, rfl, D, _, _, _, rfl, rfl, SqL.of upd_same, at0 _ _ _, _, _, rfl, rfl, .inr ⟨by decide, by decide⟩, _, rfl, D, _, _, _, rfl, rfl, SqL.of upd_same, at1 _ _ _, _, _, rfl, rfl, .inr ⟨by decide, by decide⟩, _, _, rfl, rfl, _, _, rfl, rfl, .inl ⟨_, rfl, _, _, rfl, rfl, (by show (0 : Int) < 2147483647; decide), ?_⟩⟩
      refine ⟨_, rfl, D, _, _, _, rfl, rfl, upd_same, ix0 _ _ _, ?_⟩
      refine ⟨_, rfl, D, _, _, _, rfl, rfl, SqL.of upd_same, at1 _ _ _, _, _, rfl, rfl, _, rfl, D, _, _, _, rfl, rfl, upd_same, ix1 _ _ _, ?_⟩
      refine ⟨_, rfl, D, _, _, _, rfl, rfl, SqL.of upd_same, at0 _ _ _, _, _, rfl, rfl, ⟨by decide, by decide⟩, .inl ⟨_, rfl, _, rfl, _, _, rfl, rfl, m0, ?_⟩⟩
      rw [upd_upd, upd_upd]
      exact k
theorem scRounds : FnScope ["script", "most", "cells", "cell"] ["script", "most"] (defScope sRounds) := ⟨rfl, rfl, rfl, by decide +kernel, rfl, by decide +kernel, by decide +kernel⟩
def cell0 (ns : List Int) : Int := ns.headD 0
/-- the first cell's dice, alone in a list -/
def spRounds (K : PySem.W.Frag) : Sp := fun vs H Q _ => ∃ (a : Addr) (ns : List Int), vs = [.ref a, .int 1] ∧ SqL K H a (ns.map V.int) ∧
  ∀ H' R D, Same H H' → H R = none → H D = none → R ≠ D → H' R = some (.lst [.ref D]) → H' D = some (.lst (mkDice (cell0 ns)).vs) → Q (.ref R) H'
theorem cut1 (ns : List Int) : cutV (ns.map V.int) none (some 1) = (ns.take 1).map V.int := by
  unfold cutV
  show ((ns.map V.int).drop 0).take (HT.sIx (ns.map V.int).length (ns.map V.int).length (some ((1 : Nat) : Int)) - 0) = _
  rw [HT.sIx_nat]
  cases ns with
  | nil => rfl
  | cons n r => simp
theorem ok_rounds {f fD : Addr} {fd fdD : FuncData} (F : L2.Fun K "_law_rounds" "_law_rounds" sRounds f fd)
    (FD : FnOk P w K mg base L2.CX0 1 fD fdD ["cell"] spDice) (mD : mg "_law_dice" = some (.ref fD)) (kD : PySem.W.keepIn K (.ref fD) = true) (bD : Binds K fdD ["cell"] []) :
    FnOk P w K mg base L2.CX0 2 f fd ["script", "most"] (spRounds K) := by
  refine F.ok scRounds (fun vs H Q E h => ?_) (fun cdv A outer s H vs Q E hr h => ?_)
  · obtain ⟨a, ns, rfl, _⟩ := h
    rfl
  · obtain ⟨a, ns, rfl, ha, k⟩ := h
    refine ⟨_, pss_cons (ps_set (i := 2) scRounds.nd rfl (Or.inl rfl) (pe_slice sl_list (pv 0) po_none (po_some (pv 1))))
      (pss_cons (ps_if (pt_cmpR (op_eqD hr.units) (pv 2) (pe_lst pa_nil) (nomark _)) (pss_one (ps_set (i := 2) scRounds.nd rfl (Or.inl rfl) (pe_lst (pa_cons pe_int pa_nil)))) pss_nil)
      (pss_one (ps_ret (pe_lc (own := [("cell", 3)]) (g := gName 3) (by rfl) scRounds.nd (pi_list (pv 2)) (blkOk_by (N := ["script", "most", "cells", "cell"]) (sc := defScope sRounds) (by decide +kernel))
        (fun _ _ _ _ _ => pg_name (i := 3) scRounds.nd rfl (Or.inl rfl)) (fun _ _ _ _ _ => pts_nil) (fun _ _ _ _ _ => pe_call FD hr (by rfl) mD kD bD .nil pass0 (pa_cons (pv 3) pa_nil)))))), ?_⟩
    -- the list of cells
    have tail : ∀ (p : Addr) (n : Int) (H1 : Hp), Same H H1 → H p = none → H1 p = some (.lst [.int n]) → n = cell0 ns → tLc (iList K (tVar 2)) (gName 3) tYes (tCall spDice [] E0 (tCons (tVar 3) tNil)) [3] [some (.ref a), some (.int 1), some (.ref p), none] H1 Q := by
      intro p n H1 s1 np hp en
      refine ⟨_, rfl, p, rfl, ⟨_, SqL.of hp⟩, fun R nR => ?_⟩
      have npR : p ≠ R := ne_of_none hp nR
      refine lc_list (K := K) (a := p) (xs := [.int n]) (fun i H' => (i = 0 → H' = upd H1 R (.lst [])) ∧ (i = 1 → ∃ D, H1 D = none ∧ R ≠ D ∧ H' R = some (.lst [.ref D]) ∧ H' D = some (.lst (mkDice n).vs) ∧ Same H1 H')) ⟨fun _ => rfl, fun z => by cases z⟩ (fun i H' hi q => ?_) (fun i x H' hx q => ?_) (fun H' q => ?_)
      · have hi : i ≤ 1 := hi
        rcases (by omega : i = 0 ∨ i = 1) with rfl | rfl
        · rw [q.1 rfl]
          exact SqL.of (by rw [upd_ne npR]; exact hp)
        · obtain ⟨D, _, _, _, _, z⟩ := q.2 rfl
          exact SqL.of (z _ _ hp)
      · match i, hx with
        | 0, hx =>
          obtain rfl : V.int n = x := Option.some.inj hx
          obtain rfl := q.1 rfl
          refine ⟨rfl, _, rfl, n, rfl, fun D nD => ?_⟩
          have nRD : R ≠ D := ne_of_none upd_same nD
          have nD1 : H1 D = none := by rw [upd_ne (Ne.symm nRD)] at nD; exact nD
          refine ⟨[], by rw [upd_ne nRD, upd_same], by show 0 < sizeLine; decide, fun z => (by cases z), fun _ => ⟨D, nD1, nRD, upd_same, by rw [upd_ne (Ne.symm nRD), upd_same], fun b o e => ?_⟩⟩
          rw [upd_ne (ne_of_none e nR), upd_ne (ne_of_none e nD1), upd_ne (ne_of_none e nR)]
          exact e
      · obtain ⟨D, nD, nRD, h1, h2, s2⟩ := q.2 rfl
        rw [en] at h2
        exact k H' R D (s1.trans s2) (s1.free nR) (s1.free nD) nRD h1 h2
    refine ⟨_, rfl, _, rfl, _, rfl, a, _, rfl, ha, fun p np => ?_⟩
    rw [cut1]
    refine ⟨_, rfl, by show 0 ≤ sizeLine; decide, fun l nl => ?_⟩
    have npl : p ≠ l := ne_of_none upd_same nl
    have np' : (upd (upd H p (.lst ((ns.take 1).map V.int))) l (.lst [])) p = some (.lst ((ns.take 1).map V.int)) := by rw [upd_ne npl, upd_same]
    have nl' : H l = none := by rw [upd_ne (Ne.symm npl)] at nl; exact nl
    have sm : Same H (upd (upd H p (.lst ((ns.take 1).map V.int))) l (.lst [])) := fun b o e => by
      rw [upd_ne (ne_of_none e nl'), upd_ne (ne_of_none e np)]
      exact e
    cases ns with
    | nil =>
      refine ⟨.list [], .list [], Dp.lst (SqL.of np') .nil, Dp.lst (SqL.of upd_same) .nil, rfl, rfl, _, rfl, iteT ?_⟩
      refine ⟨by show 1 ≤ sizeLine; decide, fun c nc => ?_⟩
      refine tail c 0 _ (sm.trans fun b o e => ?_) (sm.free nc) upd_same rfl
      rw [upd_ne (ne_of_none e nc)]
      exact e
    | cons n r =>
      refine ⟨.list [.int n], .list [], Dp.lst (SqL.of np') (.cons (.int n) .nil), Dp.lst (SqL.of upd_same) .nil, ?_, rfl, _, rfl, iteF ?_⟩
      · rfl
      · exact tail p n _ sm np np' rfl
end
end K03
namespace K03
open PySem L2 HK
/-! ### frames of the heap -/
/-- all but those at l is as it was -/
def Off (l : List Addr) (H H' : Hp) : Prop := ∀ b, b ∉ l → H' b = H b
theorem Off.refl (l : List Addr) (H : Hp) : Off l H H := fun _ _ => rfl
theorem Off.upd {l : List Addr} {H H' : Hp} {a : Addr} {o : HO} (x : Off l H H') (h : a ∈ l) : Off l H (upd H' a o) := fun b hb => by
  have hba : b ≠ a := fun e => hb (by rw [e]; exact h)
  rw [upd_ne hba]
  exact x b hb
theorem Off.trans {l m : List Addr} {H H1 H2 : Hp} (x : Off l H H1) (y : Off m H1 H2) : Off (l ++ m) H H2 := fun b hb => by
  rw [y b (fun e => hb (List.mem_append.mpr (.inr e))), x b (fun e => hb (List.mem_append.mpr (.inl e)))]
/-! ### the device as plain data -/
structure Dv where
  sz : Int
  tot : Int
  fz : V
  dead : Bool
  st : Int
def fsD (d : Dv) (B W : Addr) : List (Str × V) := [("block_size", .int d.sz), ("total", .int d.tot), ("blocks", .ref B), ("waiting", .ref W), ("fuse", d.fz), ("dead", .bl d.dead), ("steps", .int d.st)]
def stepped (d : Dv) : Dv := { d with fz := match d.fz with | .int n => .int (n - 1) | v => v, st := d.st + 1 }
/-- a waiting write: the pair's tuple, the block's number, its data -/
abbrev En := Addr × Int × Addr
structure WaitAt (H : Hp) (W : Addr) (es : List En) : Prop where
  lst : H W = some (.lst (es.map fun e => V.ref e.1))
  tup : ∀ e ∈ es, H e.1 = some (.tup [.int e.2.1, .ref e.2.2])
def toKV (es : List En) : List (Key × V) := es.map fun e => (Sum.inl e.2.1, V.ref e.2.2)
/-- the last data that waits for a block -/
def lastOf (es : List En) (n : Int) : Option Addr := (es.reverse.find? fun e => decide (e.2.1 = n)).map (·.2.2)
def zeros (n : Int) : List V := List.replicate n.toNat (.int 0)
/-! ### the text by places -/
abbrev sInit : Stmt := inClass (top 9) 0
abbrev sArm : Stmt := inClass (top 9) 1
abbrev sAlive : Stmt := inClass (top 9) 2
abbrev sStep : Stmt := inClass (top 9) 3
abbrev sNumber : Stmt := inClass (top 9) 4
abbrev sBlock : Stmt := inClass (top 9) 5
abbrev sKept : Stmt := inClass (top 9) 6
abbrev sRead : Stmt := inClass (top 9) 7
abbrev sWrite : Stmt := inClass (top 9) 8
abbrev sFlush : Stmt := inClass (top 9) 9
abbrev sRest : Stmt := inClass (top 9) 10
structure DTxt (K : PySem.W.Frag) (mg : Str → Option Value) (C CE : Addr) : Prop where
  cl : Cls K C
  n1 : NoAttr K C "block_size"
  n2 : NoAttr K C "total"
  n3 : NoAttr K C "blocks"
  n4 : NoAttr K C "waiting"
  n5 : NoAttr K C "fuse"
  n6 : NoAttr K C "dead"
  n7 : NoAttr K C "steps"
  gC : mg "Device" = some (.ref C)
  gE : mg "DeviceError" = some (.ref CE)
  xE : PySem.W.excIn K CE [.type "ValueError", .type "Exception", .type "BaseException", .type "object"] "ValueError.__new__" = true
  kE : PySem.W.keepIn K (.ref CE) = true
  bE : PySem.W.subIn K (.ref CE) (.type "BaseException") = some true
  tE : PySem.W.typeIn K (.ref CE) = some (.type "type")
  len : mg "len" = none
  tup : mg "tuple" = none
  dict : mg "dict" = none
  rev : mg "reversed" = none
  zip : mg "zip" = none
  kept : ∃ t, mg "KEPT" = some (.int 1 t)
  half : ∃ t, mg "HALF_KEPT" = some (.int 2 t)
/-! ### promises -/
def spAlive (C CE : Addr) : Sp := fun vs H Q E => ∃ p dx d B W, vs = [.ref p] ∧ H p = some (.ins C dx (fsD d B W)) ∧ (d.dead = false → Q .non H) ∧ (d.dead = true → E (.ref CE) none H)
def spStep (C CE : Addr) : Sp := fun vs H Q E => ∃ p dx d B W, vs = [.ref p] ∧ H p = some (.ins C dx (fsD d B W)) ∧ (d.fz = .non ∨ ∃ n, d.fz = .int n) ∧
  (d.dead = true → E (.ref CE) none H) ∧ (d.dead = false → d.fz = .int 0 → E (.ref CE) none (upd H p (.ins C dx (fsD { d with dead := true } B W)))) ∧
  (d.dead = false → d.fz ≠ .int 0 → Q .non (upd H p (.ins C dx (fsD (stepped d) B W))))
def spNumber (C CE : Addr) : Sp := fun vs H Q E => ∃ p dx d B W n, vs = [.ref p, .int n] ∧ H p = some (.ins C dx (fsD d B W)) ∧ (0 ≤ n ∧ n < d.tot → Q .non H) ∧ (¬ (0 ≤ n ∧ n < d.tot) → E (.ref CE) none H)
def spBlock (K : PySem.W.Frag) (C CE : Addr) : Sp := fun vs H Q E => ∃ p dx d B W n t xs, vs = [.ref p, .int n, .ref t] ∧ H p = some (.ins C dx (fsD d B W)) ∧ SqT K H t xs ∧
  ((xs.length : Int) = d.sz → 0 ≤ n ∧ n < d.tot → Q .non H) ∧ (¬ ((xs.length : Int) = d.sz ∧ 0 ≤ n ∧ n < d.tot) → E (.ref CE) none H)
def spKept (C : Addr) : Sp := fun vs H Q _ => ∃ p dx d B W n kvs, vs = [.ref p, .int n] ∧ H p = some (.ins C dx (fsD d B W)) ∧ H B = some (.dK kvs) ∧ 2 ≤ d.sz ∧ d.sz ≤ 1000 ∧
  ∀ H' z, Same H H' → H z = none → H' z = some (.tup (zeros d.sz)) → Q ((valV kvs (.inl n)).getD (.ref z)) H'
section
variable {P : Program} {w : World} {K : PySem.W.Frag} {mg : Str → Option Value} {base : Heap} {C CE : Addr}
theorem scAlive : FnScope ["self"] ["self"] (defScope sAlive) := ⟨rfl, rfl, rfl, by decide +kernel, rfl, by decide +kernel, by decide +kernel⟩
theorem ok_alive {f : Addr} {fd : FuncData} (F : L2.Fun K "check_alive" "Device.check_alive" sAlive f fd) (T : DTxt K mg C CE) : FnOk P w K mg base (L2.CX P w) 1 f fd ["self"] (spAlive C CE) := by
  refine F.okX scAlive (fun vs H Q E h => ?_) (fun cdv A outer s H vs Q E hr h => ?_)
  · obtain ⟨p, dx, d, B, W, rfl, _⟩ := h
    rfl
  · obtain ⟨p, dx, d, B, W, rfl, hp, k0, k1⟩ := h
    refine ⟨_, pss_one (ps_if (pt_val (pe_fld (pv 0) rfl)) (pss_one (ps_raise rfl (takes_of rfl rfl rfl rfl) (pmk_own PySem.F.excBase_ValueError T.xE T.gE T.kE (raises_own T.bE T.tE) rfl))) pss_nil), ?_⟩
    refine ⟨_, rfl, p, C, dx, _, _, rfl, hp, T.cl, T.n6, rfl, _, rfl, ite2 (fun c => k1 c) (fun c => k0 (by simpa using c))⟩
theorem scStep : FnScope ["self"] ["self"] (defScope sStep) := ⟨rfl, rfl, rfl, by decide +kernel, rfl, by decide +kernel, by decide +kernel⟩
theorem ok_step {f fA : Addr} {fd fdA : FuncData} (F : L2.Fun K "step" "Device.step" sStep f fd) (T : DTxt K mg C CE) (FA : FnOk P w K mg base (L2.CX P w) 1 fA fdA ["self"] (spAlive C CE)) (bA : Binds K fdA ["self"] []) (mA : Meth K C "check_alive" fA) :
    FnOk P w K mg base (L2.CX P w) 2 f fd ["self"] (spStep C CE) := by
  refine F.okX scStep (fun vs H Q E h => ?_) (fun cdv A outer s H vs Q E hr h => ?_)
  · obtain ⟨p, dx, d, B, W, rfl, _⟩ := h
    rfl
  · obtain ⟨p, dx, d, B, W, rfl, hp, hf, k1, k2, k3⟩ := h
    refine ⟨_, pss_cons (ps_expr (pe_meth0 (pv 0) T.cl mA FA hr bA .nil (passes_call (takes_of rfl rfl rfl rfl) (fun _ _ _ _ h => h))))
      (pss_cons (ps_if (PW.pt (pw_and (pt_cmpR op_notN (pe_fld (pv 0) rfl) pe_non (nomark _)) (pw_and1 (pt_cmpR op_eq (pe_fld (pv 0) rfl) pe_int (nomark _)))))
        (pss_cons (ps_fld (pv 0) pe_bl rfl) (pss_one (ps_raise rfl (takes_of rfl rfl rfl rfl) (pmk_own PySem.F.excBase_ValueError T.xE T.gE T.kE (raises_own T.bE T.tE) rfl)))) pss_nil)
      (pss_cons (ps_if (pt_cmpR op_notN (pe_fld (pv 0) rfl) pe_non (nomark _)) (pss_one (ps_fld (pv 0) (pe_op op_sub (pe_fld (pv 0) rfl) pe_int) rfl)) pss_nil)
      (pss_one (ps_fld (pv 0) (pe_op op_add (pe_fld (pv 0) rfl) pe_int) rfl)))), ?_⟩
    refine ⟨_, rfl, p, dx, _, rfl, hp, rfl, p, dx, d, B, W, rfl, hp, fun c => ?_, k1⟩
    refine ⟨_, rfl, p, C, dx, _, _, rfl, hp, T.cl, T.n5, rfl, rfl, _, rfl, ?_⟩
    obtain ⟨sz, tot, fz, dead, st⟩ := d
    rcases hf with hf | ⟨n, hf⟩
    · have hf : fz = .non := hf
      subst hf
      refine iteF (iteF ⟨_, rfl, p, C, dx, _, _, rfl, hp, T.cl, T.n5, rfl, rfl, _, rfl, iteF ?_⟩)
      exact ⟨_, rfl, p, C, dx, _, _, rfl, hp, T.cl, T.n7, rfl, _, _, rfl, rfl, _, rfl, p, C, dx, _, rfl, hp, T.cl, T.n7, (by show 7 < 1000; decide), k3 c (fun z => by cases z)⟩
    · have hf : fz = .int n := hf
      subst hf
      refine iteT ⟨_, rfl, p, C, dx, _, _, rfl, hp, T.cl, T.n5, rfl, rfl, _, rfl, ite2 (fun c2 => ?_) (fun c2 => ?_)⟩
      · have e0 : n = 0 := by simpa using c2
        exact ⟨_, rfl, p, C, dx, _, rfl, hp, T.cl, T.n6, (by show 7 < 1000; decide), k2 c (by rw [e0])⟩
      · refine ⟨_, rfl, p, C, dx, _, _, rfl, hp, T.cl, T.n5, rfl, rfl, _, rfl, iteT ?_⟩
        refine ⟨_, rfl, p, C, dx, _, _, rfl, hp, T.cl, T.n5, rfl, _, _, rfl, rfl, _, rfl, p, C, dx, _, rfl, hp, T.cl, T.n5, (by show 7 < 1000; decide), ?_⟩
        refine ⟨_, rfl, p, C, dx, _, _, rfl, upd_same, T.cl, T.n7, rfl, _, _, rfl, rfl, _, rfl, p, C, dx, _, rfl, upd_same, T.cl, T.n7, (by show 7 < 1000; decide), ?_⟩
        rw [upd_upd]
        exact k3 c (fun z => c2 (by simpa using z))
theorem scNumber : FnScope ["self", "number"] ["self", "number"] (defScope sNumber) := ⟨rfl, rfl, rfl, by decide +kernel, rfl, by decide +kernel, by decide +kernel⟩
theorem ok_number {f : Addr} {fd : FuncData} (F : L2.Fun K "check_number" "Device.check_number" sNumber f fd) (T : DTxt K mg C CE) : FnOk P w K mg base (L2.CX P w) 1 f fd ["self", "number"] (spNumber C CE) := by
  refine F.okX scNumber (fun vs H Q E h => ?_) (fun cdv A outer s H vs Q E hr h => ?_)
  · obtain ⟨p, dx, d, B, W, n, rfl, _⟩ := h
    rfl
  · obtain ⟨p, dx, d, B, W, n, rfl, hp, k0, k1⟩ := h
    refine ⟨_, pss_one (ps_if (pt_not (pt_chain op_le op_lt pe_int (pv 1) (pe_fld (pv 0) rfl))) (pss_one (ps_raise rfl (takes_of rfl rfl rfl rfl) (pmk_own PySem.F.excBase_ValueError T.xE T.gE T.kE (raises_own T.bE T.tE) rfl))) pss_nil), ?_⟩
    refine ⟨_, rfl, _, _, rfl, rfl, _, rfl, ite2 (fun c1 => ⟨_, rfl, p, C, dx, _, _, rfl, hp, T.cl, T.n2, rfl, _, _, rfl, rfl, _, rfl, ?_⟩) (fun c1 => ⟨_, rfl, ?_⟩)⟩
    · refine ite2 (fun c2 => ?_) (fun c2 => ?_)
      · exact k1 (fun z => by simp [z.2] at c2)
      · exact k0 ⟨by simpa using c1, by simpa using c2⟩
    · exact iteT (k1 (fun z => by simp [z.1] at c1))
theorem scBlock : FnScope ["self", "number", "data"] ["self", "number", "data"] (defScope sBlock) := ⟨rfl, rfl, rfl, by decide +kernel, rfl, by decide +kernel, by decide +kernel⟩
theorem ok_block {f fN : Addr} {fd fdN : FuncData} (F : L2.Fun K "check_block" "Device.check_block" sBlock f fd) (T : DTxt K mg C CE) (FN : FnOk P w K mg base (L2.CX P w) 1 fN fdN ["self", "number"] (spNumber C CE)) (bN : Binds K fdN ["self", "number"] []) (mN : Meth K C "check_number" fN) :
    FnOk P w K mg base (L2.CX P w) 2 f fd ["self", "number", "data"] (spBlock K C CE) := by
  refine F.okX scBlock (fun vs H Q E h => ?_) (fun cdv A outer s H vs Q E hr h => ?_)
  · obtain ⟨p, dx, d, B, W, n, t, xs, rfl, _⟩ := h
    rfl
  · obtain ⟨p, dx, d, B, W, n, t, xs, rfl, hp, ht, k0, k1⟩ := h
    refine ⟨_, pss_cons (ps_if (pt_cmpR op_ne (pe_callB call_len_seq (by rfl) T.len PySem.boot_len (pa_cons (pv 2) pa_nil)) (pe_fld (pv 0) rfl) (nomark _)) (pss_one (ps_raise rfl (takes_of rfl rfl rfl rfl) (pmk_own PySem.F.excBase_ValueError T.xE T.gE T.kE (raises_own T.bE T.tE) rfl))) pss_nil)
      (pss_one (ps_expr (pe_meth (pv 0) T.cl mN FN hr bN .nil (passes_call (takes_of rfl rfl rfl rfl) (fun _ _ _ _ h => h)) (pa_cons (pv 1) pa_nil)))), ?_⟩
    refine ⟨_, rfl, t, xs, rfl, .inr ht, _, rfl, p, C, dx, _, _, rfl, hp, T.cl, T.n1, rfl, rfl, _, rfl, ite2 (fun c => ?_) (fun c => ?_)⟩
    · exact k1 (fun z => by simp [z.1] at c)
    · have c : (xs.length : Int) = d.sz := by simpa using c
      exact ⟨_, rfl, p, dx, _, rfl, hp, rfl, _, rfl, p, dx, d, B, W, n, rfl, hp, k0 c, fun z => k1 (fun y => z y.2)⟩
theorem scKept : FnScope ["self", "number"] ["self", "number"] (defScope sKept) := ⟨rfl, rfl, rfl, by decide +kernel, rfl, by decide +kernel, by decide +kernel⟩
theorem ok_kept {f : Addr} {fd : FuncData} (F : L2.Fun K "kept" "Device.kept" sKept f fd) (T : DTxt K mg C CE) : FnOk P w K mg base L2.CX0 1 f fd ["self", "number"] (spKept C) := by
  refine F.ok scKept (fun vs H Q E h => ?_) (fun cdv A outer s H vs Q E hr h => ?_)
  · obtain ⟨p, dx, d, B, W, n, kvs, rfl, _⟩ := h
    rfl
  · obtain ⟨p, dx, d, B, W, n, kvs, rfl, hp, hB, h2, h1000, k⟩ := h
    refine ⟨_, pss_one (ps_ret (pe_dget2 (hu_of hr) (pe_fld (pv 0) rfl) (pv 1) (pe_op op_repT (pe_tup (pa_cons pe_int pa_nil)) (pe_fld (pv 0) rfl)) ⟨rfl, rfl, rfl, rfl⟩)), ?_⟩
    refine ⟨_, rfl, p, C, dx, _, _, rfl, hp, T.cl, T.n3, rfl, B, rfl, (.inl ⟨kvs, .inl hB⟩), _, rfl, by show 1 ≤ sizeLine; decide, fun t nt => ?_⟩
    have npt : p ≠ t := ne_of_none hp nt
    refine ⟨_, rfl, p, C, dx, _, _, rfl, by rw [upd_ne npt]; exact hp, T.cl, T.n1, rfl, t, d.sz, [.int 0], rfl, rfl, SqT.of upd_same, (fun z => by cases z), h2, h1000, by decide, fun z nz => ?_⟩
    have s1 : Same H (upd H t (.tup [.int 0])) := same_upd nt
    have s2 := s1.trans (same_upd (o := .tup (List.replicate d.sz.toNat [V.int 0]).flatten) nz)
    refine ⟨_, DGet.k (k := Sum.inl n) (s2 _ _ hB), k _ z s2 (s1.free nz) ?_⟩
    rw [upd_same]
    congr 2
    unfold zeros
    induction d.sz.toNat with
    | zero => rfl
    | succ m ih => rw [List.replicate_succ, List.replicate_succ, List.flatten_cons, ih]; rfl
end
end K03
namespace K03
open PySem L2 HK
/-! ### made, armed -/
def DictIn (H : Hp) (v : V) (kvs : List (Key × V)) : Prop := (v = .non ∧ kvs = []) ∨ ∃ b, v = .ref b ∧ H b = some (.dK kvs)
def spInit (C : Addr) : Sp := fun vs H Q _ => ∃ p dx sz tot v kvs, vs = [.ref p, .int sz, .int tot, v] ∧ H p = some (.ins C dx []) ∧ DictIn H v kvs ∧
  ∀ B W H', H B = none → H W = none → B ≠ W → Off [p, B, W] H H' → H' p = some (.ins C dx (fsD ⟨sz, tot, .non, false, 0⟩ B W)) → H' B = some (.dK kvs) → H' W = some (.lst []) → Q .non H'
def spArm (C : Addr) : Sp := fun vs H Q _ => ∃ p dx d B W v, vs = [.ref p, v] ∧ H p = some (.ins C dx (fsD d B W)) ∧ Q .non (upd H p (.ins C dx (fsD { d with fz := v } B W)))
section
variable {P : Program} {w : World} {K : PySem.W.Frag} {mg : Str → Option Value} {base : Heap} {C CE : Addr}
theorem scInit : FnScope ["self", "block_size", "count", "blocks"] ["self", "block_size", "count", "blocks"] (defScope sInit) := ⟨rfl, rfl, rfl, by decide +kernel, rfl, by decide +kernel, by decide +kernel⟩
abbrev FDI (K : PySem.W.Frag) (f : Addr) (fd : FuncData) : Prop := FunD K "__init__" "Device.__init__" (defArgs sInit) (defBody sInit) (defScope sInit) [.non] [] f fd
theorem ok_init {f : Addr} {fd : FuncData} (F : FDI K f fd) (T : DTxt K mg C CE) : FnOk P w K mg base L2.CX0 1 f fd ["self", "block_size", "count", "blocks"] (spInit C) := by
  refine F.ok scInit (fun vs H Q E h => ?_) (fun cdv A outer s H vs Q E hr h => ?_)
  · obtain ⟨p, dx, sz, tot, v, kvs, rfl, _⟩ := h
    rfl
  · suffices hX : ∃ t, PSs (cxOf L2.CX0 P w K mg base ["self", "block_size", "count", "blocks"] "Device.__init__" (defScope sInit) f cdv A outer s H E).nox (defBody sInit) t ∧ t { nx := fun _ H' => Q .non H', rt := Q } (L2.start ["self", "block_size", "count", "blocks"] vs) H by
      obtain ⟨t, h1, h2⟩ := hX
      exact ⟨t, h1.nox, h2⟩
    obtain ⟨p, dx, sz, tot, v, kvs, rfl, hp, hv, k⟩ := h
    refine ⟨_, pss_cons (ps_fld (pv 0) (pv 1) rfl) (pss_cons (ps_fld (pv 0) (pv 2) rfl)
      (pss_cons (ps_fld (pv 0) (pe_ifExp (pt_cmpR op_isN (pv 3) pe_non (nomark _)) pe_dnewK (pe_callTy call_dictD (by rfl) T.dict PyProof.Rows.Boot.«dict» (pa_cons (pv 3) pa_nil))) rfl)
      (pss_cons (ps_fld (pv 0) (pe_lst pa_nil) rfl) (pss_cons (ps_fld (pv 0) pe_non rfl) (pss_cons (ps_fld (pv 0) pe_bl rfl) (pss_one (ps_fld (pv 0) pe_int rfl))))))), ?_⟩
    refine ⟨_, rfl, _, rfl, p, C, dx, _, rfl, hp, T.cl, T.n1, (by show 0 < 1000; decide), ?_⟩
    refine ⟨_, rfl, _, rfl, p, C, dx, _, rfl, upd_same, T.cl, T.n2, (by show 1 < 1000; decide), ?_⟩
    rw [upd_upd]
    refine ⟨_, rfl, rfl, _, rfl, ?_⟩
    suffices hB : ∀ B, H B = none → ∀ H1, H1 = upd (upd H p (.ins C dx (putF "total" (.int tot) (putF "block_size" (.int sz) [])))) B (.dK kvs) →
        sFld K (tVar 0) (tC (.ref B)) "blocks" { nx := fun σ H2 => tSeq (sFld K (tVar 0) (tLst tNil) "waiting") (tSeq (sFld K (tVar 0) (tC .non) "fuse") (tSeq (sFld K (tVar 0) (tC (.bl false)) "dead") (sFld K (tVar 0) (tC (.int 0)) "steps"))) { nx := fun _ H' => Q .non H', rt := Q } σ H2, rt := Q } [some (.ref p), some (.int sz), some (.int tot), some v] H1 by
      rcases hv with ⟨rfl, rfl⟩ | ⟨b, rfl, hb⟩
      · refine iteT fun B nB => ?_
        have npB : p ≠ B := ne_of_none upd_same nB
        exact hB B (by rw [upd_ne npB.symm] at nB; exact nB) _ rfl
      · have hpb : b ≠ p := ne_of hb hp (by intro z; cases z)
        refine iteF ⟨_, rfl, b, kvs, rfl, .inl (by rw [upd_ne hpb]; exact hb), fun B nB => ?_⟩
        have npB : p ≠ B := ne_of_none upd_same nB
        exact hB B (by rw [upd_ne npB.symm] at nB; exact nB) _ rfl
    intro B nB H1 e1
    have npB : p ≠ B := ne_of_none hp nB
    subst e1
    refine ⟨_, rfl, p, C, dx, _, rfl, by rw [upd_ne npB, upd_same], T.cl, T.n3, (by show 2 < 1000; decide), ?_⟩
    refine ⟨by show 0 ≤ sizeLine; decide, fun W nW => ?_⟩
    have npW : p ≠ W := ne_of_none upd_same nW
    have nBW : B ≠ W := fun z => by
      rw [← z, upd_ne npB.symm, upd_same] at nW
      cases nW
    have nW0 : H W = none := by
      rw [upd_ne npW.symm, upd_ne nBW.symm, upd_ne npW.symm] at nW
      exact nW
    refine ⟨_, rfl, p, C, dx, _, rfl, by rw [upd_ne npW, upd_same], T.cl, T.n4, (by show 3 < 1000; decide), ?_⟩
    refine ⟨_, rfl, p, C, dx, _, rfl, upd_same, T.cl, T.n5, (by show 4 < 1000; decide), ?_⟩
    refine ⟨_, rfl, p, C, dx, _, rfl, upd_same, T.cl, T.n6, (by show 5 < 1000; decide), ?_⟩
    refine ⟨_, rfl, p, C, dx, _, rfl, upd_same, T.cl, T.n7, (by show 6 < 1000; decide), ?_⟩
    refine k B W _ nB nW0 nBW ?_ (by rw [upd_same]; rfl) (by simp only [upd_ne npB.symm, upd_ne nBW, upd_same]) (by simp only [upd_ne npW.symm, upd_same])
    repeat (refine Off.upd ?_ (by simp))
    exact Off.refl _ _
theorem scArm : FnScope ["self", "steps"] ["self", "steps"] (defScope sArm) := ⟨rfl, rfl, rfl, by decide +kernel, rfl, by decide +kernel, by decide +kernel⟩
theorem ok_arm {f : Addr} {fd : FuncData} (F : L2.Fun K "arm" "Device.arm" sArm f fd) (T : DTxt K mg C CE) : FnOk P w K mg base L2.CX0 1 f fd ["self", "steps"] (spArm C) := by
  refine F.ok scArm (fun vs H Q E h => ?_) (fun cdv A outer s H vs Q E hr h => ?_)
  · obtain ⟨p, dx, d, B, W, v, rfl, _⟩ := h
    rfl
  · obtain ⟨p, dx, d, B, W, v, rfl, hp, k⟩ := h
    refine ⟨_, pss_one (ps_fld (pv 0) (pv 1) rfl), ?_⟩
    exact ⟨_, rfl, _, rfl, p, C, dx, _, rfl, hp, T.cl, T.n5, (by show 7 < 1000; decide), k⟩
end
/-! ### read -/
def spRead (C CE : Addr) : Sp := fun vs H Q E => ∃ p dx d B W n kvs es, vs = [.ref p, .int n] ∧ H p = some (.ins C dx (fsD d B W)) ∧ H B = some (.dK kvs) ∧ WaitAt H W es ∧ 2 ≤ d.sz ∧ d.sz ≤ 1000 ∧
  (d.dead = true → E (.ref CE) none H) ∧ (¬ (0 ≤ n ∧ n < d.tot) → E (.ref CE) none H) ∧
  (d.dead = false → 0 ≤ n ∧ n < d.tot → (∀ t, lastOf es n = some t → Q (.ref t) H) ∧ (lastOf es n = none → ∀ H' z, Same H H' → H z = none → H' z = some (.tup (zeros d.sz)) → Q ((valV kvs (.inl n)).getD (.ref z)) H'))
theorem rev_take {es : List En} {i : Nat} (h : i < es.length) : ∃ e, es[es.length - 1 - i]? = some e ∧ es.reverse[i]? = some e := by
  have h2 : es.length - 1 - i < es.length := by omega
  refine ⟨es[es.length - 1 - i], List.getElem?_eq_getElem h2, ?_⟩
  rw [List.getElem?_reverse h, List.getElem?_eq_getElem h2]
theorem find_at {α : Type} {p : α → Bool} {l : List α} {i : Nat} {e : α} (h : l[i]? = some e) (no : ∀ x ∈ l.take i, p x = false) (y : p e = true) : l.find? p = some e := by
  rw [List.find?_eq_some_iff_getElem]
  obtain ⟨hi, he⟩ := List.getElem?_eq_some_iff.mp h
  refine ⟨y, i, hi, he, fun j hj => ?_⟩
  have hj2 : j < l.length := Nat.lt_trans hj hi
  have z := no (l[j]) (by rw [List.mem_take_iff_getElem]; exact ⟨j, by omega, rfl⟩)
  rw [z]
  rfl
section
variable {P : Program} {w : World} {K : PySem.W.Frag} {mg : Str → Option Value} {base : Heap} {C CE : Addr}
theorem scRead : FnScope ["self", "number", "other", "data"] ["self", "number"] (defScope sRead) := ⟨rfl, rfl, rfl, by decide +kernel, rfl, by decide +kernel, by decide +kernel⟩
theorem ok_read {f fA fN fK : Addr} {fd fdA fdN fdK : FuncData} (F : L2.Fun K "read" "Device.read" sRead f fd) (T : DTxt K mg C CE)
    (FA : FnOk P w K mg base (L2.CX P w) 1 fA fdA ["self"] (spAlive C CE)) (bA : Binds K fdA ["self"] []) (mA : Meth K C "check_alive" fA)
    (FN : FnOk P w K mg base (L2.CX P w) 1 fN fdN ["self", "number"] (spNumber C CE)) (bN : Binds K fdN ["self", "number"] []) (mN : Meth K C "check_number" fN)
    (FK : FnOk P w K mg base L2.CX0 1 fK fdK ["self", "number"] (spKept C)) (bK : Binds K fdK ["self", "number"] []) (mK : Meth K C "kept" fK) :
    FnOk P w K mg base (L2.CX P w) 2 f fd ["self", "number"] (spRead C CE) := by
  refine F.okX scRead (fun vs H Q E h => ?_) (fun cdv A outer s H vs Q E hr h => ?_)
  · obtain ⟨p, dx, d, B, W, n, kvs, es, rfl, _⟩ := h
    rfl
  · obtain ⟨p, dx, d, B, W, n, kvs, es, rfl, hp, hB, hW, h2, h1000, k1, k2, k3⟩ := h
    refine ⟨_, pss_cons (ps_expr (pe_meth0 (pv 0) T.cl mA FA hr bA .nil (passes_call (takes_of rfl rfl rfl rfl) (fun _ _ _ _ h => h))))
      (pss_cons (ps_expr (pe_meth (pv 0) T.cl mN FN hr bN .nil (passes_call (takes_of rfl rfl rfl rfl) (fun _ _ _ _ h => h)) (pa_cons (pv 1) pa_nil)))
      (pss_cons (ps_for (passes_of rfl) rfl (pi_reversed (by rfl) T.rev (pa_cons (pe_fld (pv 0) rfl) pa_nil)) (pg_tup rfl (pgs_cons (pg_name (i := 2) scRead.nd rfl (Or.inl rfl)) (pgs_cons (pg_name (i := 3) scRead.nd rfl (Or.inl rfl)) pgs_nil)))
        (pss_one (ps_if (pt_cmpR op_eq (pv 2) (pv 1) (nomark _)) (pss_one (ps_ret (pv 3))) pss_nil)))
      (pss_one (ps_ret (pe_meth (pv 0) T.cl mK FK hr bK .nil pass0 (pa_cons (pv 1) pa_nil)))))), ?_⟩
    refine ⟨_, rfl, p, dx, _, rfl, hp, rfl, p, dx, d, B, W, rfl, hp, fun c => ?_, k1⟩
    refine ⟨_, rfl, p, dx, _, rfl, hp, rfl, _, rfl, p, dx, d, B, W, n, rfl, hp, fun c2 => ?_, k2⟩
    obtain ⟨k4, k5⟩ := k3 c c2
    refine ⟨_, rfl, p, C, dx, _, _, rfl, hp, T.cl, T.n4, rfl, W, _, rfl, SqL.of hW.lst, ?_⟩
    refine for_it (walk_rev (K := K) (a := W) (xs := es.map fun e => V.ref e.1)) (fun i σ H' => H' = H ∧ (∃ u v, σ = [some (.ref p), some (.int n), u, v]) ∧ ∀ e ∈ es.reverse.take i, decide (e.2.1 = n) = false) ⟨rfl, ⟨none, none, rfl⟩, by simp⟩ (fun i σ H' hi q => by rw [q.1]; exact SqL.of hW.lst) (fun i x σ H' H'' hi q y => ?_) (fun σ H' q => ?_)
    · obtain ⟨rfl, ⟨u, v, rfl⟩, no⟩ := q
      obtain ⟨rfl, hx⟩ := y
      rw [List.length_map] at hi hx
      obtain ⟨e, he, her⟩ := rev_take hi
      rw [List.getElem?_map, he] at hx
      obtain rfl := Option.some.inj hx
      have hm : e ∈ es := List.mem_of_getElem? he
      refine ⟨e.1, _, rfl, SqT.of (hW.tup e hm), rfl, _, _, rfl, _, _, rfl, rfl, ?_⟩
      refine ⟨_, rfl, _, rfl, rfl, _, rfl, ite2 (fun c3 => ?_) (fun c3 => ?_)⟩
      · have e3 : e.2.1 = n := by simpa using c3
        refine ⟨_, rfl, k4 _ ?_⟩
        unfold lastOf
        rw [find_at her no (by simp [e3])]
        rfl
      · refine ⟨rfl, ⟨_, _, rfl⟩, fun x hx => ?_⟩
        rw [List.take_add_one, her] at hx
        rcases List.mem_append.mp hx with z | z
        · exact no x z
        · have ex : x = e := by simpa using z
          rw [ex]
          simpa using c3
    · obtain ⟨rfl, ⟨u, v, rfl⟩, no⟩ := q
      rw [List.length_map, ← List.length_reverse, List.take_length] at no
      have e0 : lastOf es n = none := by
        unfold lastOf
        rw [List.find?_eq_none.mpr (fun x hx => by rw [no x hx]; decide)]
        rfl
      exact ⟨_, rfl, p, dx, _, rfl, hp, rfl, _, rfl, p, dx, d, B, W, n, kvs, rfl, hp, hB, h2, h1000, k5 e0⟩
end
end K03
namespace K03
open PySem L2 HK
theorem stepped_nf {d : Dv} (h : d.fz = .non ∨ ∃ n, d.fz = .int n) : (stepped d).fz = .non ∨ ∃ n, (stepped d).fz = .int n := by
  obtain ⟨sz, tot, fz, dead, st⟩ := d
  rcases h with h | ⟨n, h⟩
  · have h : fz = .non := h
    subst h
    exact .inl rfl
  · have h : fz = .int n := h
    subst h
    exact .inr ⟨n - 1, rfl⟩
/-! ### write_block -/
structure SpWrite (K : PySem.W.Frag) (C CE : Addr) (vs : List V) (H : Hp) (Q : VK) (E : XK) : Prop where
  h : ∃ p dx d B W n t xs es, vs = [.ref p, .int n, .ref t] ∧ H p = some (.ins C dx (fsD d B W)) ∧ SqT K H t xs ∧ WaitAt H W es ∧ es.length ≤ 1000 ∧ (d.fz = .non ∨ ∃ n, d.fz = .int n) ∧
  (¬ ((xs.length : Int) = d.sz ∧ 0 ≤ n ∧ n < d.tot) → E (.ref CE) none H) ∧ (d.dead = true → E (.ref CE) none H) ∧
  ((xs.length : Int) = d.sz ∧ 0 ≤ n ∧ n < d.tot → d.dead = false → d.fz = .int 0 → E (.ref CE) none (upd H p (.ins C dx (fsD { d with dead := true } B W)))) ∧
  ((xs.length : Int) = d.sz ∧ 0 ≤ n ∧ n < d.tot → d.dead = false → d.fz ≠ .int 0 → ∀ z H', H z = none → Off [p, z, W] H H' → H' p = some (.ins C dx (fsD (stepped d) B W)) → H' z = some (.tup [.int n, .ref t]) → H' W = some (.lst ((es ++ [(z, n, t)]).map fun e => V.ref e.1)) → Q .non H')
def spWrite (K : PySem.W.Frag) (C CE : Addr) : Sp := fun vs H Q E => SpWrite K C CE vs H Q E
section
variable {P : Program} {w : World} {K : PySem.W.Frag} {mg : Str → Option Value} {base : Heap} {C CE : Addr}
theorem scWrite : FnScope ["self", "number", "data"] ["self", "number", "data"] (defScope sWrite) := ⟨rfl, rfl, rfl, by decide +kernel, rfl, by decide +kernel, by decide +kernel⟩
theorem ok_write {f fB fS : Addr} {fd fdB fdS : FuncData} (F : L2.Fun K "write_block" "Device.write_block" sWrite f fd) (T : DTxt K mg C CE)
    (FB : FnOk P w K mg base (L2.CX P w) 2 fB fdB ["self", "number", "data"] (spBlock K C CE)) (bB : Binds K fdB ["self", "number", "data"] []) (mB : Meth K C "check_block" fB)
    (FS : FnOk P w K mg base (L2.CX P w) 2 fS fdS ["self"] (spStep C CE)) (bS : Binds K fdS ["self"] []) (mS : Meth K C "step" fS) :
    FnOk P w K mg base (L2.CX P w) 3 f fd ["self", "number", "data"] (spWrite K C CE) := by
  refine F.okX scWrite (fun vs H Q E h => ?_) (fun cdv A outer s H vs Q E hr h => ?_)
  · obtain ⟨p, dx, d, B, W, n, t, xs, es, rfl, _⟩ := h
    rfl
  · obtain ⟨p, dx, d, B, W, n, t, xs, es, rfl, hp, ht, hW, hl, hf, k1, k2, k3, k4⟩ := h
    refine ⟨_, pss_cons (ps_expr (pe_meth (pv 0) T.cl mB FB hr bB .nil (passes_call (takes_of rfl rfl rfl rfl) (fun _ _ _ _ h => h)) (pa_cons (pv 1) (pa_cons (pv 2) pa_nil))))
      (pss_cons (ps_expr (pe_meth0 (pv 0) T.cl mS FS hr bS .nil (passes_call (takes_of rfl rfl rfl rfl) (fun _ _ _ _ h => h))))
      (pss_one (ps_expr (pe_bm PySem.F.plainAttrs_list PySem.F.slot_list_append PySem.F.type_list_append mt_append (pe_fld (pv 0) rfl)
        (pa_cons (pe_tup (pa_cons (pv 1) (pa_cons (pe_callTy call_tupleT (by rfl) T.tup PyProof.Rows.Boot.«tuple» (pa_cons (pv 2) pa_nil)) pa_nil))) pa_nil))))), ?_⟩
    refine ⟨_, rfl, p, dx, _, rfl, hp, rfl, _, rfl, _, rfl, p, dx, d, B, W, n, t, xs, rfl, hp, ht, fun c1 c2 => ?_, k1⟩
    refine ⟨_, rfl, p, dx, _, rfl, hp, rfl, p, dx, d, B, W, rfl, hp, hf, k2, k3 ⟨c1, c2⟩, fun c3 c4 => ?_⟩
    have npW : W ≠ p := ne_of hW.lst hp (by intro z; cases z)
    refine ⟨_, rfl, p, C, dx, _, _, rfl, upd_same, T.cl, T.n4, rfl, .inl ⟨rfl, _, SqL.of (by rw [upd_ne npW]; exact hW.lst)⟩, _, rfl, _, rfl, t, xs, rfl, ?_, by show 2 ≤ sizeLine; decide, fun z nz => ?_⟩
    · rcases ht with (h | ⟨o, h⟩) | h
      · exact .inl (.inl (by rw [upd_ne (ne_of h hp (by intro z; cases z))]; exact h))
      · exact .inl (.inr ⟨o, by rw [upd_ne (ne_of h hp (by intro z; cases z))]; exact h⟩)
      · exact .inr h
    · have npz : p ≠ z := ne_of_none upd_same nz
      have nz0 : H z = none := by
        rw [upd_ne npz.symm] at nz
        exact nz
      have nWz : W ≠ z := ne_of_none hW.lst nz0
      refine ⟨W, _, _, rfl, rfl, by rw [upd_ne nWz, upd_ne npW]; exact hW.lst, by rw [List.length_map]; exact small1000 hl, ?_⟩
      refine k4 ⟨c1, c2⟩ c3 c4 z _ nz0 ?_ (by simp only [upd_ne npW.symm, upd_ne npz, upd_same]) (by simp only [upd_ne nWz.symm, upd_same]) (by rw [upd_same, List.map_append]; rfl)
      repeat (refine Off.upd ?_ (by simp))
      exact Off.refl _ _
end
/-! ### flush -/
def spFlush (C CE : Addr) : Sp := fun vs H Q E => ∃ p dx d B W kvs es, vs = [.ref p] ∧ H p = some (.ins C dx (fsD d B W)) ∧ H B = some (.dK kvs) ∧ WaitAt H W es ∧ kvs.length ≤ 5000 ∧ es.length ≤ 1000 ∧ (d.fz = .non ∨ ∃ n, d.fz = .int n) ∧
  (d.dead = true → E (.ref CE) none H) ∧ (d.dead = false → d.fz = .int 0 → E (.ref CE) none (upd H p (.ins C dx (fsD { d with dead := true } B W)))) ∧
  (d.dead = false → d.fz ≠ .int 0 → ∀ L H', H L = none → Off [p, B, L] H H' → H' p = some (.ins C dx (fsD (stepped d) B L)) → H' B = some (.dK (mergeK kvs (toKV es))) → H' L = some (.lst []) → Q .non H')
theorem toKV_take {es : List En} {i : Nat} {e : En} (h : es[i]? = some e) (kvs : List (Key × V)) : mergeK kvs (toKV (es.take (i + 1))) = putK (mergeK kvs (toKV (es.take i))) (.inl e.2.1) (.ref e.2.2) := by
  rw [List.take_add_one, h]
  unfold toKV mergeK
  rw [List.map_append, List.foldl_append]
  rfl
section
variable {P : Program} {w : World} {K : PySem.W.Frag} {mg : Str → Option Value} {base : Heap} {C CE : Addr}
theorem scFlush : FnScope ["self", "number", "data"] ["self"] (defScope sFlush) := ⟨rfl, rfl, rfl, by decide +kernel, rfl, by decide +kernel, by decide +kernel⟩
theorem ok_flush {f fS : Addr} {fd fdS : FuncData} (F : L2.Fun K "flush" "Device.flush" sFlush f fd) (T : DTxt K mg C CE)
    (FS : FnOk P w K mg base (L2.CX P w) 2 fS fdS ["self"] (spStep C CE)) (bS : Binds K fdS ["self"] []) (mS : Meth K C "step" fS) :
    FnOk P w K mg base (L2.CX P w) 3 f fd ["self"] (spFlush C CE) := by
  refine F.okX scFlush (fun vs H Q E h => ?_) (fun cdv A outer s H vs Q E hr h => ?_)
  · obtain ⟨p, dx, d, B, W, kvs, es, rfl, _⟩ := h
    rfl
  · obtain ⟨p, dx, d, B, W, kvs, es, rfl, hp, hB, hW, hk, hl, hf, k1, k2, k3⟩ := h
    refine ⟨_, pss_cons (ps_expr (pe_meth0 (pv 0) T.cl mS FS hr bS .nil (passes_call (takes_of rfl rfl rfl rfl) (fun _ _ _ _ h => h))))
      (pss_cons (ps_for (passes_of rfl) rfl (pi_list (pe_fld (pv 0) rfl)) (pg_tup rfl (pgs_cons (pg_name (i := 1) scFlush.nd rfl (Or.inl rfl)) (pgs_cons (pg_name (i := 2) scFlush.nd rfl (Or.inl rfl)) pgs_nil)))
        (pss_one (ps_dput (hu_of hr) (pe_fld (pv 0) rfl) (pv 1) (pv 2) rfl)))
      (pss_one (ps_fld (pv 0) (pe_lst pa_nil) rfl))), ?_⟩
    refine ⟨_, rfl, p, dx, _, rfl, hp, rfl, p, dx, d, B, W, rfl, hp, hf, k1, k2, fun c1 c2 => ?_⟩
    have npW : W ≠ p := ne_of hW.lst hp (by intro z; cases z)
    have npB : B ≠ p := ne_of hB hp (by intro z; cases z)
    have nWB : W ≠ B := ne_of hW.lst hB (by intro z; cases z)
    refine ⟨_, rfl, p, C, dx, _, _, rfl, upd_same, T.cl, T.n4, rfl, W, rfl, ⟨_, SqL.of (by rw [upd_ne npW]; exact hW.lst)⟩, ?_⟩
    refine for_list (K := K) (a := W) (xs := es.map fun e => V.ref e.1) (fun i σ H' => Off [p, B] H H' ∧ H' p = some (.ins C dx (fsD (stepped d) B W)) ∧ H' B = some (.dK (mergeK kvs (toKV (es.take i)))) ∧ ∃ u v, σ = [some (.ref p), u, v])
      ⟨Off.upd (Off.refl _ _) (by simp), upd_same, by rw [upd_ne npB]; exact hB, none, none, rfl⟩ (fun i σ H' hi q => ?_) (fun i x σ H' hx q => ?_) (fun σ H' q => ?_)
    · exact SqL.of (by rw [q.1 W (by simp [npW, nWB])]; exact hW.lst)
    · obtain ⟨o, h1, h2, u, v, rfl⟩ := q
      rw [List.getElem?_map] at hx
      obtain ⟨e, he, rfl⟩ := Option.map_eq_some_iff.mp hx
      have hm := hW.tup e (List.mem_of_getElem? he)
      refine ⟨e.1, _, rfl, SqT.of (by rw [o e.1 (by simp [ne_of hm hp (by intro z; cases z), ne_of hm hB (by intro z; cases z)])]; exact hm), rfl, _, _, rfl, _, _, rfl, rfl, ?_⟩
      have hlen : (mergeK kvs (toKV (es.take i))).length < sizeLine := by
        have z := length_mergeK (toKV (es.take i)) kvs
        have z2 : (toKV (es.take i)).length ≤ 1000 := by unfold toKV; rw [List.length_map, List.length_take]; omega
        rw [sizeLine_eq]
        omega
      refine ⟨_, rfl, _, rfl, p, C, dx, _, _, rfl, h1, T.cl, T.n3, rfl, _, rfl, B, _, rfl, DPut.k (k := Sum.inl e.2.1) h2 hlen, ?_⟩
      exact ⟨o.upd (by simp), by rw [upd_ne npB.symm]; exact h1, by rw [upd_same, toKV_take he], _, _, rfl⟩
    · obtain ⟨o, h1, h2, u, v, rfl⟩ := q
      rw [List.length_map, List.take_length] at h2
      refine ⟨by show 0 ≤ sizeLine; decide, fun L nL => ?_⟩
      have npL : p ≠ L := ne_of_none h1 nL
      have nBL : B ≠ L := ne_of_none h2 nL
      have nL0 : H L = none := by rw [o L (by simp [npL.symm, nBL.symm])] at nL; exact nL
      refine ⟨_, rfl, p, C, dx, _, rfl, by rw [upd_ne npL]; exact h1, T.cl, T.n4, (by show 7 < 1000; decide), ?_⟩
      refine k3 c1 c2 L _ nL0 ?_ (by rw [upd_same]; rfl) (by simp only [upd_ne npB, upd_ne nBL, h2]) (by simp only [upd_ne npL.symm, upd_same])
      refine Off.upd (Off.upd (fun b hb => o b (fun z => hb ?_)) (by simp)) (by simp)
      rcases List.mem_cons.mp z with z | z
      · simp [z]
      · simp only [List.mem_singleton] at z
        simp [z]
end
end K03
namespace K03
open PySem L2 HK
/-! ### contents of blocks -/
/-- tuples stay -/
def Keep (H H' : Hp) : Prop := ∀ d xs, H d = some (.tup xs) → H' d = some (.tup xs)
theorem Keep.refl (H : Hp) : Keep H H := fun _ _ h => h
theorem Keep.trans {H H1 H2 : Hp} (a : Keep H H1) (b : Keep H1 H2) : Keep H H2 := fun d xs h => b d xs (a d xs h)
theorem Keep.of {H H' : Hp} (s : Same H H') : Keep H H' := fun _ _ h => s _ _ h
theorem Keep.upd {H : Hp} {a : Addr} {o : HO} (h : ∀ xs, H a ≠ some (.tup xs)) : Keep H (upd H a o) := fun d xs e => by
  rw [upd_ne (fun z => h xs (by rw [← z]; exact e))]
  exact e
def setF (f : Int → List Int) (n : Int) (x : List Int) : Int → List Int := fun m => if m = n then x else f m
def tupI (x : List Int) : HO := .tup (x.map V.int)
structure Cont (H : Hp) (sz : Nat) (kvs : List (Key × V)) (f : Int → List Int) : Prop where
  len : ∀ n, (f n).length = sz
  val : ∀ n, (valV kvs (.inl n) = none ∧ f n = List.replicate sz 0) ∨ ∃ d, valV kvs (.inl n) = some (.ref d) ∧ H d = some (tupI (f n))
theorem Cont.keep {H H' : Hp} {sz : Nat} {kvs : List (Key × V)} {f : Int → List Int} (c : Cont H sz kvs f) (k : Keep H H') : Cont H' sz kvs f :=
  ⟨c.len, fun n => (c.val n).imp id fun ⟨d, h1, h2⟩ => ⟨d, h1, k d _ h2⟩⟩
theorem Cont.put {H : Hp} {sz : Nat} {kvs : List (Key × V)} {f : Int → List Int} (c : Cont H sz kvs f) {n : Int} {d : Addr} {x : List Int} (hd : H d = some (tupI x)) (hx : x.length = sz) : Cont H sz (putK kvs (.inl n) (.ref d)) (setF f n x) := by
  refine ⟨fun m => ?_, fun m => ?_⟩
  · unfold setF
    split
    · exact hx
    · exact c.len m
  · rw [valV_put]
    unfold setF
    by_cases h : m = n
    · rw [if_pos (by rw [h]), if_pos h]
      exact .inr ⟨d, rfl, hd⟩
    · rw [if_neg (fun z => h (by injection z)), if_neg h]
      exact c.val m
theorem zeros_eq (sz : Nat) : zeros (sz : Int) = (List.replicate sz (0 : Int)).map V.int := by
  unfold zeros
  rw [Int.toNat_natCast, List.map_replicate]
theorem flat_zeros (n : Int) : (List.replicate n.toNat [V.int 0]).flatten = zeros n := by
  unfold zeros
  induction n.toNat with
  | zero => rfl
  | succ m ih => rw [List.replicate_succ, List.replicate_succ, List.flatten_cons, ih]; rfl
theorem Cont.get {H : Hp} {sz : Nat} {kvs : List (Key × V)} {f : Int → List Int} (c : Cont H sz kvs f) {z : Addr} (hz : H z = some (.tup (zeros (sz : Int)))) (n : Int) : ∃ r, (valV kvs (.inl n)).getD (.ref z) = .ref r ∧ H r = some (tupI (f n)) := by
  rcases c.val n with ⟨e, ef⟩ | ⟨d, e, h⟩
  · refine ⟨z, by rw [e]; rfl, ?_⟩
    rw [hz, ef, zeros_eq]
    rfl
  · exact ⟨d, by rw [e]; rfl, h⟩
/-- one write of which a crash leaves what c tells -/
def crash1 (h : Nat) (f : Int → List Int) (n : Int) (x : List Int) (c : Int) : Int → List Int := if c = 1 then setF f n x else if c = 2 then setF f n (x.take h ++ (f n).drop h) else f
def crash (h : Nat) (dat : Addr → List Int) (f : Int → List Int) (l : List (En × Int)) : Int → List Int := l.foldl (fun f p => crash1 h f p.1.2.1 (dat p.1.2.2) p.2) f
theorem crash_snoc (h : Nat) (dat : Addr → List Int) (f : Int → List Int) (l : List (En × Int)) (e : En) (c : Int) : crash h dat f (l ++ [(e, c)]) = crash1 h (crash h dat f l) e.2.1 (dat e.2.2) c := by
  unfold crash
  rw [List.foldl_append]
  rfl
/-! ### the first half of one, the second of another -/
theorem cut_take {x : List Int} {h : Nat} (hl : h ≤ x.length) : cutV (x.map V.int) none (some ((h : Nat) : Int)) = (x.take h).map V.int := by
  unfold cutV
  rw [HT.sIx_none, HT.sIx_nat, List.drop_zero, List.length_map, Nat.min_eq_left hl, Nat.sub_zero, List.map_take]
theorem cut_drop {x : List Int} {h : Nat} (hl : h ≤ x.length) : cutV (x.map V.int) (some ((h : Nat) : Int)) none = (x.drop h).map V.int := by
  unfold cutV
  rw [HT.sIx_none, HT.sIx_nat, List.length_map, Nat.min_eq_left hl, List.map_drop, List.take_of_length_le (by rw [List.length_drop, List.length_map]; omega)]
theorem half_read {K : PySem.W.Frag} {H : Hp} {a : Addr} {x y : List Int} {h : Nat} {i : Int} {Q : VK} (hx : x.length = 2 * h) (hy : y.length = 2 * h) (h1 : 1 ≤ h) (h2 : h ≤ 500) (ei : i = (h : Int)) (ha : H a = some (tupI x))
    (te : TE) (σ : L2.St) (hte : ∀ H1 Q1, Same H H1 → (∀ b H2, Same H1 H2 → H2 b = some (tupI y) → Q1 (.ref b) H2) → te σ H1 Q1)
    (tj : L2.St → Hp → (Option Int → Hp → Prop) → Prop) (htj : ∀ H1 Q1, Q1 (some i) H1 → tj σ H1 Q1)
    (k : ∀ r H', Same H H' → H' r = some (tupI (x.take h ++ y.drop h)) → Q (.ref r) H') :
    rSlT K (.ref a) none (some i) H fun v1 H1 => (te σ H1 fun w H2 => tj σ H2 fun o H3 => rSlT K w o none H3 fun v2 H4 => rCatT K v1 v2 H4 Q) := by
  subst ei
  refine ⟨a, _, rfl, SqT.of ha, ?_, fun p np => ?_⟩
  · rw [HT.sIx_nat, List.length_map, hx]
    rintro ⟨_, z⟩
    have : min h (2 * h) = 2 * h := z
    omega
  · rw [cut_take (by omega)]
    have s1 : Same H (upd H p (.tup ((x.take h).map V.int))) := same_upd np
    refine hte _ _ s1 fun b H2 s2 hb => htj _ _ ⟨b, _, rfl, SqT.of hb, ?_, fun q nq => ?_⟩
    · rw [HT.sIx_nat, List.length_map, hy]
      rintro ⟨z, _⟩
      have : min h (2 * h) = 0 := z
      omega
    · rw [cut_drop (by omega)]
      have hp : H2 p = some (.tup ((x.take h).map V.int)) := s2 _ _ upd_same
      have s3 : Same H2 (upd H2 q (.tup ((y.drop h).map V.int))) := same_upd nq
      refine ⟨p, q, _, _, rfl, rfl, SqT.of (s3 _ _ hp), SqT.of upd_same, ?_, ?_, fun z => ?_, fun _ r nr => ?_⟩
      · intro z
        have := congrArg List.length z
        rw [List.length_map, List.length_take, hx] at this
        simp at this
        omega
      · rw [List.length_map, List.length_map, List.length_take, List.length_drop, hx, hy, sizeLine_eq]
        omega
      · have := congrArg List.length z
        rw [List.length_map, List.length_drop, hy] at this
        simp at this
        omega
      · refine k r _ (((s1.trans s2).trans s3).trans (same_upd nr)) ?_
        rw [upd_same, tupI, List.map_append]
/-! ### restarted -/
def spRest (C : Addr) : Sp := fun vs H Q _ => ∃ p dx d B W Ch h kvs f es dat cs, vs = [.ref p, .ref Ch] ∧ H p = some (.ins C dx (fsD d B W)) ∧ d.sz = ((2 * h : Nat) : Int) ∧ 1 ≤ h ∧ h ≤ 500 ∧ H B = some (.dK kvs) ∧ kvs.length ≤ 5000 ∧ Cont H (2 * h) kvs f ∧
  WaitAt H W es ∧ es.length ≤ 1000 ∧ (∀ e ∈ es, H e.2.2 = some (tupI (dat e.2.2)) ∧ (dat e.2.2).length = 2 * h) ∧ H Ch = some (.lst (cs.map V.int)) ∧
  ∀ x dx' B' W' kvs' H', Same H H' → H x = none → H B' = none → H W' = none → kvs'.length ≤ kvs.length + es.length → H' x = some (.ins C dx' (fsD ⟨d.sz, d.tot, .non, false, 0⟩ B' W')) → H' B' = some (.dK kvs') → H' W' = some (.lst []) → Cont H' (2 * h) kvs' (crash h dat f (es.zip cs)) → Q (.ref x) H'
theorem zip_le {a b : Nat} {es : List En} {cs : List Int} (h : a ≤ b + (es.zip cs).length) : a ≤ b + es.length := by
  rw [List.length_zip] at h
  omega
theorem same_off {H H' : Hp} {l : List Addr} (o : Off l H H') (n : ∀ b ∈ l, H b = none) : Same H H' := fun b u e => by
  rw [o b (fun hb => by rw [n b hb] at e; cases e)]
  exact e
section
variable {P : Program} {w : World} {K : PySem.W.Frag} {mg : Str → Option Value} {base : Heap} {C CE : Addr}
theorem scRest : FnScope ["self", "choices", "found", "half", "number", "data", "choice"] ["self", "choices"] (defScope sRest) := ⟨rfl, rfl, rfl, by decide +kernel, rfl, by decide +kernel, by decide +kernel⟩
theorem ok_rest {f fI fK : Addr} {fd fdI fdK : FuncData} (F : L2.Fun K "restarted" "Device.restarted" sRest f fd) (T : DTxt K mg C CE)
    (M : Mk K C fI) (FI : FnOk P w K mg base L2.CX0 1 fI fdI ["self", "block_size", "count", "blocks"] (spInit C)) (bI : Binds K fdI ["self", "block_size", "count", "blocks"] [])
    (FK : FnOk P w K mg base L2.CX0 1 fK fdK ["self", "number"] (spKept C)) (bK : Binds K fdK ["self", "number"] []) (mK : Meth K C "kept" fK) :
    FnOk P w K mg base L2.CX0 3 f fd ["self", "choices"] (spRest C) := by
  obtain ⟨t1, g1⟩ := T.kept
  obtain ⟨t2, g2⟩ := T.half
  refine F.ok scRest (fun vs H Q E h => ?_) (fun cdv A outer s H vs Q E hr h => ?_)
  · obtain ⟨p, dx, d, B, W, Ch, h, kvs, f, es, dat, cs, rfl, _⟩ := h
    rfl
  · obtain ⟨p, dx, d, B, W, Ch, h, kvs, f, es, dat, cs, rfl, hp, hsz, h1, h500, hB, hk, hc, hW, hl, hdat, hC, k⟩ := h
    refine ⟨_, pss_cons (ps_set (i := 2) scRest.nd rfl (Or.inl rfl) (pe_make M FI hr rfl T.gC bI .nil pass0 (pa_cons (pe_fld (pv 0) rfl) (pa_cons (pe_fld (pv 0) rfl) (pa_cons (pe_fld (pv 0) rfl) pa_nil)))))
      (pss_cons (ps_set (i := 3) scRest.nd rfl (Or.inl rfl) (pe_op op_fdiv (pe_fld (pv 0) rfl) pe_int))
      (pss_cons (ps_for PassesOwn.never rfl (pi_zip (by rfl) T.zip (pa_cons (pe_fld (pv 0) rfl) (pa_cons (pv 1) pa_nil)))
          (pg_tup rfl (pgs_cons (pg_tup rfl (pgs_cons (pg_name (i := 4) scRest.nd rfl (Or.inl rfl)) (pgs_cons (pg_name (i := 5) scRest.nd rfl (Or.inl rfl)) pgs_nil))) (pgs_cons (pg_name (i := 6) scRest.nd rfl (Or.inl rfl)) pgs_nil)))
        (pss_one (ps_if (pt_cmpR op_eq (pv 6) (pe_glob (v := .int 1) rfl g1 ⟨_, rfl⟩) (nomark _)) (pss_one (ps_dput (hu_of hr) (pe_fld (pv 2) rfl) (pv 4) (pv 5) rfl))
          (pss_one (ps_if (pt_cmpR op_eq (pv 6) (pe_glob (v := .int 2) rfl g2 ⟨_, rfl⟩) (nomark _))
            (pss_one (ps_dput (hu_of hr) (pe_fld (pv 2) rfl) (pv 4) (pe_op op_catT (pe_slice sl_tup (pv 5) po_none (po_some (pv 3))) (pe_slice sl_tup (pe_meth (pv 2) T.cl mK FK (hr.mono (by decide)) bK .nil pass0 (pa_cons (pv 4) pa_nil)) (po_some (pv 3)) po_none)) rfl)) pss_nil)))))
      (pss_one (ps_ret (pv 2))))), ?_⟩
    refine ⟨_, rfl, p, C, dx, _, _, rfl, hp, T.cl, T.n1, rfl, _, rfl, p, C, dx, _, _, rfl, hp, T.cl, T.n2, rfl, _, rfl, p, C, dx, _, _, rfl, hp, T.cl, T.n3, rfl, fun x dx' nx ndx nex => ?_⟩
    have nBx : B ≠ x := ne_of_none hB nx
    have nBd : B ≠ dx' := ne_of_none hB ndx
    refine ⟨x, dx', _, _, _, kvs, rfl, upd_same, .inr ⟨B, rfl, by rw [upd_ne nBx, upd_ne nBd]; exact hB⟩, fun B' W' H1 nB' nW' nBW o1 hx1 hB1 hW1 => ⟨rfl, ?_⟩⟩
    have nB0 : H B' = none := by
      by_cases z : B' = x
      · rw [z]; exact nx
      · by_cases z2 : B' = dx'
        · rw [z2]; exact ndx
        · rw [upd_ne z, upd_ne z2] at nB'; exact nB'
    have nW0 : H W' = none := by
      by_cases z : W' = x
      · rw [z]; exact nx
      · by_cases z2 : W' = dx'
        · rw [z2]; exact ndx
        · rw [upd_ne z, upd_ne z2] at nW'; exact nW'
    have s1 : Same H H1 := fun b u e => by
      rw [o1 b (by simp [ne_of_none e nx, ne_of_none e nB0, ne_of_none e nW0]), upd_ne (ne_of_none e nx), upd_ne (ne_of_none e ndx)]
      exact e
    refine ⟨_, rfl, p, C, dx, _, _, rfl, s1 _ _ hp, T.cl, T.n1, rfl, _, _, rfl, rfl, ⟨by decide, by decide⟩, ?_⟩
    have eh : d.sz / 2 = ((h : Nat) : Int) := by rw [hsz]; omega
    refine ⟨_, rfl, p, C, dx, _, _, rfl, s1 _ _ hp, T.cl, T.n4, rfl, _, rfl, W, Ch, es.map (fun e => V.ref e.1), cs.map V.int, rfl, SqL.of (s1 _ _ hW.lst), SqL.of (s1 _ _ hC), ?_⟩
    refine for_it (walk_zip (K := K) (a := W) (b := Ch) (xs := es.map fun e => V.ref e.1) (ys := cs.map V.int) (n := (es.zip cs).length) (by simp [List.length_zip])) (fun i σ H' => Same H H' ∧ H' x = some (.ins C dx' (fsD ⟨d.sz, d.tot, .non, false, 0⟩ B' W')) ∧ H' W' = some (.lst []) ∧
        (∃ kvs', H' B' = some (.dK kvs') ∧ kvs'.length ≤ kvs.length + i ∧ Cont H' (2 * h) kvs' (crash h dat f ((es.zip cs).take i))) ∧ ∃ u v z, σ = [some (.ref p), some (.ref Ch), some (.ref x), some (.int (h : Nat)), u, v, z])
      ⟨s1, hx1, hW1, ⟨kvs, hB1, by omega, hc.keep (Keep.of s1)⟩, none, none, none, by rw [← eh]; rfl⟩ (fun i σ H' hi q => ⟨SqL.of (q.1 _ _ hW.lst), SqL.of (q.1 _ _ hC)⟩) (fun i y σ H' H'' hi q yy => ?_) (fun σ H' q => ?_)
    · obtain ⟨sm, hx', hW', ⟨kvs', hB', hk', hc'⟩, u, v, z, rfl⟩ := q
      obtain ⟨t, y1, y2, rfl, nt, rfl, e1, e2⟩ := yy
      have hz : (es.zip cs)[i]? = some ((es.zip cs)[i]) := List.getElem?_eq_getElem hi
      obtain ⟨e, c, hec⟩ : ∃ e c, (es.zip cs)[i]? = some (e, c) := ⟨_, _, hz⟩
      have h2 := List.getElem?_zip_eq_some.mp hec
      dsimp only at e1 e2 h2
      rw [List.getElem?_map, h2.1] at e1
      rw [List.getElem?_map, h2.2] at e2
      obtain rfl := Option.some.inj e1
      obtain rfl := Option.some.inj e2
      have hm := List.mem_of_getElem? h2.1
      have s2 : Same H' (upd H' t (.tup [.ref e.1, .int c])) := same_upd nt
      have het := s2 _ _ (sm _ _ (hW.tup e hm))
      have hed := s2 _ _ (sm _ _ (hdat e hm).1)
      have hx2 := s2 _ _ hx'
      have hW2 := s2 _ _ hW'
      have hB2 := s2 _ _ hB'
      have hc2 := hc'.keep (Keep.of s2)
      have sm2 := sm.trans s2
      refine ⟨t, _, rfl, SqT.of upd_same, rfl, _, _, rfl, ⟨e.1, _, rfl, SqT.of het, rfl, _, _, rfl, _, _, rfl, rfl, _, _, rfl, rfl, ?_⟩⟩
      generalize upd H' t (.tup [.ref e.1, .int c]) = H2 at s2 het hed hx2 hW2 hB2 hc2 sm2 ⊢
      have etake : (es.zip cs).take (i + 1) = (es.zip cs).take i ++ [(e, c)] := by rw [List.take_add_one, hec]; rfl
      have hi' : i < 1000 := by
        rw [List.length_zip] at hi
        omega
      have hl' : kvs'.length < sizeLine := by rw [sizeLine_eq]; omega
      have nxB : x ≠ B' := ne_of hx2 hB2 (by intro z; cases z)
      have nWB : W' ≠ B' := ne_of hW2 hB2 (by intro z; cases z)
      have nWx : W' ≠ x := ne_of hW2 hx2 (by intro z; cases z)
      have same_put : ∀ {H3 : Hp} {o : HO}, Same H H3 → Same H (upd H3 B' o) := fun {H3 o} sm b u eb => by
        rw [upd_ne (ne_of_none eb nB0)]
        exact sm _ _ eb
      refine ⟨_, rfl, rfl, _, rfl, ite2 (fun c1 => ?_) (fun c1 => ⟨_, rfl, rfl, _, rfl, ite2 (fun c2 => ?_) (fun c2 => ?_)⟩)⟩
      · have ec : c = 1 := by simpa using c1
        refine ⟨_, rfl, _, rfl, x, C, dx', _, _, rfl, hx2, T.cl, T.n3, rfl, _, rfl, B', _, rfl, DPut.k (k := Sum.inl e.2.1) hB2 hl', ?_⟩
        refine ⟨same_put sm2, by rw [upd_ne nxB]; exact hx2, by rw [upd_ne nWB]; exact hW2, ⟨_, upd_same, by have := length_putK kvs' (Sum.inl e.2.1) (.ref e.2.2); omega, ?_⟩, _, _, _, rfl⟩
        rw [etake, crash_snoc, crash1, if_pos ec]
        exact (hc2.put hed (hdat e hm).2).keep (Keep.upd fun xs z => by rw [hB2] at z; cases z)
      · have ec : c = 2 := by simpa using c2
        have ec1 : c ≠ 1 := by omega
        refine ⟨_, rfl, _, rfl, _, rfl, ?_⟩
        refine half_read (K := K) (x := dat e.2.2) (y := crash h dat f ((es.zip cs).take i) e.2.1) (h := h) (hdat e hm).2 (hc2.len _) h1 h500 rfl hed _ _ (fun H3 Q3 s3 q3 => ?_) _ (fun H3 Q3 q3 => ⟨_, rfl, _, rfl, q3⟩) (fun r H3 s3 hr3 => ?_)
        · refine ⟨_, rfl, x, dx', _, rfl, s3 _ _ hx2, rfl, _, rfl, x, dx', _, B', W', e.2.1, kvs', rfl, s3 _ _ hx2, s3 _ _ hB2, (by show 2 ≤ d.sz; omega), (by show d.sz ≤ 1000; omega), fun H4 z s4 nz hz4 => ?_⟩
          have hz4 : H4 z = some (.tup (zeros d.sz)) := hz4
          rw [hsz] at hz4
          obtain ⟨r, er, hr⟩ := ((hc2.keep (Keep.of s3)).keep (Keep.of s4)).get hz4 e.2.1
          rw [er]
          exact q3 r H4 s4 hr
        · have nxB := nxB
          refine ⟨_, rfl, x, C, dx', _, _, rfl, s3 _ _ hx2, T.cl, T.n3, rfl, _, rfl, B', _, rfl, DPut.k (k := Sum.inl e.2.1) (s3 _ _ hB2) hl', ?_⟩
          refine ⟨same_put (sm2.trans s3), by rw [upd_ne nxB]; exact s3 _ _ hx2, by rw [upd_ne nWB]; exact s3 _ _ hW2, ⟨_, upd_same, by have := length_putK kvs' (Sum.inl e.2.1) (.ref r); omega, ?_⟩, _, _, _, rfl⟩
          rw [etake, crash_snoc, crash1, if_neg ec1, if_pos ec]
          refine ((hc2.keep (Keep.of s3)).put hr3 ?_).keep (Keep.upd fun xs z => by rw [s3 _ _ hB2] at z; cases z)
          rw [List.length_append, List.length_take, List.length_drop, (hdat e hm).2, hc2.len]
          omega
      · refine ⟨sm2, hx2, hW2, ⟨kvs', hB2, by omega, ?_⟩, _, _, _, rfl⟩
        rw [etake, crash_snoc, crash1, if_neg (by simpa using c1), if_neg (by simpa using c2)]
        exact hc2
    · obtain ⟨sm, hx', hW', ⟨kvs', hB', hk', hc'⟩, u, v, z, rfl⟩ := q
      rw [List.take_length] at hc'
      exact ⟨_, rfl, k x dx' B' W' kvs' H' sm nx nB0 nW0 (zip_le hk') hx' hB' hW' hc'⟩
end
end K03
namespace K03
open PySem L2 HK
/-! ### the device as what it holds -/
structure AD where
  fz : V
  dead : Bool
  st : Int
  f : Int → List Int
  ws : List (Int × List Int)
def AD.dv (d : AD) : Dv := ⟨64, 16, d.fz, d.dead, d.st⟩
def AD.alive (d : AD) : Prop := d.dead = false ∧ d.fz ≠ .int 0
def AD.killed (d : AD) : AD := { d with dead := true }
def AD.next (d : AD) : AD := { d with fz := match d.fz with | .int n => .int (n - 1) | v => v, st := d.st + 1 }
def AD.wrote (d : AD) (n : Int) (x : List Int) : AD := { d.next with ws := d.ws ++ [(n, x)] }
def setAll (f : Int → List Int) (ws : List (Int × List Int)) : Int → List Int := ws.foldl (fun f q => setF f q.1 q.2) f
def AD.flushed (d : AD) : AD := { d.next with f := setAll d.f d.ws, ws := [] }
/-- the last data that waits for a block, else what is kept -/
def lastA (ws : List (Int × List Int)) (n : Int) : Option (List Int) := (ws.reverse.find? fun q => decide (q.1 = n)).map (·.2)
def AD.rd (d : AD) (n : Int) : List Int := (lastA d.ws n).getD (d.f n)
/-- what a crash leaves -/
def crashA (f : Int → List Int) (l : List ((Int × List Int) × Int)) : Int → List Int := l.foldl (fun f q => crash1 32 f q.1.1 q.1.2 q.2) f
structure DevS (C : Addr) (H : Hp) (p dx B W : Addr) (N : Nat) (d : AD) : Prop where
  ins : H p = some (.ins C dx (fsD d.dv B W))
  nf : d.fz = .non ∨ ∃ n, d.fz = .int n
  ex : ∃ (kvs : List (Key × V)) (es : List (En × List Int)), H B = some (.dK kvs) ∧ Cont H 64 kvs d.f ∧ WaitAt H W (es.map (·.1)) ∧ kvs.length + es.length ≤ N ∧ d.ws = es.map (fun q => (q.1.2.1, q.2)) ∧ ∀ q ∈ es, H q.1.2.2 = some (tupI q.2) ∧ q.2.length = 64
/-- all stands but the device's own parts -/
def Bar (p B W : Addr) (H H' : Hp) : Prop := ∀ b o, H b = some o → b ≠ p → b ≠ B → b ≠ W → H' b = some o
theorem Bar.refl (p B W : Addr) (H : Hp) : Bar p B W H H := fun _ _ h _ _ _ => h
theorem Bar.of_same {p B W : Addr} {H H' : Hp} (s : Same H H') : Bar p B W H H' := fun _ _ h _ _ _ => s _ _ h
/-- the waiting list is the same, or a new one -/
theorem Bar.trans {p B W W1 : Addr} {H H1 H2 : Hp} (x : Bar p B W H H1) (hW : W1 = W ∨ H W1 = none) (y : Bar p B W1 H1 H2) : Bar p B W H H2 := fun b o h n1 n2 n3 => by
  refine y _ _ (x b o h n1 n2 n3) n1 n2 (fun e => ?_)
  rcases hW with z | z
  · exact n3 (e.trans z)
  · rw [← e, h] at z
    cases z
theorem Bar.same {p B W : Addr} {H H1 H2 : Hp} (x : Bar p B W H H1) (s : Same H1 H2) : Bar p B W H H2 := fun b o h n1 n2 n3 => s _ _ (x b o h n1 n2 n3)
theorem Bar.pre {p B W : Addr} {H H1 H2 : Hp} (s : Same H H1) (x : Bar p B W H1 H2) : Bar p B W H H2 := fun b o h n1 n2 n3 => x _ _ (s _ _ h) n1 n2 n3
theorem tupI_inj {x y : List Int} (h : tupI x = tupI y) : x = y := by
  unfold tupI at h
  injection h with h
  induction x generalizing y with
  | nil => cases y with
    | nil => rfl
    | cons b s => cases h
  | cons a r ih => cases y with
    | nil => cases h
    | cons b s =>
      rw [List.map_cons, List.map_cons] at h
      injection h with h1 h2
      injection h1 with h1
      rw [h1, ih h2]
theorem WaitAt.mono' {H H' : Hp} {W : Addr} {es : List En} (w : WaitAt H W es) (e : H' W = H W) (k : Keep H H') : WaitAt H' W es := ⟨by rw [e]; exact w.lst, fun x hx => k _ _ (w.tup x hx)⟩
section
variable {C p dx B W : Addr} {H H' : Hp} {N : Nat} {d : AD}
theorem DevS.same (x : DevS C H p dx B W N d) (s : Same H H') : DevS C H' p dx B W N d := by
  obtain ⟨i, nf, kvs, es, hB, hc, hW, hn, hw, hd⟩ := x
  exact ⟨s _ _ i, nf, kvs, es, s _ _ hB, hc.keep (Keep.of s), ⟨s _ _ hW.lst, fun e he => s _ _ (hW.tup e he)⟩, hn, hw, fun q hq => ⟨s _ _ (hd q hq).1, (hd q hq).2⟩⟩
theorem DevS.mono {M : Nat} (x : DevS C H p dx B W N d) (h : N ≤ M) : DevS C H p dx B W M d := by
  obtain ⟨i, nf, kvs, es, hB, hc, hW, hn, hw, hd⟩ := x
  exact ⟨i, nf, kvs, es, hB, hc, hW, Nat.le_trans hn h, hw, hd⟩
theorem DevS.len (x : DevS C H p dx B W N d) (n : Int) : (d.f n).length = 64 := by
  obtain ⟨i, nf, kvs, es, hB, hc, hW, hn, hw, hd⟩ := x
  exact hc.len n
theorem DevS.neB (x : DevS C H p dx B W N d) : p ≠ B ∧ p ≠ W ∧ B ≠ W := by
  obtain ⟨i, nf, kvs, es, hB, hc, hW, hn, hw, hd⟩ := x
  exact ⟨ne_of i hB (by intro z; cases z), ne_of i hW.lst (by intro z; cases z), ne_of hB hW.lst (by intro z; cases z)⟩
/-- objects of other kinds lie apart from the device's parts -/
theorem DevS.apart (x : DevS C H p dx B W N d) {b : Addr} {o : HO} (h : H b = some o) (n1 : ∀ C dx fs, o ≠ .ins C dx fs) (n2 : ∀ k, o ≠ .dK k) (n3 : ∀ l, o ≠ .lst l) : b ≠ p ∧ b ≠ B ∧ b ≠ W := by
  obtain ⟨i, nf, kvs, es, hB, hc, hW, hn, hw, hd⟩ := x
  exact ⟨ne_of h i (n1 _ _ _), ne_of h hB (n2 _), ne_of h hW.lst (n3 _)⟩
theorem DevS.keep (x : DevS C H p dx B W N d) (b : Bar p B W H H') : Keep H H' := fun t xs h => by
  obtain ⟨a1, a2, a3⟩ := x.apart h (fun _ _ _ z => by cases z) (fun _ z => by cases z) (fun _ z => by cases z)
  exact b _ _ h a1 a2 a3
end
/-! ### the promises by what it holds -/
structure SpReadA (C CE : Addr) (vs : List V) (H : Hp) (Q : VK) (E : XK) : Prop where
  h : ∃ p dx B W N d n, vs = [.ref p, .int n] ∧ DevS C H p dx B W N d ∧ N ≤ 900 ∧ (d.dead = true → E (.ref CE) none H) ∧ (¬ (0 ≤ n ∧ n < 16) → E (.ref CE) none H) ∧
  (d.dead = false → 0 ≤ n ∧ n < 16 → ∀ H' r, Same H H' → H' r = some (tupI (d.rd n)) → Q (.ref r) H')
def spReadA (C CE : Addr) : Sp := fun vs H Q E => SpReadA C CE vs H Q E
structure SpWriteA (C CE : Addr) (vs : List V) (H : Hp) (Q : VK) (E : XK) : Prop where
  h : ∃ p dx B W N d n t x, vs = [.ref p, .int n, .ref t] ∧ DevS C H p dx B W N d ∧ N ≤ 900 ∧ H t = some (tupI x) ∧
  (x.length = 64 ∧ 0 ≤ n ∧ n < 16 → (¬ d.alive → ∀ H', Bar p B W H H' → DevS C H' p dx B W N d.killed → E (.ref CE) none H') ∧ (d.alive → ∀ H', Bar p B W H H' → DevS C H' p dx B W (N + 1) (d.wrote n x) → Q .non H')) ∧
  (¬ (x.length = 64 ∧ 0 ≤ n ∧ n < 16) → E (.ref CE) none H)
def spWriteA (C CE : Addr) : Sp := fun vs H Q E => SpWriteA C CE vs H Q E
structure SpFlushA (C CE : Addr) (vs : List V) (H : Hp) (Q : VK) (E : XK) : Prop where
  h : ∃ p dx B W N d, vs = [.ref p] ∧ DevS C H p dx B W N d ∧ N ≤ 900 ∧
  (¬ d.alive → ∀ H', Bar p B W H H' → DevS C H' p dx B W N d.killed → E (.ref CE) none H') ∧ (d.alive → ∀ H' W', H W' = none → Bar p B W H H' → DevS C H' p dx B W' N d.flushed → Q .non H')
def spFlushA (C CE : Addr) : Sp := fun vs H Q E => SpFlushA C CE vs H Q E
section
variable {P : Program} {w : World} {K : PySem.W.Frag} {mg : Str → Option Value} {base : Heap} {C CE : Addr} {k : Nat} {f : Addr} {fd : FuncData}
theorem cont_merge {H : Hp} : ∀ {es : List (En × List Int)} {kvs : List (Key × V)} {f : Int → List Int}, (∀ q ∈ es, H q.1.2.2 = some (tupI q.2) ∧ q.2.length = 64) → Cont H 64 kvs f → Cont H 64 (mergeK kvs (toKV (es.map (·.1)))) (setAll f (es.map fun q => (q.1.2.1, q.2)))
  | [], _, _, _, c => c
  | q :: r, kvs, f, h, c => by
    have z := h q (by simp)
    exact cont_merge (es := r) (kvs := putK kvs (.inl q.1.2.1) (.ref q.1.2.2)) (f := setF f q.1.2.1 q.2) (fun y hy => h y (by simp [hy])) (c.put z.1 z.2)
theorem lastOf_A (es : List (En × List Int)) (n : Int) : ((lastOf (es.map (·.1)) n = none ∧ lastA (es.map fun q => (q.1.2.1, q.2)) n = none) ∨ ∃ q ∈ es, lastOf (es.map (·.1)) n = some q.1.2.2 ∧ lastA (es.map fun q => (q.1.2.1, q.2)) n = some q.2) := by
  unfold lastOf lastA
  rw [← List.map_reverse, ← List.map_reverse, List.find?_map, List.find?_map]
  have e : ((fun q : Int × List Int => decide (q.1 = n)) ∘ fun q : En × List Int => (q.1.2.1, q.2)) = ((fun e : En => decide (e.2.1 = n)) ∘ fun q : En × List Int => q.1) := rfl
  rw [e]
  cases h : es.reverse.find? ((fun e : En => decide (e.2.1 = n)) ∘ fun q : En × List Int => q.1) with
  | none => exact .inl ⟨rfl, rfl⟩
  | some q => exact .inr ⟨q, List.mem_reverse.mp (List.mem_of_find?_eq_some h), rfl, rfl⟩
theorem readA (F : FnOk P w K mg base (L2.CX P w) k f fd ["self", "number"] (spRead C CE)) : FnOk P w K mg base (L2.CX P w) k f fd ["self", "number"] (spReadA C CE) := by
  refine F.imp fun vs H Q E h => ?_
  obtain ⟨p, dx, B, W, N, d, n, rfl, hD, hN, k1, k2, k3⟩ := h
  obtain ⟨i, nf, kvs, es, hB, hc, hW, hn, hw, hd⟩ := hD
  refine ⟨p, dx, d.dv, B, W, n, kvs, es.map (·.1), rfl, i, hB, hW, (by show (2 : Int) ≤ 64; decide), (by show (64 : Int) ≤ 1000; decide), k1, k2, fun c1 c2 => ⟨fun t ht => ?_, fun ht H' z s nz hz => ?_⟩⟩
  · rcases lastOf_A es n with ⟨e1, e2⟩ | ⟨q, hq, e1, e2⟩
    · rw [e1] at ht; cases ht
    · rw [e1] at ht
      obtain rfl := Option.some.inj ht
      refine k3 c1 c2 H _ (Same.refl H) ?_
      unfold AD.rd
      rw [hw, e2]
      exact (hd q hq).1
  · rcases lastOf_A es n with ⟨e1, e2⟩ | ⟨q, hq, e1, e2⟩
    · obtain ⟨r, er, hr⟩ := (hc.keep (Keep.of s)).get (sz := 64) (z := z) hz n
      rw [er]
      refine k3 c1 c2 H' r s ?_
      unfold AD.rd
      rw [hw, e2]
      exact hr
    · rw [e1] at ht; cases ht
theorem writeA (F : FnOk P w K mg base (L2.CX P w) k f fd ["self", "number", "data"] (spWrite K C CE)) : FnOk P w K mg base (L2.CX P w) k f fd ["self", "number", "data"] (spWriteA C CE) := by
  refine F.imp fun vs H Q E h => ?_
  obtain ⟨p, dx, B, W, N, d, n, t, x, rfl, hD, hN, ht, k1, k2⟩ := h
  have hD0 := hD
  obtain ⟨i, nf, kvs, es, hB, hc, hW, hn, hw, hd⟩ := hD
  have npB : p ≠ B := ne_of i hB (by intro z; cases z)
  have nWB : W ≠ B := ne_of hW.lst hB (by intro z; cases z)
  have npW : p ≠ W := ne_of i hW.lst (by intro z; cases z)
  by_cases ok : x.length = 64 ∧ 0 ≤ n ∧ n < 16
  · obtain ⟨kE, kQ⟩ := k1 ok
    have kill : ¬ d.alive → E (.ref CE) none (upd H p (.ins C dx (fsD { d.dv with dead := true } B W))) := fun na => by
      refine kE na _ (fun b o h n1 n2 n3 => by rw [upd_ne n1]; exact h) ⟨upd_same, nf, kvs, es, by rw [upd_ne npB.symm]; exact hB, hc.keep (Keep.upd fun xs z => by rw [i] at z; cases z), hW.mono' (upd_ne npW.symm) (Keep.upd fun xs z => by rw [i] at z; cases z), hn, hw, fun q hq => ⟨Keep.upd (fun xs z => by rw [i] at z; cases z) _ _ (hd q hq).1, (hd q hq).2⟩⟩
    refine ⟨p, dx, d.dv, B, W, n, t, x.map V.int, es.map (·.1), rfl, i, SqT.of ht, hW, by rw [List.length_map]; omega, nf, fun z => absurd (by rw [List.length_map]; exact ⟨by rw [ok.1]; rfl, ok.2⟩) z, fun c => ?_, fun _ c c2 => kill fun a => a.2 c2, fun _ c c2 z H' nz o h1 h2 h3 => ?_⟩
    · have c : d.dead = true := c
      have e : d.killed = d := by obtain ⟨a, b, c, e, g⟩ := d; simp only at c; unfold AD.killed; simp_all
      exact kE (fun a => by rw [a.1] at c; cases c) H (Bar.refl _ _ _ _) (by rw [e]; exact hD0)
    · have kp : Keep H H' := fun t xs ht => by
        rw [o t (by
          simp only [List.mem_cons, List.not_mem_nil, or_false, not_or]
          exact ⟨ne_of ht i (by intro z; cases z), ne_of_none ht nz, ne_of ht hW.lst (by intro z; cases z)⟩)]
        exact ht
      refine kQ ⟨c, c2⟩ H' (fun b u h n1 n2 n3 => by rw [o b (by simp [n1, n3, ne_of_none h nz])]; exact h) ⟨h1, ?_, kvs, es ++ [((z, n, t), x)], ?_, hc.keep kp, ⟨by rw [h3]; simp, fun e he => ?_⟩, by rw [List.length_append]; show kvs.length + (es.length + 1) ≤ N + 1; omega, ?_, fun q hq => ?_⟩
      · show (stepped d.dv).fz = .non ∨ ∃ n, (stepped d.dv).fz = .int n
        exact stepped_nf nf
      · rw [o B (by simp [npB.symm, nWB.symm, ne_of_none hB nz])]; exact hB
      · rw [List.map_append] at he
        rcases List.mem_append.mp he with y | y
        · exact kp _ _ (hW.tup e y)
        · rw [show e = (z, n, t) by simpa using y]; exact h2
      · show d.ws ++ [(n, x)] = _
        rw [hw, List.map_append]
        rfl
      · rcases List.mem_append.mp hq with y | y
        · exact ⟨kp _ _ (hd q y).1, (hd q y).2⟩
        · rw [List.mem_singleton.mp y]
          exact ⟨kp _ _ ht, ok.1⟩
  · have bad := k2 ok
    have nok : ¬ (((x.map V.int).length : Int) = d.dv.sz ∧ 0 ≤ n ∧ n < d.dv.tot) := fun z => ok ⟨by have z1 := z.1; rw [List.length_map] at z1; exact Int.ofNat_inj.mp z1, z.2⟩
    exact ⟨p, dx, d.dv, B, W, n, t, x.map V.int, es.map (·.1), rfl, i, SqT.of ht, hW, by rw [List.length_map]; omega, nf, fun _ => bad, fun _ => bad, fun z => absurd z nok, fun z => absurd z nok⟩
theorem flushA (F : FnOk P w K mg base (L2.CX P w) k f fd ["self"] (spFlush C CE)) : FnOk P w K mg base (L2.CX P w) k f fd ["self"] (spFlushA C CE) := by
  refine F.imp fun vs H Q E h => ?_
  obtain ⟨p, dx, B, W, N, d, rfl, hD, hN, kE, kQ⟩ := h
  have hD0 := hD
  obtain ⟨i, nf, kvs, es, hB, hc, hW, hn, hw, hd⟩ := hD
  have npB : p ≠ B := ne_of i hB (by intro z; cases z)
  have nWB : W ≠ B := ne_of hW.lst hB (by intro z; cases z)
  have npW : p ≠ W := ne_of i hW.lst (by intro z; cases z)
  have kill : ¬ d.alive → E (.ref CE) none (upd H p (.ins C dx (fsD { d.dv with dead := true } B W))) := fun na => by
    refine kE na _ (fun b o h n1 n2 n3 => by rw [upd_ne n1]; exact h) ⟨upd_same, nf, kvs, es, by rw [upd_ne npB.symm]; exact hB, hc.keep (Keep.upd fun xs z => by rw [i] at z; cases z), hW.mono' (upd_ne npW.symm) (Keep.upd fun xs z => by rw [i] at z; cases z), hn, hw, fun q hq => ⟨Keep.upd (fun xs z => by rw [i] at z; cases z) _ _ (hd q hq).1, (hd q hq).2⟩⟩
  refine ⟨p, dx, d.dv, B, W, kvs, es.map (·.1), rfl, i, hB, hW, by omega, by rw [List.length_map]; omega, nf, fun c => ?_, fun c c2 => kill fun a => a.2 c2, fun c c2 L H' nL o h1 h2 h3 => ?_⟩
  · have c : d.dead = true := c
    have e : d.killed = d := by obtain ⟨a, b, c, e, g⟩ := d; simp only at c; unfold AD.killed; simp_all
    exact kE (fun a => by rw [a.1] at c; cases c) H (Bar.refl _ _ _ _) (by rw [e]; exact hD0)
  · have kp : Keep H H' := fun t xs ht => by
      rw [o t (by
        simp only [List.mem_cons, List.not_mem_nil, or_false, not_or]
        exact ⟨ne_of ht i (by intro z; cases z), ne_of ht hB (by intro z; cases z), ne_of_none ht nL⟩)]
      exact ht
    refine kQ ⟨c, c2⟩ H' L nL (fun b u h n1 n2 n3 => by rw [o b (by simp [n1, n2, ne_of_none h nL])]; exact h) ⟨h1, stepped_nf (d := d.dv) nf, _, [], h2, ?_, ⟨h3, (fun e he => by cases he)⟩, ?_, rfl, (fun q hq => by cases hq)⟩
    · show Cont H' 64 (mergeK kvs (toKV (es.map (·.1)))) (setAll d.f d.ws)
      rw [hw]
      exact cont_merge (fun q hq => ⟨kp _ _ (hd q hq).1, (hd q hq).2⟩) (hc.keep kp)
    · have z := length_mergeK (toKV (es.map (·.1))) kvs
      have z2 : (toKV (es.map (·.1))).length = es.length := by unfold toKV; rw [List.length_map, List.length_map]
      show _ + 0 ≤ N
      omega
end
end K03
/-! Rules that the layer lacks: xs.extend(a tuple), any(a tuple of ints), told by two clauses, list(zip(xs, ys)) -/
namespace HK
open PySem PySem.Spec PyProof.Rows L2
theorem list_extend_tupW (l : Addr) (items : Array Value) (n : Nat) (b : Addr) (items2 : Array Value) (n2 : Nat) (dd : Option Addr) (sl : Array (Option Value)) (hs0 : ¬(!items.isEmpty && Builtin.List.listTooLong (items.size + items2.size)) = true) (hs1 : items.size ≤ sizeLine) (hs2 : items.size + items2.size ≤ sizeLine + 1) :
    Meets (Builtin.«list.extend» ⟨[.ref l, .ref b], []⟩) (fun _ R s => s.heap.get? l = some { cls := .type "list", dict := none, data := .seq items n, slots := #[] } ∧ s.heap.get? b = some { cls := .type "tuple", dict := dd, data := .seq items2 n2, slots := sl } ∧ R (.ok (.ret Value.none)) { s with heap := s.heap.update l (Obj.mapSeq fun x => x ++ items2), toks := s.toks }) :=
  .of_wp fun prog w A R s h => by
    obtain ⟨hp, g, d, tk, os⟩ := s; obtain ⟨hl, hb, h⟩ := h; have f1 := AutoSeq1.idx_int; have f2 := AutoSeq1.sub_tuple_tuple; have f3 := AutoSeq1.sub_list_list; have f4 := AutoSeq1.sub_tuple_list; have f5 := AutoSeq1.sub_list_tuple
    have hz' : (items ++ items2).size ≤ sizeLine + 1 := by rw [Array.size_append]; exact hs2
    wp_walk using (wpAny_updateSeq hl rfl (hz := hs1) (_hz' := hz')), wpAny_loadPart' hl, wpAny_loadPart' hb; exact ⟨_, rfl, h⟩
def rExtendT (K : PySem.W.Frag) : V → List V → Hp → VK → Prop := fun x vs H Q => ∃ l b xs zs, x = .ref l ∧ vs = [.ref b] ∧ H l = some (.lst xs) ∧ SqT K H b zs ∧ xs.length + zs.length ≤ sizeLine ∧ Q .non (upd H l (.lst (xs ++ zs)))
section
variable {X : Cx}
theorem mt_extendT : MtM X "list.extend" (rExtendT X.K) := by
  intro pins s σ H x vs v us Q I rx rv h
  obtain ⟨l, b, xs, zs, rfl, rfl, hH, hB, hz, q⟩ := h
  cases rx
  obtain ⟨u, rfl, ru⟩ := rv.one
  cases ru
  obtain ⟨z, its, n, r, hl, e⟩ := I.lstM hH
  obtain ⟨its2, r2, ⟨⟨cls, dd, data, sl⟩, e2, hc, n2, hd⟩, hz2⟩ := I.tuple hB
  simp only at hc hd
  subst hc hd
  have l2 : its2.length = zs.length := r2.length.symm
  have hsz : its.toArray.size + its2.toArray.size ≤ sizeLine := by rw [List.size_toArray, List.size_toArray]; omega
  have hlong : ¬ (!its.toArray.isEmpty && Builtin.List.listTooLong (its.toArray.size + its2.toArray.size)) = true := by
    rw [notLongL hsz, Bool.and_false]
    exact Bool.false_ne_true
  refine call_meets PySem.F.slot_list_extend ⟨_, e, rfl⟩ PySem.F.entry_list_extend (PySem.F.args_list_extend_2 _ _)
    (list_extend_tupW l its.toArray n b its2.toArray n2 dd sl hlong (by rw [List.size_toArray]; omega) (by omega)) ⟨e, e2, ?_⟩
  refine ⟨.non, _, I.lset (its' := its ++ its2) hH e (by simp) (r.append r2) ?_, rfl, q⟩
  rw [List.length_append]
  omega
theorem dpall_ints {K : PySem.W.Frag} {H : Hp} : ∀ ns : List Int, DpAll K H (ns.map V.int) (ns.map PyData.int)
  | [] => .nil
  | n :: r => .cons (.int n) (dpall_ints r)
theorem plain_ints : ∀ ns : List Int, PyData.plainAll (ns.map PyData.int) = true
  | [] => rfl
  | n :: r => by
    show PyData.plainAll (PyData.int n :: r.map PyData.int) = true
    rw [PyData.plainAll, plain_ints r]
    rfl
/-- any(t), t a tuple of ints -/
theorem call_anyT (hc : X.calm = true) : CallR X (.builtin "any") (fun xs H Q => ∃ (p : Addr) (ns : List Int), xs = [.ref p] ∧ SqT X.K H p (ns.map V.int) ∧ Q (.bl (ns.any fun n => n != 0)) H) := by
  intro pins s σ H xs us Q I r h
  obtain ⟨p, ns, rfl, hT, q⟩ := h
  obtain ⟨u, rfl, rx⟩ := vals1 r
  cases rx
  obtain ⟨its, rt, ht, hz⟩ := I.tuple hT
  obtain ⟨as, hr⟩ := Dp.readsAll I (ns.map PyData.int) (ns.map V.int) its (dpall_ints ns) rt
  refine PySem.W.any_tuple_data (I.ok.hd hc) ht hr (plain_ints ns) (fun x hx => ?_) fun h' tk hk => ?_
  · obtain ⟨n, _, rfl⟩ := List.mem_map.mp hx
    trivial
  · refine ⟨.bl _, H, I.kept hk, ?_, q⟩
    show _ = Value.bool _
    rw [List.any_map]
    rfl
end
/-! ### told by two clauses -/
/-- told: try: return a() / except x: return rx / except y: return ry -/
def TTold2 (K : PySem.W.Frag) (CX CY : Addr) (rx ry : Str) : (XK → Hp → VK → Prop) → Hp → VK → Prop := fun tl H Q =>
  tl (fun cls _ H' => ∃ b, PySem.W.exmOne K cls (.ref CX) = some b ∧ (b = true → Q (.str rx) H') ∧ (b = false → ∃ b2, PySem.W.exmOne K cls (.ref CY) = some b2 ∧ (b2 = true → Q (.str ry) H') ∧ (b2 = false → False))) H Q
open LamX in
theorem told_gives2 {X : Cx} {Ng : List Str} {x a e1 e2 q r1 r2 : Str} {sg : Scope} {g C1 C2 : Addr} {cdg : Value} {j k : Nat} {p1 p2 p3 p4 p5 p6 p7 p8 p9 p10 p11 p12 : Pos} (hge1 : sg.names.lookup e1 = some .globalImplicit) (hme1 : X.mg e1 = some (.ref C1)) (hde1 : (e1 == ("__debug__" : Str)) = false)
    (hge2 : sg.names.lookup e2 = some .globalImplicit) (hme2 : X.mg e2 = some (.ref C2)) (hde2 : (e2 == ("__debug__" : Str)) = false) (h0 : ∀ f : Addr, (L2.start Ng [V.ref f])[0]? = some (some (V.ref f))) :
    GivesTo X Ng x sg g cdg [.Try [.Return (some (.Call (.Name a p1) [] [] p2)) p3] [.ExceptHandler (some (.Name e1 p4)) none [.Return (some (.Constant (.str r1) j p5)) p6] p7, .ExceptHandler (some (.Name e2 p9)) none [.Return (some (.Constant (.str r2) k p10)) p11] p12] [] [] p8] a q (TTold2 X.K C1 C2 r1 r2) := by
  intro f c' s H Q tl act hc h
  have hg1 : Gl (cxOf C8.CX0 X.prog X.w X.K X.mg X.base Ng x sg g cdg X.A X.stack s H C8.E0).nox e1 := hge1
  have hg2 : Gl (cxOf C8.CX0 X.prog X.w X.K X.mg X.base Ng x sg g cdg X.A X.stack s H C8.E0).nox e2 := hge2
  refine ⟨_, pss_one (ps_try_many (X := (cxOf C8.CX0 X.prog X.w X.K X.mg X.base Ng x sg g cdg X.A X.stack s H C8.E0).nox)
      (tb := fun W D σ H => ∃ Ech : XK, (∀ cls d σ' H', Ech cls d H' → W cls d σ' H') ∧ σ[0]? = some (some (.ref f)) ∧ H c' = some (CodeO c' q) ∧ tl Ech H D.rt)
      rfl rfl L2.takes0 (fun W pn xe tk _ => ?_) (HdsOk.cons (c := .ref C1) ⟨hg1, hde1, .inl hme1⟩ (fun a oe cls d pn _ _ => pss_one (ps_ret pe_str)) (HdsOk.cons (c := .ref C2) ⟨hg2, hde2, .inl hme2⟩ (fun a oe cls d pn _ _ => pss_one (ps_ret pe_str)) HdsOk.nil))), ?_⟩
  · refine ⟨fun pins s' σ H' D I h' => ?_⟩
    obtain ⟨Ech, hW, h1, h2, h3⟩ := h'
    have hp := act W pn xe Ech p1 p2 tk hW
    have hq := pss_one (ps_ret (pos := p3) hp)
    exact hq.run pins s' σ H' D I ⟨h1, h2, h3⟩
  · exact ⟨fun cls _ H' => ∃ b, PySem.W.exmOne X.K cls (.ref C1) = some b ∧ (b = true → Q (.str r1) H') ∧ (b = false → ∃ b2, PySem.W.exmOne X.K cls (.ref C2) = some b2 ∧ (b2 = true → Q (.str r2) H') ∧ (b2 = false → False)),
      fun cls d σ' H' ⟨b, e1, e2, e3⟩ => ⟨b, e1, fun hb a _ => e2 hb, fun hb => by obtain ⟨b2, f1, f2, f3⟩ := e3 hb; exact ⟨b2, f1, fun hb2 a _ => f2 hb2, fun hb2 => f3 hb2⟩⟩, h0 f, hc, h⟩
end HK
/-! list(zip(xs, ys)) over two lists -/
namespace HZ
open PySem PySem.Calls PyProof.Rows PyProof.V PySem.Spec PySem.W
section
variable {prog : Program} {w : World} {A : Around} {E : Value → Shared → Prop} {s : Shared}
variable {z TI TO i1 i2 l1 l2 : Addr} {xs ys : Array Value}
/-- the zip after i turns, its tuples kept by the list at S -/
def ZSt (z TI TO i1 i2 l1 l2 : Addr) (xs ys : Array Value) (S : Addr) (i : Nat) (h : Heap) : Prop :=
  IsPair h TI (.ref i1) (.ref i2) ∧ h.IsListIter i1 l1 i ∧ h.IsListIter i2 l2 i ∧ h.IsList l1 xs ∧ h.IsList l2 ys ∧
    ((IsZip h z TI TO .none ∧ ∃ a b, IsPair h TO a b) ∨ ∃ T f oT, IsZipHeld h z TI TO T f ∧ h.get? T = some oT ∧ T ≠ z ∧ T ≠ i1 ∧ T ≠ i2 ∧ T ≠ S)
structure Off7 (z TI TO i1 i2 l1 l2 S : Addr) : Prop where
  z : z ≠ S
  TI : TI ≠ S
  TO : TO ≠ S
  i1 : i1 ≠ S
  i2 : i2 ≠ S
  l1 : l1 ≠ S
  l2 : l2 ≠ S
theorem ZSt.keep {S : Addr} {i : Nat} {h h' : Heap} (x : ZSt z TI TO i1 i2 l1 l2 xs ys S i h) (n : Off7 z TI TO i1 i2 l1 l2 S) (hk : ∀ b o, b ≠ S → h.get? b = some o → h'.get? b = some o) : ZSt z TI TO i1 i2 l1 l2 xs ys S i h' := by
  obtain ⟨hTI, h1, h2, hl1, hl2, hz⟩ := x
  refine ⟨hk _ _ n.TI hTI, h1.at fun o e => hk _ o n.i1 e, h2.at fun o e => hk _ o n.i2 e, hl1.at fun o e => hk _ o n.l1 e, hl2.at fun o e => hk _ o n.l2 e, ?_⟩
  rcases hz with ⟨hz, a, b, hTO⟩ | ⟨T, f, oT, hz, hT, r1, r2, r3, r4⟩
  · exact .inl ⟨hk _ _ n.z hz, a, b, hk _ _ n.TO hTO⟩
  · exact .inr ⟨T, f, oT, hk _ _ n.z hz, hk _ _ r4 hT, r1, r2, r3, r4⟩
abbrev wrZ (z TO i1 i2 : Addr) : List Addr := [z, TO, i1, i2]
theorem z_item (D : ZipApart z TI TO i1 i2 l1 l2) {S : Addr} {i : Nat} {x y : Value} {Q : Option Value → Shared → Prop} (st : ZSt z TI TO i1 i2 l1 l2 xs ys S i s.heap) (hS : S < s.heap.objs.size) (ex : xs[i]? = some x) (ey : ys[i]? = some y)
    (hQ : ∀ h', ZSt z TI TO i1 i2 l1 l2 xs ys S (i + 1) h' → IsPair h' s.heap.objs.size x y → h'.objs.size = s.heap.objs.size + 1 → (∀ b o, b ∉ wrZ z TO i1 i2 → s.heap.get? b = some o → h'.get? b = some o) → Q (some (.ref s.heap.objs.size)) { s with heap := h' }) :
    wpAny (model prog w) A (pyNext (.ref z)) Q E s := by
  obtain ⟨hTI, h1, h2, hl1, hl2, hz⟩ := st
  have lt : ∀ {c o}, s.heap.get? c = some o → s.heap.objs.size ≠ c := fun e => Nat.ne_of_gt (Heap.lt_size e)
  have n1 : s.heap.objs.size ≠ i1 := let ⟨_, e, _⟩ := h1; lt e
  have n2 : s.heap.objs.size ≠ i2 := let ⟨_, e, _⟩ := h2; lt e
  rcases hz with ⟨hz, a, b, hTO⟩ | ⟨T, f, oT, hz, hT, r1, r2, r3, r4⟩
  · refine wpAny_pyNext_zip_item D hz hTI hTO h1 h2 hl1 hl2 ex ey fun h' a1 a2 a3 a4 a5 a6 hk => ?_
    exact hQ h' ⟨hk _ _ D.TIz D.TITO D.TIi1 D.TIi2 hTI, a3, a4, hl1.at fun o e => hk _ o D.l1z D.l1TO D.l1i1 D.l1i2 e, hl2.at fun o e => hk _ o D.l2z D.l2TO D.l2i1 D.l2i2 e,
        .inr ⟨s.heap.objs.size, false, _, a1, a5, lt hz, n1, n2, Nat.ne_of_gt hS⟩⟩ a5 a6
      fun c o hc e => hk c o (fun x => hc (by simp [x])) (fun x => hc (by simp [x])) (fun x => hc (by simp [x])) (fun x => hc (by simp [x])) e
  · refine wpAny_pyNext_zip_item_held D hz hT hTI h1 h2 hl1 hl2 ex ey fun h' a1 a3 a4 a5 a6 hk => ?_
    exact hQ h' ⟨hk _ _ D.TIz D.TIi1 D.TIi2 hTI, a3, a4, hl1.at fun o e => hk _ o D.l1z D.l1i1 D.l1i2 e, hl2.at fun o e => hk _ o D.l2z D.l2i1 D.l2i2 e,
        .inr ⟨T, true, oT, a1, hk _ _ r1 r2 r3 hT, r1, r2, r3, r4⟩⟩ a5 a6
      fun c o hc e => hk c o (fun x => hc (by simp [x])) (fun x => hc (by simp [x])) (fun x => hc (by simp [x])) e
theorem z_done (hA : A.handled = none) (D : ZipApart z TI TO i1 i2 l1 l2) {S : Addr} {i : Nat} {Q : Option Value → Shared → Prop} (st : ZSt z TI TO i1 i2 l1 l2 xs ys S i s.heap) (hend : xs[i]? = none ∨ ys[i]? = none)
    (hQ : ∀ h', (∀ b o, b ∉ wrZ z TO i1 i2 → s.heap.get? b = some o → h'.get? b = some o) → Q none { s with heap := h' }) : wpAny (model prog w) A (pyNext (.ref z)) Q E s := by
  obtain ⟨hTI, h1, h2, hl1, hl2, hz⟩ := st
  rcases hz with ⟨hz, a, b, hTO⟩ | ⟨T, f, oT, hz, hT, r1, r2, r3, r4⟩
  · exact wpAny_pyNext_zip_end hA D hz hTI hTO h1 h2 hl1 hl2 hend fun h' hk => hQ h' fun c o hc e => hk c o (fun x => hc (by simp [x])) (fun x => hc (by simp [x])) (fun x => hc (by simp [x])) (fun x => hc (by simp [x])) e
  · exact wpAny_pyNext_zip_end_held hA D hz hT hTI h1 h2 hl1 hl2 hend fun h' hk => hQ h' fun c o hc e => hk c o (fun x => hc (by simp [x])) (fun x => hc (by simp [x])) (fun x => hc (by simp [x])) e
structure ZG (xs ys : Array Value) (lo : Addr) (h : Heap) (as : List Addr) : Prop where
  rise : as.Pairwise (· < ·)
  above : ∀ a ∈ as, lo < a
  pairs : ∀ (j : Nat) (a : Addr), as[j]? = some a → ∃ x y, xs[j]? = some x ∧ ys[j]? = some y ∧ IsPair h a x y
theorem ZG.there {lo : Addr} {h : Heap} {as : List Addr} (g : ZG xs ys lo h as) {a : Addr} (ha : a ∈ as) : a < h.objs.size := by
  obtain ⟨j, hj⟩ := List.mem_iff_getElem?.mp ha
  obtain ⟨_, _, _, _, e⟩ := g.pairs j a hj
  exact Heap.lt_size e
end
section
variable {prog : Program} {w : World} {A : Around} {s : Shared} {R : Result → Shared → Prop}
variable {z TI TO i1 i2 l1 l2 : Addr} {xs ys : Array Value}
theorem z_loop {S n : Nat} (hh : A.handled = none) (D : ZipApart z TI TO i1 i2 l1 l2) (n7 : Off7 z TI TO i1 i2 l1 l2 S) (hw : ∀ b ∈ wrZ z TO i1 i2, b < S) (hx : xs.size = n) (hy : ys.size = n) (hn : n ≤ sizeLine) (res : Value) {h₁ : Heap}
    (hR : ∀ h' tk acc c as, (∀ b o, b ≠ S → b ∉ wrZ z TO i1 i2 → h₁.get? b = some o → h'.get? b = some o) → h'.get? S = some { cls := .type "list", dict := none, data := .seq acc c, slots := #[] } → as.length = n → ZG xs ys S h' as →
      acc.toList = as.map Value.ref → R (.ok (.ret res)) { s with heap := h', toks := tk }) :
    ∀ (k i : Nat) (h : Heap) (tk c : Nat) (acc : Array Value) (as : List Addr), n - i = k → i ≤ n → ZSt z TI TO i1 i2 l1 l2 xs ys S i h → (∀ b o, b ≠ S → b ∉ wrZ z TO i1 i2 → h₁.get? b = some o → h.get? b = some o) →
      h.get? S = some { cls := .type "list", dict := none, data := .seq acc c, slots := #[] } → acc.toList = as.map Value.ref → as.length = i → ZG xs ys S h as →
      codeAny (model prog w) A (.builtin "list.extend.loop" ⟨[.ref S, .ref z, res], []⟩) R { s with heap := h, toks := tk } := by
  have hSw : S ∉ wrZ z TO i1 i2 := fun hm => Nat.lt_irrefl _ (hw S hm)
  intro k
  induction k with
  | zero =>
    intro i h tk c acc as hk hi hst hkeep hS hacc hal hG
    have hin : i = n := by omega
    refine codeAny_builtin PySem.F.entry_extend_loop ?_
    rw [Around.under_plainId PySem.F.plain_extend_loop _]
    show wpAny _ A.in1 (pyNext (.ref z) >>= _) _ _ _
    refine wpAny_bind (z_done (s := { s with heap := h, toks := tk }) (A := A.in1) hh D hst (.inl (Array.getElem?_eq_none (by omega))) fun h' he => ?_)
    refine wpAny_pure (hR h' tk acc c as (fun b o h1 h2 e => he b o h2 (hkeep b o h1 h2 e)) (he S _ hSw hS) (by omega) ⟨hG.rise, hG.above, fun j a hj => ?_⟩ hacc)
    obtain ⟨x, y, e1, e2, e3⟩ := hG.pairs j a hj
    exact ⟨x, y, e1, e2, he a _ (fun hm => Nat.lt_irrefl _ (Nat.lt_trans (hw a hm) (hG.above a (List.mem_of_getElem? hj)))) e3⟩
  | succ k ih =>
    intro i h tk c acc as hk hi hst hkeep hS hacc hal hG
    have hlt : i < n := by omega
    have ex : xs[i]? = some (xs[i]'(by omega)) := Array.getElem?_eq_getElem (by omega)
    have ey : ys[i]? = some (ys[i]'(by omega)) := Array.getElem?_eq_getElem (by omega)
    generalize xs[i]'(by omega) = x at ex
    generalize ys[i]'(by omega) = y at ey
    have hsz : acc.size = i := by rw [← Array.length_toList, hacc, List.length_map, hal]
    refine codeAny_builtin PySem.F.entry_extend_loop ?_
    rw [Around.under_plainId PySem.F.plain_extend_loop _]
    show wpAny _ A.in1 (pyNext (.ref z) >>= _) _ _ _
    refine wpAny_bind (z_item (s := { s with heap := h, toks := tk }) (S := S) D hst (Heap.lt_size hS) ex ey fun h' hst' ht hz hkp => ?_)
    dsimp only at ht hz hkp ⊢
    have hS' := hkp S _ hSw hS
    have up : ∀ b o, b ≠ S → h'.get? b = some o → (h'.update S (Obj.mapSeq (·.push (Value.ref h.objs.size)))).get? b = some o := fun b o hb e => (Heap.get?_update_other _ _ (Ne.symm hb)).trans e
    have hSl : S < h.objs.size := Heap.lt_size hS
    show wpAny _ A.in1 (updateSeq S (·.push (Value.ref h.objs.size)) >>= _) _ _ _
    refine wpAny_bind ?_
    refine wpAny_updateSeq hS' rfl (wpAny_pure ⟨plainId_quiet PySem.F.plain_extend_loop _, ih (i + 1) _ tk _ (acc.push (Value.ref h.objs.size)) (as ++ [h.objs.size]) (by omega) hlt (hst'.keep n7 up)
      (fun b o h1 h2 e => up b o h1 (hkp b o h2 (hkeep b o h1 h2 e))) (Heap.get?_update_self _ hS' rfl) (by rw [Array.toList_push, hacc, List.map_append]; rfl) (by rw [List.length_append, hal]; rfl) ⟨?_, ?_, ?_⟩⟩) (by rw [hsz]; omega) (by show (acc.push (Value.ref h.objs.size)).size ≤ sizeLine + 1; rw [Array.size_push, hsz]; omega)
    · refine List.pairwise_append.mpr ⟨hG.rise, List.pairwise_singleton _ _, fun a ha b hb => ?_⟩
      rw [List.mem_singleton.mp hb]
      exact hG.there ha
    · intro a ha
      rcases List.mem_append.mp ha with ha | ha
      · exact hG.above a ha
      · rw [List.mem_singleton.mp ha]; exact hSl
    · intro j b hj
      rcases Nat.lt_trichotomy j as.length with h1 | h1 | h1
      · rw [List.getElem?_append_left h1] at hj
        obtain ⟨x', y', e1, e2, e3⟩ := hG.pairs j b hj
        have hb := hG.above b (List.mem_of_getElem? hj)
        exact ⟨x', y', e1, e2, up b _ (Nat.ne_of_gt hb) (hkp b _ (fun hm => Nat.lt_irrefl _ (Nat.lt_trans (hw b hm) hb)) e3)⟩
      · subst h1
        have hb : h.objs.size = b := by simpa using hj
        subst hb
        exact ⟨x, y, by rw [hal]; exact ex, by rw [hal]; exact ey, up _ _ (Nat.ne_of_gt hSl) ht⟩
      · have hnone : (as ++ [h.objs.size])[j]? = none := List.getElem?_eq_none (by rw [List.length_append, List.length_singleton]; omega)
        rw [hnone] at hj; cases hj
end
theorem zip_no_len : typeLookup (.type "zip") "__len__" = pure none := by rw [typeLookup_type, builtinLookup_eq_fast]; kernel_rfl
theorem zip_no_hint : typeLookup (.type "zip") "__length_hint__" = pure none := by rw [typeLookup_type, builtinLookup_eq_fast]; kernel_rfl
section
variable {prog : Program} {w : World} {A : Around} {E : Value → Shared → Prop} {s : Shared}
variable {z TI TO i1 i2 l1 l2 : Addr} {xs ys : Array Value}
theorem z_extend {R : Result → Shared → Prop} {n : Nat} (hh : A.handled = none) (D : ZipApart z TI TO i1 i2 l1 l2) (S : Addr) (n7 : Off7 z TI TO i1 i2 l1 l2 S) (hw : ∀ b ∈ wrZ z TO i1 i2, b < S) (hx : xs.size = n) (hy : ys.size = n) (hn : n ≤ sizeLine) (res : Value) (c₀ : Nat)
    (hz : IsZip s.heap z TI TO .none) (hst : ZSt z TI TO i1 i2 l1 l2 xs ys S 0 s.heap) (hS : s.heap.get? S = some { cls := .type "list", data := .seq #[] c₀ })
    (hR : ∀ h' tk acc c as, (∀ b o, b ≠ S → b ∉ wrZ z TO i1 i2 → s.heap.get? b = some o → h'.get? b = some o) → h'.get? S = some { cls := .type "list", dict := none, data := .seq acc c, slots := #[] } → as.length = n → ZG xs ys S h' as →
      acc.toList = as.map Value.ref → R (.ok (.ret res)) { s with heap := h', toks := tk }) :
    wpAny (model prog w) A.in1 (Builtin.List.listExtendWith (.ref S) (.ref z) res)
      (fun fin s' => match fin with | .done f => R (.ok f) s' | .again c' => c'.quiet = true ∧ codeAny (model prog w) A c' R s') (fun e s' => R (.error e) s') s := by
  have hT : s.TypeIs (.ref z) "zip" := ⟨_, hz, rfl⟩
  unfold Builtin.List.listExtendWith
  refine wpAny_bind (wpAny_typeOf hT ?_)
  have h1 : Builtin.List.listSameRef (.ref S) (.ref z) = false := by simp [Builtin.List.listSameRef, n7.z.symm]
  have h2 : (Value.type "zip" == Value.type "list") = false := by decide
  have h3 : (Value.type "zip" == Value.type "tuple") = false := by decide
  simp only [h1, h2, h3, Bool.or_false, Bool.false_eq_true, if_false]
  refine wpAny_bind (wpAny_pyIter_zip hz ?_)
  refine wpAny_bind (wpAny_holding ?_)
  unfold Builtin.List.listLengthHint
  refine wpAny_bind (wpAny_specialOf hT zip_no_len ?_)
  show wpAny _ A.in1 (specialOf (Value.ref z) (Str.ofString "__length_hint__") >>= _) _ _ _
  refine wpAny_bind (wpAny_specialOf hT zip_no_hint ?_)
  refine wpAny_pure ?_
  show wpAny _ A.in1 (rule "list.extend.makes-room" >>= fun _ => Builtin.List.listTouch (.ref S) >>= fun _ =>
    again (.builtin "list.extend.loop" ⟨[.ref S, .ref z, res], []⟩)) _ _ _
  refine wpAny_bind (wpAny_rule ?_)
  refine wpAny_bind ?_
  show wpAny _ A.in1 (updateSeq S (·.push .none) >>= fun _ => updateSeq S (·.pop)) _ _ _
  refine wpAny_bind (wpAny_updateSeq hS rfl ?_)
  have hS₂ := Heap.get?_update_self (Obj.mapSeq (·.push Value.none)) hS rfl
  refine wpAny_updateSeq (hz := by seq_fits) hS₂ rfl ?_
  have hS₃ := Heap.get?_update_self (Obj.mapSeq (·.pop)) hS₂ rfl
  have oth : ∀ b o, b ≠ S → s.heap.get? b = some o → ((s.heap.update S (Obj.mapSeq (·.push Value.none))).update S (Obj.mapSeq (·.pop))).get? b = some o :=
    fun b o hb e => (Heap.get?_update_other _ _ (Ne.symm hb)).trans ((Heap.get?_update_other _ _ (Ne.symm hb)).trans e)
  refine wpAny_pure ⟨plainId_quiet PySem.F.plain_extend_loop _, ?_⟩
  exact z_loop (s := s) (h₁ := s.heap) hh D n7 hw hx hy hn res hR n 0 _ s.toks _ #[] [] (Nat.sub_zero _) (Nat.zero_le _) (hst.keep n7 oth) (fun b o hb _ e => oth b o hb e) hS₃ rfl rfl ⟨List.Pairwise.nil, (fun _ ha => nomatch ha), (fun j a hj => by simp at hj)⟩
theorem z_init {R : Result → Shared → Prop} {n : Nat} (hh : A.handled = none) (D : ZipApart z TI TO i1 i2 l1 l2) (S : Addr) (n7 : Off7 z TI TO i1 i2 l1 l2 S) (hw : ∀ b ∈ wrZ z TO i1 i2, b < S) (hx : xs.size = n) (hy : ys.size = n) (hn : n ≤ sizeLine)
    (hz : IsZip s.heap z TI TO .none) (hst : ZSt z TI TO i1 i2 l1 l2 xs ys S 0 s.heap) (hS : s.heap.get? S = some { cls := .type "list", data := .seq #[] })
    (hR : ∀ h' tk acc c as, (∀ b o, b ≠ S → b ∉ wrZ z TO i1 i2 → s.heap.get? b = some o → h'.get? b = some o) → h'.get? S = some { cls := .type "list", dict := none, data := .seq acc c, slots := #[] } → as.length = n → ZG xs ys S h' as →
      acc.toList = as.map Value.ref → R (.ok (.ret .none)) { s with heap := h', toks := tk }) :
    wpAny (model prog w) A.in1 (Builtin.«list.__init__» ⟨[.ref S, .ref z], []⟩)
      (fun fin s' => match fin with | .done f => R (.ok f) s' | .again c' => c'.quiet = true ∧ codeAny (model prog w) A c' R s') (fun e s' => R (.error e) s') s := by
  show wpAny _ _ (do let old ← Builtin.List.listItems (.ref S); Builtin.List.listUpdate (.ref S) (fun _ => #[]); letGo old.toList.reverse; Builtin.List.listExtendWith (.ref S) (.ref z) .none) _ _ s
  refine wpAny_bind ?_
  unfold Builtin.List.listItems
  refine wpAny_bind (wpAny_seqItems hS rfl (wpAny_pure ?_))
  show wpAny _ _ (updateSeq S (fun _ => #[]) >>= fun _ => letGo (#[] : Array Value).toList.reverse >>= fun _ => Builtin.List.listExtendWith (.ref S) (.ref z) .none) _ _ s
  refine wpAny_bind (wpAny_updateSeq hS rfl ?_)
  have hS₂ := Heap.get?_update_self (Obj.mapSeq (fun _ => (#[] : Array Value))) hS rfl
  have oth : ∀ b o, b ≠ S → s.heap.get? b = some o → (s.heap.update S (Obj.mapSeq (fun _ => (#[] : Array Value)))).get? b = some o :=
    fun b o hb e => (Heap.get?_update_other _ _ (Ne.symm hb)).trans e
  refine wpAny_bind (wpAny_letGo ?_)
  refine z_extend hh D S n7 hw hx hy hn .none _ (oth _ _ n7.z hz) (hst.keep n7 oth) hS₂ fun h' tk acc c as hk hS' hl hG hacc => ?_
  exact hR h' tk acc c as (fun b o hb h2 e => hk b o hb h2 (oth b o hb e)) hS' hl hG hacc
theorem z_call {n : Nat} {Q : Value → Shared → Prop} (hh : A.handled = none) (D : ZipApart z TI TO i1 i2 l1 l2) (lt : z < s.heap.objs.size ∧ TI < s.heap.objs.size ∧ TO < s.heap.objs.size ∧ i1 < s.heap.objs.size ∧ i2 < s.heap.objs.size ∧ l1 < s.heap.objs.size ∧ l2 < s.heap.objs.size) (hx : xs.size = n) (hy : ys.size = n) (hn : n ≤ sizeLine)
    (hz : IsZip s.heap z TI TO .none) (hst : ∀ S, ZSt z TI TO i1 i2 l1 l2 xs ys S 0 s.heap)
    (hQ : ∀ h' tk acc c as, (∀ b o, b ∉ wrZ z TO i1 i2 → s.heap.get? b = some o → h'.get? b = some o) → h'.get? s.heap.objs.size = some { cls := .type "list", dict := none, data := .seq acc c, slots := #[] } → as.length = n → ZG xs ys s.heap.objs.size h' as →
      acc.toList = as.map Value.ref → Q (.ref s.heap.objs.size) { s with heap := h', toks := tk }) :
    wpAny (model prog w) A (call (.type "list") [.ref z]) Q E s := by
  refine callType_codes (Q₁ := fun obj s₁ => obj = .ref s.heap.objs.size ∧ s₁ = { s with heap := s.heap.push { cls := .type "list", data := .seq #[] } }) PySem.F.called_list (PySem.F.typeCall_list_1 _) PySem.F.entry_list_init
    (code_list_new _ ⟨rfl, rfl⟩) fun obj s₁ h₁ => ?_
  obtain ⟨rfl, rfl⟩ := h₁
  have hS : (s.heap.push { cls := .type "list", data := .seq #[] }).get? s.heap.objs.size = some { cls := .type "list", data := .seq #[] } := Heap.get?_push_size _ rfl
  have ne : ∀ {a : Addr}, a < s.heap.objs.size → a ≠ s.heap.objs.size := fun h => Nat.ne_of_lt h
  have n7 : Off7 z TI TO i1 i2 l1 l2 s.heap.objs.size := ⟨ne lt.1, ne lt.2.1, ne lt.2.2.1, ne lt.2.2.2.1, ne lt.2.2.2.2.1, ne lt.2.2.2.2.2.1, ne lt.2.2.2.2.2.2⟩
  have hw : ∀ b ∈ wrZ z TO i1 i2, b < s.heap.objs.size := fun b hb => by
    simp only [wrZ, List.mem_cons, List.not_mem_nil, or_false] at hb
    rcases hb with e | e | e | e <;> rw [e]
    · exact lt.1
    · exact lt.2.2.1
    · exact lt.2.2.2.1
    · exact lt.2.2.2.2.1
  refine ⟨⟨_, hS, rfl⟩, PySem.F.args_list_init_2 _ _, z_init (A := A.in1) hh D _ n7 hw hx hy hn (Heap.get?_push_of_some _ hz) ((hst _).keep n7 fun b o _ e => Heap.get?_push_of_some _ e) hS (fun h' tk acc c as hk hS' hl hG hacc => ?_)⟩
  exact ⟨rfl, hQ h' tk acc c as (fun b o hb e => hk b o (Nat.ne_of_lt (Heap.lt_size e)) hb (Heap.get?_push_of_some _ e)) hS' hl hG hacc⟩
end
end HZ
namespace HZ
open PySem PySem.Spec PyProof.Rows L2
def put2 : Hp → List Addr → List (V × V) → Hp
  | H, a :: as, p :: l => put2 (upd H a (.tup [p.1, p.2])) as l
  | H, _, _ => H
theorem put2_off {b : Addr} : ∀ (as : List Addr) (l : List (V × V)) (H : Hp), b ∉ as → put2 H as l b = H b
  | [], _, _, _ => rfl
  | _ :: _, [], _, _ => rfl
  | a :: as, p :: l, H, h => by
    show put2 (upd H a (.tup [p.1, p.2])) as l b = H b
    rw [put2_off as l _ (fun z => h (List.mem_cons_of_mem _ z)), upd_ne (fun z => h (by rw [z]; exact List.mem_cons_self))]
theorem put2_at : ∀ (as : List Addr) (l : List (V × V)) (H : Hp), as.length = l.length → as.Nodup → Paired (fun (t : Addr) (p : V × V) => put2 H as l t = some (.tup [p.1, p.2])) as l
  | [], [], _, _, _ => .nil
  | [], _ :: _, _, h, _ => by cases h
  | _ :: _, [], _, h, _ => by cases h
  | a :: as, p :: l, H, h, hn => by
    have hn' := List.nodup_cons.mp hn
    have ih := put2_at as l (upd H a (.tup [p.1, p.2])) (Nat.succ.inj h) hn'.2
    refine .cons ?_ ih
    show put2 (upd H a (.tup [p.1, p.2])) as l a = some (.tup [p.1, p.2])
    rw [put2_off as l _ hn'.1, upd_same]
theorem vals_at : ∀ {xs : List V} {us : List Value}, Vals xs us → ∀ {i : Nat} {x : V} {u : Value}, xs[i]? = some x → us[i]? = some u → RelV x u
  | _, _, .cons h t, 0, x, u, e1, e2 => by
    obtain rfl := Option.some.inj e1
    obtain rfl := Option.some.inj e2
    exact h
  | _, _, .cons h t, i + 1, x, u, e1, e2 => vals_at t e1 e2
  | _, _, .nil, i, x, u, e1, e2 => by cases e1
def tListZip (K : PySem.W.Frag) (ta : TA) : TE := fun σ H Q => ta σ H fun vs H1 => ∃ a b xs ys, vs = [.ref a, .ref b] ∧ SqL K H1 a xs ∧ SqL K H1 b ys ∧ xs.length = ys.length ∧
  ∀ (H' : Hp) (p : Addr) (ts : List Addr), Same H1 H' → H1 p = none → (∀ t ∈ ts, H1 t = none) → p ∉ ts → H' p = some (.lst (ts.map V.ref)) → Paired (fun (t : Addr) (q : V × V) => H' t = some (.tup [q.1, q.2])) ts (xs.zip ys) → Q (.ref p) H'
section
variable {X : Cx} {pins : List (Addr × Obj)} {σ : L2.St} {H : Hp} {s : Shared}
theorem z_laid {h' : Heap} {tk S : Nat} {xs ys : List V} {its its2 : List Value} {acc : Array Value} {c : Nat} {as : List Addr} (I : Inv X pins σ H s) (hz : xs.length ≤ sizeLine) (exy : xs.length = ys.length) (rx : Vals xs its) (ry : Vals ys its2) (hS0 : s.heap.objs.size ≤ S)
    (hk : ∀ b o, s.heap.get? b = some o → h'.get? b = some o) (hS : h'.get? S = some { cls := .type "list", dict := none, data := .seq acc c, slots := #[] }) (hl : as.length = xs.length) (hG : ZG its.toArray its2.toArray S h' as) (hacc : acc.toList = as.map Value.ref) :
    ∃ H' : Hp, Same H H' ∧ H S = none ∧ (∀ t ∈ as, H t = none) ∧ S ∉ as ∧ H' S = some (.lst (as.map V.ref)) ∧ Paired (fun (t : Addr) (q : V × V) => H' t = some (.tup [q.1, q.2])) as (xs.zip ys) ∧ Inv X pins σ H' { s with heap := h', toks := tk } := by
  have hSn : S ∉ as := fun z => Nat.lt_irrefl _ (hG.above _ z)
  have nd : as.Nodup := List.Pairwise.imp (fun {a b} (h : a < b) => Nat.ne_of_lt h) hG.rise
  have low0 : ∀ t ∈ as, s.heap.objs.size ≤ t := fun t ht => Nat.le_of_lt (Nat.lt_of_le_of_lt hS0 (hG.above t ht))
  have new : ∀ t ∈ as, H t = none := fun t ht => I.hok.fresh (low0 t ht)
  have newS : H S = none := I.hok.fresh hS0
  have lz : as.length = (xs.zip ys).length := by rw [List.length_zip]; omega
  have atP := put2_at as (xs.zip ys) (upd H S (.lst (as.map V.ref))) lz nd
  have off : ∀ b, b ∉ as → b ≠ S → put2 (upd H S (.lst (as.map V.ref))) as (xs.zip ys) b = H b := fun b h1 h2 => by rw [put2_off as _ _ h1, upd_ne h2]
  have low : ∀ b o, s.heap.get? b = some o → b ∉ as ∧ b ≠ S := fun b o e => ⟨fun z => absurd (Heap.lt_size e) (Nat.not_lt.mpr (low0 b z)), fun z => absurd (Heap.lt_size e) (Nat.not_lt.mpr (by rw [z]; exact hS0))⟩
  have kp : Same H (put2 (upd H S (.lst (as.map V.ref))) as (xs.zip ys)) := fun b u e => by
    rw [off b (fun z => by rw [new b z] at e; cases e) (fun z => by rw [z, newS] at e; cases e)]
    exact e
  have eS : put2 (upd H S (.lst (as.map V.ref))) as (xs.zip ys) S = some (.lst (as.map V.ref)) := by rw [put2_off as _ _ hSn, upd_same]
  refine ⟨put2 (upd H S (.lst (as.map V.ref))) as (xs.zip ys), kp, newS, new, hSn, eS, atP, ?_⟩
  refine I.call' (ch := []) rfl ⟨fun b o q _ _ _ => hk b o q, fun b o q _ _ _ => ⟨o.slots, hk b o q⟩, fun b o q n _ => ?_, fun b o q _ => ⟨o, hk b o q⟩, fun b xs q => kp b _ q, fun b o u q => kp b _ q, fun b ps q => ⟨#[], by rw [kp b _ q]; simp⟩⟩ (fun b u q => ?_) I.bare fun b z => by simp at z
  · obtain ⟨z1, z2⟩ := low b o q
    rw [off b z1 z2]
    exact n
  · by_cases hb : b ∈ as
    · obtain ⟨j, pk, e1, e2, e3⟩ := LiI.paired_ix atP hb
      rw [e3] at q
      cases q
      obtain ⟨x, y, f1, f2, f3⟩ := hG.pairs j b e1
      have g := List.getElem?_zip_eq_some.mp (show (xs.zip ys)[j]? = some (pk.1, pk.2) from e2)
      have rk : RelV pk.1 x := vals_at rx g.1 (by simpa using f1)
      have rk2 : RelV pk.2 y := vals_at ry g.2 (by simpa using f2)
      exact ⟨by show 2 ≤ sizeLine; decide, [x, y], .cons rk (.cons rk2 .nil), ⟨_, f3, rfl, _, rfl⟩⟩
    · by_cases hb2 : b = S
      · rw [hb2] at q ⊢
        rw [eS] at q
        cases q
        refine ⟨by rw [List.length_map]; omega, acc.toList, c, by rw [hacc]; exact LiI.vals_refs as, ?_⟩
        rw [Array.toArray_toList]
        exact hS
      · rw [off b hb hb2] at q
        exact (I.hok b u q).stay (fun d v _ y => hk d v y) (fun d y => kp d _ y) fun d xs y => kp d _ y
end
section
variable {X : Cx} {e e2 : Expr} {ta : TA} {p p2 cpos pos : Pos}
/-- list(zip(e, e2)), two lists of one length -/
theorem pe_listZip (hc : X.calm = true) (ha : PA X [e, e2] ta) (hg : Gl X "list") (hm : X.mg "list" = none) (hv : bootBuiltins "list" = some (.type "list")) (hgz : Gl X "zip") (hmz : X.mg "zip" = none)
    (hs2 : starEach [e, e2] X.env = (false, eval e X.env) :: starEach [e2] X.env := by rfl) (hpl : (backTo cpos (starEach [e2] X.env)).any (·.1) = false := by rfl)
    (hs : starEach [.Call (.Name "zip" p2) [e, e2] [] cpos] X.env = (false, eval (.Call (.Name "zip" p2) [e, e2] [] cpos) X.env) :: starEach [] X.env := by rfl) :
    PE X (.Call (.Name "list" p) [.Call (.Name "zip" p2) [e, e2] [] cpos] [] pos) (tListZip X.K ta) := by
  refine ⟨fun pins s σ H Q I hq => ?_⟩
  refine wpAny_Call_Name_kw (ld_blt I hg hm hv ?_)
  refine PyProof.Rows.callWith_type1 ?_ hs rfl
  rw [hs]
  show wpAny _ _ (spliced ((false, eval (.Call (.Name "zip" p2) [e, e2] [] cpos) X.env) :: backTo pos (starEach [] X.env))) _ _ s
  refine Calls.spliced_cons ?_
  refine wpAny_Call_Name_kw (ld_blt I hgz hmz PyProof.Rows.boot_zip (PyProof.Rows.callWith_type1 (thn (ha.run cpos pins s σ H _ I hq) fun us s1 ⟨vs, H1, I1, r1, q1⟩ => ?_) hs2 hpl))
  obtain ⟨a, b, xs, ys, ex, hqx, hqy, exy, q⟩ := q1
  subst ex
  cases r1 with
  | cons r rr =>
    cases rr with
    | cons r' rr =>
      cases rr
      cases r
      cases r'
      obtain ⟨its, rv, p1, z1⟩ := I1.list hqx
      obtain ⟨its2, rv2, p2, z2⟩ := I1.list hqy
      have la : a < s1.heap.objs.size := p1.lt
      have lb : b < s1.heap.objs.size := p2.lt
      refine call_zip_2 p1.isList p2.isList fun h' hz hTI hTO h1 h2 hsz hk => ?_
      refine Calls.spliced_nil ?_
      have l1 := rv.length
      have l2 := rv2.length
      have D := PySem.W.ktu_apart s1.heap.objs.size a b la lb
      refine z_call (s := { s1 with heap := h' }) (n := its.toArray.size) (I1.ok.hd hc) D (by show _ < h'.objs.size ∧ _ < h'.objs.size ∧ _ < h'.objs.size ∧ _ < h'.objs.size ∧ _ < h'.objs.size ∧ _ < h'.objs.size ∧ _ < h'.objs.size; rw [hsz]; refine ⟨?_, ?_, ?_, ?_, ?_, ?_, ?_⟩ <;> (first | exact Nat.add_lt_add_left (by decide) _ | exact Nat.lt_add_of_pos_right (by decide) | exact Nat.lt_of_lt_of_le la (Nat.le_add_right _ _) | exact Nat.lt_of_lt_of_le lb (Nat.le_add_right _ _)))
        rfl (by rw [List.size_toArray, List.size_toArray]; omega) (by rw [List.size_toArray]; omega) hz (fun S => ⟨hTI, h1, h2, p1.isList.at fun o e => hk _ o e, p2.isList.at fun o e => hk _ o e, .inl ⟨hz, _, _, hTO⟩⟩) fun h'' tk acc c as hk2 hS hl hG hacc => ?_
      have hk3 : ∀ b o, s1.heap.get? b = some o → h''.get? b = some o := fun b o e => by
        refine hk2 b o (fun hm => ?_) (hk b o e)
        have hb := Heap.lt_size e
        simp only [wrZ, List.mem_cons, List.not_mem_nil, or_false] at hm
        rcases hm with z | z | z | z <;> rw [z] at hb
        · exact Nat.lt_irrefl _ (Nat.lt_of_le_of_lt (Nat.le_add_right _ _) hb)
        · exact Nat.lt_irrefl _ (Nat.lt_of_le_of_lt (Nat.le_add_right _ _) hb)
        · exact Nat.lt_irrefl _ hb
        · exact Nat.lt_irrefl _ (Nat.lt_of_le_of_lt (Nat.le_add_right _ _) hb)
      obtain ⟨H', k1, k2, k3, k4, k5, k6, J⟩ := z_laid (tk := tk) I1 z1 exy rv rv2 (by show s1.heap.objs.size ≤ h'.objs.size; rw [hsz]; exact Nat.le_add_right _ _) hk3 hS (by rw [hl, List.size_toArray]; omega) hG hacc
      exact ⟨.ref _, H', J, rfl, q H' _ as k1 k2 k3 k4 k5 k6⟩
end
end HZ
/-! list(zip(xs, ys)), a tuple and a list -/
namespace HZT
open PySem PySem.Calls PyProof.Rows PyProof.V PySem.Spec PySem.W HZ
section
variable {prog : Program} {w : World} {A : Around} {E : Value → Shared → Prop} {s : Shared}
/-- while an earlier pair is out the zip makes each pair anew -/
theorem held_item {z TI TO T i1 i2 l1 l2 : Addr} {f : Bool} {oT : Obj} {k1 k2 : Nat} {xs ys : Array Value} {x y : Value} {Q : Option Value → Shared → Prop} (D : ZipApart z TI TO i1 i2 l1 l2)
    (hz : IsZipHeld s.heap z TI TO T f) (hT : s.heap.get? T = some oT) (hTI : IsPair s.heap TI (.ref i1) (.ref i2))
    (h1 : s.heap.IsTupleIter i1 l1 k1) (h2 : s.heap.IsListIter i2 l2 k2) (hl1 : s.heap.IsTuple l1 xs) (hl2 : s.heap.IsList l2 ys) (hx : xs[k1]? = some x) (hy : ys[k2]? = some y)
    (hQ : ∀ h', IsZipHeld h' z TI TO T true → h'.IsTupleIter i1 l1 (k1 + 1) → h'.IsListIter i2 l2 (k2 + 1) → IsPair h' s.heap.objs.size x y → h'.objs.size = s.heap.objs.size + 1 →
      (∀ c o, c ≠ z → c ≠ i1 → c ≠ i2 → s.heap.get? c = some o → h'.get? c = some o) → Q (some (.ref s.heap.objs.size)) { s with heap := h' }) :
    wpAny (model prog w) A (pyNext (.ref z)) Q E s := by
  have hTy : s.TypeIs (.ref z) "zip" := ⟨_, hz, rfl⟩
  unfold pyNext
  refine wpAny_bind (wpAny_attempt (wpAny_callSpecial?_slot (name := Str.ofString "__next__") hTy F.slot_zip_next (wpAny_call_entry F.slot_zip_next hTy F.entry_zip_next ?_ (F.args_zip_next_1 _))))
  show wpAny _ _ (field (.ref z) 2 >>= _) _ _ _
  refine wpAny_bind (wpAny_field hz rfl (x := .bool false) rfl ?_)
  show wpAny _ _ (field (.ref z) 3 >>= _) _ _ _
  refine wpAny_bind (wpAny_field hz rfl (x := .ref TI) rfl (wpAny_bind (wpAny_seqItems hTI rfl ?_)))
  show wpAny _ _ (Builtin.SmallTypes.ownedTupleIsFree (.ref z) >>= _) _ _ _
  refine wpAny_bind (wpAny_tupleHeld_zip hz hT fun a za sa => ?_)
  simp only [Bool.false_eq_true, if_false]
  refine wpAny_bind ?_
  rw [← Array.forIn_toList]
  simp only [List.forIn_cons, List.forIn_nil]
  refine wpAny_bind (wpAny_bind (wpAny_holding ?_))
  show wpAny _ _ (Builtin.SmallTypes.nextOf (.ref i1) >>= _) _ _ _
  refine wpAny_bind (RZ.nextOf_tuple_item (s := { s with heap := a }) (h1.at fun o e => sa.extBut _ o D.i1z e) (hl1.at fun o e => sa.extBut _ o D.l1z e) hx fun b ib sb => wpAny_pure (wpAny_pure ?_))
  refine wpAny_bind (wpAny_bind (wpAny_holding ?_))
  show wpAny _ _ (Builtin.SmallTypes.nextOf (.ref i2) >>= _) _ _ _
  refine wpAny_bind (wpAny_nextOf_list_item (s := { s with heap := b }) (h2.at fun o e => sb.extBut _ o D.i12.symm (sa.extBut _ o D.i2z e)) (hl2.at fun o e => sb.extBut _ o D.l2i1 (sa.extBut _ o D.l2z e)) hy fun c ic sc => wpAny_pure (wpAny_pure (wpAny_pure ?_)))
  show wpAny _ _ (newTuple [x, y] >>= _) _ _ _
  refine wpAny_bind (wpAny_newTuple (wpAny_pure ⟨_, rfl, wpAny_pure ?_⟩))
  have ec : c.objs.size = s.heap.objs.size := by rw [sc.1, sb.1, sa.1]
  have keep : ∀ q o, q ≠ z → q ≠ i1 → q ≠ i2 → s.heap.get? q = some o → c.get? q = some o := fun q o c1 c2 c3 e => sc.extBut _ _ c3 (sb.extBut _ _ c2 (sa.extBut _ _ c1 e))
  have zc : IsZipHeld c z TI TO T true := sc.extBut _ _ D.i2z.symm (sb.extBut _ _ D.i1z.symm za)
  have pc : IsPair (c.push { cls := .type "tuple", data := .seq #[x, y] }) c.objs.size x y := Heap.get?_push_size _ rfl
  have nc : (c.push { cls := .type "tuple", data := .seq #[x, y] }).objs.size = c.objs.size + 1 := Heap.size_push ..
  show Q (some (.ref c.objs.size)) _
  rw [ec] at pc nc ⊢
  exact hQ _ (Heap.get?_push_of_some _ zc) ((ib.at fun o e => sc.extBut _ o D.i12 e).at fun o e => Heap.get?_push_of_some _ e) (ic.at fun o e => Heap.get?_push_of_some _ e) pc nc fun q o c1 c2 c3 e => Heap.get?_push_of_some _ (keep q o c1 c2 c3 e)
theorem held_end {z TI TO T i1 i2 l1 l2 : Addr} {f : Bool} {oT : Obj} {k1 : Nat} {xs : Array Value} {Q : Option Value → Shared → Prop} (hh : A.handled = none) (D : ZipApart z TI TO i1 i2 l1 l2)
    (hz : IsZipHeld s.heap z TI TO T f) (hT : s.heap.get? T = some oT) (hTI : IsPair s.heap TI (.ref i1) (.ref i2))
    (h1 : s.heap.IsTupleIter i1 l1 k1) (hl1 : s.heap.IsTuple l1 xs) (hend : xs[k1]? = none)
    (hQ : ∀ h', (∀ c o, c ≠ z → c ≠ i1 → c ≠ i2 → s.heap.get? c = some o → h'.get? c = some o) → Q none { s with heap := h' }) : wpAny (model prog w) A (pyNext (.ref z)) Q E s := by
  have hTy : s.TypeIs (.ref z) "zip" := ⟨_, hz, rfl⟩
  unfold pyNext
  refine wpAny_bind (wpAny_attempt (wpAny_callSpecial?_slot (name := Str.ofString "__next__") hTy F.slot_zip_next (wpAny_call_entry F.slot_zip_next hTy F.entry_zip_next ?_ (F.args_zip_next_1 _))))
  show wpAny _ _ (field (.ref z) 2 >>= _) _ _ _
  refine wpAny_bind (wpAny_field hz rfl (x := .bool false) rfl ?_)
  show wpAny _ _ (field (.ref z) 3 >>= _) _ _ _
  refine wpAny_bind (wpAny_field hz rfl (x := .ref TI) rfl (wpAny_bind (wpAny_seqItems hTI rfl ?_)))
  show wpAny _ _ (Builtin.SmallTypes.ownedTupleIsFree (.ref z) >>= _) _ _ _
  refine wpAny_bind (wpAny_tupleHeld_zip hz hT fun a za sa => ?_)
  simp only [Bool.false_eq_true, if_false]
  refine wpAny_bind ?_
  rw [← Array.forIn_toList]
  simp only [List.forIn_cons, List.forIn_nil]
  refine wpAny_bind (wpAny_bind (wpAny_holding ?_))
  show wpAny _ _ (Builtin.SmallTypes.nextOf (.ref i1) >>= _) _ _ _
  refine wpAny_bind (RZ.nextOf_tuple_end (s := { s with heap := a }) hh (h1.at fun o e => sa.extBut _ o D.i1z e) (hl1.at fun o e => sa.extBut _ o D.l1z e) hend fun b e sb he => ?_)
  obtain ⟨o, ho, hc⟩ := he
  refine wpAny_bind (wpAny_isInstance (T := "StopIteration") (b := true) ⟨o, ho, hc⟩ isSubtype_stop ?_)
  exact wpAny_pure (hQ _ fun c o c1 c2 _ x => sb _ _ c2 (sa.extBut _ _ c1 x))
theorem sep2 {z TI TO i1 i2 l1 l2 : Addr} (D : ZipApart z TI TO i1 i2 l1 l2) : ZipSep2 z TI TO i1 i2 [i1, l1] [i2, l2] where
  TIz := D.TIz
  TOz := D.TOz
  TITO := D.TITO
  TIi1 := D.TIi1
  mem1 := by simp
  zf1 := by simp [D.i1z.symm, D.l1z.symm]
  Tf1 := by simp [D.TOi1, D.l1TO.symm]
  TIi2 := D.TIi2
  mem2 := by simp
  zf2 := by simp [D.i2z.symm, D.l2z.symm]
  Tf2 := by simp [D.TOi2, D.l2TO.symm]
  sep1_2 := by simp [D.i12, D.l2i1.symm]
  sep2_1 := by simp [D.i12.symm, D.l1i2.symm]
/-! ### made -/
abbrev m1 (h : Heap) (l1 : Addr) : Heap := h.push { cls := .type "tuple_iterator", data := .fields #[.ref l1, .int 0 0] }
abbrev m2 (h : Heap) (l1 l2 : Addr) : Heap := (m1 h l1).push { cls := .type "list_iterator", data := .fields #[.ref l2, .int 0 0] }
abbrev m3 (h : Heap) (l1 l2 : Addr) : Heap := (m2 h l1 l2).push { cls := .type "tuple", data := .seq #[.ref h.objs.size, .ref (m1 h l1).objs.size] }
abbrev m4 (h : Heap) (l1 l2 : Addr) : Heap := (m3 h l1 l2).push { cls := .type "tuple", data := .seq #[.none, .none] }
abbrev m5 (h : Heap) (l1 l2 : Addr) : Heap := (m4 h l1 l2).push { cls := .type "zip", data := .fields #[.none, .bool false, .bool false, .ref (m2 h l1 l2).objs.size, .ref (m3 h l1 l2).objs.size] }
theorem meets_new (l1 l2 : Addr) (xs ys : Array Value) :
    Meets (Builtin.«zip.__new__» ⟨[.type "zip", .ref l1, .ref l2], []⟩) (fun _ R s => s.heap.IsTuple l1 xs ∧ s.heap.IsList l2 ys ∧
      R (.ok (.ret (.ref (m4 s.heap l1 l2).objs.size))) { s with heap := m5 s.heap l1 l2 }) :=
  .of_wp fun prog w A R s h => by
    obtain ⟨hp, g, d, tk, os⟩ := s; obtain ⟨hl1, hl2, h⟩ := h
    have hsub := sub_zip
    have hL1 : Heap.IsTuple (Shared.heap ⟨hp, g, d, tk, os⟩) l1 xs := hl1
    have hL2 : Heap.IsList (Shared.heap ⟨hp.push { cls := .type "tuple_iterator", data := .fields #[.ref l1, .int 0 0] }, g, d, tk, os⟩) l2 ys := Heap.IsList.push hl2 _
    wp_walk using wpAny_pyIter_tuple hL1, wpAny_pyIter_list hL2
    exact ⟨_, rfl, h⟩
theorem call_TL {l1 l2 : Addr} {xs ys : Array Value} {Q : Value → Shared → Prop} (hl1 : s.heap.IsTuple l1 xs) (hl2 : s.heap.IsList l2 ys)
    (h : ∀ h', IsZip h' (s.heap.objs.size + 4) (s.heap.objs.size + 2) (s.heap.objs.size + 3) .none → IsPair h' (s.heap.objs.size + 2) (.ref s.heap.objs.size) (.ref (s.heap.objs.size + 1)) →
      IsPair h' (s.heap.objs.size + 3) .none .none → h'.IsTupleIter s.heap.objs.size l1 0 → h'.IsListIter (s.heap.objs.size + 1) l2 0 → h'.objs.size = s.heap.objs.size + 5 →
      (∀ c o, s.heap.get? c = some o → h'.get? c = some o) → Q (.ref (s.heap.objs.size + 4)) { s with heap := h' }) :
    wpAny (model prog w) A (call (.type "zip") [.ref l1, .ref l2]) Q E s := by
  refine callType_new F.called_zip (by decide) (F.typeCall_zip_2 _ _) (F.newCall_zip_2 _ _) (fun obj => F.args_object_init_3 obj _ _) F.entry_zip_new (meets_new l1 l2 xs ys) ⟨hl1, hl2, ?_⟩
  have z1 : (m1 s.heap l1).objs.size = s.heap.objs.size + 1 := Heap.size_push ..
  have z2 : (m2 s.heap l1 l2).objs.size = s.heap.objs.size + 2 := by rw [Heap.size_push, z1]
  have z3 : (m3 s.heap l1 l2).objs.size = s.heap.objs.size + 3 := by rw [Heap.size_push, z2]
  have z4 : (m4 s.heap l1 l2).objs.size = s.heap.objs.size + 4 := by rw [Heap.size_push, z3]
  have z5 : (m5 s.heap l1 l2).objs.size = s.heap.objs.size + 5 := by rw [Heap.size_push, z4]
  have up : ∀ (h : Heap) (o o' : Obj) (c : Addr), h.get? c = some o → (h.push o').get? c = some o := fun h o o' c e => Heap.get?_push_of_some _ e
  have g5 : (m5 s.heap l1 l2).get? (m4 s.heap l1 l2).objs.size = some _ := Heap.get?_push_size _ rfl
  have g4 : (m5 s.heap l1 l2).get? (m3 s.heap l1 l2).objs.size = some _ := up _ _ _ _ (Heap.get?_push_size _ rfl)
  have g3 : (m5 s.heap l1 l2).get? (m2 s.heap l1 l2).objs.size = some _ := up _ _ _ _ (up _ _ _ _ (Heap.get?_push_size _ rfl))
  have g2 : (m5 s.heap l1 l2).get? (m1 s.heap l1).objs.size = some _ := up _ _ _ _ (up _ _ _ _ (up _ _ _ _ (Heap.get?_push_size _ rfl)))
  have g1 : (m5 s.heap l1 l2).get? s.heap.objs.size = some _ := up _ _ _ _ (up _ _ _ _ (up _ _ _ _ (up _ _ _ _ (Heap.get?_push_size _ rfl))))
  show _ ∧ _
  rw [z2, z3, z4] at g5
  rw [z1, z2] at g3
  rw [z3] at g4
  rw [z1] at g2
  rw [z4]
  exact ⟨⟨_, g5, rfl⟩, h _ g5 g3 g4 ⟨_, g1, rfl, rfl⟩ ⟨_, g2, rfl, rfl⟩ z5 fun c o x => up _ _ _ _ (up _ _ _ _ (up _ _ _ _ (up _ _ _ _ (up _ _ _ _ x))))⟩
end
section
variable {prog : Program} {w : World} {A : Around} {E : Value → Shared → Prop} {s : Shared}
variable {z TI TO i1 i2 l1 l2 : Addr} {xs ys : Array Value}
/-- the zip after i turns, its tuples kept by the list at S -/
def ZSt (z TI TO i1 i2 l1 l2 : Addr) (xs ys : Array Value) (S : Addr) (i : Nat) (h : Heap) : Prop :=
  IsPair h TI (.ref i1) (.ref i2) ∧ h.IsTupleIter i1 l1 i ∧ h.IsListIter i2 l2 i ∧ h.IsTuple l1 xs ∧ h.IsList l2 ys ∧
    ((IsZip h z TI TO .none ∧ ∃ a b, IsPair h TO a b) ∨ ∃ T f oT, IsZipHeld h z TI TO T f ∧ h.get? T = some oT ∧ T ≠ z ∧ T ≠ i1 ∧ T ≠ i2 ∧ T ≠ S)
theorem ZSt.keep {S : Addr} {i : Nat} {h h' : Heap} (x : ZSt z TI TO i1 i2 l1 l2 xs ys S i h) (n : Off7 z TI TO i1 i2 l1 l2 S) (hk : ∀ b o, b ≠ S → h.get? b = some o → h'.get? b = some o) : ZSt z TI TO i1 i2 l1 l2 xs ys S i h' := by
  obtain ⟨hTI, h1, h2, hl1, hl2, hz⟩ := x
  refine ⟨hk _ _ n.TI hTI, h1.at fun o e => hk _ o n.i1 e, h2.at fun o e => hk _ o n.i2 e, hl1.at fun o e => hk _ o n.l1 e, hl2.at fun o e => hk _ o n.l2 e, ?_⟩
  rcases hz with ⟨hz, a, b, hTO⟩ | ⟨T, f, oT, hz, hT, r1, r2, r3, r4⟩
  · exact .inl ⟨hk _ _ n.z hz, a, b, hk _ _ n.TO hTO⟩
  · exact .inr ⟨T, f, oT, hk _ _ n.z hz, hk _ _ r4 hT, r1, r2, r3, r4⟩
theorem z_item (hA : A.handled = none) (D : ZipApart z TI TO i1 i2 l1 l2) {S : Addr} {i : Nat} {x y : Value} {Q : Option Value → Shared → Prop} (st : ZSt z TI TO i1 i2 l1 l2 xs ys S i s.heap) (hS : S < s.heap.objs.size) (ex : xs[i]? = some x) (ey : ys[i]? = some y)
    (hQ : ∀ h' tk, ZSt z TI TO i1 i2 l1 l2 xs ys S (i + 1) h' → IsPair h' s.heap.objs.size x y → h'.objs.size = s.heap.objs.size + 1 → (∀ b o, b ∉ wrZ z TO i1 i2 → s.heap.get? b = some o → h'.get? b = some o) → Q (some (.ref s.heap.objs.size)) { s with heap := h', toks := tk }) :
    wpAny (model prog w) A (pyNext (.ref z)) Q E s := by
  obtain ⟨hTI, h1, h2, hl1, hl2, hz⟩ := st
  have lt : ∀ {c o}, s.heap.get? c = some o → s.heap.objs.size ≠ c := fun e => Nat.ne_of_gt (Heap.lt_size e)
  have n1 : s.heap.objs.size ≠ i1 := let ⟨_, e, _⟩ := h1; lt e
  have n2 : s.heap.objs.size ≠ i2 := let ⟨_, e, _⟩ := h2; lt e
  rcases hz with ⟨hz, a, b, hTO⟩ | ⟨T, f, oT, hz, hT, r1, r2, r3, r4⟩
  · refine wpAny_pyNext_zipD2_item (sep2 D) (Draws.tuple (prog := prog) (w := w) (A := A.in1) hA i1 l1 D.l1i1 xs) (Draws.list (prog := prog) (w := w) (A := A.in1) hA i2 l2 D.l2i2 ys) hz hTI hTO ⟨h1, hl1⟩ ⟨h2, hl2⟩ (Array.getElem?_eq_some_iff.mp ex).1 (Array.getElem?_eq_some_iff.mp ey).1 fun x1 x2 h' tk y1 y2 a1 a2 a3 a4 a5 a6 hk => ?_
    rw [ex] at y1
    rw [ey] at y2
    obtain rfl := Option.some.inj y1
    obtain rfl := Option.some.inj y2
    exact hQ h' tk ⟨hk _ _ D.TIz D.TITO D.TIi1 D.TIi2 hTI, a3.1, a4.1, a3.2, a4.2, .inr ⟨s.heap.objs.size, false, _, a1, a5, lt hz, n1, n2, Nat.ne_of_gt hS⟩⟩ a5 a6
      fun c o hc e => hk c o (fun x => hc (by simp [x])) (fun x => hc (by simp [x])) (fun x => hc (by simp [x])) (fun x => hc (by simp [x])) e
  · refine held_item D hz hT hTI h1 h2 hl1 hl2 ex ey fun h' a1 a3 a4 a5 a6 hk => ?_
    exact hQ h' s.toks ⟨hk _ _ D.TIz D.TIi1 D.TIi2 hTI, a3, a4, hl1.at fun o e => hk _ o D.l1z D.l1i1 D.l1i2 e, hl2.at fun o e => hk _ o D.l2z D.l2i1 D.l2i2 e,
        .inr ⟨T, true, oT, a1, hk _ _ r1 r2 r3 hT, r1, r2, r3, r4⟩⟩ a5 a6
      fun c o hc e => hk c o (fun x => hc (by simp [x])) (fun x => hc (by simp [x])) (fun x => hc (by simp [x])) e
theorem z_done (hA : A.handled = none) (D : ZipApart z TI TO i1 i2 l1 l2) {S : Addr} {i : Nat} {Q : Option Value → Shared → Prop} (st : ZSt z TI TO i1 i2 l1 l2 xs ys S i s.heap) (hx : i = xs.size) (hy : i = ys.size)
    (hQ : ∀ h' tk, (∀ b o, b ∉ wrZ z TO i1 i2 → s.heap.get? b = some o → h'.get? b = some o) → Q none { s with heap := h', toks := tk }) : wpAny (model prog w) A (pyNext (.ref z)) Q E s := by
  obtain ⟨hTI, h1, h2, hl1, hl2, hz⟩ := st
  rcases hz with ⟨hz, a, b, hTO⟩ | ⟨T, f, oT, hz, hT, r1, r2, r3, r4⟩
  · exact wpAny_pyNext_zipD2_end (sep2 D) (Draws.tuple (prog := prog) (w := w) (A := A.in1) hA i1 l1 D.l1i1 xs) (Draws.list (prog := prog) (w := w) (A := A.in1) hA i2 l2 D.l2i2 ys) hz hTI hTO ⟨h1, hl1⟩ ⟨h2, hl2⟩ (by omega) (by omega) (.inl hx) fun h' tk hk => hQ h' tk fun c o hc e => hk c o (fun x => hc (by simp [x])) (fun x => hc (by simp [x])) (fun x => hc (by simp [x])) (fun x => hc (by simp [x])) e
  · exact held_end hA D hz hT hTI h1 hl1 (Array.getElem?_eq_none (by omega)) fun h' hk => hQ h' s.toks fun c o hc e => hk c o (fun x => hc (by simp [x])) (fun x => hc (by simp [x])) (fun x => hc (by simp [x])) e
end
section
variable {prog : Program} {w : World} {A : Around} {s : Shared} {R : Result → Shared → Prop}
variable {z TI TO i1 i2 l1 l2 : Addr} {xs ys : Array Value}
theorem z_loop {S n : Nat} (hh : A.handled = none) (D : ZipApart z TI TO i1 i2 l1 l2) (n7 : Off7 z TI TO i1 i2 l1 l2 S) (hw : ∀ b ∈ wrZ z TO i1 i2, b < S) (hx : xs.size = n) (hy : ys.size = n) (hn : n ≤ sizeLine) (res : Value) {h₁ : Heap}
    (hR : ∀ h' tk acc c as, (∀ b o, b ≠ S → b ∉ wrZ z TO i1 i2 → h₁.get? b = some o → h'.get? b = some o) → h'.get? S = some { cls := .type "list", dict := none, data := .seq acc c, slots := #[] } → as.length = n → ZG xs ys S h' as →
      acc.toList = as.map Value.ref → R (.ok (.ret res)) { s with heap := h', toks := tk }) :
    ∀ (k i : Nat) (h : Heap) (tk c : Nat) (acc : Array Value) (as : List Addr), n - i = k → i ≤ n → ZSt z TI TO i1 i2 l1 l2 xs ys S i h → (∀ b o, b ≠ S → b ∉ wrZ z TO i1 i2 → h₁.get? b = some o → h.get? b = some o) →
      h.get? S = some { cls := .type "list", dict := none, data := .seq acc c, slots := #[] } → acc.toList = as.map Value.ref → as.length = i → ZG xs ys S h as →
      codeAny (model prog w) A (.builtin "list.extend.loop" ⟨[.ref S, .ref z, res], []⟩) R { s with heap := h, toks := tk } := by
  have hSw : S ∉ wrZ z TO i1 i2 := fun hm => Nat.lt_irrefl _ (hw S hm)
  intro k
  induction k with
  | zero =>
    intro i h tk c acc as hk hi hst hkeep hS hacc hal hG
    have hin : i = n := by omega
    refine codeAny_builtin PySem.F.entry_extend_loop ?_
    rw [Around.under_plainId PySem.F.plain_extend_loop _]
    show wpAny _ A.in1 (pyNext (.ref z) >>= _) _ _ _
    refine wpAny_bind (z_done (s := { s with heap := h, toks := tk }) (A := A.in1) hh D hst (by omega) (by omega) fun h' tk2 he => ?_)
    refine wpAny_pure (hR h' tk2 acc c as (fun b o h1 h2 e => he b o h2 (hkeep b o h1 h2 e)) (he S _ hSw hS) (by omega) ⟨hG.rise, hG.above, fun j a hj => ?_⟩ hacc)
    obtain ⟨x, y, e1, e2, e3⟩ := hG.pairs j a hj
    exact ⟨x, y, e1, e2, he a _ (fun hm => Nat.lt_irrefl _ (Nat.lt_trans (hw a hm) (hG.above a (List.mem_of_getElem? hj)))) e3⟩
  | succ k ih =>
    intro i h tk c acc as hk hi hst hkeep hS hacc hal hG
    have hlt : i < n := by omega
    have ex : xs[i]? = some (xs[i]'(by omega)) := Array.getElem?_eq_getElem (by omega)
    have ey : ys[i]? = some (ys[i]'(by omega)) := Array.getElem?_eq_getElem (by omega)
    generalize xs[i]'(by omega) = x at ex
    generalize ys[i]'(by omega) = y at ey
    have hsz : acc.size = i := by rw [← Array.length_toList, hacc, List.length_map, hal]
    refine codeAny_builtin PySem.F.entry_extend_loop ?_
    rw [Around.under_plainId PySem.F.plain_extend_loop _]
    show wpAny _ A.in1 (pyNext (.ref z) >>= _) _ _ _
    refine wpAny_bind (z_item (s := { s with heap := h, toks := tk }) (A := A.in1) (S := S) hh D hst (Heap.lt_size hS) ex ey fun h' tk2 hst' ht hz hkp => ?_)
    dsimp only at ht hz hkp ⊢
    have hS' := hkp S _ hSw hS
    have up : ∀ b o, b ≠ S → h'.get? b = some o → (h'.update S (Obj.mapSeq (·.push (Value.ref h.objs.size)))).get? b = some o := fun b o hb e => (Heap.get?_update_other _ _ (Ne.symm hb)).trans e
    have hSl : S < h.objs.size := Heap.lt_size hS
    show wpAny _ A.in1 (updateSeq S (·.push (Value.ref h.objs.size)) >>= _) _ _ _
    refine wpAny_bind ?_
    refine wpAny_updateSeq hS' rfl (wpAny_pure ⟨plainId_quiet PySem.F.plain_extend_loop _, ih (i + 1) _ tk2 _ (acc.push (Value.ref h.objs.size)) (as ++ [h.objs.size]) (by omega) hlt (hst'.keep n7 up)
      (fun b o h1 h2 e => up b o h1 (hkp b o h2 (hkeep b o h1 h2 e))) (Heap.get?_update_self _ hS' rfl) (by rw [Array.toList_push, hacc, List.map_append]; rfl) (by rw [List.length_append, hal]; rfl) ⟨?_, ?_, ?_⟩⟩) (by rw [hsz]; omega) (by show (acc.push (Value.ref h.objs.size)).size ≤ sizeLine + 1; rw [Array.size_push, hsz]; omega)
    · refine List.pairwise_append.mpr ⟨hG.rise, List.pairwise_singleton _ _, fun a ha b hb => ?_⟩
      rw [List.mem_singleton.mp hb]
      exact hG.there ha
    · intro a ha
      rcases List.mem_append.mp ha with ha | ha
      · exact hG.above a ha
      · rw [List.mem_singleton.mp ha]; exact hSl
    · intro j b hj
      rcases Nat.lt_trichotomy j as.length with h1 | h1 | h1
      · rw [List.getElem?_append_left h1] at hj
        obtain ⟨x', y', e1, e2, e3⟩ := hG.pairs j b hj
        have hb := hG.above b (List.mem_of_getElem? hj)
        exact ⟨x', y', e1, e2, up b _ (Nat.ne_of_gt hb) (hkp b _ (fun hm => Nat.lt_irrefl _ (Nat.lt_trans (hw b hm) hb)) e3)⟩
      · subst h1
        have hb : h.objs.size = b := by simpa using hj
        subst hb
        exact ⟨x, y, by rw [hal]; exact ex, by rw [hal]; exact ey, up _ _ (Nat.ne_of_gt hSl) ht⟩
      · have hnone : (as ++ [h.objs.size])[j]? = none := List.getElem?_eq_none (by rw [List.length_append, List.length_singleton]; omega)
        rw [hnone] at hj; cases hj
end
section
variable {prog : Program} {w : World} {A : Around} {E : Value → Shared → Prop} {s : Shared}
variable {z TI TO i1 i2 l1 l2 : Addr} {xs ys : Array Value}
theorem z_extend {R : Result → Shared → Prop} {n : Nat} (hh : A.handled = none) (D : ZipApart z TI TO i1 i2 l1 l2) (S : Addr) (n7 : Off7 z TI TO i1 i2 l1 l2 S) (hw : ∀ b ∈ wrZ z TO i1 i2, b < S) (hx : xs.size = n) (hy : ys.size = n) (hn : n ≤ sizeLine) (res : Value) (c₀ : Nat)
    (hz : IsZip s.heap z TI TO .none) (hst : ZSt z TI TO i1 i2 l1 l2 xs ys S 0 s.heap) (hS : s.heap.get? S = some { cls := .type "list", data := .seq #[] c₀ })
    (hR : ∀ h' tk acc c as, (∀ b o, b ≠ S → b ∉ wrZ z TO i1 i2 → s.heap.get? b = some o → h'.get? b = some o) → h'.get? S = some { cls := .type "list", dict := none, data := .seq acc c, slots := #[] } → as.length = n → ZG xs ys S h' as →
      acc.toList = as.map Value.ref → R (.ok (.ret res)) { s with heap := h', toks := tk }) :
    wpAny (model prog w) A.in1 (Builtin.List.listExtendWith (.ref S) (.ref z) res)
      (fun fin s' => match fin with | .done f => R (.ok f) s' | .again c' => c'.quiet = true ∧ codeAny (model prog w) A c' R s') (fun e s' => R (.error e) s') s := by
  have hT : s.TypeIs (.ref z) "zip" := ⟨_, hz, rfl⟩
  unfold Builtin.List.listExtendWith
  refine wpAny_bind (wpAny_typeOf hT ?_)
  have h1 : Builtin.List.listSameRef (.ref S) (.ref z) = false := by simp [Builtin.List.listSameRef, n7.z.symm]
  have h2 : (Value.type "zip" == Value.type "list") = false := by decide
  have h3 : (Value.type "zip" == Value.type "tuple") = false := by decide
  simp only [h1, h2, h3, Bool.or_false, Bool.false_eq_true, if_false]
  refine wpAny_bind (wpAny_pyIter_zip hz ?_)
  refine wpAny_bind (wpAny_holding ?_)
  unfold Builtin.List.listLengthHint
  refine wpAny_bind (wpAny_specialOf hT zip_no_len ?_)
  show wpAny _ A.in1 (specialOf (Value.ref z) (Str.ofString "__length_hint__") >>= _) _ _ _
  refine wpAny_bind (wpAny_specialOf hT zip_no_hint ?_)
  refine wpAny_pure ?_
  show wpAny _ A.in1 (rule "list.extend.makes-room" >>= fun _ => Builtin.List.listTouch (.ref S) >>= fun _ =>
    again (.builtin "list.extend.loop" ⟨[.ref S, .ref z, res], []⟩)) _ _ _
  refine wpAny_bind (wpAny_rule ?_)
  refine wpAny_bind ?_
  show wpAny _ A.in1 (updateSeq S (·.push .none) >>= fun _ => updateSeq S (·.pop)) _ _ _
  refine wpAny_bind (wpAny_updateSeq hS rfl ?_)
  have hS₂ := Heap.get?_update_self (Obj.mapSeq (·.push Value.none)) hS rfl
  refine wpAny_updateSeq (hz := by seq_fits) hS₂ rfl ?_
  have hS₃ := Heap.get?_update_self (Obj.mapSeq (·.pop)) hS₂ rfl
  have oth : ∀ b o, b ≠ S → s.heap.get? b = some o → ((s.heap.update S (Obj.mapSeq (·.push Value.none))).update S (Obj.mapSeq (·.pop))).get? b = some o :=
    fun b o hb e => (Heap.get?_update_other _ _ (Ne.symm hb)).trans ((Heap.get?_update_other _ _ (Ne.symm hb)).trans e)
  refine wpAny_pure ⟨plainId_quiet PySem.F.plain_extend_loop _, ?_⟩
  exact z_loop (s := s) (h₁ := s.heap) hh D n7 hw hx hy hn res hR n 0 _ s.toks _ #[] [] (Nat.sub_zero _) (Nat.zero_le _) (hst.keep n7 oth) (fun b o hb _ e => oth b o hb e) hS₃ rfl rfl ⟨List.Pairwise.nil, (fun _ ha => nomatch ha), (fun j a hj => by simp at hj)⟩
theorem z_init {R : Result → Shared → Prop} {n : Nat} (hh : A.handled = none) (D : ZipApart z TI TO i1 i2 l1 l2) (S : Addr) (n7 : Off7 z TI TO i1 i2 l1 l2 S) (hw : ∀ b ∈ wrZ z TO i1 i2, b < S) (hx : xs.size = n) (hy : ys.size = n) (hn : n ≤ sizeLine)
    (hz : IsZip s.heap z TI TO .none) (hst : ZSt z TI TO i1 i2 l1 l2 xs ys S 0 s.heap) (hS : s.heap.get? S = some { cls := .type "list", data := .seq #[] })
    (hR : ∀ h' tk acc c as, (∀ b o, b ≠ S → b ∉ wrZ z TO i1 i2 → s.heap.get? b = some o → h'.get? b = some o) → h'.get? S = some { cls := .type "list", dict := none, data := .seq acc c, slots := #[] } → as.length = n → ZG xs ys S h' as →
      acc.toList = as.map Value.ref → R (.ok (.ret .none)) { s with heap := h', toks := tk }) :
    wpAny (model prog w) A.in1 (Builtin.«list.__init__» ⟨[.ref S, .ref z], []⟩)
      (fun fin s' => match fin with | .done f => R (.ok f) s' | .again c' => c'.quiet = true ∧ codeAny (model prog w) A c' R s') (fun e s' => R (.error e) s') s := by
  show wpAny _ _ (do let old ← Builtin.List.listItems (.ref S); Builtin.List.listUpdate (.ref S) (fun _ => #[]); letGo old.toList.reverse; Builtin.List.listExtendWith (.ref S) (.ref z) .none) _ _ s
  refine wpAny_bind ?_
  unfold Builtin.List.listItems
  refine wpAny_bind (wpAny_seqItems hS rfl (wpAny_pure ?_))
  show wpAny _ _ (updateSeq S (fun _ => #[]) >>= fun _ => letGo (#[] : Array Value).toList.reverse >>= fun _ => Builtin.List.listExtendWith (.ref S) (.ref z) .none) _ _ s
  refine wpAny_bind (wpAny_updateSeq hS rfl ?_)
  have hS₂ := Heap.get?_update_self (Obj.mapSeq (fun _ => (#[] : Array Value))) hS rfl
  have oth : ∀ b o, b ≠ S → s.heap.get? b = some o → (s.heap.update S (Obj.mapSeq (fun _ => (#[] : Array Value)))).get? b = some o :=
    fun b o hb e => (Heap.get?_update_other _ _ (Ne.symm hb)).trans e
  refine wpAny_bind (wpAny_letGo ?_)
  refine z_extend hh D S n7 hw hx hy hn .none _ (oth _ _ n7.z hz) (hst.keep n7 oth) hS₂ fun h' tk acc c as hk hS' hl hG hacc => ?_
  exact hR h' tk acc c as (fun b o hb h2 e => hk b o hb h2 (oth b o hb e)) hS' hl hG hacc
theorem z_call {n : Nat} {Q : Value → Shared → Prop} (hh : A.handled = none) (D : ZipApart z TI TO i1 i2 l1 l2) (lt : z < s.heap.objs.size ∧ TI < s.heap.objs.size ∧ TO < s.heap.objs.size ∧ i1 < s.heap.objs.size ∧ i2 < s.heap.objs.size ∧ l1 < s.heap.objs.size ∧ l2 < s.heap.objs.size) (hx : xs.size = n) (hy : ys.size = n) (hn : n ≤ sizeLine)
    (hz : IsZip s.heap z TI TO .none) (hst : ∀ S, ZSt z TI TO i1 i2 l1 l2 xs ys S 0 s.heap)
    (hQ : ∀ h' tk acc c as, (∀ b o, b ∉ wrZ z TO i1 i2 → s.heap.get? b = some o → h'.get? b = some o) → h'.get? s.heap.objs.size = some { cls := .type "list", dict := none, data := .seq acc c, slots := #[] } → as.length = n → ZG xs ys s.heap.objs.size h' as →
      acc.toList = as.map Value.ref → Q (.ref s.heap.objs.size) { s with heap := h', toks := tk }) :
    wpAny (model prog w) A (call (.type "list") [.ref z]) Q E s := by
  refine callType_codes (Q₁ := fun obj s₁ => obj = .ref s.heap.objs.size ∧ s₁ = { s with heap := s.heap.push { cls := .type "list", data := .seq #[] } }) PySem.F.called_list (PySem.F.typeCall_list_1 _) PySem.F.entry_list_init
    (code_list_new _ ⟨rfl, rfl⟩) fun obj s₁ h₁ => ?_
  obtain ⟨rfl, rfl⟩ := h₁
  have hS : (s.heap.push { cls := .type "list", data := .seq #[] }).get? s.heap.objs.size = some { cls := .type "list", data := .seq #[] } := Heap.get?_push_size _ rfl
  have ne : ∀ {a : Addr}, a < s.heap.objs.size → a ≠ s.heap.objs.size := fun h => Nat.ne_of_lt h
  have n7 : Off7 z TI TO i1 i2 l1 l2 s.heap.objs.size := ⟨ne lt.1, ne lt.2.1, ne lt.2.2.1, ne lt.2.2.2.1, ne lt.2.2.2.2.1, ne lt.2.2.2.2.2.1, ne lt.2.2.2.2.2.2⟩
  have hw : ∀ b ∈ wrZ z TO i1 i2, b < s.heap.objs.size := fun b hb => by
    simp only [wrZ, List.mem_cons, List.not_mem_nil, or_false] at hb
    rcases hb with e | e | e | e <;> rw [e]
    · exact lt.1
    · exact lt.2.2.1
    · exact lt.2.2.2.1
    · exact lt.2.2.2.2.1
  refine ⟨⟨_, hS, rfl⟩, PySem.F.args_list_init_2 _ _, z_init (A := A.in1) hh D _ n7 hw hx hy hn (Heap.get?_push_of_some _ hz) ((hst _).keep n7 fun b o _ e => Heap.get?_push_of_some _ e) hS (fun h' tk acc c as hk hS' hl hG hacc => ?_)⟩
  exact ⟨rfl, hQ h' tk acc c as (fun b o hb e => hk b o (Nat.ne_of_lt (Heap.lt_size e)) hb (Heap.get?_push_of_some _ e)) hS' hl hG hacc⟩
end
open L2 HK
def tListZipTL (K : PySem.W.Frag) (ta : TA) : TE := fun σ H Q => ta σ H fun vs H1 => ∃ a b xs ys, vs = [.ref a, .ref b] ∧ SqT K H1 a xs ∧ SqL K H1 b ys ∧ xs.length = ys.length ∧
  ∀ (H' : Hp) (p : Addr) (ts : List Addr), Same H1 H' → H1 p = none → (∀ t ∈ ts, H1 t = none) → p ∉ ts → H' p = some (.lst (ts.map V.ref)) → Paired (fun (t : Addr) (q : V × V) => H' t = some (.tup [q.1, q.2])) ts (xs.zip ys) → Q (.ref p) H'
section
variable {X : Cx} {e e2 : Expr} {ta : TA} {p p2 cpos pos : Pos}
/-- list(zip(e, e2)), a tuple and a list of one length -/
theorem pe_listZipTL (hc : X.calm = true) (ha : PA X [e, e2] ta) (hg : Gl X "list") (hm : X.mg "list" = none) (hv : bootBuiltins "list" = some (.type "list")) (hgz : Gl X "zip") (hmz : X.mg "zip" = none)
    (hs2 : starEach [e, e2] X.env = (false, eval e X.env) :: starEach [e2] X.env := by rfl) (hpl : (backTo cpos (starEach [e2] X.env)).any (·.1) = false := by rfl)
    (hs : starEach [.Call (.Name "zip" p2) [e, e2] [] cpos] X.env = (false, eval (.Call (.Name "zip" p2) [e, e2] [] cpos) X.env) :: starEach [] X.env := by rfl) :
    PE X (.Call (.Name "list" p) [.Call (.Name "zip" p2) [e, e2] [] cpos] [] pos) (tListZipTL X.K ta) := by
  refine ⟨fun pins s σ H Q I hq => ?_⟩
  refine wpAny_Call_Name_kw (ld_blt I hg hm hv ?_)
  refine PyProof.Rows.callWith_type1 ?_ hs rfl
  rw [hs]
  show wpAny _ _ (spliced ((false, eval (.Call (.Name "zip" p2) [e, e2] [] cpos) X.env) :: backTo pos (starEach [] X.env))) _ _ s
  refine Calls.spliced_cons ?_
  refine wpAny_Call_Name_kw (ld_blt I hgz hmz PyProof.Rows.boot_zip (PyProof.Rows.callWith_type1 (thn (ha.run cpos pins s σ H _ I hq) fun us s1 ⟨vs, H1, I1, r1, q1⟩ => ?_) hs2 hpl))
  obtain ⟨a, b, xs, ys, ex, hqx, hqy, exy, q⟩ := q1
  subst ex
  cases r1 with
  | cons r rr =>
    cases rr with
    | cons r' rr =>
      cases rr
      cases r
      cases r'
      obtain ⟨its, rv, p1, z1⟩ := I1.tuple hqx
      obtain ⟨its2, rv2, p2, z2⟩ := I1.list hqy
      have la : a < s1.heap.objs.size := p1.lt
      have lb : b < s1.heap.objs.size := p2.lt
      refine call_TL (show s1.heap.IsTuple a its.toArray from p1) p2.isList fun h' hz hTI hTO h1 h2 hsz hk => ?_
      refine Calls.spliced_nil ?_
      have l1 := rv.length
      have l2 := rv2.length
      have D := PySem.W.ktu_apart s1.heap.objs.size a b la lb
      refine z_call (s := { s1 with heap := h' }) (n := its.toArray.size) (I1.ok.hd hc) D (by show _ < h'.objs.size ∧ _ < h'.objs.size ∧ _ < h'.objs.size ∧ _ < h'.objs.size ∧ _ < h'.objs.size ∧ _ < h'.objs.size ∧ _ < h'.objs.size; rw [hsz]; refine ⟨?_, ?_, ?_, ?_, ?_, ?_, ?_⟩ <;> (first | exact Nat.add_lt_add_left (by decide) _ | exact Nat.lt_add_of_pos_right (by decide) | exact Nat.lt_of_lt_of_le la (Nat.le_add_right _ _) | exact Nat.lt_of_lt_of_le lb (Nat.le_add_right _ _)))
        rfl (by rw [List.size_toArray, List.size_toArray]; omega) (by rw [List.size_toArray]; omega) hz (fun S => ⟨hTI, h1, h2, Heap.IsTuple.at (show s1.heap.IsTuple a its.toArray from p1) fun o e => hk _ o e, p2.isList.at fun o e => hk _ o e, .inl ⟨hz, _, _, hTO⟩⟩) fun h'' tk acc c as hk2 hS hl hG hacc => ?_
      have hk3 : ∀ b o, s1.heap.get? b = some o → h''.get? b = some o := fun b o e => by
        refine hk2 b o (fun hm => ?_) (hk b o e)
        have hb := Heap.lt_size e
        simp only [wrZ, List.mem_cons, List.not_mem_nil, or_false] at hm
        rcases hm with z | z | z | z <;> rw [z] at hb
        · exact Nat.lt_irrefl _ (Nat.lt_of_le_of_lt (Nat.le_add_right _ _) hb)
        · exact Nat.lt_irrefl _ (Nat.lt_of_le_of_lt (Nat.le_add_right _ _) hb)
        · exact Nat.lt_irrefl _ hb
        · exact Nat.lt_irrefl _ (Nat.lt_of_le_of_lt (Nat.le_add_right _ _) hb)
      obtain ⟨H', k1, k2, k3, k4, k5, k6, J⟩ := z_laid (tk := tk) I1 z1 exy rv rv2 (by show s1.heap.objs.size ≤ h'.objs.size; rw [hsz]; exact Nat.le_add_right _ _) hk3 hS (by rw [hl, List.size_toArray]; omega) hG hacc
      exact ⟨.ref _, H', J, rfl, q H' _ as k1 k2 k3 k4 k5 k6⟩
end
end HZT
namespace K03
open PySem L2 HK
/-! ### tuples of ints compared -/
theorem eqv_ints : ∀ xs ys : List Int, PyData.eqvAll (xs.map PyData.int) (ys.map PyData.int) = decide (xs = ys)
  | [], [] => by simp [PyData.eqvAll]
  | [], _ :: _ => by simp [PyData.eqvAll]
  | _ :: _, [] => by simp [PyData.eqvAll]
  | x :: r, y :: s => by
    rw [List.map_cons, List.map_cons, PyData.eqvAll, eqv_ints r s, PyData.eqv]
    by_cases h : x = y
    · by_cases h2 : r = s
      · simp [h, h2]
      · simp [h, h2]
    · simp [h]
theorem shaped_ints (ns : List Int) : SeqAt.shaped (.tuple (ns.map PyData.int)) = true := PySem.W.ke_shaped_ints ns
theorem ne_tupI {K : PySem.W.Frag} {H : Hp} {a b : Addr} {xs ys : List Int} {Q : VK} (ha : SqT K H a (xs.map V.int)) (hb : SqT K H b (ys.map V.int)) (q : Q (.bl (!decide (xs = ys))) H) : rNeD K (.ref a) (.ref b) H Q := by
  refine ⟨_, _, Dp.tup ha (dpall_ints xs), Dp.tup hb (dpall_ints ys), shaped_ints xs, shaped_ints ys, ?_⟩
  rw [PyData.eqv, eqv_ints]
  exact q
theorem add_read {i j k : Int} {H : Hp} {Q : VK} (e : i + j = k) (q : Q (.int k) H) : rI0 (fun i j => V.int (i + j)) (.int i) (.int j) H Q := ⟨i, j, rfl, rfl, by subst e; exact q⟩
theorem mul_read {i j k : Int} {H : Hp} {Q : VK} (l : -(2 ^ 64) < i ∧ i < 2 ^ 64) (e : i * j = k) (q : Q (.int k) H) : rI CMul (fun i j => V.int (i * j)) (.int i) (.int j) H Q := ⟨i, j, rfl, rfl, .inl l, by subst e; exact q⟩
theorem iteD {c A B : Prop} [Decidable c] (hc : c) (h : A) : if decide c = true then A else B := by
  rw [decide_eq_true hc]
  exact iteT h
theorem iteDN {c A B : Prop} [Decidable c] (hc : ¬ c) (h : B) : if decide c = true then A else B := by
  rw [decide_eq_false hc]
  exact iteF h
/-! ### the mathematics of heads -/
def pairI (n : Int) : List Int := [n / 256 % 256, n % 256]
def sums (p : Int × Int) : List Int → Int × Int
  | [] => p
  | n :: r => sums ((p.1 + n) % 65521, (p.2 + (p.1 + n) % 65521) % 65521) r
theorem sums_snoc (l : List Int) (n : Int) : ∀ p, sums p (l ++ [n]) = (((sums p l).1 + n) % 65521, ((sums p l).2 + ((sums p l).1 + n) % 65521) % 65521) := by
  induction l with
  | nil => intro p; rfl
  | cons a r ih => intro p; exact ih _
def sumI (l : List Int) : List Int := pairI (sums (1, 0) l).2 ++ pairI (sums (1, 0) l).1
def startI (s : Int) (ns : List Int) : List Int := [74, 82] ++ pairI s ++ pairI ns.length ++ ns.flatMap pairI
def headI (s : Int) (ns : List Int) (sm : List Int) : List Int := startI s ns ++ sm ++ List.replicate (54 - 2 * ns.length) 0
theorem startI_len (s : Int) (ns : List Int) : (startI s ns).length = 6 + 2 * ns.length := by
  unfold startI
  have e : (ns.flatMap pairI).length = 2 * ns.length := by
    induction ns with
    | nil => rfl
    | cons n r ih => rw [List.flatMap_cons, List.length_append, ih]; show 2 + 2 * r.length = 2 * (r.length + 1); omega
  simp only [List.length_append, e]
  show 2 + 2 + 2 + _ = _
  rfl
theorem headI_len {s : Int} {ns sm : List Int} (h : sm.length = 4) (hn : ns.length ≤ 27) : (headI s ns sm).length = 64 := by
  unfold headI
  rw [List.length_append, List.length_append, startI_len, h, List.length_replicate]
  omega
/-! ### the text -/
abbrev sPair : Stmt := top 12
abbrev sOfPair : Stmt := top 13
abbrev sSum : Stmt := top 14
abbrev sHeadRoom : Stmt := top 19
abbrev sGroup : Stmt := top 20
abbrev sStart : Stmt := top 21
abbrev sHead : Stmt := top 22
abbrev sReadHead : Stmt := top 23
structure JTxt (K : PySem.W.Frag) (mg : Str → Option Value) : Prop where
  base : ∃ t, mg "SUM_BASE" = some (.int 65521 t)
  mark : ∃ a, mg "HEAD_MARK" = some (.ref a) ∧ ∀ H, SqT K H a [.int 74, .int 82]
  hbase : ∃ t, mg "HEAD_BASE" = some (.int 6 t)
  ssize : ∃ t, mg "SUM_SIZE" = some (.int 4 t)
  len : mg "len" = none
  tup : mg "tuple" = none
  list : mg "list" = none
  max : mg "max" = none
  min : mg "min" = none
  any : mg "any" = none
  range : mg "range" = none
def spPair : Sp := fun vs H Q _ => ∃ n : Int, vs = [.int n] ∧ ∀ p, H p = none → Q (.ref p) (upd H p (tupI (pairI n)))
def spOfPair (K : PySem.W.Frag) : Sp := fun vs H Q _ => ∃ (a : Addr) (xs : List Int) (k : Nat) (x y : Int), vs = [.ref a, .int (k : Nat)] ∧ SqT K H a (xs.map V.int) ∧ xs[k]? = some x ∧ xs[k + 1]? = some y ∧ -(2 ^ 64) < x ∧ x < 2 ^ 64 ∧ Q (.int (x * 256 + y)) H
def spSum (K : PySem.W.Frag) : Sp := fun vs H Q _ => ∃ (a : Addr) (l : List Int), vs = [.ref a] ∧ SqL K H a (l.map V.int) ∧ ∀ H' p, Same H H' → H p = none → H' p = some (tupI (sumI l)) → Q (.ref p) H'
def spHeadRoom : Sp := fun vs H Q _ => (vs = [.int 64, .int 6] ∧ Q (.int 5) H) ∨ (vs = [.int 64, .int 100] ∧ Q (.int 11) H)
def rowsOk (H : Hp) (ps : List (Addr × List Int)) : Prop := ∀ q ∈ ps, H q.1 = some (tupI q.2)
def flat (ps : List (Addr × List Int)) : List Int := ps.flatMap (·.2)
def spGroup (K : PySem.W.Frag) : Sp := fun vs H Q _ => ∃ (a r : Addr) (l : List Int) (ps : List (Addr × List Int)), vs = [.ref a, .ref r] ∧ SqT K H a (l.map V.int) ∧ H r = some (.lst (ps.map fun q => V.ref q.1)) ∧ rowsOk H ps ∧ l.length + (flat ps).length ≤ 10000 ∧
  ∀ H' p, Same H H' → H p = none → H' p = some (tupI (sumI (l ++ flat ps))) → Q (.ref p) H'
def spStartL : Sp := fun vs H Q _ => ∃ (s : Int) (a : Addr) (ns : List Int), vs = [.int s, .ref a] ∧ H a = some (.lst (ns.map V.int)) ∧ ns.length ≤ 100 ∧ ∀ H' p, Same H H' → H p = none → H' p = some (tupI (startI s ns)) → Q (.ref p) H'
def spStartT (K : PySem.W.Frag) : Sp := fun vs H Q _ => ∃ (s : Int) (a : Addr) (ns : List Int), vs = [.int s, .ref a] ∧ SqT K H a (ns.map V.int) ∧ ns.length ≤ 100 ∧ ∀ H' p, Same H H' → H p = none → H' p = some (tupI (startI s ns)) → Q (.ref p) H'
def spHead : Sp := fun vs H Q _ => ∃ (s : Int) (a r : Addr) (ns : List Int) (ps : List (Addr × List Int)), vs = [.int s, .ref a, .ref r, .int 64] ∧ H a = some (.lst (ns.map V.int)) ∧ ns.length ≤ 11 ∧ H r = some (.lst (ps.map fun q => V.ref q.1)) ∧ rowsOk H ps ∧ (flat ps).length ≤ 5000 ∧
  ∀ H' p, Same H H' → H p = none → H' p = some (tupI (headI s ns (sumI (startI s ns ++ flat ps)))) → Q (.ref p) H'
def spReadHead (K : PySem.W.Frag) : Sp := fun vs H Q _ => ∃ (a : Addr) (xs : List Int), vs = [.ref a] ∧ SqT K H a (xs.map V.int) ∧
  ((xs = List.replicate 64 0 ∧ ∀ H', Same H H' → Q .non H') ∨ ∃ (s : Int) (ns sm : List Int), xs = headI s ns sm ∧ sm.length = 4 ∧ ns.length ≤ 11 ∧ 0 ≤ s ∧ s < 65536 ∧ (∀ n ∈ ns, 0 ≤ n ∧ n < 65536) ∧
    ∀ H' p a1 a2, Same H H' → H p = none → H' p = some (.tup [.int s, .ref a1, .ref a2]) → H' a1 = some (tupI ns) → H' a2 = some (tupI sm) → Q (.ref p) H')
section
variable {P : Program} {w : World} {K : PySem.W.Frag} {mg : Str → Option Value} {base : Heap}
theorem scPair : FnScope ["number"] ["number"] (defScope sPair) := ⟨rfl, rfl, rfl, by decide +kernel, rfl, by decide +kernel, by decide +kernel⟩
theorem ok_pair {f : Addr} {fd : FuncData} (F : L2.Fun K "pair" "pair" sPair f fd) : FnOk P w K mg base L2.CX0 1 f fd ["number"] spPair := by
  refine F.ok scPair (fun vs H Q E h => ?_) (fun cdv A outer s H vs Q E hr h => ?_)
  · obtain ⟨n, rfl, _⟩ := h
    rfl
  · obtain ⟨n, rfl, k⟩ := h
    refine ⟨_, pss_one (ps_ret (pe_tup (pa_cons (pe_op op_mod (pe_op op_fdiv (pv 0) pe_int) pe_int) (pa_cons (pe_op op_mod (pv 0) pe_int) pa_nil)))), ?_⟩
    exact ⟨_, rfl, _, _, rfl, rfl, ⟨by decide, by decide⟩, _, _, rfl, rfl, (by show (0 : Int) < 256; decide), _, rfl, _, _, rfl, rfl, (by show (0 : Int) < 256; decide), by show 2 ≤ sizeLine; decide, fun p hp => k p hp⟩
theorem scOfPair : FnScope ["data", "place"] ["data", "place"] (defScope sOfPair) := ⟨rfl, rfl, rfl, by decide +kernel, rfl, by decide +kernel, by decide +kernel⟩
theorem at_map {xs : List Int} {k : Nat} {x : Int} (h : xs[k]? = some x) : atI (xs.map V.int) ((k : Nat) : Int) = some (.int x) := atI_nat (by rw [List.getElem?_map, h]; rfl)
theorem ok_ofpair {f : Addr} {fd : FuncData} (F : L2.Fun K "number_of_pair" "number_of_pair" sOfPair f fd) : FnOk P w K mg base L2.CX0 1 f fd ["data", "place"] (spOfPair K) := by
  refine F.ok scOfPair (fun vs H Q E h => ?_) (fun cdv A outer s H vs Q E hr h => ?_)
  · obtain ⟨a, xs, k, x, y, rfl, _⟩ := h
    rfl
  · obtain ⟨a, xs, k, x, y, rfl, ha, hx, hy, b1, b2, q⟩ := h
    refine ⟨_, pss_one (ps_ret (pe_op op_add (pe_op op_mul (pe_ix ix_tup (pv 0) (pv 1) (fun _ _ => rfl)) pe_int) (pe_ix ix_tup (pv 0) (pe_op op_add (pv 1) pe_int) (fun _ _ => rfl)))), ?_⟩
    have hy2 : atI (xs.map V.int) (((k : Nat) : Int) + 1) = some (.int y) := by
      have e : ((k : Nat) : Int) + 1 = ((k + 1 : Nat) : Int) := by omega
      rw [e]
      exact at_map hy
    exact ⟨_, rfl, _, rfl, a, _, _, _, rfl, rfl, ha, at_map hx, _, _, rfl, rfl, .inl ⟨b1, b2⟩, _, rfl, _, rfl, _, _, rfl, rfl, a, _, _, _, rfl, rfl, ha, hy2, _, _, rfl, rfl, q⟩
theorem scSum : FnScope ["numbers", "first", "second", "number"] ["numbers"] (defScope sSum) := ⟨rfl, rfl, rfl, by decide +kernel, rfl, by decide +kernel, by decide +kernel⟩
theorem ok_sum {f fP : Addr} {fd fdP : FuncData} (F : L2.Fun K "word_sum" "word_sum" sSum f fd) (T : JTxt K mg)
    (FP : FnOk P w K mg base L2.CX0 1 fP fdP ["number"] spPair) (mP : mg "pair" = some (.ref fP)) (kP : PySem.W.keepIn K (.ref fP) = true) (bP : Binds K fdP ["number"] []) :
    FnOk P w K mg base L2.CX0 2 f fd ["numbers"] (spSum K) := by
  obtain ⟨tb, mB⟩ := T.base
  refine F.ok scSum (fun vs H Q E h => ?_) (fun cdv A outer s H vs Q E hr h => ?_)
  · obtain ⟨a, l, rfl, _⟩ := h
    rfl
  · obtain ⟨a, l, rfl, ha, k⟩ := h
    refine ⟨_, pss_cons (ps_set (i := 1) scSum.nd rfl (Or.inl rfl) pe_int) (pss_cons (ps_set (i := 2) scSum.nd rfl (Or.inl rfl) pe_int)
      (pss_cons (ps_for PassesOwn.never rfl (pi_list (pv 0)) (pg_name (i := 3) scSum.nd rfl (Or.inl rfl))
        (pss_cons (ps_set (i := 1) scSum.nd rfl (Or.inl rfl) (pe_op op_mod (pe_op op_add (pv 1) (pv 3)) (pe_glob (v := .int 65521) rfl mB ⟨_, rfl⟩)))
        (pss_one (ps_set (i := 2) scSum.nd rfl (Or.inl rfl) (pe_op op_mod (pe_op op_add (pv 2) (pv 1)) (pe_glob (v := .int 65521) rfl mB ⟨_, rfl⟩))))))
      (pss_one (ps_ret (pe_op op_catT (pe_call FP hr (by rfl) mP kP bP .nil pass0 (pa_cons (pv 2) pa_nil)) (pe_call FP hr (by rfl) mP kP bP .nil pass0 (pa_cons (pv 1) pa_nil))))))), ?_⟩
    refine ⟨_, rfl, a, rfl, ⟨_, ha⟩, ?_⟩
    refine for_list (K := K) (a := a) (xs := l.map V.int) (fun i σ H' => H' = H ∧ ∃ v, σ = [some (.ref a), some (.int (sums (1, 0) (l.take i)).1), some (.int (sums (1, 0) (l.take i)).2), v]) ⟨rfl, _, rfl⟩ (fun i σ H' hi q => ?_) (fun i x σ H' hx q => ?_) (fun σ H' q => ?_)
    · obtain ⟨rfl, _⟩ := q
      exact ha
    · obtain ⟨rfl, v, rfl⟩ := q
      rw [List.getElem?_map] at hx
      obtain ⟨n, hn, rfl⟩ := Option.map_eq_some_iff.mp hx
      refine ⟨_, rfl, _, rfl, _, _, rfl, rfl, _, _, rfl, rfl, (by show (0 : Int) < 65521; decide), _, rfl, _, rfl, _, _, rfl, rfl, _, _, rfl, rfl, (by show (0 : Int) < 65521; decide), rfl, some (.int n), ?_⟩
      have e : l.take (i + 1) = l.take i ++ [n] := by rw [List.take_add_one, hn]; rfl
      rw [e, sums_snoc]
      rfl
    · obtain ⟨rfl, v, rfl⟩ := q
      rw [List.length_map, List.take_length]
      refine ⟨_, rfl, _, rfl, fun p hp => ⟨_, rfl, _, rfl, fun p2 hp2 => ?_⟩⟩
      have np : p ≠ p2 := ne_of_none upd_same hp2
      refine ⟨p, p2, _, _, rfl, rfl, SqT.of (by rw [upd_ne np]; exact upd_same), SqT.of upd_same, (fun z => by cases z), by show 4 ≤ sizeLine; decide, (fun z => by cases z), fun _ p3 hp3 => ?_⟩
      have s2 := (same_upd (o := tupI (pairI (sums (1, 0) l).2)) hp).trans (same_upd (o := tupI (pairI (sums (1, 0) l).1)) hp2)
      refine k _ p3 (s2.trans (same_upd hp3)) (s2.free hp3) ?_
      rw [upd_same]
      rfl
theorem scHeadRoom : FnScope ["block_size", "count"] ["block_size", "count"] (defScope sHeadRoom) := ⟨rfl, rfl, rfl, by decide +kernel, rfl, by decide +kernel, by decide +kernel⟩
theorem ok_headroom {f : Addr} {fd : FuncData} (F : L2.Fun K "head_room" "head_room" sHeadRoom f fd) (T : JTxt K mg) : FnOk P w K mg base L2.CX0 1 f fd ["block_size", "count"] spHeadRoom := by
  obtain ⟨t1, g1⟩ := T.hbase
  obtain ⟨t2, g2⟩ := T.ssize
  refine F.ok scHeadRoom (fun vs H Q E h => ?_) (fun cdv A outer s H vs Q E hr h => ?_)
  · rcases h with ⟨rfl, _⟩ | ⟨rfl, _⟩ <;> rfl
  · refine ⟨_, pss_one (ps_ret (pe_callB (call_max2 rfl) (by rfl) T.max (by decide +kernel) (pa_cons pe_int (pa_cons (pe_callB (call_min2 rfl) (by rfl) T.min (by decide +kernel) (pa_cons (pe_op op_sub (pv 1) pe_int)
      (pa_cons (pe_op op_fdiv (pe_op op_sub (pe_op op_sub (pe_op op_fdiv (pv 0) pe_int) (pe_glob (v := .int 6) rfl g1 ⟨_, rfl⟩)) (pe_glob (v := .int 4) rfl g2 ⟨_, rfl⟩)) pe_int) pa_nil))) pa_nil)))), ?_⟩
    rcases h with ⟨rfl, q⟩ | ⟨rfl, q⟩
    all_goals exact ⟨_, rfl, _, _, rfl, rfl, _, rfl, _, _, rfl, rfl, ⟨by decide, by decide⟩, _, _, rfl, rfl, _, _, rfl, rfl, _, _, rfl, rfl, ⟨by decide, by decide⟩, _, _, rfl, _, _, rfl, q⟩
theorem scGroup : FnScope ["head", "rows", "data", "row"] ["head", "rows"] (defScope sGroup) := ⟨rfl, rfl, rfl, by decide +kernel, rfl, by decide +kernel, by decide +kernel⟩
theorem flat_take {ps : List (Addr × List Int)} {i : Nat} {q : Addr × List Int} (h : ps[i]? = some q) : flat (ps.take (i + 1)) = flat (ps.take i) ++ q.2 := by
  unfold flat
  rw [List.take_add_one, h, List.flatMap_append]
  simp
theorem flat_take_le (ps : List (Addr × List Int)) (i : Nat) : (flat (ps.take i)).length ≤ (flat ps).length := by
  conv => rhs; rw [← List.take_append_drop i ps]
  unfold flat
  rw [List.flatMap_append, List.length_append]
  omega
theorem ok_group {f fS : Addr} {fd fdS : FuncData} (F : L2.Fun K "group_sum" "group_sum" sGroup f fd) (T : JTxt K mg)
    (FS : FnOk P w K mg base L2.CX0 2 fS fdS ["numbers"] (spSum K)) (mS : mg "word_sum" = some (.ref fS)) (kS : PySem.W.keepIn K (.ref fS) = true) (bS : Binds K fdS ["numbers"] []) :
    FnOk P w K mg base L2.CX0 3 f fd ["head", "rows"] (spGroup K) := by
  refine F.ok scGroup (fun vs H Q E h => ?_) (fun cdv A outer s H vs Q E hr h => ?_)
  · obtain ⟨a, r, l, ps, rfl, _⟩ := h
    rfl
  · obtain ⟨a, r, l, ps, rfl, ha, hr', hps, hl, k⟩ := h
    refine ⟨_, pss_cons (ps_set (i := 2) scGroup.nd rfl (Or.inl rfl) (pe_callTy call_list_of (by rfl) T.list PyProof.Rows.Boot.«list» (pa_cons (pv 0) pa_nil)))
      (pss_cons (ps_for PassesOwn.never rfl (pi_list (pv 1)) (pg_name (i := 3) scGroup.nd rfl (Or.inl rfl))
        (pss_one (ps_expr (pe_bm PySem.F.plainAttrs_list PySem.F.slot_list_extend PySem.F.type_list_extend mt_extendT (pv 2) (pa_cons (pv 3) pa_nil)))))
      (pss_one (ps_ret (pe_call FS hr (by rfl) mS kS bS .nil pass0 (pa_cons (pv 2) pa_nil))))), ?_⟩
    refine ⟨_, rfl, a, _, rfl, .inr ha, fun D nD => ?_⟩
    have sD : Same H (upd H D (.lst (l.map V.int))) := same_upd nD
    have nrD : r ≠ D := ne_of_none hr' nD
    refine ⟨_, rfl, r, rfl, ⟨_, SqL.of (sD _ _ hr')⟩, ?_⟩
    refine for_list (K := K) (a := r) (xs := ps.map fun q => V.ref q.1) (fun i σ H' => H' = upd H D (.lst ((l ++ flat (ps.take i)).map V.int)) ∧ ∃ v, σ = [some (.ref a), some (.ref r), some (.ref D), v])
      ⟨by simp [flat], none, rfl⟩ (fun i σ H' hi q => ?_) (fun i x σ H' hx q => ?_) (fun σ H' q => ?_)
    · obtain ⟨rfl, _⟩ := q
      exact SqL.of (by rw [upd_ne nrD]; exact hr')
    · obtain ⟨rfl, v, rfl⟩ := q
      rw [List.getElem?_map] at hx
      obtain ⟨q, hq, rfl⟩ := Option.map_eq_some_iff.mp hx
      have hm := hps q (List.mem_of_getElem? hq)
      have nqD : q.1 ≠ D := ne_of_none hm nD
      have l1 := flat_take_le ps (i + 1)
      rw [flat_take hq, List.length_append] at l1
      refine ⟨_, rfl, .inl ⟨rfl, _, SqL.of upd_same⟩, _, rfl, D, q.1, _, q.2.map V.int, rfl, rfl, upd_same, SqT.of (by rw [upd_ne nqD]; exact hm), ?_, ?_⟩
      · rw [List.length_map, List.length_map, List.length_append, sizeLine_eq]
        omega
      · refine ⟨?_, _, rfl⟩
        rw [upd_upd, flat_take hq, ← List.append_assoc, List.map_append (l₁ := l ++ flat (ps.take i))]
    · obtain ⟨rfl, v, rfl⟩ := q
      rw [List.length_map, List.take_length]
      have sD2 : Same H (upd H D (.lst ((l ++ flat ps).map V.int))) := same_upd nD
      exact ⟨_, rfl, D, l ++ flat ps, rfl, SqL.of upd_same, fun H' p s np hp => k H' p (sD2.trans s) (sD2.free np) hp⟩
end
end K03
namespace K03
open PySem L2 HK
section
variable {P : Program} {w : World} {K : PySem.W.Frag} {mg : Str → Option Value} {base : Heap}
theorem scStart : FnScope ["serial", "numbers", "head", "number"] ["serial", "numbers"] (defScope sStart) := ⟨rfl, rfl, rfl, by decide +kernel, rfl, by decide +kernel, by decide +kernel⟩
theorem flatp_take {ns : List Int} {i : Nat} {n : Int} (h : ns[i]? = some n) : (ns.take (i + 1)).flatMap pairI = (ns.take i).flatMap pairI ++ pairI n := by
  rw [List.take_add_one, h, List.flatMap_append]
  simp
theorem flatp_len (ns : List Int) : (ns.flatMap pairI).length = 2 * ns.length := by
  induction ns with
  | nil => rfl
  | cons n r ih => rw [List.flatMap_cons, List.length_append, ih]; show 2 + 2 * r.length = 2 * (r.length + 1); omega
theorem ok_startL {f fP : Addr} {fd fdP : FuncData} (F : L2.Fun K "head_start" "head_start" sStart f fd) (T : JTxt K mg)
    (FP : FnOk P w K mg base L2.CX0 1 fP fdP ["number"] spPair) (mP : mg "pair" = some (.ref fP)) (kP : PySem.W.keepIn K (.ref fP) = true) (bP : Binds K fdP ["number"] []) :
    FnOk P w K mg base L2.CX0 2 f fd ["serial", "numbers"] spStartL := by
  obtain ⟨a0, g0, h0⟩ := T.mark
  refine F.ok scStart (fun vs H Q E h => ?_) (fun cdv A outer st H vs Q E hr h => ?_)
  · obtain ⟨s, a, ns, rfl, _⟩ := h
    rfl
  · obtain ⟨s, a, ns, rfl, ha, hl, k⟩ := h
    refine ⟨_, pss_cons (ps_set (i := 2) scStart.nd rfl (Or.inl rfl) (pe_callTy call_list_of (by rfl) T.list PyProof.Rows.Boot.«list» (pa_cons (pe_op op_catT (pe_op op_catT (pe_glob (v := .ref a0) rfl g0 rfl) (pe_call FP hr (by rfl) mP kP bP .nil pass0 (pa_cons (pv 0) pa_nil)))
        (pe_call FP hr (by rfl) mP kP bP .nil pass0 (pa_cons (pe_callB call_len_seq (by rfl) T.len PySem.boot_len (pa_cons (pv 1) pa_nil)) pa_nil))) pa_nil)))
      (pss_cons (ps_for PassesOwn.never rfl (pi_list (pv 1)) (pg_name (i := 3) scStart.nd rfl (Or.inl rfl))
        (pss_one (ps_expr (pe_bm PySem.F.plainAttrs_list PySem.F.slot_list_extend PySem.F.type_list_extend mt_extendT (pv 2) (pa_cons (pe_call FP hr (by rfl) mP kP bP .nil pass0 (pa_cons (pv 3) pa_nil)) pa_nil)))))
      (pss_one (ps_ret (pe_callTy call_tuple_of (by rfl) T.tup PyProof.Rows.Boot.«tuple» (pa_cons (pv 2) pa_nil))))), ?_⟩
    refine ⟨_, rfl, s, rfl, fun p1 n1 => ?_⟩
    have s1 : Same H (upd H p1 (tupI (pairI s))) := same_upd n1
    refine ⟨a0, p1, _, _, rfl, rfl, h0 _, SqT.of upd_same, (fun z => by cases z), by show 4 ≤ sizeLine; decide, (fun z => by cases z), fun _ p3 n3 => ?_⟩
    have s3 := s1.trans (same_upd (o := .tup ([.int 74, .int 82] ++ (pairI s).map V.int)) n3)
    refine ⟨_, rfl, a, _, rfl, .inl (SqL.of (s3 _ _ ha)), ((ns.length : Nat) : Int), by rw [List.length_map]; rfl, fun p2 n2 => ?_⟩
    have n32 : p3 ≠ p2 := ne_of_none upd_same n2
    have s4 := s3.trans (same_upd (o := tupI (pairI (ns.length : Nat))) n2)
    refine ⟨p3, p2, _, _, rfl, rfl, SqT.of (by rw [upd_ne n32]; exact upd_same), SqT.of upd_same, (fun z => by cases z), by show 6 ≤ sizeLine; decide, (fun z => by cases z), fun _ p4 n4 => ⟨p4, _, rfl, .inr (SqT.of upd_same), fun D nD => ?_⟩⟩
    have s5 := s4.trans (same_upd (o := .tup ([.int 74, .int 82] ++ (pairI s).map V.int ++ (pairI (ns.length : Nat)).map V.int)) n4)
    have hD : (upd (upd (upd (upd (upd H p1 (tupI (pairI s))) p3 (.tup ([.int 74, .int 82] ++ (pairI s).map V.int))) p2 (tupI (pairI (ns.length : Nat)))) p4 (.tup ([.int 74, .int 82] ++ (pairI s).map V.int ++ (pairI (ns.length : Nat)).map V.int))) D (.lst ([.int 74, .int 82] ++ (pairI s).map V.int ++ (pairI (ns.length : Nat)).map V.int))) D = some (.lst (([74, 82] ++ pairI s ++ pairI (ns.length : Nat)).map V.int)) := by
      rw [upd_same, List.map_append, List.map_append]
      rfl
    have nD0 : H D = none := s5.free nD
    have s6 := s5.trans (same_upd (o := .lst ([.int 74, .int 82] ++ (pairI s).map V.int ++ (pairI (ns.length : Nat)).map V.int)) nD)
    generalize upd (upd (upd (upd (upd H p1 (tupI (pairI s))) p3 (.tup ([.int 74, .int 82] ++ (pairI s).map V.int))) p2 (tupI (pairI (ns.length : Nat)))) p4 (.tup ([.int 74, .int 82] ++ (pairI s).map V.int ++ (pairI (ns.length : Nat)).map V.int))) D (.lst ([.int 74, .int 82] ++ (pairI s).map V.int ++ (pairI (ns.length : Nat)).map V.int)) = H6 at hD s6 ⊢
    refine ⟨_, rfl, a, rfl, ⟨_, SqL.of (s6 _ _ ha)⟩, ?_⟩
    refine for_list (K := K) (a := a) (xs := ns.map V.int) (fun i σ H' => Same H H' ∧ H' D = some (.lst (([74, 82] ++ pairI s ++ pairI (ns.length : Nat) ++ (ns.take i).flatMap pairI).map V.int)) ∧ ∃ v, σ = [some (.int s), some (.ref a), some (.ref D), v])
      ⟨s6, by rw [hD]; simp, none, rfl⟩ (fun i σ H' hi q => SqL.of (q.1 _ _ ha)) (fun i x σ H' hx q => ?_) (fun σ H' q => ?_)
    · obtain ⟨sm, hD', v, rfl⟩ := q
      rw [List.getElem?_map] at hx
      obtain ⟨n, hn, rfl⟩ := Option.map_eq_some_iff.mp hx
      refine ⟨_, rfl, .inl ⟨rfl, _, SqL.of hD'⟩, _, rfl, n, rfl, fun q nq => ?_⟩
      have nDq : D ≠ q := ne_of_none hD' nq
      have hlt : i < ns.length := (List.getElem?_eq_some_iff.mp hn).1
      refine ⟨D, q, _, (pairI n).map V.int, rfl, rfl, by rw [upd_ne nDq]; exact hD', SqT.of upd_same, ?_, ?_⟩
      · have z := flatp_len (ns.take i)
        rw [List.length_take] at z
        simp only [List.length_map, List.length_append, z]
        show 2 + 2 + 2 + _ + 2 ≤ sizeLine
        rw [sizeLine_eq]
        omega
      · refine ⟨fun b o e => ?_, ?_, _, rfl⟩
        · have e2 := sm b o e
          rw [upd_ne (ne_of_none e nD0), upd_ne (ne_of_none e2 nq)]
          exact e2
        · rw [upd_same, flatp_take hn, ← List.append_assoc, List.map_append (l₂ := pairI n)]
    · obtain ⟨sm, hD', v, rfl⟩ := q
      rw [List.length_map, List.take_length] at hD'
      refine ⟨_, rfl, D, _, rfl, .inl ⟨SqL.of hD', fun q nq => ?_⟩⟩
      refine k _ q (sm.trans (same_upd nq)) (sm.free nq) ?_
      rw [upd_same]
      rfl
theorem ok_startT {f fP : Addr} {fd fdP : FuncData} (F : L2.Fun K "head_start" "head_start" sStart f fd) (T : JTxt K mg)
    (FP : FnOk P w K mg base L2.CX0 1 fP fdP ["number"] spPair) (mP : mg "pair" = some (.ref fP)) (kP : PySem.W.keepIn K (.ref fP) = true) (bP : Binds K fdP ["number"] []) :
    FnOk P w K mg base L2.CX0 2 f fd ["serial", "numbers"] (spStartT K) := by
  obtain ⟨a0, g0, h0⟩ := T.mark
  refine F.ok scStart (fun vs H Q E h => ?_) (fun cdv A outer st H vs Q E hr h => ?_)
  · obtain ⟨s, a, ns, rfl, _⟩ := h
    rfl
  · obtain ⟨s, a, ns, rfl, ha, hl, k⟩ := h
    refine ⟨_, pss_cons (ps_set (i := 2) scStart.nd rfl (Or.inl rfl) (pe_callTy call_list_of (by rfl) T.list PyProof.Rows.Boot.«list» (pa_cons (pe_op op_catT (pe_op op_catT (pe_glob (v := .ref a0) rfl g0 rfl) (pe_call FP hr (by rfl) mP kP bP .nil pass0 (pa_cons (pv 0) pa_nil)))
        (pe_call FP hr (by rfl) mP kP bP .nil pass0 (pa_cons (pe_callB call_len_seq (by rfl) T.len PySem.boot_len (pa_cons (pv 1) pa_nil)) pa_nil))) pa_nil)))
      (pss_cons (ps_for PassesOwn.never rfl (pi_tup (pv 1)) (pg_name (i := 3) scStart.nd rfl (Or.inl rfl))
        (pss_one (ps_expr (pe_bm PySem.F.plainAttrs_list PySem.F.slot_list_extend PySem.F.type_list_extend mt_extendT (pv 2) (pa_cons (pe_call FP hr (by rfl) mP kP bP .nil pass0 (pa_cons (pv 3) pa_nil)) pa_nil)))))
      (pss_one (ps_ret (pe_callTy call_tuple_of (by rfl) T.tup PyProof.Rows.Boot.«tuple» (pa_cons (pv 2) pa_nil))))), ?_⟩
    refine ⟨_, rfl, s, rfl, fun p1 n1 => ?_⟩
    have s1 : Same H (upd H p1 (tupI (pairI s))) := same_upd n1
    refine ⟨a0, p1, _, _, rfl, rfl, h0 _, SqT.of upd_same, (fun z => by cases z), by show 4 ≤ sizeLine; decide, (fun z => by cases z), fun _ p3 n3 => ?_⟩
    have s3 := s1.trans (same_upd (o := .tup ([.int 74, .int 82] ++ (pairI s).map V.int)) n3)
    refine ⟨_, rfl, a, _, rfl, .inr (sqT_same s3 ha), ((ns.length : Nat) : Int), by rw [List.length_map]; rfl, fun p2 n2 => ?_⟩
    have n32 : p3 ≠ p2 := ne_of_none upd_same n2
    have s4 := s3.trans (same_upd (o := tupI (pairI (ns.length : Nat))) n2)
    refine ⟨p3, p2, _, _, rfl, rfl, SqT.of (by rw [upd_ne n32]; exact upd_same), SqT.of upd_same, (fun z => by cases z), by show 6 ≤ sizeLine; decide, (fun z => by cases z), fun _ p4 n4 => ⟨p4, _, rfl, .inr (SqT.of upd_same), fun D nD => ?_⟩⟩
    have s5 := s4.trans (same_upd (o := .tup ([.int 74, .int 82] ++ (pairI s).map V.int ++ (pairI (ns.length : Nat)).map V.int)) n4)
    have hD : (upd (upd (upd (upd (upd H p1 (tupI (pairI s))) p3 (.tup ([.int 74, .int 82] ++ (pairI s).map V.int))) p2 (tupI (pairI (ns.length : Nat)))) p4 (.tup ([.int 74, .int 82] ++ (pairI s).map V.int ++ (pairI (ns.length : Nat)).map V.int))) D (.lst ([.int 74, .int 82] ++ (pairI s).map V.int ++ (pairI (ns.length : Nat)).map V.int))) D = some (.lst (([74, 82] ++ pairI s ++ pairI (ns.length : Nat)).map V.int)) := by
      rw [upd_same, List.map_append, List.map_append]
      rfl
    have nD0 : H D = none := s5.free nD
    have s6 := s5.trans (same_upd (o := .lst ([.int 74, .int 82] ++ (pairI s).map V.int ++ (pairI (ns.length : Nat)).map V.int)) nD)
    generalize upd (upd (upd (upd (upd H p1 (tupI (pairI s))) p3 (.tup ([.int 74, .int 82] ++ (pairI s).map V.int))) p2 (tupI (pairI (ns.length : Nat)))) p4 (.tup ([.int 74, .int 82] ++ (pairI s).map V.int ++ (pairI (ns.length : Nat)).map V.int))) D (.lst ([.int 74, .int 82] ++ (pairI s).map V.int ++ (pairI (ns.length : Nat)).map V.int)) = H6 at hD s6 ⊢
    refine ⟨_, rfl, a, rfl, ⟨_, sqT_same s6 ha⟩, ?_⟩
    refine for_tup (K := K) (a := a) (xs := ns.map V.int) (fun i σ H' => Same H H' ∧ H' D = some (.lst (([74, 82] ++ pairI s ++ pairI (ns.length : Nat) ++ (ns.take i).flatMap pairI).map V.int)) ∧ ∃ v, σ = [some (.int s), some (.ref a), some (.ref D), v])
      ⟨s6, by rw [hD]; simp, none, rfl⟩ (fun i σ H' hi q => sqT_same q.1 ha) (fun i x σ H' hx q => ?_) (fun σ H' q => ?_)
    · obtain ⟨sm, hD', v, rfl⟩ := q
      rw [List.getElem?_map] at hx
      obtain ⟨n, hn, rfl⟩ := Option.map_eq_some_iff.mp hx
      refine ⟨_, rfl, .inl ⟨rfl, _, SqL.of hD'⟩, _, rfl, n, rfl, fun q nq => ?_⟩
      have nDq : D ≠ q := ne_of_none hD' nq
      have hlt : i < ns.length := (List.getElem?_eq_some_iff.mp hn).1
      refine ⟨D, q, _, (pairI n).map V.int, rfl, rfl, by rw [upd_ne nDq]; exact hD', SqT.of upd_same, ?_, ?_⟩
      · have z := flatp_len (ns.take i)
        rw [List.length_take] at z
        simp only [List.length_map, List.length_append, z]
        show 2 + 2 + 2 + _ + 2 ≤ sizeLine
        rw [sizeLine_eq]
        omega
      · refine ⟨fun b o e => ?_, ?_, _, rfl⟩
        · have e2 := sm b o e
          rw [upd_ne (ne_of_none e nD0), upd_ne (ne_of_none e2 nq)]
          exact e2
        · rw [upd_same, flatp_take hn, ← List.append_assoc, List.map_append (l₂ := pairI n)]
    · obtain ⟨sm, hD', v, rfl⟩ := q
      rw [List.length_map, List.take_length] at hD'
      refine ⟨_, rfl, D, _, rfl, .inl ⟨SqL.of hD', fun q nq => ?_⟩⟩
      refine k _ q (sm.trans (same_upd nq)) (sm.free nq) ?_
      rw [upd_same]
      rfl
theorem scHead : FnScope ["serial", "numbers", "rows", "block_size", "start", "head"] ["serial", "numbers", "rows", "block_size"] (defScope sHead) := ⟨rfl, rfl, rfl, by decide +kernel, rfl, by decide +kernel, by decide +kernel⟩
theorem sumI_len (l : List Int) : (sumI l).length = 4 := rfl
theorem ok_head {f fS fG : Addr} {fd fdS fdG : FuncData} (F : L2.Fun K "head_of" "head_of" sHead f fd) (T : JTxt K mg)
    (FS : FnOk P w K mg base L2.CX0 2 fS fdS ["serial", "numbers"] spStartL) (mS : mg "head_start" = some (.ref fS)) (kS : PySem.W.keepIn K (.ref fS) = true) (bS : Binds K fdS ["serial", "numbers"] [])
    (FG : FnOk P w K mg base L2.CX0 3 fG fdG ["head", "rows"] (spGroup K)) (mG : mg "group_sum" = some (.ref fG)) (kG : PySem.W.keepIn K (.ref fG) = true) (bG : Binds K fdG ["head", "rows"] []) :
    FnOk P w K mg base L2.CX0 4 f fd ["serial", "numbers", "rows", "block_size"] spHead := by
  refine F.ok scHead (fun vs H Q E h => ?_) (fun cdv A outer st H vs Q E hr h => ?_)
  · obtain ⟨s, a, r, ns, ps, rfl, _⟩ := h
    rfl
  · obtain ⟨s, a, r, ns, ps, rfl, ha, hn, hr', hps, hl, k⟩ := h
    refine ⟨_, pss_cons (ps_set (i := 4) scHead.nd rfl (Or.inl rfl) (pe_call FS (hr.mono (by decide)) (by rfl) mS kS bS .nil pass0 (pa_cons (pv 0) (pa_cons (pv 1) pa_nil))))
      (pss_cons (ps_set (i := 5) scHead.nd rfl (Or.inl rfl) (pe_op op_catT (pv 4) (pe_call FG hr (by rfl) mG kG bG .nil pass0 (pa_cons (pv 4) (pa_cons (pv 2) pa_nil)))))
      (pss_one (ps_ret (pe_op op_catT (pv 5) (pe_op op_repT (pe_tup (pa_cons pe_int pa_nil)) (pe_op op_sub (pv 3) (pe_callB call_len_seq (by rfl) T.len PySem.boot_len (pa_cons (pv 5) pa_nil)))))))), ?_⟩
    refine ⟨_, rfl, _, rfl, s, a, ns, rfl, ha, by omega, fun H1 p1 s1 n1 h1 => ?_⟩
    have l1 := startI_len s ns
    refine ⟨_, rfl, _, rfl, _, rfl, p1, r, startI s ns, ps, rfl, SqT.of h1, s1 _ _ hr', fun q hq => s1 _ _ (hps q hq), by omega, fun H2 p2 s2 n2 h2 => ?_⟩
    have ne1 : (startI s ns).map V.int ≠ [] := fun z => by cases z
    refine ⟨p1, p2, _, _, rfl, rfl, SqT.of (s2 _ _ h1), SqT.of h2, ne1, by rw [List.length_map, List.length_map, sumI_len, sizeLine_eq]; omega, (fun z => by cases z), fun _ p3 n3 => ?_⟩
    have s3 : Same H2 (upd H2 p3 (.tup ((startI s ns).map V.int ++ (sumI (startI s ns ++ flat ps)).map V.int))) := same_upd n3
    have h3 : (upd H2 p3 (.tup ((startI s ns).map V.int ++ (sumI (startI s ns ++ flat ps)).map V.int))) p3 = some (.tup ((startI s ns).map V.int ++ (sumI (startI s ns ++ flat ps)).map V.int)) := upd_same
    generalize upd H2 p3 (.tup ((startI s ns).map V.int ++ (sumI (startI s ns ++ flat ps)).map V.int)) = H3 at s3 h3 ⊢
    refine ⟨_, rfl, by show 1 ≤ sizeLine; decide, fun t nt => ?_⟩
    have s4 : Same H3 (upd H3 t (.tup [.int 0])) := same_upd nt
    have e10 : ((startI s ns).map V.int ++ (sumI (startI s ns ++ flat ps)).map V.int).length = 10 + 2 * ns.length := by rw [List.length_append, List.length_map, List.length_map, sumI_len]; omega
    refine ⟨_, rfl, _, rfl, p3, _, rfl, .inr (SqT.of (s4 _ _ h3)), _, _, rfl, rfl, t, _, [.int 0], rfl, rfl, SqT.of upd_same, (fun z => by cases z), by rw [e10]; omega, by rw [e10]; omega, by decide, fun z nz => ?_⟩
    have s5 := s4.trans (same_upd (o := .tup (List.replicate ((64 : Int) - ((((startI s ns).map V.int ++ (sumI (startI s ns ++ flat ps)).map V.int).length : Nat) : Int)).toNat [V.int 0]).flatten) nz)
    refine ⟨p3, z, _, _, rfl, rfl, SqT.of (s5 _ _ h3), SqT.of upd_same, (fun z => by rw [List.append_eq_nil_iff] at z; exact ne1 z.1), ?_, fun z => ?_, fun _ p5 n5 => ?_⟩
    · have e := flat_zeros ((64 : Int) - ((((startI s ns).map V.int ++ (sumI (startI s ns ++ flat ps)).map V.int).length : Nat) : Int))
      rw [e, e10]
      unfold zeros
      rw [List.length_replicate, sizeLine_eq]
      omega
    · exfalso
      have e := flat_zeros ((64 : Int) - ((((startI s ns).map V.int ++ (sumI (startI s ns ++ flat ps)).map V.int).length : Nat) : Int))
      rw [e, e10] at z
      have := congrArg List.length z
      unfold zeros at this
      rw [List.length_replicate] at this
      simp at this
      omega
    · refine k _ p5 ((((s1.trans s2).trans s3).trans s5).trans (same_upd n5)) ((((s1.trans s2).trans s3).trans s5).free n5) ?_
      rw [upd_same, flat_zeros, e10]
      unfold headI tupI zeros
      rw [List.map_append, List.map_append, List.map_replicate]
      have en : ((64 : Int) - ((10 + 2 * ns.length : Nat) : Int)).toNat = 54 - 2 * ns.length := by omega
      rw [en]
end
end K03
namespace K03
open PySem L2 HK
theorem rg2 : ∀ k : Fin 12, RgC 6 (6 + 2 * (k.val : Int)) 2 k.val := by
  unfold RgC
  decide +kernel
theorem flatp_at : ∀ {ns : List Int} {i : Nat} {n : Int}, ns[i]? = some n → (ns.flatMap pairI)[2 * i]? = some (n / 256 % 256) ∧ (ns.flatMap pairI)[2 * i + 1]? = some (n % 256)
  | [], i, n, h => by cases h
  | m :: r, 0, n, h => by
    obtain rfl := Option.some.inj h
    exact ⟨rfl, rfl⟩
  | m :: r, i + 1, n, h => by
    have z := flatp_at (ns := r) (i := i) (n := n) h
    rw [List.flatMap_cons]
    constructor
    · rw [List.getElem?_append_right (by show 2 ≤ 2 * (i + 1); omega), show 2 * (i + 1) - (pairI m).length = 2 * i by show 2 * (i + 1) - 2 = 2 * i; omega]
      exact z.1
    · rw [List.getElem?_append_right (by show 2 ≤ 2 * (i + 1) + 1; omega), show 2 * (i + 1) + 1 - (pairI m).length = 2 * i + 1 by show 2 * (i + 1) + 1 - 2 = 2 * i + 1; omega]
      exact z.2
theorem headI_at {s : Int} {ns sm : List Int} {i : Nat} {n : Int} (h : ns[i]? = some n) : (headI s ns sm)[6 + 2 * i]? = some (n / 256 % 256) ∧ (headI s ns sm)[6 + 2 * i + 1]? = some (n % 256) := by
  have hi : i < ns.length := (List.getElem?_eq_some_iff.mp h).1
  obtain ⟨h1, h2⟩ := flatp_at h
  have l := flatp_len ns
  have ls := startI_len s ns
  have six : ([74, 82] ++ pairI s ++ pairI (ns.length : Nat)).length = 6 := rfl
  unfold headI
  constructor
  · rw [List.append_assoc, List.getElem?_append_left (by omega)]
    unfold startI
    rw [List.getElem?_append_right (by rw [six]; omega), six, show 6 + 2 * i - 6 = 2 * i by omega]
    exact h1
  · rw [List.append_assoc, List.getElem?_append_left (by omega)]
    unfold startI
    rw [List.getElem?_append_right (by rw [six]; omega), six, show 6 + 2 * i + 1 - 6 = 2 * i + 1 by omega]
    exact h2
theorem headI_rest {s : Int} {ns sm : List Int} (h : sm.length = 4) : (headI s ns sm).drop (10 + 2 * ns.length) = List.replicate (54 - 2 * ns.length) 0 := by
  unfold headI
  rw [List.drop_left' (by rw [List.length_append, startI_len, h]; omega)]
theorem headI_sum {s : Int} {ns sm : List Int} (h : sm.length = 4) : ((headI s ns sm).drop (6 + 2 * ns.length)).take 4 = sm := by
  unfold headI
  rw [List.append_assoc, List.drop_left' (startI_len s ns), List.take_left' h]
theorem pair_back {n : Int} (h0 : 0 ≤ n) (h1 : n < 65536) : n / 256 % 256 * 256 + n % 256 = n := by omega
section
variable {P : Program} {w : World} {K : PySem.W.Frag} {mg : Str → Option Value} {base : Heap}
theorem tC_mk {v : V} {σ : L2.St} {H : Hp} {Q : VK} (h : Q v H) : tC v σ H Q := h
theorem addC {i j k : Int} {σ : L2.St} {H : Hp} {Q : VK} (e : i + j = k) (q : Q (.int k) H) : tC (.int j) σ H (fun y H2 => rI0 (fun i j => V.int (i + j)) (.int i) y H2 Q) := add_read e q
theorem scReadHead : FnScope ["data", "place", "numbers", "at"] ["data"] (defScope sReadHead) := ⟨rfl, rfl, rfl, by decide +kernel, rfl, by decide +kernel, by decide +kernel⟩
theorem ok_readhead {f fO : Addr} {fd fdO : FuncData} (F : L2.Fun K "read_head" "read_head" sReadHead f fd) (T : JTxt K mg)
    (FO : FnOk P w K mg base L2.CX0 1 fO fdO ["data", "place"] (spOfPair K)) (mO : mg "number_of_pair" = some (.ref fO)) (kO : PySem.W.keepIn K (.ref fO) = true) (bO : Binds K fdO ["data", "place"] []) :
    FnOk P w K mg base L2.CX0 2 f fd ["data"] (spReadHead K) := by
  obtain ⟨a0, g0, h0⟩ := T.mark
  obtain ⟨t1, g1⟩ := T.hbase
  obtain ⟨t2, g2⟩ := T.ssize
  refine F.ok scReadHead (fun vs H Q E h => ?_) (fun cdv A outer st H vs Q E hr h => ?_)
  · obtain ⟨a, xs, rfl, _⟩ := h
    rfl
  · obtain ⟨a, xs, rfl, ha, h⟩ := h
    refine ⟨_, pss_cons (ps_if (PW.pt (pw_or (pt_cmpR (op_neD hr.units) (pe_callTy call_tuple_of (by rfl) T.tup PyProof.Rows.Boot.«tuple» (pa_cons (pe_slice sl_tup (pv 0) po_none (po_some pe_int)) pa_nil)) (pe_glob (v := .ref a0) rfl g0 rfl) (nomark _))
        (pw_or1 (pt_cmpR op_lt (pe_callB call_len_seq (by rfl) T.len PySem.boot_len (pa_cons (pv 0) pa_nil)) (pe_op op_add (pe_glob (v := .int 6) rfl g1 ⟨_, rfl⟩) (pe_glob (v := .int 4) rfl g2 ⟨_, rfl⟩)) (nomark _))))) (pss_one (ps_ret pe_non)) pss_nil)
      (pss_cons (ps_set (i := 1) scReadHead.nd rfl (Or.inl rfl) (pe_op op_add (pe_glob (v := .int 6) rfl g1 ⟨_, rfl⟩) (pe_op op_mul pe_int (pe_call FO hr (by rfl) mO kO bO .nil pass0 (pa_cons (pv 0) (pa_cons pe_int pa_nil))))))
      (pss_cons (ps_if (PW.pt (pw_or (pt_cmpR op_gt (pe_op op_add (pv 1) (pe_glob (v := .int 4) rfl g2 ⟨_, rfl⟩)) (pe_callB call_len_seq (by rfl) T.len PySem.boot_len (pa_cons (pv 0) pa_nil)) (nomark _))
        (pw_or1 (pt_val (pe_callB (call_anyT rfl) (by rfl) T.any (by decide +kernel) (pa_cons (pe_slice sl_tup (pv 0) (po_some (pe_op op_add (pv 1) (pe_glob (v := .int 4) rfl g2 ⟨_, rfl⟩))) po_none) pa_nil)))))) (pss_one (ps_ret pe_non)) pss_nil)
      (pss_cons (ps_set (i := 2) scReadHead.nd rfl (Or.inl rfl) (pe_callTy call_tuple_of (by rfl) T.tup PyProof.Rows.Boot.«tuple» (pa_cons (pe_lc (own := [("at", 3)]) (g := gName 3) (by rfl) scReadHead.nd (pi_range3 (by rfl) T.range (pa_cons (pe_glob (v := .int 6) rfl g1 ⟨_, rfl⟩) (pa_cons (pv 1) (pa_cons pe_int pa_nil))))
          (blkOk_by (N := ["data", "place", "numbers", "at"]) (sc := defScope sReadHead) (by decide +kernel)) (fun _ _ _ _ _ => pg_name (i := 3) scReadHead.nd rfl (Or.inl rfl)) (fun _ _ _ _ _ => pts_nil)
          (fun _ _ _ _ _ => pe_call FO hr (by rfl) mO kO bO .nil pass0 (pa_cons (pv 0) (pa_cons (pv 3) pa_nil)))) pa_nil)))
      (pss_one (ps_ret (pe_tup (pa_cons (pe_call FO hr (by rfl) mO kO bO .nil pass0 (pa_cons (pv 0) (pa_cons pe_int pa_nil))) (pa_cons (pv 2) (pa_cons (pe_callTy call_tuple_of (by rfl) T.tup PyProof.Rows.Boot.«tuple»
          (pa_cons (pe_slice sl_tup (pv 0) (po_some (pv 1)) (po_some (pe_op op_add (pv 1) (pe_glob (v := .int 4) rfl g2 ⟨_, rfl⟩)))) pa_nil)) pa_nil))))))))), ?_⟩
    rcases h with ⟨rfl, k⟩ | ⟨s, ns, sm, rfl, hsm, hns, s0, s1, hn, k⟩
    · refine ⟨_, rfl, _, rfl, a, _, rfl, ha, by decide, fun p1 n1 => ?_⟩
      refine ⟨p1, _, rfl, .inr ⟨SqT.of upd_same, ?_⟩⟩
      have e1 : cutV ((List.replicate 64 (0 : Int)).map V.int) none (some 2) = [0, 0].map V.int := by decide
      refine tC_mk ?_
      refine ne_tupI (xs := [0, 0]) (ys := [74, 82]) (SqT.of (by rw [upd_same]; exact congrArg (fun l => some (HO.tup l)) e1)) (h0 _) ⟨_, rfl, iteT (iteT (k _ (same_upd n1)))⟩
    · have hlen := headI_len (s := s) hsm (show ns.length ≤ 27 by omega)
      have lm : ((headI s ns sm).map V.int).length = 64 := by rw [List.length_map, hlen]
      refine ⟨_, rfl, _, rfl, a, _, rfl, ha, ?_, fun p1 n1 => ?_⟩
      · rw [lm]
        decide
      have e1 : cutV ((headI s ns sm).map V.int) none (some 2) = [74, 82].map V.int := by
        have z := cut_take (x := headI s ns sm) (h := 2) (by omega)
        exact z
      rw [e1]
      have sm1 : Same H (upd H p1 (.tup ([74, 82].map V.int))) := same_upd n1
      refine ⟨p1, _, rfl, .inr ⟨SqT.of upd_same, ?_⟩⟩
      refine tC_mk ?_
      refine ne_tupI (xs := [74, 82]) (ys := [74, 82]) (SqT.of upd_same) (h0 _) ⟨_, rfl, iteF ?_⟩
      have ha1 := sqT_same sm1 ha
      refine ⟨_, rfl, a, _, rfl, .inr ha1, _, _, rfl, rfl, _, _, rfl, rfl, _, rfl, iteDN (by rw [lm]; decide) ?_⟩
      -- place
      have x4 : (headI s ns sm)[4]? = some (((ns.length : Nat) : Int) / 256 % 256) := rfl
      have x5 : (headI s ns sm)[4 + 1]? = some (((ns.length : Nat) : Int) % 256) := rfl
      refine ⟨_, rfl, a, headI s ns sm, 4, _, _, rfl, ha1, x4, x5, by omega, by omega, ?_⟩
      rw [pair_back (n := ((ns.length : Nat) : Int)) (by omega) (by omega)]
      refine mul_read (k := ((2 * ns.length : Nat) : Int)) ⟨by decide, by decide⟩ (by omega) (add_read (k := ((6 + 2 * ns.length : Nat) : Int)) (by omega) ?_)
      -- the rest is zeros
      refine ⟨_, rfl, addC (k := ((10 + 2 * ns.length : Nat) : Int)) (by omega) ⟨_, rfl, a, _, rfl, .inr ha1, _, _, rfl, rfl, _, rfl, iteDN (by rw [lm]; omega) ?_⟩⟩
      refine ⟨_, rfl, _, rfl, addC (k := ((10 + 2 * ns.length : Nat) : Int)) (by omega) ⟨_, rfl, a, _, rfl, ha1, ?_, fun p2 n2 => ?_⟩⟩
      · rw [HT.sIx_nat, lm]
        rintro ⟨z, _⟩
        have : min (10 + 2 * ns.length) 64 = 0 := z
        omega
      rw [cut_drop (x := headI s ns sm) (h := 10 + 2 * ns.length) (by omega), headI_rest hsm]
      have sm2 := sm1.trans (same_upd (o := .tup ((List.replicate (54 - 2 * ns.length) (0 : Int)).map V.int)) n2)
      refine ⟨p2, List.replicate (54 - 2 * ns.length) 0, rfl, SqT.of upd_same, _, rfl, ?_⟩
      have ean : (List.replicate (54 - 2 * ns.length) (0 : Int)).any (fun n => n != 0) = false := by
        rw [List.any_eq_false]
        intro x hx
        rw [(List.mem_replicate.mp hx).2]
        decide
      rw [ean]
      refine iteF ?_
      -- numbers
      generalize upd (upd H p1 (.tup ([74, 82].map V.int))) p2 (.tup ((List.replicate (54 - 2 * ns.length) (0 : Int)).map V.int)) = H2 at sm2 ⊢
      have ha2 := sqT_same sm2 ha
      refine ⟨_, rfl, 6, ((6 + 2 * ns.length : Nat) : Int), 2, ns.length, rfl, ?_, fun D nD => ?_⟩
      · have z := rg2 ⟨ns.length, by omega⟩
        have e : ((6 + 2 * ns.length : Nat) : Int) = 6 + 2 * (((⟨ns.length, by omega⟩ : Fin 12).val : Nat) : Int) := by
          show ((6 + 2 * ns.length : Nat) : Int) = 6 + 2 * ((ns.length : Nat) : Int)
          omega
        rw [e]
        exact z
      refine lc_it (walk_rangeC (lo := 6) (c := 2) (n := ns.length)) (fun i H' => H' = upd H2 D (.lst ((ns.take i).map V.int))) rfl (fun _ _ _ _ => trivial) (fun i x H' H'' hi q y => ?_) (fun H' q => ?_)
      · subst q
        obtain ⟨rfl, rfl⟩ := y
        obtain ⟨n, hni⟩ : ∃ n, ns[i]? = some n := ⟨_, List.getElem?_eq_getElem hi⟩
        obtain ⟨h6, h7⟩ := headI_at (s := s) (sm := sm) hni
        have hn' := hn n (List.mem_of_getElem? hni)
        have sD : Same H2 (upd H2 D (.lst ((ns.take i).map V.int))) := same_upd nD
        refine ⟨rfl, _, rfl, _, rfl, a, headI s ns sm, 6 + 2 * i, _, _, ?_, sqT_same sD ha2, h6, h7, by omega, by omega, ?_⟩
        · rw [show ((6 + 2 * i : Nat) : Int) = 6 + (i : Int) * 2 by omega]
          rfl
        · rw [pair_back hn'.1 hn'.2]
          refine ⟨_, upd_same, by rw [List.length_map, List.length_take]; exact small1000 (by omega), ?_⟩
          rw [upd_upd, take_map_succ _ hni]
      · subst q
        rw [List.take_length]
        refine ⟨D, _, rfl, .inl ⟨SqL.of upd_same, fun a1 n1' => ?_⟩⟩
        have sm3 := (sm2.trans (same_upd (o := .lst (ns.map V.int)) nD)).trans (same_upd (o := .tup (ns.map V.int)) n1')
        have ha3 := sqT_same sm3 ha
        have h1 : (upd (upd H2 D (.lst (ns.map V.int))) a1 (.tup (ns.map V.int))) a1 = some (tupI ns) := upd_same
        generalize upd (upd H2 D (.lst (ns.map V.int))) a1 (.tup (ns.map V.int)) = H3 at sm3 ha3 h1 ⊢
        have x2 : (headI s ns sm)[2]? = some (s / 256 % 256) := rfl
        have x3 : (headI s ns sm)[2 + 1]? = some (s % 256) := rfl
        refine ⟨_, rfl, a, headI s ns sm, 2, _, _, rfl, ha3, x2, x3, by omega, by omega, ?_⟩
        rw [pair_back s0 s1]
        refine ⟨_, rfl, _, rfl, _, rfl, _, rfl, _, rfl, addC (k := ((10 + 2 * ns.length : Nat) : Int)) (by omega) ⟨_, rfl, a, _, rfl, ha3, ?_, fun p4 n4 => ?_⟩⟩
        · rw [HT.sIx_nat, lm]
          rintro ⟨z, _⟩
          have : min (6 + 2 * ns.length) 64 = 0 := z
          omega
        have ec : cutV ((headI s ns sm).map V.int) (some ((6 + 2 * ns.length : Nat) : Int)) (some ((10 + 2 * ns.length : Nat) : Int)) = sm.map V.int := by
          unfold cutV
          rw [HT.sIx_nat, HT.sIx_nat, lm, Nat.min_eq_left (by omega), Nat.min_eq_left (by omega), ← List.map_drop, ← List.map_take, show 10 + 2 * ns.length - (6 + 2 * ns.length) = 4 by omega, headI_sum hsm]
        rw [ec]
        have sm4 : Same H3 (upd H3 p4 (.tup (sm.map V.int))) := same_upd n4
        refine ⟨p4, _, rfl, .inr ⟨SqT.of upd_same, by show 3 ≤ sizeLine; decide, fun p5 n5 => ?_⟩⟩
        have sm5 := sm4.trans (same_upd (o := .tup [.int s, .ref a1, .ref p4]) n5)
        exact k _ p5 a1 p4 (sm3.trans sm5) ((sm3.trans sm4).free n5) upd_same (sm5 _ _ h1) ((same_upd (o := .tup [.int s, .ref a1, .ref p4]) n5) _ _ upd_same)
end
end K03
namespace K03
open PySem L2 HK
/-! ### made, armed, found again -/
def AD.new : AD := ⟨.non, false, 0, fun _ => List.replicate 64 0, []⟩
def AD.armed (d : AD) (v : V) : AD := { d with fz := v }
def AD.found (d : AD) (cs : List Int) : AD := ⟨.non, false, 0, crashA d.f (d.ws.zip cs), []⟩
def spInitA (C : Addr) : Sp := fun vs H Q _ => ∃ p dx, vs = [.ref p, .int 64, .int 16, .non] ∧ H p = some (.ins C dx []) ∧
  ∀ B W H', H B = none → H W = none → Off [p, B, W] H H' → DevS C H' p dx B W 0 AD.new → Q .non H'
def spArmA (C : Addr) : Sp := fun vs H Q _ => ∃ p dx B W N d v, vs = [.ref p, v] ∧ (v = .non ∨ ∃ n, v = .int n) ∧ DevS C H p dx B W N d ∧
  ∀ H', Bar p B W H H' → DevS C H' p dx B W N (d.armed v) → Q .non H'
def spRestA (C : Addr) : Sp := fun vs H Q _ => ∃ p dx B W N d Ch cs, vs = [.ref p, .ref Ch] ∧ DevS C H p dx B W N d ∧ N ≤ 900 ∧ H Ch = some (.lst (cs.map V.int)) ∧
  ∀ x dx' B' W' H', Same H H' → H x = none → H B' = none → H W' = none → DevS C H' x dx' B' W' N (d.found cs) → Q (.ref x) H'
def unI : V → Int
  | .int n => n
  | _ => 0
def datOf (H : Hp) (a : Addr) : List Int := match H a with
  | some (.tup xs) => xs.map unI
  | _ => []
theorem datOf_eq {H : Hp} {a : Addr} {x : List Int} (h : H a = some (tupI x)) : datOf H a = x := by
  unfold datOf
  rw [h]
  show (x.map V.int).map unI = x
  rw [List.map_map]
  exact (List.map_congr_left (fun n _ => rfl)).trans (List.map_id x)
theorem crash_abs {dat : Addr → List Int} : ∀ (es : List (En × List Int)) (cs : List Int) (f : Int → List Int), (∀ q ∈ es, dat q.1.2.2 = q.2) → crash 32 dat f ((es.map (·.1)).zip cs) = crashA f ((es.map fun q => (q.1.2.1, q.2)).zip cs)
  | [], cs, f, _ => rfl
  | q :: r, [], f, _ => rfl
  | q :: r, c :: cs, f, h => by
    have ih := crash_abs r cs (crash1 32 f q.1.2.1 q.2 c) fun y hy => h y (by simp [hy])
    unfold crash crashA at ih ⊢
    rw [List.map_cons, List.map_cons, List.zip_cons_cons, List.zip_cons_cons, List.foldl_cons, List.foldl_cons, h q (by simp)]
    exact ih
section
variable {P : Program} {w : World} {K : PySem.W.Frag} {mg : Str → Option Value} {base : Heap} {C CE : Addr} {k : Nat} {f : Addr} {fd : FuncData}
theorem restA (F : FnOk P w K mg base L2.CX0 k f fd ["self", "choices"] (spRest C)) : FnOk P w K mg base L2.CX0 k f fd ["self", "choices"] (spRestA C) := by
  refine F.imp fun vs H Q E h => ?_
  obtain ⟨p, dx, B, W, N, d, Ch, cs, rfl, hD, hN, hCh, k⟩ := h
  obtain ⟨i, nf, kvs, es, hB, hc, hW, hn, hw, hd⟩ := hD
  refine ⟨p, dx, d.dv, B, W, Ch, 32, kvs, d.f, es.map (·.1), datOf H, cs, rfl, i, rfl, by decide, by decide, hB, by omega, hc, hW, by rw [List.length_map]; omega, fun e he => ?_, hCh, fun x dx' B' W' kvs' H' s nx nB nW hl h1 h2 h3 h4 => ?_⟩
  · obtain ⟨q, hq, rfl⟩ := List.mem_map.mp he
    rw [datOf_eq (hd q hq).1]
    exact hd q hq
  · rw [List.length_map] at hl
    refine k x dx' B' W' H' s nx nB nW ⟨h1, .inl rfl, kvs', [], h2, ?_, ⟨h3, fun e he => by cases he⟩, by show kvs'.length + 0 ≤ N; omega, rfl, fun q hq => by cases hq⟩
    have e := crash_abs (dat := datOf H) es cs d.f fun q hq => datOf_eq (hd q hq).1
    show Cont H' 64 kvs' (crashA d.f (d.ws.zip cs))
    rw [hw, ← e]
    exact h4
theorem initA (F : FnOk P w K mg base L2.CX0 k f fd ["self", "block_size", "count", "blocks"] (spInit C)) : FnOk P w K mg base L2.CX0 k f fd ["self", "block_size", "count", "blocks"] (spInitA C) := by
  refine F.imp fun vs H Q E h => ?_
  obtain ⟨p, dx, rfl, hp, k⟩ := h
  refine ⟨p, dx, 64, 16, .non, [], rfl, hp, .inl ⟨rfl, rfl⟩, fun B W H' nB nW _ o h1 h2 h3 => ?_⟩
  exact k B W H' nB nW o ⟨h1, .inl rfl, [], [], h2, ⟨fun n => List.length_replicate .., fun n => .inl ⟨rfl, rfl⟩⟩, ⟨h3, fun e he => by cases he⟩, Nat.le_refl 0, rfl, fun q hq => by cases hq⟩
theorem armA (F : FnOk P w K mg base L2.CX0 k f fd ["self", "steps"] (spArm C)) : FnOk P w K mg base L2.CX0 k f fd ["self", "steps"] (spArmA C) := by
  refine F.imp fun vs H Q E h => ?_
  obtain ⟨p, dx, B, W, N, d, v, rfl, hv, hD, k⟩ := h
  obtain ⟨npB, npW, nBW⟩ := hD.neB
  obtain ⟨i, nf, kvs, es, hB, hc, hW, hn, hw, hd⟩ := hD
  refine ⟨p, dx, d.dv, B, W, v, rfl, i, k _ (fun b o h n1 n2 n3 => by rw [upd_ne n1]; exact h) ?_⟩
  have kp : Keep H (upd H p (.ins C dx (fsD { d.dv with fz := v } B W))) := Keep.upd fun xs z => by rw [i] at z; cases z
  exact ⟨upd_same, hv, kvs, es, by rw [upd_ne npB.symm]; exact hB, hc.keep kp, hW.mono' (upd_ne npW.symm) kp, hn, hw, fun q hq => ⟨kp _ _ (hd q hq).1, (hd q hq).2⟩⟩
end
/-! ### rows of blocks -/
abbrev Rw := En × List Int
def Rw.n (q : Rw) : Int := q.1.2.1
structure RowsAt (H : Hp) (r : Addr) (gs : List Rw) : Prop where
  lst : H r = some (.lst (gs.map fun q => V.ref q.1.1))
  tup : ∀ q ∈ gs, H q.1.1 = some (.tup [.int q.1.2.1, .ref q.1.2.2])
  dat : ∀ q ∈ gs, H q.1.2.2 = some (tupI q.2)
theorem RowsAt.same {H H' : Hp} {r : Addr} {gs : List Rw} (x : RowsAt H r gs) (s : Same H H') : RowsAt H' r gs := ⟨s _ _ x.lst, fun q hq => s _ _ (x.tup q hq), fun q hq => s _ _ (x.dat q hq)⟩
theorem RowsAt.bar {C p dx B W : Addr} {N : Nat} {d : AD} {H H' : Hp} {r : Addr} {gs : List Rw} (x : RowsAt H r gs) (D : DevS C H p dx B W N d) (b : Bar p B W H H') (n : r ≠ W) : RowsAt H' r gs := by
  have kp := D.keep b
  obtain ⟨i, nf, kvs, es, hB, hc, hW, hn, hw, hd⟩ := D
  exact ⟨b _ _ x.lst (ne_of x.lst i (by intro z; cases z)) (ne_of x.lst hB (by intro z; cases z)) n, fun q hq => kp _ _ (x.tup q hq), fun q hq => kp _ _ (x.dat q hq)⟩
def dRow (q : Rw) : PyData := .tuple [.int q.1.2.1, .tuple (q.2.map PyData.int)]
theorem RowsAt.dp {K : PySem.W.Frag} {H : Hp} {r : Addr} {gs : List Rw} (x : RowsAt H r gs) : Dp K H (.ref r) (.list (gs.map dRow)) := by
  refine Dp.lst (SqL.of x.lst) ?_
  have z : ∀ l : List Rw, (∀ q ∈ l, q ∈ gs) → DpAll K H (l.map fun q => V.ref q.1.1) (l.map dRow) := fun l => by
    induction l with
    | nil => intro _; exact .nil
    | cons q l ih =>
      intro h
      exact .cons (.tup (SqT.of (x.tup q (h q (by simp)))) (.cons (.int _) (.cons (.tup (SqT.of (x.dat q (h q (by simp)))) (dpall_ints _)) .nil))) (ih fun y hy => h y (by simp [hy]))
  exact z gs fun _ h => h
theorem dRow_lay (q : Rw) : (dRow q).canLay0 = true ∧ (dRow q).depth = 2 := by
  unfold dRow
  simp [PyData.canLay0, PyData.canLayAll0, PyData.depth, PyData.depthAll, PySem.W.ke_canLayAll0, PySem.W.ke_depthAll]
theorem shaped_rows (gs : List Rw) : SeqAt.shaped (.list (gs.map dRow)) = true := by
  have z : ∀ l : List Rw, PyData.canLayAll0 (l.map dRow) = true ∧ PyData.depthAll (l.map dRow) ≤ 2 := fun l => by
    induction l with
    | nil => exact ⟨rfl, Nat.zero_le _⟩
    | cons q l ih =>
      rw [List.map_cons, PyData.canLayAll0, PyData.depthAll, (dRow_lay q).1, (dRow_lay q).2, ih.1]
      exact ⟨rfl, by have := ih.2; omega⟩
  obtain ⟨h1, h2⟩ := z gs
  unfold SeqAt.shaped
  rw [PyData.canLay0, PyData.depth, h1, Bool.true_and, decide_eq_true_eq]
  omega
theorem eqv_rows : ∀ gs hs : List Rw, PyData.eqvAll (gs.map dRow) (hs.map dRow) = decide ((gs.map fun q => (q.1.2.1, q.2)) = hs.map fun q => (q.1.2.1, q.2))
  | [], [] => by simp [PyData.eqvAll]
  | [], _ :: _ => by simp [PyData.eqvAll]
  | _ :: _, [] => by simp [PyData.eqvAll]
  | q :: r, y :: s => by
    rw [List.map_cons, List.map_cons, PyData.eqvAll, eqv_rows r s]
    unfold dRow
    rw [PyData.eqv, PyData.eqvAll, PyData.eqvAll, PyData.eqv, PyData.eqv, eqv_ints]
    simp only [List.map_cons, List.cons.injEq, Prod.mk.injEq]
    by_cases h1 : q.1.2.1 = y.1.2.1 <;> by_cases h2 : q.2 = y.2 <;> by_cases h3 : (r.map fun q => (q.1.2.1, q.2)) = s.map fun q => (q.1.2.1, q.2) <;> simp [h1, h2, h3, PyData.eqvAll]
theorem ne_rows {K : PySem.W.Frag} {H : Hp} {a b : Addr} {gs hs : List Rw} {Q : VK} (ha : RowsAt H a gs) (hb : RowsAt H b hs) (q : Q (.bl (!decide ((gs.map fun q => (q.1.2.1, q.2)) = hs.map fun q => (q.1.2.1, q.2)))) H) : rNeD K (.ref a) (.ref b) H Q := by
  refine ⟨_, _, ha.dp, hb.dp, shaped_rows gs, shaped_rows hs, ?_⟩
  rw [PyData.eqv, eqv_rows]
  exact q
/-! ### a device under a row of writes (some) and flushes (none) -/
abbrev Op := Option (Int × List Int)
def AD.did (d : AD) : Op → AD
  | some (n, x) => d.wrote n x
  | none => d.flushed
noncomputable def runA (d : AD) : List Op → AD × Bool
  | [] => (d, true)
  | o :: r => open Classical in if d.alive then runA (d.did o) r else (d.killed, false)
theorem runA_cons_alive {d : AD} {o : Op} {r : List Op} (h : d.alive) : runA d (o :: r) = runA (d.did o) r := by
  rw [runA, if_pos h]
theorem runA_cons_dead {d : AD} {o : Op} {r : List Op} (h : ¬ d.alive) : runA d (o :: r) = (d.killed, false) := by
  rw [runA, if_neg h]
theorem runA_app : ∀ (l m : List Op) (d : AD), runA d (l ++ m) = if (runA d l).2 = true then runA (runA d l).1 m else runA d l
  | [], m, d => by rw [List.nil_append, runA, if_pos rfl]
  | o :: r, m, d => by
    rw [List.cons_append]
    by_cases h : d.alive
    · rw [runA_cons_alive h, runA_cons_alive h]
      exact runA_app r m _
    · rw [runA_cons_dead h, runA_cons_dead h, if_neg (by intro z; cases z)]
/-- what a method that does a row of operations comes to -/
def Runs (C CE : Addr) (H : Hp) (p dx B W : Addr) (N : Nat) (d : AD) (ops : List Op) (Q : Hp → Prop) (E : XK) : Prop :=
  ((runA d ops).2 = true → ∀ H' W', (W' = W ∨ H W' = none) → Bar p B W H H' → DevS C H' p dx B W' (N + ops.length) (runA d ops).1 → Q H') ∧
  ((runA d ops).2 = false → ∀ H' W', (W' = W ∨ H W' = none) → Bar p B W H H' → DevS C H' p dx B W' (N + ops.length) (runA d ops).1 → E (.ref CE) none H')
end K03
namespace K03
open PySem L2 HK
/-! ### operations one by one -/
section
variable {C CE p dx B W : Addr} {H H1 : Hp} {N : Nat} {d : AD} {Q : Hp → Prop} {E : XK} {o : Op} {r : List Op}
theorem Runs.nil (x : Runs C CE H p dx B W N d [] Q E) (D : DevS C H p dx B W N d) : Q H := x.1 rfl H W (.inl rfl) (Bar.refl _ _ _ _) D
theorem Runs.kill (x : Runs C CE H p dx B W N d (o :: r) Q E) (h : ¬ d.alive) : ∀ H', Bar p B W H H' → DevS C H' p dx B W N d.killed → E (.ref CE) none H' := fun H' b D => by
  refine x.2 (by rw [runA_cons_dead h]) H' W (.inl rfl) b ?_
  rw [runA_cons_dead h]
  exact D.mono (by omega)
theorem fresh_back {M : Nat} {d1 : AD} {W1 W' : Addr} (D1 : DevS C H1 p dx B W1 M d1) (hW : W1 = W ∨ H W1 = none) (b : Bar p B W H H1) (z : W' = W1 ∨ H1 W' = none) : W' = W ∨ H W' = none := by
  rcases z with rfl | z
  · exact hW
  · by_cases e : W' = W
    · exact .inl e
    · refine .inr ?_
      cases q : H W' with
      | none => rfl
      | some u =>
        exfalso
        by_cases e1 : W' = p
        · rw [e1, D1.ins] at z; cases z
        · by_cases e2 : W' = B
          · obtain ⟨i, nf, kvs, es, hB, _⟩ := D1
            rw [e2, hB] at z; cases z
          · rw [b _ _ q e1 e2 e] at z; cases z
theorem Runs.step {M : Nat} {d1 : AD} {W1 : Addr} (x : Runs C CE H p dx B W N d (o :: r) Q E) (h : d.alive) (D1 : DevS C H1 p dx B W1 M d1) (hW : W1 = W ∨ H W1 = none) (b : Bar p B W H H1) : Runs C CE H1 p dx B W1 (N + 1) (d.did o) r Q E := by
  obtain ⟨x1, x2⟩ := x
  rw [runA_cons_alive h] at x1 x2
  have en : N + 1 + r.length = N + (o :: r).length := by rw [List.length_cons]; omega
  rw [← en] at x1 x2
  exact ⟨fun c H' W' z y D => x1 c H' W' (fresh_back D1 hW b z) (b.trans hW y) D, fun c H' W' z y D => x2 c H' W' (fresh_back D1 hW b z) (b.trans hW y) D⟩
theorem Runs.same {l : List Op} (x : Runs C CE H p dx B W N d l Q E) (s : Same H H1) : Runs C CE H1 p dx B W N d l Q E :=
  ⟨fun c H' W' z y D => x.1 c H' W' (z.imp id fun z => by
      cases q : H W' with
      | none => rfl
      | some u => rw [s _ _ q] at z; cases z) (Bar.pre s y) D, fun c H' W' z y D => x.2 c H' W' (z.imp id fun z => by
      cases q : H W' with
      | none => rfl
      | some u => rw [s _ _ q] at z; cases z) (Bar.pre s y) D⟩
end
/-! ### the journal's text -/
abbrev sJInit : Stmt := inClass (top 24) 0
abbrev sRoom : Stmt := inClass (top 24) 1
abbrev sCommit : Stmt := inClass (top 24) 2
abbrev sWG : Stmt := inClass (top 24) 3
abbrev sWH : Stmt := inClass (top 24) 4
abbrev sPend : Stmt := inClass (top 24) 5
abbrev sRec : Stmt := inClass (top 24) 6
structure JCls (K : PySem.W.Frag) (mg : Str → Option Value) (CJ CJE : Addr) : Prop where
  cl : Cls K CJ
  n1 : NoAttr K CJ "device"
  n2 : NoAttr K CJ "start"
  n3 : NoAttr K CJ "blocks"
  n4 : NoAttr K CJ "serial"
  gC : mg "Journal" = some (.ref CJ)
  gE : mg "JournalError" = some (.ref CJE)
  xE : PySem.W.excIn K CJE [.type "ValueError", .type "Exception", .type "BaseException", .type "object"] "ValueError.__new__" = true
  kE : PySem.W.keepIn K (.ref CJE) = true
  bE : PySem.W.subIn K (.ref CJE) (.type "BaseException") = some true
  tE : PySem.W.typeIn K (.ref CJE) = some (.type "type")
  enum : mg "enumerate" = none
  range : mg "range" = none
  zip : mg "zip" = none
  list : mg "list" = none
def fsJ (p : Addr) (sr : Int) : List (Str × V) := [("device", .ref p), ("start", .int 1), ("blocks", .int 6), ("serial", .int sr)]
def JAt (CJ : Addr) (H : Hp) (j jx p : Addr) (sr : Int) : Prop := H j = some (.ins CJ jx (fsJ p sr))
def spJInit (CJ : Addr) : Sp := fun vs H Q _ => ∃ j jx p, vs = [.ref j, .ref p, .int 1, .int 6] ∧ H j = some (.ins CJ jx []) ∧ Q .non (upd H j (.ins CJ jx (fsJ p 0)))
def spRoom (CJ C : Addr) : Sp := fun vs H Q _ => ∃ j jx p dx sr N d B W, vs = [.ref j] ∧ JAt CJ H j jx p sr ∧ DevS C H p dx B W N d ∧ Q (.int 5) H
def rowNs (gs : List Rw) : List Int := gs.map fun q => q.1.2.1
def rowDs (gs : List Rw) : List Int := gs.flatMap (·.2)
def okRows (gs : List Rw) : Prop := ∀ q ∈ gs, q.2.length = 64 ∧ 0 ≤ q.1.2.1 ∧ q.1.2.1 < 16
def zero64 : List Int := List.replicate 64 0
def opsG (sr : Int) (gs : List Rw) : List Op := (gs.mapIdx fun i q => some (((2 + i : Nat) : Int), q.2)) ++ [none, some (1, headI (sr + 1) (rowNs gs) (sumI (startI (sr + 1) (rowNs gs) ++ rowDs gs))), none]
def opsH (gs : List Rw) : List Op := (gs.map fun q => some (q.1.2.1, q.2)) ++ [none, some (1, zero64), none]
def spWG (CJ C CE : Addr) : Sp := fun vs H Q E => ∃ j jx p dx sr N d B W r gs, vs = [.ref j, .ref r] ∧ JAt CJ H j jx p sr ∧ j ≠ p ∧ DevS C H p dx B W N d ∧ N ≤ 800 ∧ RowsAt H r gs ∧ r ≠ W ∧ gs.length ≤ 5 ∧ okRows gs ∧ Runs C CE H p dx B W N d (opsG sr gs) (Q .non) E
def spWH (CJ C CE : Addr) : Sp := fun vs H Q E => ∃ j jx p dx sr N d B W r gs, vs = [.ref j, .ref r] ∧ JAt CJ H j jx p sr ∧ j ≠ p ∧ DevS C H p dx B W N d ∧ N ≤ 800 ∧ RowsAt H r gs ∧ r ≠ W ∧ gs.length ≤ 5 ∧ okRows gs ∧ Runs C CE H p dx B W N d (opsH gs) (Q .non) E
section
variable {P : Program} {w : World} {K : PySem.W.Frag} {mg : Str → Option Value} {base : Heap} {C CE CJ CJE : Addr}
theorem scJInit : FnScope ["self", "device", "start", "count"] ["self", "device", "start", "count"] (defScope sJInit) := ⟨rfl, rfl, rfl, by decide +kernel, rfl, by decide +kernel, by decide +kernel⟩
theorem ok_jinit {f : Addr} {fd : FuncData} (F : L2.Fun K "__init__" "Journal.__init__" sJInit f fd) (J : JCls K mg CJ CJE) : FnOk P w K mg base L2.CX0 1 f fd ["self", "device", "start", "count"] (spJInit CJ) := by
  refine F.ok scJInit (fun vs H Q E h => ?_) (fun cdv A outer s H vs Q E hr h => ?_)
  · obtain ⟨j, jx, p, rfl, _⟩ := h
    rfl
  · obtain ⟨j, jx, p, rfl, hj, k⟩ := h
    refine ⟨_, pss_cons (ps_fld (pv 0) (pv 1) rfl) (pss_cons (ps_fld (pv 0) (pv 2) rfl) (pss_cons (ps_fld (pv 0) (pv 3) rfl) (pss_one (ps_fld (pv 0) pe_int rfl)))), ?_⟩
    refine ⟨_, rfl, _, rfl, j, CJ, jx, _, rfl, hj, J.cl, J.n1, (by show 0 < 1000; decide), ?_⟩
    refine ⟨_, rfl, _, rfl, j, CJ, jx, _, rfl, upd_same, J.cl, J.n2, (by show 1 < 1000; decide), ?_⟩
    refine ⟨_, rfl, _, rfl, j, CJ, jx, _, rfl, upd_same, J.cl, J.n3, (by show 2 < 1000; decide), ?_⟩
    refine ⟨_, rfl, j, CJ, jx, _, rfl, upd_same, J.cl, J.n4, (by show 3 < 1000; decide), ?_⟩
    rw [upd_upd, upd_upd, upd_upd]
    exact k
theorem scRoom : FnScope ["self"] ["self"] (defScope sRoom) := ⟨rfl, rfl, rfl, by decide +kernel, rfl, by decide +kernel, by decide +kernel⟩
theorem ok_room {f fR : Addr} {fd fdR : FuncData} (F : L2.Fun K "room" "Journal.room" sRoom f fd) (T : DTxt K mg C CE) (J : JCls K mg CJ CJE)
    (FR : FnOk P w K mg base L2.CX0 1 fR fdR ["block_size", "count"] spHeadRoom) (mR : mg "head_room" = some (.ref fR)) (kR : PySem.W.keepIn K (.ref fR) = true) (bR : Binds K fdR ["block_size", "count"] []) :
    FnOk P w K mg base L2.CX0 2 f fd ["self"] (spRoom CJ C) := by
  refine F.ok scRoom (fun vs H Q E h => ?_) (fun cdv A outer s H vs Q E hr h => ?_)
  · obtain ⟨j, jx, p, dx, sr, N, d, B, W, rfl, _⟩ := h
    rfl
  · obtain ⟨j, jx, p, dx, sr, N, d, B, W, rfl, hj, hD, k⟩ := h
    refine ⟨_, pss_one (ps_ret (pe_call FR hr (by rfl) mR kR bR .nil pass0 (pa_cons (pe_fld (pe_fld (pv 0) rfl) rfl) (pa_cons (pe_fld (pv 0) rfl) pa_nil)))), ?_⟩
    exact ⟨_, rfl, j, CJ, jx, _, _, rfl, hj, J.cl, J.n1, rfl, p, C, dx, _, _, rfl, hD.ins, T.cl, T.n1, rfl, _, rfl, j, CJ, jx, _, _, rfl, hj, J.cl, J.n3, rfl, .inl ⟨rfl, k⟩⟩
end
end K03
namespace K03
open PySem L2 HK
section
variable {C CE p dx B W t : Addr} {H : Hp} {N : Nat} {d : AD} {Q : Hp → Prop} {E : XK} {l : List Op} {G : VK} {n : Int} {x : List Int}
theorem spW_of (D : DevS C H p dx B W N d) (hN : N ≤ 900) (R : Runs C CE H p dx B W N d (some (n, x) :: l) Q E) (ht : H t = some (tupI x)) (ok : x.length = 64 ∧ 0 ≤ n ∧ n < 16)
    (k : ∀ H' d', Bar p B W H H' → DevS C H' p dx B W (N + 1) d' → Runs C CE H' p dx B W (N + 1) d' l Q E → G .non H') : spWriteA C CE [.ref p, .int n, .ref t] H G E :=
  ⟨p, dx, B, W, N, d, n, t, x, rfl, D, hN, ht, fun _ => ⟨fun na => R.kill na, fun al H' b D' => k H' _ b D' (R.step al D' (.inl rfl) b)⟩, fun z => absurd ok z⟩
theorem spF_of (D : DevS C H p dx B W N d) (hN : N ≤ 900) (R : Runs C CE H p dx B W N d (none :: l) Q E)
    (k : ∀ H' W' d', H W' = none → Bar p B W H H' → DevS C H' p dx B W' (N + 1) d' → Runs C CE H' p dx B W' (N + 1) d' l Q E → G .non H') : spFlushA C CE [.ref p] H G E :=
  ⟨p, dx, B, W, N, d, rfl, D, hN, fun na => R.kill na, fun al H' W' n b D' => k H' W' _ n b (D'.mono (by omega)) (R.step al D' (.inr n) b)⟩
theorem JAt.bar {CJ j jx : Addr} {sr : Int} {H' : Hp} (h : JAt CJ H j jx p sr) (D : DevS C H p dx B W N d) (n : j ≠ p) (b : Bar p B W H H') : JAt CJ H' j jx p sr := by
  obtain ⟨i, nf, kvs, es, hB, hc, hW, hn, hw, hd⟩ := D
  exact b _ _ h n (ne_of h hB (by intro z; cases z)) (ne_of h hW.lst (by intro z; cases z))
theorem DevS.fresh_ne {r : Addr} {u : HO} {W' : Addr} (h : H r = some u) (n : H W' = none) : r ≠ W' := ne_of_none h n
end
section
variable {P : Program} {w : World} {K : PySem.W.Frag} {mg : Str → Option Value} {base : Heap} {C CE CJ CJE : Addr}
theorem scWH : FnScope ["self", "rows", "number", "data"] ["self", "rows"] (defScope sWH) := ⟨rfl, rfl, rfl, by decide +kernel, rfl, by decide +kernel, by decide +kernel⟩
theorem ok_wh {f fW fF : Addr} {fd fdW fdF : FuncData} (F : L2.Fun K "write_home" "Journal.write_home" sWH f fd) (T : DTxt K mg C CE) (J : JCls K mg CJ CJE)
    (FW : FnOk P w K mg base (L2.CX P w) 3 fW fdW ["self", "number", "data"] (spWriteA C CE)) (bW : Binds K fdW ["self", "number", "data"] []) (mW : Meth K C "write_block" fW)
    (FF : FnOk P w K mg base (L2.CX P w) 3 fF fdF ["self"] (spFlushA C CE)) (bF : Binds K fdF ["self"] []) (mF : Meth K C "flush" fF) :
    FnOk P w K mg base (L2.CX P w) 4 f fd ["self", "rows"] (spWH CJ C CE) := by
  refine F.okX scWH (fun vs H Q E h => ?_) (fun cdv A outer s H vs Q E hr h => ?_)
  · obtain ⟨j, jx, p, dx, sr, N, d, B, W, r, gs, rfl, _⟩ := h
    rfl
  · obtain ⟨j, jx, p, dx, sr, N, d, B, W, r, gs, rfl, hj, njp, hD, hN, hR, nrW, h5, hok, R⟩ := h
    refine ⟨_, pss_cons (ps_for (passes_of rfl) rfl (pi_list (pv 1)) (pg_tup rfl (pgs_cons (pg_name (i := 2) scWH.nd rfl (Or.inl rfl)) (pgs_cons (pg_name (i := 3) scWH.nd rfl (Or.inl rfl)) pgs_nil)))
        (pss_one (ps_expr (pe_meth (pe_fld (pv 0) rfl) T.cl mW FW hr bW .nil (passes_call (takes_of rfl rfl rfl rfl) (fun _ _ _ _ h => h)) (pa_cons (pv 2) (pa_cons (pv 3) pa_nil))))))
      (pss_cons (ps_expr (pe_meth0 (pe_fld (pv 0) rfl) T.cl mF FF hr bF .nil (passes_call (takes_of rfl rfl rfl rfl) (fun _ _ _ _ h => h))))
      (pss_cons (ps_expr (pe_meth (pe_fld (pv 0) rfl) T.cl mW FW hr bW .nil (passes_call (takes_of rfl rfl rfl rfl) (fun _ _ _ _ h => h)) (pa_cons (pe_fld (pv 0) rfl) (pa_cons (pe_op op_repT (pe_tup (pa_cons pe_int pa_nil)) (pe_fld (pe_fld (pv 0) rfl) rfl)) pa_nil))))
      (pss_one (ps_expr (pe_meth0 (pe_fld (pv 0) rfl) T.cl mF FF hr bF .nil (passes_call (takes_of rfl rfl rfl rfl) (fun _ _ _ _ h => h))))))), ?_⟩
    refine ⟨_, rfl, r, rfl, ⟨_, SqL.of hR.lst⟩, ?_⟩
    refine for_list (K := K) (a := r) (xs := gs.map fun q => V.ref q.1.1) (fun i σ H' => ∃ W' d' u v, σ = [some (.ref j), some (.ref r), u, v] ∧ JAt CJ H' j jx p sr ∧ RowsAt H' r gs ∧ r ≠ W' ∧ DevS C H' p dx B W' (N + i) d' ∧ Runs C CE H' p dx B W' (N + i) d' ((opsH gs).drop i) (Q .non) E)
      ⟨W, d, none, none, rfl, hj, hR, nrW, hD, R⟩ (fun i σ H' hi q => ?_) (fun i x σ H' hx q => ?_) (fun σ H' q => ?_)
    · obtain ⟨W', d', u, v, rfl, hj', hR', _⟩ := q
      exact SqL.of hR'.lst
    · obtain ⟨W', d', u, v, rfl, hj', hR', nr', hD', R'⟩ := q
      rw [List.getElem?_map] at hx
      obtain ⟨q, hq, rfl⟩ := Option.map_eq_some_iff.mp hx
      have hm := List.mem_of_getElem? hq
      have hi := (List.getElem?_eq_some_iff.mp hq).1
      have ed : (opsH gs).drop i = some (q.1.2.1, q.2) :: (opsH gs).drop (i + 1) := by
        have e1 : (opsH gs)[i]? = some (some (q.1.2.1, q.2)) := by
          unfold opsH
          rw [List.getElem?_append_left (by rw [List.length_map]; exact hi), List.getElem?_map, hq]
          rfl
        obtain ⟨h1, h2⟩ := List.getElem?_eq_some_iff.mp e1
        rw [List.drop_eq_getElem_cons h1, h2]
      rw [ed] at R'
      refine ⟨q.1.1, _, rfl, SqT.of (hR'.tup q hm), rfl, _, _, rfl, _, _, rfl, rfl, ?_⟩
      refine ⟨_, rfl, j, CJ, jx, _, _, rfl, hj', J.cl, J.n1, rfl, p, dx, _, rfl, hD'.ins, rfl, _, rfl, _, rfl, ?_⟩
      refine spW_of hD' (by omega) R' (hR'.dat q hm) (hok q hm) fun H2 d2 b2 D2 R2 => ?_
      exact ⟨W', d2, _, _, rfl, hj'.bar hD' njp b2, hR'.bar hD' b2 nr', nr', D2, R2⟩
    · obtain ⟨W', d', u, v, rfl, hj', hR', nr', hD', R'⟩ := q
      rw [List.length_map] at hD' R'
      have ed : (opsH gs).drop gs.length = [none, some (1, zero64), none] := by
        unfold opsH
        rw [List.drop_left' (by rw [List.length_map])]
      rw [ed] at R'
      refine ⟨_, rfl, j, CJ, jx, _, _, rfl, hj', J.cl, J.n1, rfl, p, dx, _, rfl, hD'.ins, rfl, ?_⟩
      refine spF_of hD' (by omega) R' fun H2 W2 d2 n2 b2 D2 R2 => ?_
      have hj2 := hj'.bar hD' njp b2
      refine ⟨_, rfl, j, CJ, jx, _, _, rfl, hj2, J.cl, J.n1, rfl, p, dx, _, rfl, D2.ins, rfl, _, rfl, j, CJ, jx, _, _, rfl, hj2, J.cl, J.n2, rfl, by show 1 ≤ sizeLine; decide, fun t nt => ?_⟩
      have s3 : Same H2 (upd H2 t (.tup [.int 0])) := same_upd nt
      refine ⟨_, rfl, j, CJ, jx, _, _, rfl, s3 _ _ hj2, J.cl, J.n1, rfl, p, C, dx, _, _, rfl, (D2.same s3).ins, T.cl, T.n1, rfl, t, _, [.int 0], rfl, rfl, SqT.of upd_same, (fun z => by cases z), by show (2 : Int) ≤ 64; decide, by show (64 : Int) ≤ 1000; decide, by decide, fun z nz => ?_⟩
      have s4 := s3.trans (same_upd (o := .tup (List.replicate (64 : Int).toNat [V.int 0]).flatten) nz)
      have hz : (upd (upd H2 t (.tup [.int 0])) z (.tup (List.replicate (64 : Int).toNat [V.int 0]).flatten)) z = some (tupI zero64) := by
        rw [upd_same, flat_zeros]
        rfl
      refine spW_of (D2.same s4) (by omega) (R2.same s4) hz ⟨rfl, by decide, by decide⟩ fun H3 d3 b3 D3 R3 => ?_
      have hj3 := JAt.bar (s4 _ _ hj2) (D2.same s4) njp b3
      refine ⟨_, rfl, j, CJ, jx, _, _, rfl, hj3, J.cl, J.n1, rfl, p, dx, _, rfl, D3.ins, rfl, ?_⟩
      exact spF_of D3 (by omega) R3 fun H4 W4 d4 n4 b4 D4 R4 => R4.nil D4
end
end K03
namespace K03
open PySem L2 HK
theorem lst_bar {C p dx B W a : Addr} {H H' : Hp} {N : Nat} {d : AD} {xs : List V} (h : H a = some (.lst xs)) (D : DevS C H p dx B W N d) (n : a ≠ W) (b : Bar p B W H H') : H' a = some (.lst xs) := by
  obtain ⟨i, nf, kvs, es, hB, hc, hW, hn, hw, hd⟩ := D
  exact b _ _ h (ne_of h i (by intro z; cases z)) (ne_of h hB (by intro z; cases z)) n
theorem DevS.W_some {C p dx B W : Addr} {H : Hp} {N : Nat} {d : AD} (D : DevS C H p dx B W N d) : ∃ u, H W = some u := by
  obtain ⟨i, nf, kvs, es, hB, hc, hW, hn, hw, hd⟩ := D
  exact ⟨_, hW.lst⟩
theorem DevS.new_ne {C p dx B W a : Addr} {H : Hp} {N : Nat} {d : AD} (D : DevS C H p dx B W N d) (n : H a = none) : a ≠ W := by
  obtain ⟨u, h⟩ := D.W_some
  exact (ne_of_none h n).symm
def psOf (gs : List Rw) : List (Addr × List Int) := gs.map fun q => (q.1.2.2, q.2)
theorem psOf_flat (gs : List Rw) : flat (psOf gs) = rowDs gs := by
  unfold flat psOf rowDs
  rw [List.flatMap_map]
theorem psOf_refs (gs : List Rw) : (psOf gs).map (fun q => V.ref q.1) = gs.map fun q => V.ref q.1.2.2 := by
  unfold psOf
  rw [List.map_map]
  rfl
theorem rowDs_len {gs : List Rw} (h : okRows gs) : (rowDs gs).length = 64 * gs.length := by
  unfold rowDs
  induction gs with
  | nil => rfl
  | cons q r ih =>
    rw [List.flatMap_cons, List.length_append, ih (fun y hy => h y (by simp [hy])), (h q (by simp)).1, List.length_cons]
    omega
section
variable {P : Program} {w : World} {K : PySem.W.Frag} {mg : Str → Option Value} {base : Heap} {C CE CJ CJE : Addr}
abbrev NWG : List Str := ["self", "rows", "numbers", "datas", "place", "data", "number"]
theorem scWG : FnScope NWG ["self", "rows"] (defScope sWG) := ⟨rfl, rfl, rfl, by decide +kernel, rfl, by decide +kernel, by decide +kernel⟩
theorem ok_wg {f fW fF fH : Addr} {fd fdW fdF fdH : FuncData} (F : L2.Fun K "write_group" "Journal.write_group" sWG f fd) (T : DTxt K mg C CE) (J : JCls K mg CJ CJE)
    (FW : FnOk P w K mg base (L2.CX P w) 3 fW fdW ["self", "number", "data"] (spWriteA C CE)) (bW : Binds K fdW ["self", "number", "data"] []) (mW : Meth K C "write_block" fW)
    (FF : FnOk P w K mg base (L2.CX P w) 3 fF fdF ["self"] (spFlushA C CE)) (bF : Binds K fdF ["self"] []) (mF : Meth K C "flush" fF)
    (FH : FnOk P w K mg base L2.CX0 4 fH fdH ["serial", "numbers", "rows", "block_size"] spHead) (mH : mg "head_of" = some (.ref fH)) (kH : PySem.W.keepIn K (.ref fH) = true) (bH : Binds K fdH ["serial", "numbers", "rows", "block_size"] []) :
    FnOk P w K mg base (L2.CX P w) 5 f fd ["self", "rows"] (spWG CJ C CE) := by
  refine F.okX scWG (fun vs H Q E h => ?_) (fun cdv A outer s H vs Q E hr h => ?_)
  · obtain ⟨j, jx, p, dx, sr, N, d, B, W, r, gs, rfl, _⟩ := h
    rfl
  · obtain ⟨j, jx, p, dx, sr, N, d, B, W, r, gs, rfl, hj, njp, hD, hN, hR, nrW, h5, hok, R⟩ := h
    have rW := FW.mono (show 3 ≤ 4 by decide)
    have rF := FF.mono (show 3 ≤ 4 by decide)
    refine ⟨_, pss_cons (ps_setLc (i := 2) (own := [("number", 6), ("data", 5)]) (g := gTup K 2 (gCons (gName 6) (gCons (gName 5) gNil))) (by rfl) scWG.nd rfl rfl (sw_true rfl rfl rfl (by decide +kernel)) (pi_list (pv 1))
          (blkOk_by (N := NWG) (sc := defScope sWG) (by decide +kernel)) (fun _ _ _ _ _ => pg_tup rfl (pgs_cons (pg_name (i := 6) scWG.nd rfl (Or.inl rfl)) (pgs_cons (pg_name (i := 5) scWG.nd rfl (Or.inl rfl)) pgs_nil))) (fun _ _ _ _ _ => pts_nil) (fun _ _ _ _ _ => pv 6))
      (pss_cons (ps_setLc (i := 3) (own := [("number", 6), ("data", 5)]) (g := gTup K 2 (gCons (gName 6) (gCons (gName 5) gNil))) (by rfl) scWG.nd rfl rfl (sw_true rfl rfl rfl (by decide +kernel)) (pi_list (pv 1))
          (blkOk_by (N := NWG) (sc := defScope sWG) (by decide +kernel)) (fun _ _ _ _ _ => pg_tup rfl (pgs_cons (pg_name (i := 6) scWG.nd rfl (Or.inl rfl)) (pgs_cons (pg_name (i := 5) scWG.nd rfl (Or.inl rfl)) pgs_nil))) (fun _ _ _ _ _ => pts_nil) (fun _ _ _ _ _ => pv 5))
      (pss_cons (ps_for (passes_of rfl) rfl (pi_enum (by rfl) J.enum (pa_cons (pv 3) pa_nil)) (pg_tup rfl (pgs_cons (pg_name (i := 4) scWG.nd rfl (Or.inl rfl)) (pgs_cons (pg_name (i := 5) scWG.nd rfl (Or.inl rfl)) pgs_nil)))
        (pss_one (ps_expr (pe_meth (pe_fld (pv 0) rfl) T.cl mW rW hr bW .nil (passes_call (takes_of rfl rfl rfl rfl) (fun _ _ _ _ h => h)) (pa_cons (pe_op op_add (pe_op op_add (pe_fld (pv 0) rfl) pe_int) (pv 4)) (pa_cons (pv 5) pa_nil))))))
      (pss_cons (ps_expr (pe_meth0 (pe_fld (pv 0) rfl) T.cl mF rF hr bF .nil (passes_call (takes_of rfl rfl rfl rfl) (fun _ _ _ _ h => h))))
      (pss_cons (ps_expr (pe_meth (pe_fld (pv 0) rfl) T.cl mW rW hr bW .nil (passes_call (takes_of rfl rfl rfl rfl) (fun _ _ _ _ h => h)) (pa_cons (pe_fld (pv 0) rfl)
          (pa_cons (pe_call FH hr (by rfl) mH kH bH .nil pass0 (pa_cons (pe_op op_add (pe_fld (pv 0) rfl) pe_int) (pa_cons (pv 2) (pa_cons (pv 3) (pa_cons (pe_fld (pe_fld (pv 0) rfl) rfl) pa_nil))))) pa_nil))))
      (pss_one (ps_expr (pe_meth0 (pe_fld (pv 0) rfl) T.cl mF rF hr bF .nil (passes_call (takes_of rfl rfl rfl rfl) (fun _ _ _ _ h => h))))))))), ?_⟩
    -- numbers
    refine ⟨_, rfl, r, rfl, ⟨_, SqL.of hR.lst⟩, fun D1 nD1 => ?_⟩
    refine lc_list (K := K) (a := r) (xs := gs.map fun q => V.ref q.1.1) (fun i H' => H' = upd H D1 (.lst ((rowNs (gs.take i)).map V.int))) rfl (fun i H' hi q => ?_) (fun i x H' hx q => ?_) (fun H' q => ?_)
    · subst q
      exact SqL.of (same_upd nD1 _ _ hR.lst)
    · subst q
      rw [List.getElem?_map] at hx
      obtain ⟨q, hq, rfl⟩ := Option.map_eq_some_iff.mp hx
      have hm := List.mem_of_getElem? hq
      have hi := (List.getElem?_eq_some_iff.mp hq).1
      have s1 : Same H (upd H D1 (.lst ((rowNs (gs.take i)).map V.int))) := same_upd nD1
      refine ⟨q.1.1, _, rfl, SqT.of (s1 _ _ (hR.tup q hm)), rfl, _, _, rfl, _, _, rfl, rfl, rfl, _, rfl, _, upd_same, ?_, ?_⟩
      · rw [List.length_map]
        unfold rowNs
        rw [List.length_map, List.length_take]
        exact small1000 (by omega)
      · rw [upd_upd, List.take_add_one, hq]
        unfold rowNs
        simp
    subst q
    rw [List.length_map, List.take_length]
    have s1 : Same H (upd H D1 (.lst ((rowNs gs).map V.int))) := same_upd nD1
    have hD1 := hD.same s1
    have hR1 := hR.same s1
    have hj1 : JAt CJ _ j jx p sr := s1 _ _ hj
    have R1 := R.same s1
    have l1 : (upd H D1 (.lst ((rowNs gs).map V.int))) D1 = some (.lst ((rowNs gs).map V.int)) := upd_same
    have n1 : D1 ≠ W := hD.new_ne nD1
    generalize upd H D1 (.lst ((rowNs gs).map V.int)) = H1 at s1 hD1 hR1 hj1 R1 l1 ⊢
    -- datas
    refine ⟨_, rfl, r, rfl, ⟨_, SqL.of hR1.lst⟩, fun D2 nD2 => ?_⟩
    refine lc_list (K := K) (a := r) (xs := gs.map fun q => V.ref q.1.1) (fun i H' => H' = upd H1 D2 (.lst ((gs.take i).map fun q => V.ref q.1.2.2))) rfl (fun i H' hi q => ?_) (fun i x H' hx q => ?_) (fun H' q => ?_)
    · subst q
      exact SqL.of (same_upd nD2 _ _ hR1.lst)
    · subst q
      rw [List.getElem?_map] at hx
      obtain ⟨q, hq, rfl⟩ := Option.map_eq_some_iff.mp hx
      have hm := List.mem_of_getElem? hq
      have hi := (List.getElem?_eq_some_iff.mp hq).1
      have s2 : Same H1 (upd H1 D2 (.lst ((gs.take i).map fun q => V.ref q.1.2.2))) := same_upd nD2
      refine ⟨q.1.1, _, rfl, SqT.of (s2 _ _ (hR1.tup q hm)), rfl, _, _, rfl, _, _, rfl, rfl, rfl, _, rfl, _, upd_same, ?_, ?_⟩
      · rw [List.length_map, List.length_take]
        exact small1000 (by omega)
      · rw [upd_upd, List.take_add_one, hq]
        simp
    subst q
    rw [List.length_map, List.take_length]
    have s2 : Same H1 (upd H1 D2 (.lst (gs.map fun q => V.ref q.1.2.2))) := same_upd nD2
    have hD2 := hD1.same s2
    have hR2 := hR1.same s2
    have hj2 : JAt CJ _ j jx p sr := s2 _ _ hj1
    have R2 := R1.same s2
    have l2 := s2 _ _ l1
    have m2 : (upd H1 D2 (.lst (gs.map fun q => V.ref q.1.2.2))) D2 = some (.lst (gs.map fun q => V.ref q.1.2.2)) := upd_same
    have n2 : D2 ≠ W := hD1.new_ne nD2
    generalize upd H1 D2 (.lst (gs.map fun q => V.ref q.1.2.2)) = H2 at s2 hD2 hR2 hj2 R2 l2 m2 ⊢
    -- data
    refine ⟨_, rfl, D2, _, rfl, SqL.of m2, ?_⟩
    refine for_it (walk_enum (K := K) (a := D2) (xs := gs.map fun q => V.ref q.1.2.2)) (fun i σ H' => ∃ W' d' u v z, σ = [some (.ref j), some (.ref r), some (.ref D1), some (.ref D2), u, v, z] ∧ JAt CJ H' j jx p sr ∧ RowsAt H' r gs ∧ r ≠ W' ∧ D1 ≠ W' ∧ D2 ≠ W' ∧ H' D1 = some (.lst ((rowNs gs).map V.int)) ∧ H' D2 = some (.lst (gs.map fun q => V.ref q.1.2.2)) ∧ DevS C H' p dx B W' (N + i) d' ∧ Runs C CE H' p dx B W' (N + i) d' ((opsG sr gs).drop i) (Q .non) E)
      ⟨W, d, none, none, none, rfl, hj2, hR2, nrW, n1, n2, l2, m2, hD2, R2⟩ (fun i σ H' hi q => ?_) (fun i x σ H' H'' hi q yy => ?_) (fun σ H' q => ?_)
    · obtain ⟨W', d', u, v, z, rfl, hj', hR', nr', k1, k2, l', m', _⟩ := q
      exact SqL.of m'
    · obtain ⟨W', d', u, v, z, rfl, hj', hR', nr', k1, k2, l', m', hD', R'⟩ := q
      obtain ⟨t, y1, y2, rfl, nt, rfl, e1, e2⟩ := yy
      dsimp only at e1 e2
      obtain rfl := Option.some.inj e1
      rw [List.getElem?_map] at e2
      obtain ⟨q, hq, rfl⟩ := Option.map_eq_some_iff.mp e2
      have hm := List.mem_of_getElem? hq
      have hi := (List.getElem?_eq_some_iff.mp hq).1
      have st : Same H' (upd H' t (.tup [.int (i : Nat), .ref q.1.2.2])) := same_upd nt
      have ed : (opsG sr gs).drop i = some (((2 + i : Nat) : Int), q.2) :: (opsG sr gs).drop (i + 1) := by
        have e1 : (opsG sr gs)[i]? = some (some (((2 + i : Nat) : Int), q.2)) := by
          unfold opsG
          rw [List.getElem?_append_left (by rw [List.length_mapIdx]; exact hi), List.getElem?_mapIdx, hq]
          rfl
        obtain ⟨h1, h2⟩ := List.getElem?_eq_some_iff.mp e1
        rw [List.drop_eq_getElem_cons h1, h2]
      rw [ed] at R'
      refine ⟨t, _, rfl, SqT.of upd_same, rfl, _, _, rfl, _, _, rfl, rfl, ?_⟩
      generalize upd H' t (.tup [.int (i : Nat), .ref q.1.2.2]) = H3 at st ⊢
      have hj3 := st _ _ hj'
      have D3 := hD'.same st
      refine ⟨_, rfl, j, CJ, jx, _, _, rfl, hj3, J.cl, J.n1, rfl, p, dx, _, rfl, D3.ins, rfl, _, rfl, j, CJ, jx, _, _, rfl, hj3, J.cl, J.n2, rfl, _, _, rfl, rfl, _, rfl, add_read (k := ((2 + i : Nat) : Int)) (by omega) ⟨_, rfl, ?_⟩⟩
      refine spW_of D3 (by omega) (R'.same st) ((hR'.same st).dat q hm) ⟨(hok q hm).1, by omega, by omega⟩ fun H4 d4 b4 D4 R4 => ?_
      exact ⟨W', d4, _, _, _, rfl, JAt.bar hj3 D3 njp b4, (hR'.same st).bar D3 b4 nr', nr', k1, k2, lst_bar (st _ _ l') D3 k1 b4, lst_bar (st _ _ m') D3 k2 b4, D4, R4⟩
    · obtain ⟨W', d', u, v, z, rfl, hj', hR', nr', k1, k2, l', m', hD', R'⟩ := q
      rw [List.length_map] at hD' R'
      have ed : (opsG sr gs).drop gs.length = [none, some (1, headI (sr + 1) (rowNs gs) (sumI (startI (sr + 1) (rowNs gs) ++ rowDs gs))), none] := by
        unfold opsG
        rw [List.drop_left' (by rw [List.length_mapIdx])]
      rw [ed] at R'
      refine ⟨_, rfl, j, CJ, jx, _, _, rfl, hj', J.cl, J.n1, rfl, p, dx, _, rfl, hD'.ins, rfl, ?_⟩
      refine spF_of hD' (by omega) R' fun H2 W2 d2 n2 b2 D2' R2 => ?_
      have hj2 := JAt.bar hj' hD' njp b2
      have l2 := lst_bar l' hD' k1 b2
      have m2 := lst_bar m' hD' k2 b2
      have hR2 := hR'.bar hD' b2 nr'
      refine ⟨_, rfl, j, CJ, jx, _, _, rfl, hj2, J.cl, J.n1, rfl, p, dx, _, rfl, D2'.ins, rfl, _, rfl, j, CJ, jx, _, _, rfl, hj2, J.cl, J.n2, rfl, ?_⟩
      refine ⟨_, rfl, j, CJ, jx, _, _, rfl, hj2, J.cl, J.n4, rfl, _, _, rfl, rfl, _, rfl, _, rfl, _, rfl, j, CJ, jx, _, _, rfl, hj2, J.cl, J.n1, rfl, p, C, dx, _, _, rfl, D2'.ins, T.cl, T.n1, rfl, ?_⟩
      refine ⟨sr + 1, D1, D2, rowNs gs, psOf gs, rfl, l2, by unfold rowNs; rw [List.length_map]; omega, by rw [psOf_refs]; exact m2, fun q hq => ?_, by rw [psOf_flat, rowDs_len hok]; omega, fun H3 hd s3 nh hh => ?_⟩
      · obtain ⟨q', hq', rfl⟩ := List.mem_map.mp hq
        exact hR2.dat q' hq'
      · rw [psOf_flat] at hh
        refine spW_of (D2'.same s3) (by omega) (R2.same s3) hh ⟨headI_len (sumI_len _) (by unfold rowNs; rw [List.length_map]; omega), by decide, by decide⟩ fun H4 d4 b4 D4 R4 => ?_
        have hj4 := JAt.bar (s3 _ _ hj2) (D2'.same s3) njp b4
        refine ⟨_, rfl, j, CJ, jx, _, _, rfl, hj4, J.cl, J.n1, rfl, p, dx, _, rfl, D4.ins, rfl, ?_⟩
        exact spF_of D4 (by omega) R4 fun H5 W5 d5 n5 b5 D5 R5 => R5.nil D5
end
end K03
namespace K03
open PySem L2 HK
def datL (d : AD) (k : Nat) : List (List Int) := (List.range k).map fun i => d.rd (((2 + i : Nat) : Int))
def pairs (gs : List Rw) : List (Int × List Int) := gs.map fun q => (q.1.2.1, q.2)
def EmptyList (H : Hp) (Q : VK) : Prop := ∀ H' L, Same H H' → H L = none → RowsAt H' L [] → Q (.ref L) H'
def spPend (CJ C CE : Addr) : Sp := fun vs H Q E => ∃ j jx p dx sr N d B W, vs = [.ref j] ∧ JAt CJ H j jx p sr ∧ DevS C H p dx B W N d ∧ N ≤ 900 ∧ (d.dead = true → E (.ref CE) none H) ∧
  (d.dead = false → (d.rd 1 = zero64 ∧ EmptyList H Q) ∨ ∃ s ns sm, d.rd 1 = headI s ns sm ∧ sm.length = 4 ∧ ns.length ≤ 5 ∧ 0 ≤ s ∧ s < 65536 ∧ (∀ n ∈ ns, 0 ≤ n ∧ n < 65536) ∧
    (sumI (startI s ns ++ (datL d ns.length).flatten) ≠ sm → EmptyList H Q) ∧
    (sumI (startI s ns ++ (datL d ns.length).flatten) = sm → ∀ H' L gs, Same H H' → H L = none → RowsAt H' L gs → pairs gs = ns.zip (datL d ns.length) → Q (.ref L) H'))
theorem rows_of {H : Hp} : ∀ (ts : List Addr) (ns : List Int) (as : List (Addr × List Int)), Paired (fun (t : Addr) (q : V × V) => H t = some (.tup [q.1, q.2])) ts ((ns.map V.int).zip (as.map fun a => V.ref a.1)) → rowsOk H as → ns.length = as.length →
    ∃ gs : List Rw, gs.map (fun q => V.ref q.1.1) = ts.map V.ref ∧ (∀ q ∈ gs, H q.1.1 = some (.tup [.int q.1.2.1, .ref q.1.2.2])) ∧ (∀ q ∈ gs, H q.1.2.2 = some (tupI q.2)) ∧ pairs gs = ns.zip (as.map (·.2))
  | ts, [], [], h, _, _ => by
    cases h
    exact ⟨[], rfl, (fun q hq => by cases hq), (fun q hq => by cases hq), rfl⟩
  | ts, n :: ns, a :: as, h, hr, hl => by
    rw [List.map_cons, List.map_cons, List.zip_cons_cons] at h
    cases h with
    | cons h1 h2 =>
      rename_i t ts
      obtain ⟨gs, g1, g2, g3, g4⟩ := rows_of ts ns as h2 (fun q hq => hr q (by simp [hq])) (by simpa using hl)
      refine ⟨((t, n, a.1), a.2) :: gs, by rw [List.map_cons, List.map_cons, g1], fun q hq => ?_, fun q hq => ?_, by unfold pairs at g4 ⊢; rw [List.map_cons, g4]; rfl⟩
      · rcases List.mem_cons.mp hq with rfl | hq
        · exact h1
        · exact g2 q hq
      · rcases List.mem_cons.mp hq with rfl | hq
        · exact hr a (by simp)
        · exact g3 q hq
  | ts, [], _ :: _, _, _, hl => by cases hl
  | ts, _ :: _, [], _, _, hl => by cases hl
theorem spR_of {C CE p dx B W : Addr} {H : Hp} {N : Nat} {d : AD} {E : XK} {G : VK} {n : Int} (D : DevS C H p dx B W N d) (hN : N ≤ 900) (al : d.dead = false) (ok : 0 ≤ n ∧ n < 16) (k : ∀ H' r, Same H H' → H' r = some (tupI (d.rd n)) → G (.ref r) H') : spReadA C CE [.ref p, .int n] H G E :=
  ⟨p, dx, B, W, N, d, n, rfl, D, hN, (fun z => by rw [al] at z; cases z), fun z => absurd ok z, fun _ _ => k⟩
theorem spR_dead {C CE p dx B W : Addr} {H : Hp} {N : Nat} {d : AD} {E : XK} {G : VK} {n : Int} (D : DevS C H p dx B W N d) (hN : N ≤ 900) (al : d.dead = true) (ok : 0 ≤ n ∧ n < 16) (k : E (.ref CE) none H) : spReadA C CE [.ref p, .int n] H G E :=
  ⟨p, dx, B, W, N, d, n, rfl, D, hN, fun _ => k, fun z => absurd ok z, fun z => by rw [al] at z; cases z⟩
theorem empty_of {H H' : Hp} {L : Addr} {Q : VK} (e : EmptyList H Q) (s : Same H H') (n : H L = none) (h : H' L = some (.lst [])) : Q (.ref L) H' := e H' L s n ⟨h, (fun q hq => by cases hq), (fun q hq => by cases hq)⟩
theorem EmptyList.same {H H' : Hp} {Q : VK} (e : EmptyList H Q) (s : Same H H') : EmptyList H' Q := fun H2 L s2 n r => e H2 L (s.trans s2) (s.free n) r
theorem datL_len (d : AD) (k : Nat) : (datL d k).length = k := by unfold datL; rw [List.length_map, List.length_range]
theorem datL_succ (d : AD) (k : Nat) : datL d (k + 1) = datL d k ++ [d.rd (((2 + k : Nat) : Int))] := by unfold datL; rw [List.range_succ, List.map_append]; rfl
theorem lastA_mem {ws : List (Int × List Int)} {n : Int} {x : List Int} (h : lastA ws n = some x) : (n, x) ∈ ws := by
  unfold lastA at h
  obtain ⟨q, hq, rfl⟩ := Option.map_eq_some_iff.mp h
  have z := List.find?_some hq
  have e : q.1 = n := of_decide_eq_true z
  rw [← e]
  exact List.mem_reverse.mp (List.mem_of_find?_eq_some hq)
theorem DevS.rd_len {C p dx B W : Addr} {H : Hp} {N : Nat} {d : AD} (D : DevS C H p dx B W N d) (n : Int) : (d.rd n).length = 64 := by
  have hf := D.len n
  obtain ⟨i, nf, kvs, es, hB, hc, hW, hn, hw, hd⟩ := D
  unfold AD.rd
  cases q : lastA d.ws n with
  | none => exact hf
  | some x =>
    have m := lastA_mem q
    rw [hw] at m
    obtain ⟨y, hy, e⟩ := List.mem_map.mp m
    injection e with e1 e2
    show x.length = 64
    rw [← e2]
    exact (hd y hy).2
theorem flat_len64 : ∀ l : List (List Int), (∀ x ∈ l, x.length = 64) → l.flatten.length = 64 * l.length
  | [], _ => rfl
  | x :: r, h => by
    rw [List.flatten_cons, List.length_append, h x (by simp), flat_len64 r (fun y hy => h y (by simp [hy])), List.length_cons]
    omega
theorem flat_map (as : List (Addr × List Int)) : flat as = (as.map (·.2)).flatten := by
  unfold flat
  rw [List.flatMap_def]
section
variable {P : Program} {w : World} {K : PySem.W.Frag} {mg : Str → Option Value} {base : Heap} {C CE CJ CJE : Addr}
abbrev NP : List Str := ["self", "found", "serial", "numbers", "checksum", "datas", "place"]
theorem scPend : FnScope NP ["self"] (defScope sPend) := ⟨rfl, rfl, rfl, by decide +kernel, rfl, by decide +kernel, by decide +kernel⟩
theorem ok_pend {f fR fM fH fG fS : Addr} {fd fdR fdM fdH fdG fdS : FuncData} (F : L2.Fun K "pending" "Journal.pending" sPend f fd) (T : DTxt K mg C CE) (JT : JTxt K mg) (J : JCls K mg CJ CJE)
    (FR : FnOk P w K mg base (L2.CX P w) 2 fR fdR ["self", "number"] (spReadA C CE)) (bR : Binds K fdR ["self", "number"] []) (mR : Meth K C "read" fR)
    (FM : FnOk P w K mg base L2.CX0 2 fM fdM ["self"] (spRoom CJ C)) (bM : Binds K fdM ["self"] []) (mM : Meth K CJ "room" fM)
    (FH : FnOk P w K mg base L2.CX0 2 fH fdH ["data"] (spReadHead K)) (mH : mg "read_head" = some (.ref fH)) (kH : PySem.W.keepIn K (.ref fH) = true) (bH : Binds K fdH ["data"] [])
    (FS : FnOk P w K mg base L2.CX0 2 fS fdS ["serial", "numbers"] (spStartT K)) (mS : mg "head_start" = some (.ref fS)) (kS : PySem.W.keepIn K (.ref fS) = true) (bS : Binds K fdS ["serial", "numbers"] [])
    (FG : FnOk P w K mg base L2.CX0 3 fG fdG ["head", "rows"] (spGroup K)) (mG : mg "group_sum" = some (.ref fG)) (kG : PySem.W.keepIn K (.ref fG) = true) (bG : Binds K fdG ["head", "rows"] []) :
    FnOk P w K mg base (L2.CX P w) 4 f fd ["self"] (spPend CJ C CE) := by
  refine F.okX scPend (fun vs H Q E h => ?_) (fun cdv A outer s H vs Q E hr h => ?_)
  · obtain ⟨j, jx, p, dx, sr, N, d, B, W, rfl, _⟩ := h
    rfl
  · obtain ⟨j, jx, p, dx, sr, N, d, B, W, rfl, hj, hD, hN, kd, ka⟩ := h
    have rR := FR.mono (show 2 ≤ 3 by decide)
    have rM := FM.mono (show 2 ≤ 3 by decide)
    have rH := FH.mono (show 2 ≤ 3 by decide)
    have rS := FS.mono (show 2 ≤ 3 by decide)
    refine ⟨_, pss_cons (ps_set (i := 1) scPend.nd rfl (Or.inl rfl) (pe_call rH hr (by rfl) mH kH bH .nil pass0 (pa_cons (pe_meth (pe_fld (pv 0) rfl) T.cl mR rR hr bR .nil (passes_call (takes_of rfl rfl rfl rfl) (fun _ _ _ _ h => h)) (pa_cons (pe_fld (pv 0) rfl) pa_nil)) pa_nil)))
      (pss_cons (ps_if (pt_cmpR op_isN (pv 1) pe_non (nomark _)) (pss_one (ps_ret (pe_lst pa_nil))) pss_nil)
      (pss_cons (ps_asg (pv 1) (pg_tup rfl (pgs_cons (pg_name (i := 2) scPend.nd rfl (Or.inl rfl)) (pgs_cons (pg_name (i := 3) scPend.nd rfl (Or.inl rfl)) (pgs_cons (pg_name (i := 4) scPend.nd rfl (Or.inl rfl)) pgs_nil)))))
      (pss_cons (ps_if (pt_cmpR op_gt (pe_callB call_len_seq (by rfl) T.len PySem.boot_len (pa_cons (pv 3) pa_nil)) (pe_meth0 (pv 0) J.cl mM rM hr bM .nil pass0) (nomark _)) (pss_one (ps_ret (pe_lst pa_nil))) pss_nil)
      (pss_cons (ps_setLc (i := 5) (own := [("place", 6)]) (g := gName 6) (te := tMeth C "read" (spReadA C CE) [] E0 (tFld K (tVar 0) "device") (tCons (tOp (rI0 fun i j => V.int (i + j)) (tOp (rI0 fun i j => V.int (i + j)) (tFld K (tVar 0) "start") (tC (.int 1))) (tVar 6)) tNil)) (by rfl) scPend.nd rfl rfl (sw_true rfl rfl rfl (by decide +kernel)) (pi_range1 (by rfl) J.range (pa_cons (pe_callB call_len_seq (by rfl) T.len PySem.boot_len (pa_cons (pv 3) pa_nil)) pa_nil))
          (blkOk_by (N := NP) (sc := defScope sPend) (by decide +kernel)) (fun _ _ _ _ _ => pg_name (i := 6) scPend.nd rfl (Or.inl rfl)) (fun _ _ _ _ _ => pts_nil)
          (fun _ _ _ _ _ => by refine pe_meth ?_ T.cl mR rR hr bR .nil passL (pa_cons ?_ pa_nil); exact pe_fld (pv 0) rfl; exact pe_op op_add (pe_op op_add (pe_fld (pv 0) rfl) pe_int) (pv 6)))
      (pss_cons (ps_if (pt_cmpR (op_neD hr.units) (pe_call FG hr (by rfl) mG kG bG .nil pass0 (pa_cons (pe_call rS hr (by rfl) mS kS bS .nil pass0 (pa_cons (pv 2) (pa_cons (pv 3) pa_nil))) (pa_cons (pv 5) pa_nil))) (pv 4) (nomark _)) (pss_one (ps_ret (pe_lst pa_nil))) pss_nil)
      (pss_one (ps_ret (HZT.pe_listZipTL (by rfl) (pa_cons (pv 3) (pa_cons (pv 5) pa_nil)) (by rfl) J.list PyProof.Rows.Boot.«list» (by rfl) J.zip)))))))), ?_⟩
    refine ⟨_, rfl, j, CJ, jx, _, _, rfl, hj, J.cl, J.n1, rfl, p, dx, _, rfl, hD.ins, rfl, _, rfl, j, CJ, jx, _, _, rfl, hj, J.cl, J.n2, rfl, ?_⟩
    cases hdead : d.dead with
    | true => exact spR_dead hD hN hdead ⟨by decide, by decide⟩ (kd hdead)
    | false =>
      refine spR_of hD hN hdead ⟨by decide, by decide⟩ fun H1 r s1 hr1 => ?_
      rcases ka hdead with ⟨e0, kE⟩ | ⟨sn, ns, sm, eh, hsm, hns, s0, s1', hn, kbad, kgood⟩
      · rw [e0] at hr1
        refine ⟨r, zero64, rfl, SqT.of hr1, .inl ⟨rfl, fun H2 s2 => ?_⟩⟩
        refine ⟨_, rfl, rfl, _, rfl, iteT ⟨by show 0 ≤ sizeLine; decide, fun L nL => ?_⟩⟩
        exact empty_of kE ((s1.trans s2).trans (same_upd nL)) ((s1.trans s2).free nL) upd_same
      · rw [eh] at hr1
        refine ⟨r, _, rfl, SqT.of hr1, .inr ⟨sn, ns, sm, rfl, hsm, by omega, s0, s1', hn, fun H2 q a1 a2 s2 nq hq h1 h2 => ?_⟩⟩
        have s12 := s1.trans s2
        refine ⟨_, rfl, rfl, _, rfl, iteF ?_⟩
        refine ⟨_, rfl, q, _, rfl, SqT.of hq, rfl, _, _, rfl, _, _, rfl, _, _, rfl, rfl, ?_⟩
        have hj2 := s12 _ _ hj
        have hD2 := hD.same s12
        refine ⟨_, rfl, a1, _, rfl, .inr (SqT.of h1), _, rfl, j, jx, _, rfl, hj2, rfl, j, jx, p, dx, sr, N, d, B, W, rfl, hj2, hD2, _, _, rfl, rfl, _, rfl, iteDN (by rw [List.length_map]; omega) ?_⟩
        -- datas
        refine ⟨_, rfl, a1, _, rfl, .inr (SqT.of h1), ((ns.length : Nat) : Int), by rw [List.length_map], by omega, by omega, fun D nD => ?_⟩
        refine lc_it (walk_range (n := ns.length)) (fun i H' => Same H2 H' ∧ ∃ as : List (Addr × List Int), as.map (·.2) = datL d i ∧ H' D = some (.lst (as.map fun a => V.ref a.1)) ∧ rowsOk H' as) ⟨same_upd nD, [], rfl, upd_same, fun q hq => by cases hq⟩ (fun _ _ _ _ => trivial) (fun i x H' H'' hi q y => ?_) (fun H' q => ?_)
        · obtain ⟨rfl, rfl⟩ := y
          obtain ⟨sx, as, e1, e2, e3⟩ := q
          have hj3 := sx _ _ hj2
          have hD3 := hD2.same sx
          refine ⟨rfl, _, rfl, j, CJ, jx, _, _, rfl, hj3, J.cl, J.n1, rfl, p, dx, _, rfl, hD3.ins, rfl, _, rfl, j, CJ, jx, _, _, rfl, hj3, J.cl, J.n2, rfl, _, _, rfl, rfl, _, rfl, add_read (k := ((2 + i : Nat) : Int)) (by omega) ?_⟩
          refine spR_of hD3 hN hdead ⟨by omega, by omega⟩ fun H4 r4 s4 h4 => ?_
          have la : as.length = i := by rw [← List.length_map (f := fun x : Addr × List Int => x.2), e1, datL_len]
          refine ⟨_, s4 _ _ e2, by rw [List.length_map]; exact small1000 (by omega), ?_, as ++ [(r4, d.rd (((2 + i : Nat) : Int)))], by rw [List.map_append, e1, datL_succ]; rfl, by rw [upd_same, List.map_append]; rfl, fun q hq => ?_⟩
          · exact fun b o hb => by
              rw [upd_ne (ne_of_none hb nD)]
              exact s4 _ _ (sx _ _ hb)
          · rcases List.mem_append.mp hq with z | z
            · have z2 := s4 _ _ (e3 q z)
              rw [upd_ne (ne_of z2 (s4 _ _ e2) (by intro z; cases z))]
              exact z2
            · rw [List.mem_singleton.mp z, upd_ne (ne_of h4 (s4 _ _ e2) (by intro z; cases z))]
              exact h4
        · obtain ⟨sx, as, e1, e2, e3⟩ := q
          have la : as.length = ns.length := by rw [← List.length_map (f := fun x : Addr × List Int => x.2), e1, datL_len]
          have sx2 := s12.trans sx
          have lf : (flat as).length = 64 * ns.length := by
            rw [flat_map, flat_len64 _ (fun x hx => ?_), e1, datL_len]
            rw [e1] at hx
            unfold datL at hx
            obtain ⟨i, _, rfl⟩ := List.mem_map.mp hx
            exact hD.rd_len _
          -- the sum
          refine ⟨_, rfl, _, rfl, sn, a1, ns, rfl, SqT.of (sx _ _ h1), by omega, fun H3 p3 s3 n3 h3 => ?_⟩
          have l3 := startI_len sn ns
          refine ⟨_, rfl, p3, D, startI sn ns, as, rfl, SqT.of h3, s3 _ _ e2, fun q hq => s3 _ _ (e3 q hq), by omega, fun H4 p4 s4 n4 h4 => ?_⟩
          have sx4 := (sx.trans s3).trans s4
          refine ⟨_, rfl, ne_tupI (SqT.of h4) (SqT.of (sx4 _ _ h2)) ⟨_, rfl, ?_⟩⟩
          rw [flat_map, e1]
          by_cases hsum : sumI (startI sn ns ++ (datL d ns.length).flatten) = sm
          · rw [decide_eq_true hsum]
            refine iteF ?_
            refine ⟨_, rfl, _, rfl, a1, D, ns.map V.int, as.map fun a => V.ref a.1, rfl, SqT.of (sx4 _ _ h1), SqL.of ((s3.trans s4) _ _ e2), by rw [List.length_map, List.length_map, la], fun H5 L ts s5 nL nts _ hL hP => ?_⟩
            obtain ⟨gs, g1, g2, g3, g4⟩ := rows_of ts ns as hP (fun q hq => s5 _ _ ((s3.trans s4) _ _ (e3 q hq))) la.symm
            have st := (s12.trans sx4).trans s5
            exact kgood hsum H5 L gs st ((s12.trans sx4).free nL) ⟨by rw [g1]; exact hL, g2, g3⟩ (by rw [g4, e1])
          · rw [decide_eq_false hsum]
            refine iteT ⟨by show 0 ≤ sizeLine; decide, fun L nL => ?_⟩
            exact empty_of (kbad hsum) ((s12.trans sx4).trans (same_upd nL)) ((s12.trans sx4).free nL) upd_same
end
end K03
namespace K03
open PySem L2 HK
theorem Runs.split {C CE p dx B W : Addr} {H : Hp} {N : Nat} {d : AD} {Q G : Hp → Prop} {E : XK} {l m : List Op} (x : Runs C CE H p dx B W N d (l ++ m) Q E)
    (k : ∀ H' W', (W' = W ∨ H W' = none) → Bar p B W H H' → DevS C H' p dx B W' (N + l.length) (runA d l).1 → Runs C CE H' p dx B W' (N + l.length) (runA d l).1 m Q E → G H') : Runs C CE H p dx B W N d l G E := by
  obtain ⟨x1, x2⟩ := x
  rw [runA_app, List.length_append] at x1 x2
  refine ⟨fun c H' W' hW b D => ?_, fun c H' W' hW b D => ?_⟩
  · rw [if_pos c] at x1 x2
    refine k H' W' hW b D ⟨fun c2 H2 W2 hW2 b2 D2 => ?_, fun c2 H2 W2 hW2 b2 D2 => ?_⟩
    · rw [Nat.add_assoc] at D2
      exact x1 c2 H2 W2 (fresh_back D hW b hW2) (b.trans hW b2) D2
    · rw [Nat.add_assoc] at D2
      exact x2 c2 H2 W2 (fresh_back D hW b hW2) (b.trans hW b2) D2
  · rw [if_neg (by rw [c]; intro z; cases z)] at x2
    exact x2 c H' W' hW b (D.mono (by omega))
def opsP (ps : List (Int × List Int)) : List Op := ps.map some ++ [none, some (1, zero64), none]
theorem opsH_P (gs : List Rw) : opsH gs = opsP (pairs gs) := by
  unfold opsH opsP pairs
  rw [List.map_map]
  rfl
def opsR (ps : List (Int × List Int)) : List Op := if ps = [] then [] else opsP ps
structure SpRec (CJ C CE : Addr) (vs : List V) (H : Hp) (Q : VK) (E : XK) : Prop where
  h : ∃ j jx p dx sr N d B W, vs = [.ref j] ∧ JAt CJ H j jx p sr ∧ j ≠ p ∧ DevS C H p dx B W N d ∧ N ≤ 800 ∧ (d.dead = true → E (.ref CE) none H) ∧
  (d.dead = false → (d.rd 1 = zero64 ∧ ∀ H' t, Same H H' → H' t = some (tupI []) → Q (.ref t) H') ∨ ∃ s ns sm, d.rd 1 = headI s ns sm ∧ sm.length = 4 ∧ ns.length ≤ 5 ∧ 0 ≤ s ∧ s < 65536 ∧ (∀ n ∈ ns, 0 ≤ n ∧ n < 16) ∧
    sumI (startI s ns ++ (datL d ns.length).flatten) = sm ∧ Runs C CE H p dx B W N d (opsR (ns.zip (datL d ns.length))) (fun H' => ∀ H2 t, Same H' H2 → H2 t = some (tupI ns) → Q (.ref t) H2) E)
def spRec (CJ C CE : Addr) : Sp := fun vs H Q E => SpRec CJ C CE vs H Q E
def spCommit (CJ C CE CJE : Addr) : Sp := fun vs H Q E => ∃ j jx p dx sr N d B W r gs, vs = [.ref j, .ref r] ∧ JAt CJ H j jx p sr ∧ j ≠ p ∧ DevS C H p dx B W N d ∧ N ≤ 700 ∧ RowsAt H r gs ∧ r ≠ W ∧ okRows gs ∧ (5 < gs.length → E (.ref CJE) none H) ∧
  (gs.length ≤ 5 → Runs C CE H p dx B W N d (opsG sr gs ++ opsH gs) (fun H' => Q .non (upd H' j (.ins CJ jx (fsJ p (sr + 1))))) E)
section
variable {P : Program} {w : World} {K : PySem.W.Frag} {mg : Str → Option Value} {base : Heap} {C CE CJ CJE : Addr}
theorem scCommit : FnScope ["self", "rows", "number", "data"] ["self", "rows"] (defScope sCommit) := ⟨rfl, rfl, rfl, by decide +kernel, rfl, by decide +kernel, by decide +kernel⟩
theorem ok_commit {f fB fG fH fM : Addr} {fd fdB fdG fdH fdM : FuncData} (F : L2.Fun K "commit" "Journal.commit" sCommit f fd) (T : DTxt K mg C CE) (J : JCls K mg CJ CJE)
    (FB : FnOk P w K mg base (L2.CX P w) 2 fB fdB ["self", "number", "data"] (spBlock K C CE)) (bB : Binds K fdB ["self", "number", "data"] []) (mB : Meth K C "check_block" fB)
    (FM : FnOk P w K mg base L2.CX0 2 fM fdM ["self"] (spRoom CJ C)) (bM : Binds K fdM ["self"] []) (mM : Meth K CJ "room" fM)
    (FG : FnOk P w K mg base (L2.CX P w) 5 fG fdG ["self", "rows"] (spWG CJ C CE)) (bG : Binds K fdG ["self", "rows"] []) (mG : Meth K CJ "write_group" fG)
    (FH : FnOk P w K mg base (L2.CX P w) 4 fH fdH ["self", "rows"] (spWH CJ C CE)) (bH : Binds K fdH ["self", "rows"] []) (mH : Meth K CJ "write_home" fH) :
    FnOk P w K mg base (L2.CX P w) 6 f fd ["self", "rows"] (spCommit CJ C CE CJE) := by
  refine F.okX scCommit (fun vs H Q E h => ?_) (fun cdv A outer s H vs Q E hr h => ?_)
  · obtain ⟨j, jx, p, dx, sr, N, d, B, W, r, gs, rfl, _⟩ := h
    rfl
  · obtain ⟨j, jx, p, dx, sr, N, d, B, W, r, gs, rfl, hj, njp, hD, hN, hR, nrW, hok, k1, k2⟩ := h
    have rB := FB.mono (show 2 ≤ 5 by decide)
    have rM := FM.mono (show 2 ≤ 5 by decide)
    have rH := FH.mono (show 4 ≤ 5 by decide)
    refine ⟨_, pss_cons (ps_if (pt_cmpR op_gt (pe_callB call_len_seq (by rfl) T.len PySem.boot_len (pa_cons (pv 1) pa_nil)) (pe_meth0 (pv 0) J.cl mM rM hr bM .nil pass0) (nomark _)) (pss_one (ps_raise rfl (takes_of rfl rfl rfl rfl) (pmk_own PySem.F.excBase_ValueError J.xE J.gE J.kE (raises_own J.bE J.tE) rfl))) pss_nil)
      (pss_cons (ps_for (passes_of rfl) rfl (pi_list (pv 1)) (pg_tup rfl (pgs_cons (pg_name (i := 2) scCommit.nd rfl (Or.inl rfl)) (pgs_cons (pg_name (i := 3) scCommit.nd rfl (Or.inl rfl)) pgs_nil)))
        (pss_one (ps_expr (pe_meth (pe_fld (pv 0) rfl) T.cl mB rB hr bB .nil (passes_call (takes_of rfl rfl rfl rfl) (fun _ _ _ _ h => h)) (pa_cons (pv 2) (pa_cons (pv 3) pa_nil))))))
      (pss_cons (ps_expr (pe_meth (pv 0) J.cl mG FG hr bG .nil (passes_call (takes_of rfl rfl rfl rfl) (fun _ _ _ _ h => h)) (pa_cons (pv 1) pa_nil)))
      (pss_cons (ps_expr (pe_meth (pv 0) J.cl mH rH hr bH .nil (passes_call (takes_of rfl rfl rfl rfl) (fun _ _ _ _ h => h)) (pa_cons (pv 1) pa_nil)))
      (pss_one (ps_fld (pv 0) (pe_op op_add (pe_fld (pv 0) rfl) pe_int) rfl))))), ?_⟩
    refine ⟨_, rfl, r, _, rfl, .inl (SqL.of hR.lst), _, rfl, j, jx, _, rfl, hj, rfl, j, jx, p, dx, sr, N, d, B, W, rfl, hj, hD, _, _, rfl, rfl, _, rfl, ?_⟩
    by_cases h5 : 5 < gs.length
    · exact iteD (by rw [List.length_map]; omega) (k1 h5)
    · refine iteDN (by rw [List.length_map]; omega) ?_
      have R := k2 (by omega)
      refine ⟨_, rfl, r, rfl, ⟨_, SqL.of hR.lst⟩, ?_⟩
      refine for_list (K := K) (a := r) (xs := gs.map fun q => V.ref q.1.1) (fun i σ H' => H' = H ∧ ∃ u v, σ = [some (.ref j), some (.ref r), u, v]) ⟨rfl, none, none, rfl⟩ (fun i σ H' hi q => by rw [q.1]; exact SqL.of hR.lst) (fun i x σ H' hx q => ?_) (fun σ H' q => ?_)
      · obtain ⟨rfl, u, v, rfl⟩ := q
        rw [List.getElem?_map] at hx
        obtain ⟨q, hq, rfl⟩ := Option.map_eq_some_iff.mp hx
        have hm := List.mem_of_getElem? hq
        refine ⟨q.1.1, _, rfl, SqT.of (hR.tup q hm), rfl, _, _, rfl, _, _, rfl, rfl, ?_⟩
        refine ⟨_, rfl, j, CJ, jx, _, _, rfl, hj, J.cl, J.n1, rfl, p, dx, _, rfl, hD.ins, rfl, _, rfl, _, rfl, p, dx, d.dv, B, W, q.1.2.1, q.1.2.2, _, rfl, hD.ins, SqT.of (hR.dat q hm), fun _ _ => ⟨rfl, _, _, rfl⟩, fun z => absurd ⟨by rw [List.length_map, (hok q hm).1]; rfl, (hok q hm).2⟩ z⟩
      · obtain ⟨rfl, u, v, rfl⟩ := q
        refine ⟨_, rfl, j, jx, _, rfl, hj, rfl, _, rfl, j, jx, p, dx, sr, N, d, B, W, r, gs, rfl, hj, njp, hD, by omega, hR, nrW, by omega, hok, ?_⟩
        refine R.split fun H1 W1 hW1 b1 D1 R1 => ?_
        have hl : (opsG sr gs).length ≤ 8 := by unfold opsG; rw [List.length_append, List.length_mapIdx]; show gs.length + 3 ≤ 8; omega
        have hj1 := JAt.bar hj hD njp b1
        have hR1 := hR.bar hD b1 nrW
        have nr1 : r ≠ W1 := by
          rcases hW1 with z | z
          · rw [z]; exact nrW
          · exact ne_of_none hR.lst z
        refine ⟨_, rfl, j, jx, _, rfl, hj1, rfl, _, rfl, j, jx, p, dx, sr, _, _, B, W1, r, gs, rfl, hj1, njp, D1, by omega, hR1, nr1, by omega, hok, ?_⟩
        have R1' : Runs C CE H1 p dx B W1 (N + (opsG sr gs).length) (runA d (opsG sr gs)).1 (opsH gs ++ []) (fun H' => Q .non (upd H' j (.ins CJ jx (fsJ p (sr + 1))))) E := by rw [List.append_nil]; exact R1
        refine R1'.split fun H2 W2 hW2 b2 D2 R2 => ?_
        have hj2 := JAt.bar hj1 D1 njp b2
        exact ⟨_, rfl, j, CJ, jx, _, _, rfl, hj2, J.cl, J.n4, rfl, _, _, rfl, rfl, _, rfl, j, CJ, jx, _, rfl, hj2, J.cl, J.n4, (by show 4 < 1000; decide), R2.nil D2⟩
abbrev NR : List Str := ["self", "rows", "number", "data"]
theorem scRec : FnScope NR ["self"] (defScope sRec) := ⟨rfl, rfl, rfl, by decide +kernel, rfl, by decide +kernel, by decide +kernel⟩
theorem ok_rec {f fP fH : Addr} {fd fdP fdH : FuncData} (F : L2.Fun K "recover" "Journal.recover" sRec f fd) (T : DTxt K mg C CE) (J : JCls K mg CJ CJE)
    (FP : FnOk P w K mg base (L2.CX P w) 4 fP fdP ["self"] (spPend CJ C CE)) (bP : Binds K fdP ["self"] []) (mP : Meth K CJ "pending" fP)
    (FH : FnOk P w K mg base (L2.CX P w) 4 fH fdH ["self", "rows"] (spWH CJ C CE)) (bH : Binds K fdH ["self", "rows"] []) (mH : Meth K CJ "write_home" fH) :
    FnOk P w K mg base (L2.CX P w) 5 f fd ["self"] (spRec CJ C CE) := by
  refine F.okX scRec (fun vs H Q E h => ?_) (fun cdv A outer s H vs Q E hr h => ?_)
  · obtain ⟨j, jx, p, dx, sr, N, d, B, W, rfl, _⟩ := h
    rfl
  · obtain ⟨j, jx, p, dx, sr, N, d, B, W, rfl, hj, njp, hD, hN, kd, ka⟩ := h
    refine ⟨_, pss_cons (ps_set (i := 1) scRec.nd rfl (Or.inl rfl) (pe_meth0 (pv 0) J.cl mP FP hr bP .nil (passes_call (takes_of rfl rfl rfl rfl) (fun _ _ _ _ h => h))))
      (pss_cons (ps_if (pt_cmpR (op_neD hr.units) (pv 1) (pe_lst pa_nil) (nomark _)) (pss_one (ps_expr (pe_meth (pv 0) J.cl mH FH hr bH .nil (passes_call (takes_of rfl rfl rfl rfl) (fun _ _ _ _ h => h)) (pa_cons (pv 1) pa_nil)))) pss_nil)
      (pss_one (ps_ret (pe_callTy call_tuple_of (by rfl) T.tup PyProof.Rows.Boot.«tuple» (pa_cons (pe_lc (own := [("number", 2), ("data", 3)]) (g := gTup K 2 (gCons (gName 2) (gCons (gName 3) gNil))) (by rfl) scRec.nd (pi_list (pv 1))
          (blkOk_by (N := NR) (sc := defScope sRec) (by decide +kernel)) (fun _ _ _ _ _ => pg_tup rfl (pgs_cons (pg_name (i := 2) scRec.nd rfl (Or.inl rfl)) (pgs_cons (pg_name (i := 3) scRec.nd rfl (Or.inl rfl)) pgs_nil))) (fun _ _ _ _ _ => pts_nil) (fun _ _ _ _ _ => pv 2)) pa_nil))))), ?_⟩
    -- what stands behind the comparison
    have fin : ∀ (H1 : Hp) (L : Addr) (gs : List Rw), RowsAt H1 L gs → gs.length ≤ 5 → (∀ H2 t, Same H1 H2 → H2 t = some (tupI (rowNs gs)) → Q (.ref t) H2) →
        tRet (tCB (fun xs H_1 Q => ∃ p ys, xs = [V.ref p] ∧ (SqL K H_1 p ys ∧ (∀ l, H_1 l = none → Q (.ref l) (upd H_1 l (.tup ys))) ∨ SqT K H_1 p ys ∧ Q (.ref p) H_1)) (tCons (tLc (iList K (tVar 1)) (gTup K 2 (gCons (gName 2) (gCons (gName 3) gNil))) tYes (tVar 2) [2, 3]) tNil))
          { nx := fun _ H' => Q .non H', rt := Q } [some (.ref j), some (.ref L), none, none] H1 := fun H1 L gs hR h5 k => by
      refine ⟨_, rfl, L, rfl, ⟨_, SqL.of hR.lst⟩, fun D nD => ?_⟩
      refine lc_list (K := K) (a := L) (xs := gs.map fun q => V.ref q.1.1) (fun i H' => H' = upd H1 D (.lst ((rowNs (gs.take i)).map V.int))) rfl (fun i H' hi q => ?_) (fun i x H' hx q => ?_) (fun H' q => ?_)
      · subst q
        exact SqL.of (same_upd nD _ _ hR.lst)
      · subst q
        rw [List.getElem?_map] at hx
        obtain ⟨q, hq, rfl⟩ := Option.map_eq_some_iff.mp hx
        have hm := List.mem_of_getElem? hq
        have hi := (List.getElem?_eq_some_iff.mp hq).1
        have s1 : Same H1 (upd H1 D (.lst ((rowNs (gs.take i)).map V.int))) := same_upd nD
        refine ⟨q.1.1, _, rfl, SqT.of (s1 _ _ (hR.tup q hm)), rfl, _, _, rfl, _, _, rfl, rfl, rfl, _, rfl, _, upd_same, ?_, ?_⟩
        · rw [List.length_map]
          unfold rowNs
          rw [List.length_map, List.length_take]
          exact small1000 (by omega)
        · rw [upd_upd, List.take_add_one, hq]
          unfold rowNs
          simp
      · subst q
        rw [List.length_map, List.take_length]
        refine ⟨D, _, rfl, .inl ⟨SqL.of upd_same, fun t nt => ?_⟩⟩
        exact k _ t ((same_upd (o := .lst ((rowNs gs).map V.int)) nD).trans (same_upd nt)) upd_same
    refine ⟨_, rfl, j, jx, _, rfl, hj, rfl, j, jx, p, dx, sr, N, d, B, W, rfl, hj, hD, by omega, kd, fun al => ?_⟩
    rcases ka al with ⟨e0, kQ⟩ | ⟨sn, ns, sm, eh, hsm, hns, s0, s1, hn, hsum, R⟩
    · refine .inl ⟨e0, fun H1 L sl nL hL => ?_⟩
      refine ⟨_, rfl, by show 0 ≤ sizeLine; decide, fun L2 nL2 => ?_⟩
      have s2 : Same H1 (upd H1 L2 (.lst [])) := same_upd nL2
      have r2 : RowsAt (upd H1 L2 (.lst [])) L2 [] := ⟨upd_same, (fun q hq => by cases hq), (fun q hq => by cases hq)⟩
      refine ne_rows (hL.same s2) r2 ⟨_, rfl, iteF ?_⟩
      exact fin _ L [] (hL.same s2) (by decide) fun H2 t st ht => kQ H2 t ((sl.trans s2).trans st) ht
    · refine .inr ⟨sn, ns, sm, eh, hsm, hns, s0, s1, fun n hn' => ⟨(hn n hn').1, by have := (hn n hn').2; omega⟩, fun z => absurd hsum z, fun _ H1 L gs sl nL hL hp => ?_⟩
      have lgs : gs.length = ns.length := by
        have := congrArg List.length hp
        unfold pairs at this
        rw [List.length_map, List.length_zip, datL_len, Nat.min_self] at this
        exact this
      have ens : rowNs gs = ns := by
        have e : rowNs gs = (pairs gs).map (·.1) := by unfold rowNs pairs; rw [List.map_map]; rfl
        rw [e, hp, List.map_fst_zip (by rw [datL_len]; omega)]
      have oks : okRows gs := fun q hq => by
        have m : (q.1.2.1, q.2) ∈ pairs gs := List.mem_map.mpr ⟨q, hq, rfl⟩
        rw [hp] at m
        obtain ⟨m1, m2⟩ := List.of_mem_zip m
        unfold datL at m2
        obtain ⟨i, _, e⟩ := List.mem_map.mp m2
        exact ⟨by show (q.1.2.1, q.2).2.length = 64; rw [← e]; exact hD.rd_len _, hn _ m1⟩
      refine ⟨_, rfl, by show 0 ≤ sizeLine; decide, fun L2 nL2 => ?_⟩
      have s2 : Same H1 (upd H1 L2 (.lst [])) := same_upd nL2
      have r2 : RowsAt (upd H1 L2 (.lst [])) L2 [] := ⟨upd_same, (fun q hq => by cases hq), (fun q hq => by cases hq)⟩
      have hL2 := hL.same s2
      refine ne_rows hL2 r2 ⟨_, rfl, ?_⟩
      have st := sl.trans s2
      have R2 := R.same st
      rw [← hp] at R2
      unfold opsR at R2
      by_cases e : pairs gs = []
      · rw [if_pos e] at R2
        have e' : (gs.map fun q => (q.1.2.1, q.2)) = (([] : List Rw).map fun q => (q.1.2.1, q.2)) := e
        rw [decide_eq_true e']
        refine iteF ?_
        exact fin _ L gs hL2 (by omega) fun H3 t s3 ht => R2.nil (hD.same st) H3 t s3 (by rw [ens] at ht; exact ht)
      · rw [if_neg e, ← opsH_P] at R2
        have e' : ¬ (gs.map fun q => (q.1.2.1, q.2)) = (([] : List Rw).map fun q => (q.1.2.1, q.2)) := e
        rw [decide_eq_false e']
        refine iteT ?_
        have hj2 := st _ _ hj
        have nLW : L ≠ W := hD.new_ne nL
        refine ⟨_, rfl, j, jx, _, rfl, hj2, rfl, _, rfl, j, jx, p, dx, sr, N, d, B, W, L, gs, rfl, hj2, njp, hD.same st, by omega, hL2, nLW, by omega, oks, ?_⟩
        rw [← List.append_nil (opsH gs)] at R2
        refine R2.split fun H4 W4 hW4 b4 D4 R4 => ?_
        have hL4 := hL2.bar (hD.same st) b4 nLW
        exact fin _ L gs hL4 (by omega) fun H5 t s5 ht => R4.nil D4 H5 t s5 (by rw [ens] at ht; exact ht)
end
end K03
namespace K03
open PySem L2 HK
/-! ### what a crash leaves: mathematics alone -/
abbrev Fn := Int → List Int
abbrev Ps := List (Int × List Int)
def HomeIs (f g : Fn) : Prop := ∀ n, 8 ≤ n → n < 15 → f n = g n
def All64 (f : Fn) : Prop := ∀ n, (f n).length = 64
theorem setAll_cons (f : Fn) (q : Int × List Int) (r : Ps) : setAll f (q :: r) = setAll (setF f q.1 q.2) r := rfl
theorem setAll_app (f : Fn) (l r : Ps) : setAll f (l ++ r) = setAll (setAll f l) r := by unfold setAll; rw [List.foldl_append]
theorem setAll_off : ∀ (ps : Ps) (f : Fn) (m : Int), m ∉ ps.map (·.1) → setAll f ps m = f m
  | [], _, _, _ => rfl
  | q :: r, f, m, h => by
    rw [setAll_cons, setAll_off r _ m (fun z => h (by simp [z]))]
    unfold setF
    rw [if_neg (fun z => h (by simp [z]))]
theorem setAll_congr : ∀ (ps : Ps) (f g : Fn) (m : Int), (m ∉ ps.map (·.1) → f m = g m) → setAll f ps m = setAll g ps m
  | [], _, _, _, h => h (by simp)
  | q :: r, f, g, m, h => by
    rw [setAll_cons, setAll_cons]
    refine setAll_congr r _ _ m fun hm => ?_
    unfold setF
    by_cases e : m = q.1
    · rw [if_pos e, if_pos e]
    · rw [if_neg e, if_neg e]
      exact h (by simp [e]; simpa using hm)
theorem setAll_len : ∀ (ps : Ps) (f : Fn), All64 f → (∀ q ∈ ps, q.2.length = 64) → All64 (setAll f ps)
  | [], _, h, _ => h
  | q :: r, f, h, hq => by
    rw [setAll_cons]
    refine setAll_len r _ (fun n => ?_) fun y hy => hq y (by simp [hy])
    unfold setF
    split
    · exact hq q (by simp)
    · exact h n
theorem HomeIs.set {f g : Fn} (h : HomeIs f g) (ps : Ps) : HomeIs (setAll f ps) (setAll g ps) := fun n a b => setAll_congr ps f g n fun _ => h n a b
theorem setF_len {f : Fn} {n : Int} {x : List Int} (h : All64 f) (hx : x.length = 64) : All64 (setF f n x) := fun m => by
  unfold setF
  split
  · exact hx
  · exact h m
theorem setF_at {f : Fn} {n : Int} {x : List Int} : setF f n x n = x := by unfold setF; rw [if_pos rfl]
theorem setF_off {f : Fn} {n m : Int} {x : List Int} (h : m ≠ n) : setF f n x m = f m := by unfold setF; rw [if_neg h]
theorem crash1_cases {f : Fn} {n : Int} {x : List Int} {c : Int} {R : Fn → Prop} (h0 : R f) (h1 : R (setF f n x)) (h2 : R (setF f n (x.take 32 ++ (f n).drop 32))) : R (crash1 32 f n x c) := by
  unfold crash1
  split
  · exact h1
  · split
    · exact h2
    · exact h0
theorem crash1_off {f : Fn} {n m : Int} {x : List Int} {c : Int} (h : m ≠ n) : crash1 32 f n x c m = f m := crash1_cases (R := fun g => g m = f m) rfl (setF_off h) (setF_off h)
theorem crash1_len {f : Fn} {n : Int} {x : List Int} {c : Int} (h : All64 f) (hx : x.length = 64) : All64 (crash1 32 f n x c) :=
  crash1_cases h (setF_len h hx) (setF_len h (by rw [List.length_append, List.length_take, List.length_drop, hx, h]; rfl))
theorem crashA_off : ∀ (l : Ps) (cs : List Int) (f : Fn) (m : Int), m ∉ l.map (·.1) → crashA f (l.zip cs) m = f m
  | [], _, _, _, _ => rfl
  | _ :: _, [], _, _, _ => rfl
  | q :: r, c :: cs, f, m, h => by
    have ih := crashA_off r cs (crash1 32 f q.1 q.2 c) m (fun z => h (by simp [z]))
    have e : crashA f ((q :: r).zip (c :: cs)) = crashA (crash1 32 f q.1 q.2 c) (r.zip cs) := rfl
    rw [e, ih, crash1_off (fun z => h (by simp [z]))]
theorem crashA_len : ∀ (l : Ps) (cs : List Int) (f : Fn), All64 f → (∀ q ∈ l, q.2.length = 64) → All64 (crashA f (l.zip cs))
  | [], _, _, h, _ => h
  | _ :: _, [], _, h, _ => h
  | q :: r, c :: cs, f, h, hq => crashA_len r cs (crash1 32 f q.1 q.2 c) (crash1_len h (hq q (by simp))) fun y hy => hq y (by simp [hy])
def hd (s : Int) (ns : List Int) (ds : List (List Int)) : List Int := headI s ns (sumI (startI s ns ++ ds.flatten))
theorem hd_drop {s : Int} {ns : List Int} {ds : List (List Int)} (h : ns.length ≤ 5) : (hd s ns ds).drop 32 = List.replicate 32 0 := by
  unfold hd headI
  have l : (startI s ns ++ sumI (startI s ns ++ ds.flatten)).length = 10 + 2 * ns.length := by
    rw [List.length_append, startI_len, sumI_len]
    omega
  rw [List.drop_append, l, List.drop_of_length_le (by omega), List.nil_append, List.drop_replicate]
  congr 1
  omega
theorem zero_drop : zero64.drop 32 = List.replicate 32 0 := by decide
theorem half_hd {s : Int} {ns : List Int} {ds : List (List Int)} (h : ns.length ≤ 5) : (hd s ns ds).take 32 ++ zero64.drop 32 = hd s ns ds := by
  rw [zero_drop, ← hd_drop (s := s) (ds := ds) h, List.take_append_drop]
theorem half_zero {s : Int} {ns : List Int} {ds : List (List Int)} (h : ns.length ≤ 5) : zero64.take 32 ++ (hd s ns ds).drop 32 = zero64 := by
  rw [hd_drop h, ← zero_drop, List.take_append_drop]
theorem hd_len {s : Int} {ns : List Int} {ds : List (List Int)} (h : ns.length ≤ 5) : (hd s ns ds).length = 64 := headI_len (sumI_len _) (by omega)
/-- the journal holds a group whose rows lead to g -/
structure Held (g f : Fn) (s : Int) (ns : List Int) (ds : List (List Int)) : Prop where
  head : f 1 = hd s ns ds
  len : ns.length = ds.length
  le : ns.length ≤ 5
  s0 : 0 ≤ s
  s1 : s < 65536
  num : ∀ n ∈ ns, 8 ≤ n ∧ n < 15
  dat : ∀ i x, ds[i]? = some x → f (((2 + i : Nat) : Int)) = x
  home : HomeIs (setAll f (ns.zip ds)) g
/-- what is found after a crash -/
def SS (g0 g1 f : Fn) : Prop := All64 f ∧ ((f 1 = zero64 ∧ (HomeIs f g0 ∨ HomeIs f g1)) ∨ ∃ s ns ds, Held g1 f s ns ds)
def CrashOk (g0 g1 : Fn) (d : AD) : Prop := ∀ cs, SS g0 g1 (crashA d.f (d.ws.zip cs))
theorem zip_fst {ns : List Int} {ds : List (List Int)} (h : ns.length = ds.length) : (ns.zip ds).map (·.1) = ns := List.map_fst_zip (by omega)
/-- blocks of rows that the journal holds may stand as they like -/
theorem Held.over {g f f' : Fn} {s : Int} {ns : List Int} {ds : List (List Int)} (h : Held g f s ns ds) (o : ∀ m, m ∉ ns → f' m = f m) : Held g f' s ns ds where
  head := by rw [o 1 (fun z => by have := (h.num 1 z).1; omega)]; exact h.head
  len := h.len
  le := h.le
  s0 := h.s0
  s1 := h.s1
  num := h.num
  dat := fun i x hx => by
    have hi := (List.getElem?_eq_some_iff.mp hx).1
    have := h.len
    have := h.le
    rw [o _ (fun z => by have := (h.num _ z).1; omega)]
    exact h.dat i x hx
  home := fun n a b => by
    rw [setAll_congr _ f' f n (fun hm => o n (by rw [zip_fst h.len] at hm; exact hm))]
    exact h.home n a b
/-! ### a segment: writes, then a flush -/
theorem seg : ∀ (l : Ps) (d : AD) (rest : List Op), d.dead = false →
    (∃ l1 l2 d', l = l1 ++ l2 ∧ runA d (l.map some ++ none :: rest) = (d', false) ∧ d'.dead = true ∧ d'.f = d.f ∧ d'.ws = d.ws ++ l1) ∨
    ∃ d', runA d (l.map some ++ none :: rest) = runA d' rest ∧ d'.dead = false ∧ d'.f = setAll d.f (d.ws ++ l) ∧ d'.ws = []
  | [], d, rest, h => by
    by_cases al : d.alive
    · refine .inr ⟨d.flushed, runA_cons_alive al, h, ?_, rfl⟩
      show setAll d.f d.ws = _
      rw [List.append_nil]
    · exact .inl ⟨[], [], d.killed, rfl, runA_cons_dead al, rfl, rfl, (List.append_nil _).symm⟩
  | q :: r, d, rest, h => by
    by_cases al : d.alive
    · have e : runA d ((q :: r).map some ++ none :: rest) = runA (d.wrote q.1 q.2) (r.map some ++ none :: rest) := runA_cons_alive (o := some q) al
      rcases seg r (d.wrote q.1 q.2) rest h with ⟨l1, l2, d', e1, e2, e3, e4, e5⟩ | ⟨d', e2, e3, e4, e5⟩
      · refine .inl ⟨q :: l1, l2, d', by rw [e1]; rfl, by rw [e]; exact e2, e3, e4, ?_⟩
        rw [e5]
        show d.ws ++ [(q.1, q.2)] ++ l1 = _
        rw [List.append_assoc]
        rfl
      · refine .inr ⟨d', by rw [e]; exact e2, e3, ?_, e5⟩
        rw [e4]
        show setAll d.f (d.ws ++ [(q.1, q.2)] ++ r) = _
        rw [List.append_assoc]
        rfl
    · exact .inl ⟨[], q :: r, d.killed, rfl, runA_cons_dead al, rfl, rfl, (List.append_nil _).symm⟩
theorem sub_map {l1 l2 : Ps} {m : Int} (h : m ∉ (l1 ++ l2).map (·.1)) : m ∉ l1.map (·.1) := fun z => h (by rw [List.map_append]; exact List.mem_append_left _ z)
theorem prefix1 {l1 l2 : Ps} {q : Int × List Int} (h : [q] = l1 ++ l2) : l1 = [] ∨ l1 = [q] := by
  cases l1 with
  | nil => exact .inl rfl
  | cons a r =>
    injection h with h1 h2
    rw [(List.append_eq_nil_iff.mp h2.symm).1, h1]
    exact .inr rfl
theorem crash_one {f : Fn} {n : Int} {x : List Int} {cs : List Int} {R : Fn → Prop} (h0 : R f) (h : ∀ c, R (crash1 32 f n x c)) : R (crashA f ([(n, x)].zip cs)) := by
  cases cs with
  | nil => exact h0
  | cons c cs => exact h c
/-- home and clear: from a journal that holds the group -/
theorem home_run {g0 g1 : Fn} {s : Int} {ns : List Int} {ds : List (List Int)} {d : AD} (hd0 : d.dead = false) (hw : d.ws = []) (h64 : All64 d.f) (hds : ∀ x ∈ ds, x.length = 64) (h : Held g1 d.f s ns ds) :
    ((runA d (opsP (ns.zip ds))).2 = false → (runA d (opsP (ns.zip ds))).1.dead = true ∧ CrashOk g0 g1 (runA d (opsP (ns.zip ds))).1) ∧
    ((runA d (opsP (ns.zip ds))).2 = true → (runA d (opsP (ns.zip ds))).1.dead = false ∧ (runA d (opsP (ns.zip ds))).1.ws = [] ∧ (runA d (opsP (ns.zip ds))).1.f 1 = zero64 ∧ All64 (runA d (opsP (ns.zip ds))).1.f ∧ HomeIs (runA d (opsP (ns.zip ds))).1.f g1) := by
  have pl : ∀ q ∈ ns.zip ds, q.2.length = 64 := fun q hq => hds _ (List.of_mem_zip (show (q.1, q.2) ∈ ns.zip ds from hq)).2
  unfold opsP
  rcases seg (ns.zip ds) d [some (1, zero64), none] hd0 with ⟨l1, l2, d', e1, e2, e3, e4, e5⟩ | ⟨d1, e2, e3, e4, e5⟩
  · rw [e2]
    refine ⟨fun _ => ⟨e3, fun cs => ?_⟩, (fun z => by cases z)⟩
    show SS g0 g1 (crashA d'.f (d'.ws.zip cs))
    rw [e4, e5, hw, List.nil_append]
    refine ⟨crashA_len l1 cs _ h64 (fun q hq => pl q (by rw [e1]; exact List.mem_append_left _ hq)), .inr ⟨s, ns, ds, h.over fun m hm => crashA_off l1 cs _ m (sub_map (l2 := l2) (by rw [← e1, zip_fst h.len]; exact hm))⟩⟩
  · rw [e2]
    rw [hw, List.nil_append] at e4
    have h1 : Held g1 d1.f s ns ds := h.over fun m hm => by rw [e4]; exact setAll_off _ _ _ (by rw [zip_fst h.len]; exact hm)
    have l1 : All64 d1.f := by rw [e4]; exact setAll_len _ _ h64 pl
    have hm1 : HomeIs d1.f g1 := by rw [e4]; exact h.home
    rcases seg [(1, zero64)] d1 [] e3 with ⟨m1, m2, d', f1, f2, f3, f4, f5⟩ | ⟨d2, f2, f3, f4, f5⟩
    · have f2' : runA d1 [some (1, zero64), none] = (d', false) := f2
      rw [f2']
      refine ⟨fun _ => ⟨f3, fun cs => ?_⟩, (fun z => by cases z)⟩
      show SS g0 g1 (crashA d'.f (d'.ws.zip cs))
      rw [f4, f5, e5, List.nil_append]
      have s0 : SS g0 g1 d1.f := ⟨l1, .inr ⟨s, ns, ds, h1⟩⟩
      have sz : SS g0 g1 (setF d1.f 1 zero64) := ⟨setF_len l1 rfl, .inl ⟨setF_at, .inr fun n a b => by rw [setF_off (by omega)]; exact hm1 n a b⟩⟩
      rcases prefix1 f1 with z | z
      · rw [z]; exact s0
      · rw [z]
        refine crash_one s0 fun c => crash1_cases s0 sz ?_
        rw [h1.head, half_zero h.le]
        exact sz
    · have f2' : runA d1 [some (1, zero64), none] = runA d2 [] := f2
      rw [f2', runA]
      rw [e5, List.nil_append] at f4
      have ef : d2.f = setF d1.f 1 zero64 := f4
      refine ⟨(fun z => by cases z), fun _ => ⟨f3, f5, ?_, ?_, fun n a b => ?_⟩⟩
      · show d2.f 1 = zero64
        rw [ef]; exact setF_at
      · show All64 d2.f
        rw [ef]; exact setF_len l1 rfl
      · show d2.f n = g1 n
        rw [ef, setF_off (by omega)]
        exact hm1 n a b
end K03
namespace K03
open PySem L2 HK
def dwk : Nat → List Rw → Ps
  | _, [] => []
  | k, q :: r => (((k : Nat) : Int), q.2) :: dwk (k + 1) r
theorem dwk_eq : ∀ (gs : List Rw) (k : Nat), (gs.mapIdx fun i q => (some (((k + i : Nat) : Int), q.2) : Op)) = (dwk k gs).map some
  | [], _ => rfl
  | q :: r, k => by
    rw [List.mapIdx_cons, dwk, List.map_cons, ← dwk_eq r (k + 1)]
    congr 1
    congr 1
    funext i q
    congr 3
    omega
theorem dwk_keys : ∀ (gs : List Rw) (k : Nat) (m : Int), m ∈ (dwk k gs).map (·.1) → (k : Int) ≤ m ∧ m < (k : Int) + gs.length
  | [], _, _, h => by cases h
  | q :: r, k, m, h => by
    rw [dwk, List.map_cons] at h
    rcases List.mem_cons.mp h with z | z
    · rw [z, List.length_cons]
      show (k : Int) ≤ (k : Int) ∧ (k : Int) < _
      omega
    · have := dwk_keys r (k + 1) m z
      rw [List.length_cons]
      omega
theorem dwk_at : ∀ (gs : List Rw) (k i : Nat) (f : Fn) (x : List Int), (gs.map (·.2))[i]? = some x → setAll f (dwk k gs) (((k + i : Nat) : Int)) = x
  | [], _, _, _, _, h => by cases h
  | q :: r, k, 0, f, x, h => by
    obtain rfl := Option.some.inj h
    rw [dwk, setAll_cons, setAll_off _ _ _ (fun z => by have := (dwk_keys r (k + 1) _ z).1; omega)]
    exact setF_at
  | q :: r, k, i + 1, f, x, h => by
    have ih := dwk_at r (k + 1) i (setF f ((k : Nat) : Int) q.2) x h
    rw [dwk, setAll_cons, show k + (i + 1) = k + 1 + i by omega]
    exact ih
theorem dwk_len : ∀ (gs : List Rw) (k : Nat), (∀ q ∈ gs, q.2.length = 64) → ∀ q ∈ dwk k gs, q.2.length = 64
  | [], _, _, q, h => by cases h
  | a :: r, k, h0, q, h => by
    rw [dwk] at h
    rcases List.mem_cons.mp h with z | z
    · rw [z]
      exact h0 a (by simp)
    · exact dwk_len r (k + 1) (fun y hy => h0 y (by simp [hy])) q z
def dss (gs : List Rw) : List (List Int) := gs.map (·.2)
theorem dss_flat (gs : List Rw) : (dss gs).flatten = rowDs gs := by
  unfold dss rowDs
  rw [List.flatMap_def]
theorem pairs_zip (gs : List Rw) : pairs gs = (rowNs gs).zip (dss gs) := by
  unfold pairs rowNs dss
  induction gs with
  | nil => rfl
  | cons q r ih => rw [List.map_cons, List.map_cons, List.map_cons, List.zip_cons_cons, ih]
theorem ops_split (sr : Int) (gs : List Rw) : opsG sr gs ++ opsH gs = (dwk 2 gs).map some ++ none :: ([((1 : Int), hd (sr + 1) (rowNs gs) (dss gs))].map some ++ none :: opsP (pairs gs)) := by
  rw [opsH_P]
  unfold opsG hd
  rw [dwk_eq gs 2, dss_flat, List.append_assoc]
  rfl
theorem commit_run {g0 : Fn} {sr : Int} {gs : List Rw} {d : AD} (hd0 : d.dead = false) (hw : d.ws = []) (h64 : All64 d.f) (ok : ∀ q ∈ gs, q.2.length = 64 ∧ 8 ≤ q.1.2.1 ∧ q.1.2.1 < 15) (h5 : gs.length ≤ 5) (s0 : 0 ≤ sr + 1) (s1 : sr + 1 < 65536) (hz : d.f 1 = zero64) (hm : HomeIs d.f g0) :
    ((runA d (opsG sr gs ++ opsH gs)).2 = false → (runA d (opsG sr gs ++ opsH gs)).1.dead = true ∧ CrashOk g0 (setAll g0 (pairs gs)) (runA d (opsG sr gs ++ opsH gs)).1) ∧
    ((runA d (opsG sr gs ++ opsH gs)).2 = true → (runA d (opsG sr gs ++ opsH gs)).1.dead = false ∧ (runA d (opsG sr gs ++ opsH gs)).1.ws = [] ∧ (runA d (opsG sr gs ++ opsH gs)).1.f 1 = zero64 ∧ All64 (runA d (opsG sr gs ++ opsH gs)).1.f ∧ HomeIs (runA d (opsG sr gs ++ opsH gs)).1.f (setAll g0 (pairs gs))) := by
  rw [ops_split]
  have l64 : ∀ q ∈ gs, q.2.length = 64 := fun q hq => (ok q hq).1
  have kn : ∀ m : Int, (m < 2 ∨ 7 ≤ m) → m ∉ (dwk 2 gs).map (·.1) := fun m h z => by
    have := dwk_keys gs 2 m z
    omega
  rcases seg (dwk 2 gs) d ([((1 : Int), hd (sr + 1) (rowNs gs) (dss gs))].map some ++ none :: opsP (pairs gs)) hd0 with ⟨l1, l2, d', e1, e2, e3, e4, e5⟩ | ⟨d1, e2, e3, e4, e5⟩
  · rw [e2]
    refine ⟨fun _ => ⟨e3, fun cs => ?_⟩, (fun z => by cases z)⟩
    show SS _ _ (crashA d'.f (d'.ws.zip cs))
    rw [e4, e5, hw, List.nil_append]
    have kn1 : ∀ m : Int, (m < 2 ∨ 7 ≤ m) → m ∉ l1.map (·.1) := fun m h => sub_map (l2 := l2) (by rw [← e1]; exact kn m h)
    refine ⟨crashA_len l1 cs _ h64 (fun q hq => dwk_len gs 2 l64 q (by rw [e1]; exact List.mem_append_left _ hq)), .inl ⟨?_, .inl fun n a b => ?_⟩⟩
    · rw [crashA_off l1 cs _ 1 (kn1 1 (by omega))]
      exact hz
    · rw [crashA_off l1 cs _ n (kn1 n (by omega))]
      exact hm n a b
  · rw [e2]
    rw [hw, List.nil_append] at e4
    have l1 : All64 d1.f := by rw [e4]; exact setAll_len _ _ h64 (dwk_len gs 2 l64)
    have hz1 : d1.f 1 = zero64 := by rw [e4, setAll_off _ _ _ (kn 1 (by omega))]; exact hz
    have hm1 : HomeIs d1.f g0 := fun n a b => by rw [e4, setAll_off _ _ _ (kn n (by omega))]; exact hm n a b
    have lr : (rowNs gs).length ≤ 5 := by unfold rowNs; rw [List.length_map]; exact h5
    have held : ∀ f : Fn, f 1 = hd (sr + 1) (rowNs gs) (dss gs) → (∀ m, m ≠ 1 → f m = d1.f m) → Held (setAll g0 (pairs gs)) f (sr + 1) (rowNs gs) (dss gs) := fun f f1 fo =>
      { head := f1
        len := by unfold rowNs dss; rw [List.length_map, List.length_map]
        le := lr
        s0 := s0
        s1 := s1
        num := fun n hn => by
          unfold rowNs at hn
          obtain ⟨q, hq, rfl⟩ := List.mem_map.mp hn
          exact (ok q hq).2
        dat := fun i x hx => by
          rw [fo _ (by omega), e4]
          exact dwk_at gs 2 i _ x hx
        home := by
          rw [← pairs_zip]
          exact HomeIs.set (fun n a b => by rw [fo n (by omega)]; exact hm1 n a b) _ }
    have s0' : SS g0 (setAll g0 (pairs gs)) d1.f := ⟨l1, .inl ⟨hz1, .inl hm1⟩⟩
    have sh : SS g0 (setAll g0 (pairs gs)) (setF d1.f 1 (hd (sr + 1) (rowNs gs) (dss gs))) := ⟨setF_len l1 (hd_len lr), .inr ⟨_, _, _, held _ setF_at fun m h => setF_off h⟩⟩
    rcases seg [((1 : Int), hd (sr + 1) (rowNs gs) (dss gs))] d1 (opsP (pairs gs)) e3 with ⟨m1, m2, d', f1, f2, f3, f4, f5⟩ | ⟨d2, f2, f3, f4, f5⟩
    · rw [f2]
      refine ⟨fun _ => ⟨f3, fun cs => ?_⟩, (fun z => by cases z)⟩
      show SS _ _ (crashA d'.f (d'.ws.zip cs))
      rw [f4, f5, e5, List.nil_append]
      rcases prefix1 f1 with z | z
      · rw [z]; exact s0'
      · rw [z]
        refine crash_one s0' fun c => crash1_cases s0' sh ?_
        rw [hz1, half_hd lr]
        exact sh
    · rw [f2]
      rw [e5, List.nil_append] at f4
      have ef : d2.f = setF d1.f 1 (hd (sr + 1) (rowNs gs) (dss gs)) := f4
      rw [pairs_zip]
      refine home_run (g0 := g0) f3 f5 (by rw [ef]; exact setF_len l1 (hd_len lr)) (fun x hx => ?_) (by rw [← pairs_zip]; exact held _ (by rw [ef]; exact setF_at) fun m h => by rw [ef]; exact setF_off h)
      unfold dss at hx
      obtain ⟨q, hq, rfl⟩ := List.mem_map.mp hx
      exact l64 q hq
/-! ### recovery -/
theorem rd_of {d : AD} (h : d.ws = []) (n : Int) : d.rd n = d.f n := by
  unfold AD.rd
  rw [h]
  rfl
theorem datL_of {g : Fn} {d : AD} {s : Int} {ns : List Int} {ds : List (List Int)} (h : d.ws = []) (x : Held g d.f s ns ds) : datL d ns.length = ds := by
  refine List.ext_getElem? fun i => ?_
  unfold datL
  rw [List.getElem?_map]
  by_cases hi : i < ns.length
  · rw [List.getElem?_range hi]
    have hi2 : i < ds.length := by rw [← x.len]; exact hi
    rw [List.getElem?_eq_getElem hi2]
    show some (d.rd _) = _
    rw [rd_of h, x.dat i _ (List.getElem?_eq_getElem hi2)]
  · rw [List.getElem?_eq_none (by rw [List.length_range]; omega), List.getElem?_eq_none (by rw [← x.len]; omega)]
    rfl
def Rested (g0 g1 f : Fn) : Prop := (f 1 = zero64 ∧ (HomeIs f g0 ∨ HomeIs f g1)) ∨ ∃ s, Held g1 f s [] []
theorem Rested.ss {g0 g1 f : Fn} (h : Rested g0 g1 f) (l : All64 f) : SS g0 g1 f := ⟨l, h.imp id fun ⟨s, x⟩ => ⟨s, [], [], x⟩⟩
theorem Rested.home {g0 g1 f : Fn} (h : Rested g0 g1 f) : HomeIs f g0 ∨ HomeIs f g1 := by
  rcases h with h | ⟨s, x⟩
  · exact h.2
  · exact .inr x.home
theorem rec_run {g0 g1 : Fn} {s : Int} {ns : List Int} {ds : List (List Int)} {d : AD} (hd0 : d.dead = false) (hw : d.ws = []) (h64 : All64 d.f) (h : Held g1 d.f s ns ds) :
    ((runA d (opsR (ns.zip ds))).2 = false → (runA d (opsR (ns.zip ds))).1.dead = true ∧ CrashOk g0 g1 (runA d (opsR (ns.zip ds))).1) ∧
    ((runA d (opsR (ns.zip ds))).2 = true → (runA d (opsR (ns.zip ds))).1.dead = false ∧ (runA d (opsR (ns.zip ds))).1.ws = [] ∧ All64 (runA d (opsR (ns.zip ds))).1.f ∧ Rested g0 g1 (runA d (opsR (ns.zip ds))).1.f) := by
  unfold opsR
  by_cases e : ns.zip ds = []
  · rw [if_pos e, runA]
    refine ⟨(fun z => by cases z), fun _ => ⟨hd0, hw, h64, .inr ⟨s, ?_⟩⟩⟩
    have e1 : ns = [] := by
      have := congrArg List.length e
      rw [List.length_zip, h.len, Nat.min_self] at this
      have l := h.len
      exact List.eq_nil_of_length_eq_zero (by simp at this; rw [l, this]; rfl)
    subst e1
    have e2 : ds = [] := List.eq_nil_of_length_eq_zero h.len.symm
    subst e2
    exact h
  · rw [if_neg e]
    obtain ⟨h1, h2⟩ := home_run (g0 := g0) hd0 hw h64 (fun x hx => by
      obtain ⟨i, hi⟩ := List.mem_iff_getElem?.mp hx
      rw [← h.dat i x hi]
      exact h64 _) h
    exact ⟨h1, fun z => ⟨(h2 z).1, (h2 z).2.1, (h2 z).2.2.2.1, .inl ⟨(h2 z).2.2.1, .inr (h2 z).2.2.2.2⟩⟩⟩
theorem run_never : ∀ (ops : List Op) (d : AD), d.dead = false → d.fz = .non → (runA d ops).2 = true ∧ (runA d ops).1.fz = .non
  | [], d, _, h => ⟨rfl, h⟩
  | o :: r, d, h0, h => by
    rw [runA_cons_alive ⟨h0, by rw [h]; intro z; cases z⟩]
    refine run_never r _ ?_ ?_
    · cases o <;> exact h0
    · cases o <;> (show (match d.fz with | .int n => V.int (n - 1) | v => v) = V.non) <;> rw [h]
end K03
namespace K03
open PySem L2 HK
/-- all stands but D -/
def SameX (D : Addr) (H H' : Hp) : Prop := ∀ b o, b ≠ D → H b = some o → H' b = some o
theorem SameX.refl (D : Addr) (H : Hp) : SameX D H H := fun _ _ _ h => h
theorem SameX.trans {D : Addr} {H H1 H2 : Hp} (a : SameX D H H1) (b : SameX D H1 H2) : SameX D H H2 := fun c o n h => b c o n (a c o n h)
theorem SameX.of {D : Addr} {H H' : Hp} (s : Same H H') : SameX D H H' := fun _ _ _ h => s _ _ h
theorem SameX.upd {D : Addr} {H : Hp} {o : HO} : SameX D H (upd H D o) := fun _ _ n h => by rw [upd_ne n]; exact h
/-- nothing that was there is gone -/
theorem SameX.free {D : Addr} {H H' : Hp} (s : SameX D H H') {a : Addr} (n : a ≠ D) (h : H' a = none) : H a = none := by
  cases q : H a with
  | none => rfl
  | some u => rw [s a u n q] at h; cases h
theorem RowsAt.dice {D : Addr} {H H' : Hp} {r : Addr} {gs : List Rw} {xs : List V} (x : RowsAt H r gs) (hD : H D = some (.lst xs)) (n : r ≠ D) (s : SameX D H H') : RowsAt H' r gs :=
  ⟨s _ _ n x.lst, fun q hq => s _ _ (ne_of (x.tup q hq) hD (by intro z; cases z)) (x.tup q hq), fun q hq => s _ _ (ne_of (x.dat q hq) hD (by intro z; cases z)) (x.dat q hq)⟩
theorem SameX.keep {D : Addr} {H H' : Hp} {xs : List V} (s : SameX D H H') (hD : H D = some (.lst xs)) : Keep H H' := fun t ys h => s _ _ (ne_of h hD (by intro z; cases z)) h
theorem DevS.dice {C p dx B W D : Addr} {H H' : Hp} {N : Nat} {d : AD} {xs : List V} (x : DevS C H p dx B W N d) (hD : H D = some (.lst xs)) (n : D ≠ W) (s : SameX D H H') : DevS C H' p dx B W N d := by
  have kp := s.keep hD
  obtain ⟨i, nf, kvs, es, hB, hc, hW, hn, hw, hd⟩ := x
  exact ⟨s _ _ (ne_of i hD (by intro z; cases z)) i, nf, kvs, es, s _ _ (ne_of hB hD (by intro z; cases z)) hB, hc.keep kp, ⟨s _ _ n.symm hW.lst, fun e he => kp _ _ (hW.tup e he)⟩, hn, hw, fun q hq => ⟨kp _ _ (hd q hq).1, (hd q hq).2⟩⟩
/-! ### the law's helpers -/
abbrev sBlk : Stmt := top 30
abbrev sGrp : Stmt := top 31
abbrev sSame : Stmt := top 98
abbrev sAgain : Stmt := top 99
def Byte64 (x : List Int) : Prop := ∃ v : Int, 0 ≤ v ∧ v < 256 ∧ x = List.replicate 64 v
theorem Byte64.len {x : List Int} (h : Byte64 x) : x.length = 64 := by
  obtain ⟨v, _, _, rfl⟩ := h
  exact List.length_replicate
def spBlk : Sp := fun vs H Q _ => ∃ D dc, vs = [.ref D] ∧ H D = some (.lst (Dice.vs dc)) ∧ ∀ H' t x dc', SameX D H H' → H' D = some (.lst (Dice.vs dc')) → H t = none → H' t = some (tupI x) → Byte64 x → Q (.ref t) H'
def okGrp (gs : List Rw) : Prop := ∀ q ∈ gs, Byte64 q.2 ∧ 8 ≤ q.1.2.1 ∧ q.1.2.1 < 15
def spGrp : Sp := fun vs H Q _ => ∃ D dc, vs = [.ref D] ∧ H D = some (.lst (Dice.vs dc)) ∧ ∀ H' L gs dc', SameX D H H' → H' D = some (.lst (Dice.vs dc')) → H L = none → L ≠ D → RowsAt H' L gs → okGrp gs → gs.length ≤ 60 → Q (.ref L) H'
def spAgain (C : Addr) : Sp := fun vs H Q _ => ∃ p dx B W N d D dc, vs = [.ref D, .ref p] ∧ DevS C H p dx B W N d ∧ N ≤ 900 ∧ H D = some (.lst (Dice.vs dc)) ∧ D ≠ W ∧
  ∀ H' x dx' B' W' cs dc', SameX D H H' → H' D = some (.lst (Dice.vs dc')) → H x = none → H B' = none → H W' = none → DevS C H' x dx' B' W' N (d.found cs) → Q (.ref x) H'
structure GTxt (mg : Str → Option Value) : Prop where
  tup : mg "tuple" = none
  range : mg "range" = none
  sorted : mg "sorted" = none
theorem flat_rep (n : Nat) (v : V) : (List.replicate n [v]).flatten = List.replicate n v := by
  induction n with
  | zero => rfl
  | succ m ih => rw [List.replicate_succ, List.replicate_succ, List.flatten_cons, ih]; rfl
section
variable {P : Program} {w : World} {K : PySem.W.Frag} {mg : Str → Option Value} {base : Heap} {C CE CJ CJE : Addr}
theorem scBlk : FnScope ["dice"] ["dice"] (defScope sBlk) := ⟨rfl, rfl, rfl, by decide +kernel, rfl, by decide +kernel, by decide +kernel⟩
theorem ok_blk {f fR : Addr} {fd fdR : FuncData} (F : L2.Fun K "_law_block" "_law_block" sBlk f fd) (T : GTxt mg)
    (FR : FnOk P w K mg base L2.CX0 1 fR fdR ["dice", "many"] spRoll) (mR : mg "_law_roll" = some (.ref fR)) (kR : PySem.W.keepIn K (.ref fR) = true) (bR : Binds K fdR ["dice", "many"] []) :
    FnOk P w K mg base L2.CX0 2 f fd ["dice"] spBlk := by
  refine F.ok scBlk (fun vs H Q E h => ?_) (fun cdv A outer s H vs Q E hr h => ?_)
  · obtain ⟨D, dc, rfl, _⟩ := h
    rfl
  · obtain ⟨D, dc, rfl, hD, k⟩ := h
    refine ⟨_, pss_one (ps_ret (pe_callTy call_tuple_of (by rfl) T.tup PyProof.Rows.Boot.«tuple» (pa_cons (pe_op op_rep (pe_lst (pa_cons (pe_call FR hr (by rfl) mR kR bR .nil pass0 (pa_cons (pv 0) (pa_cons pe_int pa_nil))) pa_nil)) pe_int) pa_nil))), ?_⟩
    refine ⟨_, rfl, D, dc, 256, rfl, hD, by decide, by decide, ?_⟩
    obtain ⟨r0, r1⟩ := roll_range dc (m := 256) (by decide)
    have h1 : (upd H D (.lst (roll dc 256).2.vs)) D = some (.lst (roll dc 256).2.vs) := upd_same
    have s1 : SameX D H (upd H D (.lst (roll dc 256).2.vs)) := SameX.upd
    generalize upd H D (.lst (roll dc 256).2.vs) = H1 at h1 s1 ⊢
    refine ⟨by show 1 ≤ sizeLine; decide, fun a na => ?_⟩
    have s2 : Same H1 (upd H1 a (.lst [.int (roll dc 256).1])) := same_upd na
    refine ⟨a, 64, [.int (roll dc 256).1], rfl, rfl, upd_same, by decide, by decide, by show 1 * 64 ≤ sizeLine; decide, fun b nb => ?_⟩
    have s3 := s2.trans (same_upd (o := .lst (List.replicate (64 : Int).toNat [V.int (roll dc 256).1]).flatten) nb)
    refine ⟨b, _, rfl, .inl ⟨SqL.of upd_same, fun t nt => ?_⟩⟩
    have s4 := s3.trans (same_upd (o := .tup (List.replicate (64 : Int).toNat [V.int (roll dc 256).1]).flatten) nt)
    refine k _ t (List.replicate 64 (roll dc 256).1) _ (s1.trans (SameX.of s4)) (s4 _ _ h1) (s1.free (fun e => ?_) (s3.free nt)) ?_ ⟨_, r0, r1, rfl⟩
    · rw [e] at nt
      rw [s3 _ _ h1] at nt
      cases nt
    · rw [upd_same, flat_rep]
      unfold tupI
      rw [List.map_replicate]
      rfl
end
end K03
/-! tuple * int, any number -/
namespace HZR
open PySem PySem.Spec PyProof.Rows L2
theorem mul0 (l : Addr) (items : Array Value) (n : Nat) (dd : Option Addr) (sl : Array (Option Value)) (u : Tok) (c1 : items.isEmpty = false) :
    Meets (Builtin.«tuple.__mul__» ⟨[.ref l, .int 0 u], []⟩) (fun _ R s => s.heap.get? l = some { cls := .type "tuple", dict := dd, data := .seq items n, slots := sl } ∧
      R (.ok (.ret (Value.ref s.heap.objs.size))) { s with heap := s.heap.push { cls := Value.type "tuple", data := Data.seq #[] }, toks := s.toks }) :=
  .of_wp fun prog w A R s h => by
    obtain ⟨hp, g, d, tk, os⟩ := s
    obtain ⟨hl, h⟩ := h
    have f1 := AutoSeq1.idx_int
    have e1 : (items.isEmpty || (0 : Int) == 1) = false := by rw [c1]; rfl
    wp_walk using wpAny_loadPart' hl
    repeat (first
      | (refine wpAny_ite_false (decide_eq_false (by rw [e1]; exact Bool.false_ne_true)) ?_; wp_walk using wpAny_loadPart' hl)
      | (refine wpAny_ite_true (decide_eq_true rfl) ?_; wp_walk using wpAny_loadPart' hl))
    exact ⟨_, rfl, h⟩
theorem mul1 (l : Addr) (items : Array Value) (n : Nat) (dd : Option Addr) (sl : Array (Option Value)) (u : Tok) :
    Meets (Builtin.«tuple.__mul__» ⟨[.ref l, .int 1 u], []⟩) (fun _ R s => s.heap.get? l = some { cls := .type "tuple", dict := dd, data := .seq items n, slots := sl } ∧
      R (.ok (.ret (Value.ref l))) s) :=
  .of_wp fun prog w A R s h => by
    obtain ⟨hp, g, d, tk, os⟩ := s
    obtain ⟨hl, h⟩ := h
    have f1 := AutoSeq1.idx_int
    have hT : (⟨hp, g, d, tk, os⟩ : Shared).TypeIs (.ref l) "tuple" := ⟨_, hl, rfl⟩
    have e1 : (items.isEmpty || (1 : Int) == 1) = true := by simp
    wp_walk using wpAny_loadPart' hl
    exact ⟨_, rfl, h⟩
/-- tuple * int -/
def rRepA (K : PySem.W.Frag) : R2 := fun x y H Q => ∃ l k xs, x = .ref l ∧ y = .int k ∧ SqT K H l xs ∧ xs ≠ [] ∧ 0 ≤ k ∧ k ≤ 1000 ∧ xs.length ≤ 1000 ∧ (k = 1 → Q (.ref l) H) ∧ (k ≠ 1 → ∀ p, H p = none → Q (.ref p) (upd H p (.tup (List.replicate k.toNat xs).flatten)))
theorem op_repA {X : Cx} : OpR X (binaryOp .Mult) (rRepA X.K) := by
  intro pins s σ H x y v u Q I rx ry h
  obtain ⟨l, k, xs, rfl, rfl, hT, hne, h0, h1, hz, q1, q⟩ := h
  by_cases k2 : 2 ≤ k
  · exact op_repT pins s σ H _ _ v u Q I rx ry ⟨l, k, xs, rfl, rfl, hT, hne, k2, h1, hz, q (by omega)⟩
  · cases rx
    obtain ⟨t, rfl⟩ := ry
    obtain ⟨its, r, ⟨⟨cls, dd, data, sl⟩, ho, hc, n, hd⟩, hs⟩ := I.tuple hT
    simp only at hc hd
    subst hc hd
    have hle : its.length = xs.length := r.length.symm
    have hn : its ≠ [] := fun e => hne (by
      rw [e] at hle
      exact List.eq_nil_of_length_eq_zero hle.symm)
    have hi : its.toArray.isEmpty = false := by
      cases its with
      | nil => exact absurd rfl hn
      | cons a b => rfl
    by_cases k1 : k = 1
    · subst k1
      refine wpAny_binaryOp_repeat_ref (T := "tuple") (U := "int") (by decide) ⟨_, ho, rfl⟩ (fun s' => typeIs_int s' 1 t) noFill_tuple_mul F.fills_int_mul F.slot_int_rmul repeat_tuple F.slot_int_index.lookup
        (call_meets F.slot_int_rmul (typeIs_int s 1 t) F.entry_int_rmul (F.args_int_rmul_2 _ _) (int_rmul_tuple 1 t l its.toArray n dd sl)
          ⟨ho, rfl, ⟨_, ho, rfl⟩, call_meets F.slot_tuple_mul ⟨_, ho, rfl⟩ F.entry_tuple_mul (F.args_tuple_mul_2 _ _) (mul1 l its.toArray n dd sl t) ⟨ho, ?_⟩⟩)
      exact ⟨.ref l, H, I, rfl, q1 rfl⟩
    · obtain rfl : k = 0 := by omega
      refine wpAny_binaryOp_repeat_ref (T := "tuple") (U := "int") (by decide) ⟨_, ho, rfl⟩ (fun s' => typeIs_int s' 0 t) noFill_tuple_mul F.fills_int_mul F.slot_int_rmul repeat_tuple F.slot_int_index.lookup
        (call_meets F.slot_int_rmul (typeIs_int s 0 t) F.entry_int_rmul (F.args_int_rmul_2 _ _) (int_rmul_tuple 0 t l its.toArray n dd sl)
          ⟨ho, rfl, ⟨_, ho, rfl⟩, call_meets F.slot_tuple_mul ⟨_, ho, rfl⟩ F.entry_tuple_mul (F.args_tuple_mul_2 _ _) (mul0 l its.toArray n dd sl t hi) ⟨ho, ?_⟩⟩)
      refine ⟨.ref s.heap.objs.size, _, I.laid (t' := s.toks) (o := .tup []) (fun b ob q => Heap.get?_push_of_some _ q) (Nat.le_refl _) ?_, rfl, q (by decide) _ (I.hok.fresh (Nat.le_refl _))⟩
      exact ⟨Nat.zero_le _, [], .nil, IsTup.new _ _⟩
end HZR
namespace K03
open PySem L2 HK
theorem tC_mk' {v : V} {σ : L2.St} {H : Hp} {Q : VK} (h : Q v H) : tC v σ H Q := h
theorem tSeq_mk {t u : TS} {D : Ends} {σ : L2.St} {H : Hp} (h : t { D with nx := u D } σ H) : tSeq t u D σ H := h
theorem tAsg_mk {te : TE} {g : TG} {D : Ends} {σ : L2.St} {H : Hp} (h : te σ H fun x H1 => g x σ H1 D.nx) : tAsg te g D σ H := h
/-! ### _law_told -/
abbrev sTold : Stmt := top 29
abbrev sLaw : Stmt := top 32
structure ToldTxt (K : PySem.W.Frag) (mg : Str → Option Value) (CE CJE g : Addr) : Prop where
  m : mg "_law_told" = some (.ref g)
  k : PySem.W.keepIn K (.ref g) = true
  fn : ∃ (oc kV doc pm cdv ct : Value) (od an : Option Addr) (osl : Array (Option Value)),
    K.lookup g = some ⟨oc, od, .func (PySem.W.fnOf "_law_told" "_law_told" (defArgs sTold) (defBody sTold) (defScope sTold) .none kV doc pm an cdv ct), osl⟩ ∧ PySem.W.codeIn K cdv "_law_told" = true
  mF : mg "DeviceError" = some (.ref CE)
  mJ : mg "JournalError" = some (.ref CJE)
theorem scTold : FnScope ["what"] ["what"] (defScope sTold) := ⟨rfl, rfl, rfl, by decide +kernel, rfl, by decide +kernel, by decide +kernel⟩
theorem pe_told {X : Cx} {CE CJE g c P : Addr} {k : Nat} {params : Arguments} {body : Expr} {scope : Scope} {t : XK → TE} {p lpos pos : Pos} (TT : ToldTxt X.K X.mg CE CJE g) (TB : LamX.TabB X.base X.mg c P) (hcode : X.env.code = .ref c)
    (hg : Gl X "_law_told") (hr : Room (k + 2) X.A) (L : LamX.LamS X.env.scope scope) (hdef : defaultsOf params X.env = ([], []))
    (hbind : ∀ (q : Str) (cl : List (Str × Addr)) (pm cv ctv : Value), bindArgs (PySem.W.kla_fn "<lambda>" q params body scope cl pm cv ctv) ⟨[], []⟩ = pure [])
    (hbody : ∀ (A : Around) (outer : List Env) (s : Shared) (H : Hp) (E : XK) (f c' : Addr), Room k (A.deeper (LamX.lamEnv X scope s.heap.objs.size f c')) → PE (LamX.lamCx X A outer s H E scope f c') body (t E)) :
    PE X (.Call (.Name "_law_told" p) [.Lambda params body scope lpos] [] pos) (LamX.tLam [(P, X.env.qual ++ "<lambda>")] (HK.TTold2 X.K CE CJE "DeviceError" "JournalError") t) := by
  obtain ⟨oc, kV, doc, pm, cdv, ct, od, an, osl, lk, hcd⟩ := TT.fn
  refine LamX.pe_lamcall (Ng := ["what"]) (a := "what") hg TT.m TT.k lk hcd (.all fun us hl => match us, hl with | [_], _ => rfl) scTold rfl (Or.inl rfl) (HK.told_gives2 (e1 := "DeviceError") (e2 := "JournalError") rfl TT.mF rfl rfl TT.mJ rfl (fun _ => rfl)) TB hcode List.mem_cons_self (fun q hq _ => ?_) hr L hdef hbind hbody
  rw [List.mem_singleton.mp hq]
/-! ### what stands through the law -/
abbrev lamQ : Str := "law.<locals>.<lambda>"
/-- what is no tuple, no table, no code object -/
def Soft (o : Option HO) : Prop := (∃ xs, o = some (.lst xs)) ∨ (∃ k, o = some (.dK k)) ∨ ∃ C dx fs, o = some (.ins C dx fs)
theorem Soft.lst {xs : List V} : Soft (some (.lst xs)) := .inl ⟨_, rfl⟩
theorem Soft.dK {k : List (Key × V)} : Soft (some (.dK k)) := .inr (.inl ⟨_, rfl⟩)
theorem Soft.ins {C dx : Addr} {fs : List (Str × V)} : Soft (some (.ins C dx fs)) := .inr (.inr ⟨_, _, _, rfl⟩)
theorem Soft.not_tup {o : Option HO} (h : Soft o) (xs : List V) : o ≠ some (.tup xs) := by
  rcases h with ⟨_, h⟩ | ⟨_, h⟩ | ⟨_, _, _, h⟩ <;> rw [h] <;> intro z <;> cases z
theorem Soft.not_tbl {o : Option HO} (h : Soft o) (ps : Array Value) : o ≠ some (.tbl ps) := by
  rcases h with ⟨_, h⟩ | ⟨_, h⟩ | ⟨_, _, _, h⟩ <;> rw [h] <;> intro z <;> cases z
theorem Soft.not_code {o : Option HO} (h : Soft o) (c : Addr) (q : Str) : o ≠ some (LamX.CodeO c q) := by
  rcases h with ⟨_, h⟩ | ⟨_, h⟩ | ⟨_, _, _, h⟩ <;> rw [h] <;> intro z <;> unfold LamX.CodeO at z <;> cases z
/-- all stands but what is soft and at l -/
def Mv (l : List Addr) (H H' : Hp) : Prop := (∀ b ∈ l, Soft (H b)) ∧ ∀ b o, H b = some o → b ∉ l → H' b = some o
theorem Mv.tabs {l : List Addr} {H H' : Hp} {T : List (Addr × Str)} (m : Mv l H H') (h : LamX.Tabs T H) : LamX.Tabs T H' := fun p hp => by
  obtain ⟨ps, h1, h2, h3⟩ := h p hp
  refine ⟨ps, m.2 _ _ h1 (fun hd => (m.1 _ hd).not_tbl ps h1), h2, fun pos cv hc => ?_⟩
  obtain ⟨c, e1, e2⟩ := h3 pos cv hc
  exact ⟨c, e1, m.2 _ _ e2 (fun hd => (m.1 _ hd).not_code c _ e2)⟩
theorem Mv.keep {l : List Addr} {H H' : Hp} (m : Mv l H H') : Keep H H' := fun t xs h => m.2 _ _ h (fun hd => (m.1 _ hd).not_tup xs h)
theorem Mv.sameX {D : Addr} {H H' : Hp} (h : Soft (H D)) (s : SameX D H H') : Mv [D] H H' := ⟨fun b hb => by rw [List.mem_singleton.mp hb]; exact h, fun b o hb n => s b o (fun e => n (by rw [e]; simp)) hb⟩
theorem Mv.bar {C p dx B W : Addr} {N : Nat} {d : AD} {H H' : Hp} (D : DevS C H p dx B W N d) (b : Bar p B W H H') : Mv [p, B, W] H H' := by
  obtain ⟨i, nf, kvs, es, hB, hc, hW, hn, hw, hd⟩ := D
  refine ⟨fun a ha => ?_, fun a o h n => b a o h (fun e => n (by rw [e]; simp)) (fun e => n (by rw [e]; simp)) (fun e => n (by rw [e]; simp))⟩
  simp only [List.mem_cons, List.not_mem_nil, or_false] at ha
  rcases ha with e | e | e
  · rw [e, i]; exact Soft.ins
  · rw [e, hB]; exact Soft.dK
  · rw [e, hW.lst]; exact Soft.lst
/-- a dict of the law's: what it says of the blocks -/
def KD (H : Hp) (B : Addr) (M : Nat) (k : Addr) (g : Fn) : Prop := (∃ kvs, H k = some (.dK kvs) ∧ kvs.length ≤ M ∧ Cont H 64 kvs g) ∧ B ≠ k
theorem KD.mv {l : List Addr} {H H' : Hp} {B k : Addr} {M : Nat} {g : Fn} (x : KD H B M k g) (m : Mv l H H') (n : k ∉ l) : KD H' B M k g := by
  obtain ⟨⟨kvs, h1, h2, h3⟩, h4⟩ := x
  exact ⟨⟨kvs, m.2 _ _ h1 n, h2, h3.keep m.keep⟩, h4⟩
theorem KD.same {H H' : Hp} {B k : Addr} {M : Nat} {g : Fn} (x : KD H B M k g) (s : Same H H') : KD H' B M k g := by
  obtain ⟨⟨kvs, h1, h2, h3⟩, h4⟩ := x
  exact ⟨⟨kvs, s _ _ h1, h2, h3.keep (Keep.of s)⟩, h4⟩
theorem KD.ext {H H' : Hp} {B k : Addr} {M : Nat} {g : Fn} (x : KD H B M k g) (s : LamX.ExtN H H') : KD H' B M k g := by
  obtain ⟨⟨kvs, h1, h2, h3⟩, h4⟩ := x
  exact ⟨⟨kvs, s _ _ h1 (fun ps z => by cases z), h2, h3.keep fun t xs z => s _ _ z (fun ps y => by cases y)⟩, h4⟩
theorem KD.mono {H : Hp} {B k : Addr} {M M' : Nat} {g : Fn} (x : KD H B M k g) (h : M ≤ M') : KD H B M' k g := ⟨⟨x.1.choose, x.1.choose_spec.1, Nat.le_trans x.1.choose_spec.2.1 h, x.1.choose_spec.2.2⟩, x.2⟩
/-- a list or an instance is no dict -/
theorem KD.ne_lst {H : Hp} {B k a : Addr} {M : Nat} {g : Fn} {xs : List V} (x : KD H B M k g) (h : H a = some (.lst xs)) : k ≠ a := by
  obtain ⟨⟨kvs, h1, _⟩, _⟩ := x
  exact ne_of h1 h (by intro z; cases z)
theorem KD.ne_ins {H : Hp} {B k a : Addr} {M : Nat} {g : Fn} {C dx : Addr} {fs : List (Str × V)} (x : KD H B M k g) (h : H a = some (.ins C dx fs)) : k ≠ a := by
  obtain ⟨⟨kvs, h1, _⟩, _⟩ := x
  exact ne_of h1 h (by intro z; cases z)
theorem KD.not_dev {C p dx B W k : Addr} {N M : Nat} {d : AD} {H : Hp} {g : Fn} (x : KD H B M k g) (D : DevS C H p dx B W N d) : k ∉ [p, B, W] := by
  have n1 := x.ne_ins D.ins
  have n3 : k ≠ W := by
    obtain ⟨i, nf, kvs, es, hB, hc, hW, hn, hw, hd⟩ := D
    exact x.ne_lst hW.lst
  simp [n1, n3, x.2.symm]
theorem DevS.mv {C p dx B W : Addr} {N : Nat} {d : AD} {H H' : Hp} {l : List Addr} (D : DevS C H p dx B W N d) (m : Mv l H H') (n : p ∉ l ∧ B ∉ l ∧ W ∉ l) : DevS C H' p dx B W N d := by
  have kp := m.keep
  obtain ⟨i, nf, kvs, es, hB, hc, hW, hn, hw, hd⟩ := D
  exact ⟨m.2 _ _ i n.1, nf, kvs, es, m.2 _ _ hB n.2.1, hc.keep kp, ⟨m.2 _ _ hW.lst n.2.2, fun e he => kp _ _ (hW.tup e he)⟩, hn, hw, fun q hq => ⟨kp _ _ (hd q hq).1, (hd q hq).2⟩⟩
theorem DevS.ext {C p dx B W : Addr} {N : Nat} {d : AD} {H H' : Hp} (D : DevS C H p dx B W N d) (s : LamX.ExtN H H') : DevS C H' p dx B W N d := by
  have kp : Keep H H' := fun t xs z => s _ _ z (fun ps y => by cases y)
  obtain ⟨i, nf, kvs, es, hB, hc, hW, hn, hw, hd⟩ := D
  exact ⟨s _ _ i (fun _ z => by cases z), nf, kvs, es, s _ _ hB (fun _ z => by cases z), hc.keep kp, ⟨s _ _ hW.lst (fun _ z => by cases z), fun e he => kp _ _ (hW.tup e he)⟩, hn, hw, fun q hq => ⟨kp _ _ (hd q hq).1, (hd q hq).2⟩⟩
theorem RowsAt.ext {H H' : Hp} {r : Addr} {gs : List Rw} (x : RowsAt H r gs) (s : LamX.ExtN H H') : RowsAt H' r gs :=
  ⟨s _ _ x.lst (fun _ z => by cases z), fun q hq => s _ _ (x.tup q hq) (fun _ z => by cases z), fun q hq => s _ _ (x.dat q hq) (fun _ z => by cases z)⟩
theorem RowsAt.mv {l : List Addr} {H H' : Hp} {r : Addr} {gs : List Rw} (x : RowsAt H r gs) (m : Mv l H H') (n : r ∉ l) : RowsAt H' r gs :=
  ⟨m.2 _ _ x.lst n, fun q hq => m.keep _ _ (x.tup q hq), fun q hq => m.keep _ _ (x.dat q hq)⟩
/-- the dice, its row, the table of code, a device -/
structure Ws (C R PT D p dx B W : Addr) (N : Nat) (d : AD) (dc : Dice) (H : Hp) : Prop where
  dice : H D = some (.lst dc.vs)
  row : H R = some (.lst [.ref D])
  tabs : LamX.Tabs [(PT, lamQ)] H
  dev : DevS C H p dx B W N d
  nDR : D ≠ R
  nDW : D ≠ W
  nRW : R ≠ W
section
variable {C R PT D p dx B W : Addr} {N : Nat} {d : AD} {dc : Dice} {H H' : Hp}
theorem Ws.same (x : Ws C R PT D p dx B W N d dc H) (s : Same H H') : Ws C R PT D p dx B W N d dc H' := ⟨s _ _ x.dice, s _ _ x.row, x.tabs.ext s, x.dev.same s, x.nDR, x.nDW, x.nRW⟩
theorem Ws.ext (x : Ws C R PT D p dx B W N d dc H) (s : LamX.ExtN H H') (t : LamX.Tabs [(PT, lamQ)] H') : Ws C R PT D p dx B W N d dc H' :=
  ⟨s _ _ x.dice (fun _ z => by cases z), s _ _ x.row (fun _ z => by cases z), t, x.dev.ext s, x.nDR, x.nDW, x.nRW⟩
theorem Ws.mvD (x : Ws C R PT D p dx B W N d dc H) (s : SameX D H H') : Mv [D] H H' := Mv.sameX (by rw [x.dice]; exact Soft.lst) s
theorem Ws.rolled (x : Ws C R PT D p dx B W N d dc H) {dc' : Dice} (s : SameX D H H') (h : H' D = some (.lst dc'.vs)) : Ws C R PT D p dx B W N d dc' H' :=
  ⟨h, s _ _ x.nDR.symm x.row, (x.mvD s).tabs x.tabs, x.dev.dice x.dice x.nDW s, x.nDR, x.nDW, x.nRW⟩
theorem Ws.lst_not {a : Addr} {xs : List V} (x : Ws C R PT D p dx B W N d dc H) (h : H a = some (.lst xs)) (n : a ≠ W) : a ∉ [p, B, W] := by
  have n1 : a ≠ p := ne_of h x.dev.ins (by intro z; cases z)
  have n2 : a ≠ B := by
    obtain ⟨i, nf, kvs, es, hB, hc, hW, hn, hw, hd⟩ := x.dev
    exact ne_of h hB (by intro z; cases z)
  simp [n1, n2, n]
/-- the device goes on -/
theorem Ws.bar {W' : Addr} {N' : Nat} {d' : AD} (x : Ws C R PT D p dx B W N d dc H) (b : Bar p B W H H') (hW : W' = W ∨ H W' = none) (D' : DevS C H' p dx B W' N' d') : Ws C R PT D p dx B W' N' d' dc H' := by
  have m := Mv.bar x.dev b
  have nw : ∀ {a : Addr} {xs : List V}, H a = some (.lst xs) → a ≠ W → a ≠ W' := fun {a xs} h n => by
    rcases hW with z | z
    · rw [z]; exact n
    · exact ne_of_none h z
  exact ⟨m.2 _ _ x.dice (x.lst_not x.dice x.nDW), m.2 _ _ x.row (x.lst_not x.row x.nRW), m.tabs x.tabs, D', x.nDR, nw x.dice x.nDW, nw x.row x.nRW⟩
/-- another device -/
theorem Ws.other {p' dx' B' W' : Addr} {N' : Nat} {d' : AD} (x : Ws C R PT D p dx B W N d dc H) (nW : H W' = none) (D' : DevS C H p' dx' B' W' N' d') : Ws C R PT D p' dx' B' W' N' d' dc H := ⟨x.dice, x.row, x.tabs, D', x.nDR, ne_of_none x.dice nW, ne_of_none x.row nW⟩
/-- one object that is not the device's, the dice or the row is changed -/
theorem Ws.one {a : Addr} (x : Ws C R PT D p dx B W N d dc H) (sf : Soft (H a)) (s : SameX a H H') (n : D ≠ a ∧ R ≠ a ∧ p ≠ a ∧ B ≠ a ∧ W ≠ a) : Ws C R PT D p dx B W N d dc H' := by
  have m := Mv.sameX sf s
  exact ⟨s _ _ n.1 x.dice, s _ _ n.2.1 x.row, m.tabs x.tabs, x.dev.mv m ⟨by simp [n.2.2.1], by simp [n.2.2.2.1], by simp [n.2.2.2.2]⟩, x.nDR, x.nDW, x.nRW⟩
end
end K03
/-! == and != of dicts whose values are data, both answers -/
namespace HKE
open PySem PySem.Spec PyProof.Rows L2
/-- are all of ks in ls, with equal data -/
def hitsB (ls : List (Key × V)) (dk dl : Key → PyData) : List (Key × V) → Bool
  | [] => true
  | p :: r => match valV ls p.1 with
    | none => false
    | some _ => PyData.eqv (dk p.1) (dl p.1) && hitsB ls dk dl r
def DVs (K : PySem.W.Frag) (H : Hp) (ks : List (Key × V)) (d : Key → PyData) : Prop := ∀ k v, (k, v) ∈ ks → Dp K H v (d k) ∧ SeqAt.shaped (d k) = true
def dEq (ks ls : List (Key × V)) (dk dl : Key → PyData) : Bool := ks.length == ls.length && hitsB ls dk dl ks
def rEqDD (K : PySem.W.Frag) : R2 := fun x y H Q => ∃ a b ks ls dk dl, x = .ref a ∧ y = .ref b ∧ H a = some (.dK ks) ∧ H b = some (.dK ls) ∧ DVs K H ks dk ∧ DVs K H ls dl ∧ Q (.bl (dEq ks ls dk dl)) H
def rNeDD (K : PySem.W.Frag) : R2 := fun x y H Q => ∃ a b ks ls dk dl, x = .ref a ∧ y = .ref b ∧ H a = some (.dK ks) ∧ H b = some (.dK ls) ∧ DVs K H ks dk ∧ DVs K H ls dl ∧ Q (.bl (!dEq ks ls dk dl)) H
theorem valV_mem {kvs : List (Key × V)} {k : Key} {v : V} (h : valV kvs k = some v) : (k, v) ∈ kvs := by
  unfold valV at h
  obtain ⟨q, hq, rfl⟩ := Option.map_eq_some_iff.mp h
  have z := List.find?_some hq
  have e : q.1 = k := of_decide_eq_true z
  rw [← e]
  exact List.mem_of_find?_eq_some hq
section
variable {X : Cx} {pins : List (Addr × Obj)} {σ : L2.St} {H : Hp} {s : Shared}
theorem hits_of (I : L2.Inv X pins σ H s) {A : Around} (hu : A.in1.units + 64 < cLine) {ls : List (Key × V)} {vb : List (Key × Value)} (rb : KV ls vb) {dk dl : Key → PyData} (hl : DVs X.K H ls dl) {ks : List (Key × V)} {va : List (Key × Value)} (ra : KV ks va) :
    DVs X.K H ks dk → PySem.W.KeqHits A.in1 s vb va (hitsB ls dk dl ks) := by
  unfold KV at ra
  induction ra with
  | nil => intro _; exact .nil
  | @cons p q ps qs h t k =>
    intro hp
    obtain ⟨h1, h2⟩ := h
    obtain ⟨p1, p2⟩ := p
    obtain ⟨key, v⟩ := q
    have h1 : p1 = key := h1
    subst h1
    have rr := rb.val p1
    have ih := k fun k' v' hm => hp k' v' (List.mem_cons_of_mem _ hm)
    rw [hitsB]
    dsimp only
    cases e : valV ls p1 with
    | none =>
      rw [e] at rr
      cases e2 : valueAt vb p1 with
      | none => exact .miss e2
      | some y => rw [e2] at rr; exact (show False from rr).elim
    | some u =>
      rw [e] at rr
      cases e2 : valueAt vb p1 with
      | none => rw [e2] at rr; exact (show False from rr).elim
      | some y =>
        rw [e2] at rr
        have rr : RelV u y := rr
        obtain ⟨g1, g2⟩ := hp p1 p2 List.mem_cons_self
        obtain ⟨g3, g4⟩ := hl p1 u (valV_mem e)
        obtain ⟨as, r1⟩ := Dp.reads I _ _ _ g1 h2
        obtain ⟨bs, r2⟩ := Dp.reads I _ _ _ g3 rr
        exact .hit e2 (PySem.W.keq_at r1 r2 g2 g4 hu) ih
end
section
variable {X : Cx}
theorem op_eqDD (hu : X.A.units + 66 < cLine) : OpR X (compareOp .Eq) (rEqDD X.K) := by
  intro pins s σ H x y v u Q I rx ry h
  obtain ⟨a, b, ks, ls, dk, dl, rfl, rfl, ea, eb, h1, h2, q⟩ := h
  obtain rfl : v = Value.ref a := rx
  obtain rfl : u = Value.ref b := ry
  obtain ⟨_, ya, va, ra, da⟩ := (show ObjOk X.prog X.w H s.heap a (.dK ks) from I.hok a _ ea)
  obtain ⟨_, yb, vb, rb, db⟩ := (show ObjOk X.prog X.w H s.heap b (.dK ls) from I.hok b _ eb)
  have e : (va.length == vb.length && hitsB ls dk dl ks) = dEq ks ls dk dl := by unfold dEq; rw [ra.length, rb.length]
  exact PySem.W.keq_eq (knd := mixKind X.prog X.w) ya yb da db (by omega) (fun _ => hits_of I (by show X.A.units + 1 + 64 < cLine; omega) rb h2 ra h1) ⟨.bl _, H, I, by show Value.bool _ = Value.bool _; rw [e], q⟩
theorem op_neDD (hu : X.A.units + 66 < cLine) : OpR X (compareOp .NotEq) (rNeDD X.K) := by
  intro pins s σ H x y v u Q I rx ry h
  obtain ⟨a, b, ks, ls, dk, dl, rfl, rfl, ea, eb, h1, h2, q⟩ := h
  obtain rfl : v = Value.ref a := rx
  obtain rfl : u = Value.ref b := ry
  obtain ⟨_, ya, va, ra, da⟩ := (show ObjOk X.prog X.w H s.heap a (.dK ks) from I.hok a _ ea)
  obtain ⟨_, yb, vb, rb, db⟩ := (show ObjOk X.prog X.w H s.heap b (.dK ls) from I.hok b _ eb)
  have e : (va.length == vb.length && hitsB ls dk dl ks) = dEq ks ls dk dl := by unfold dEq; rw [ra.length, rb.length]
  exact PySem.W.keq_ne (knd := mixKind X.prog X.w) ya yb da db (by omega) (fun _ => hits_of I (by show X.A.units + 1 + 64 < cLine; omega) rb h2 ra h1) ⟨.bl _, H, I, by show Value.bool _ = Value.bool _; rw [e], q⟩
end
end HKE
/-! tables whose keys are 8 to 14: mathematics alone -/
namespace K03
open PySem L2 HK
abbrev KVs := List (Key × V)
def keys (kvs : KVs) : List Key := kvs.map (·.1)
def InR (k : Key) : Prop := ∃ n : Int, k = .inl n ∧ 8 ≤ n ∧ n < 15
structure Kr (kvs : KVs) : Prop where
  nd : (keys kvs).Nodup
  rg : ∀ k ∈ keys kvs, InR k
theorem isSome_mem {kvs : KVs} {k : Key} : (valV kvs k).isSome = true ↔ k ∈ keys kvs := by
  rw [← valV_any, List.any_eq_true]
  constructor
  · rintro ⟨q, hq, e⟩
    rw [← of_decide_eq_true e]
    exact List.mem_map_of_mem hq
  · intro h
    obtain ⟨q, hq, e⟩ := List.mem_map.mp h
    exact ⟨q, hq, decide_eq_true e⟩
theorem none_not {kvs : KVs} {k : Key} : valV kvs k = none ↔ k ∉ keys kvs := by
  rw [← isSome_mem]
  cases valV kvs k <;> simp
theorem some_mem {kvs : KVs} {k : Key} {v : V} (h : valV kvs k = some v) : k ∈ keys kvs := isSome_mem.mp (by rw [h]; rfl)
theorem nd_rangeI : ∀ (n : Nat) (l : List Int), l.Nodup → (∀ m ∈ l, 8 ≤ m ∧ m < 8 + (n : Int)) → l.length ≤ n
  | 0, l, _, h => by
    cases l with
    | nil => exact Nat.le_refl 0
    | cons k r =>
      have := h k (by simp)
      exfalso; omega
  | n + 1, l, nd, h => by
    have ih := nd_rangeI n (l.erase (8 + (n : Int))) (nd.erase _) fun m hk => by
      have := h m (List.mem_of_mem_erase hk)
      have : m ≠ 8 + (n : Int) := fun z => by
        rw [z] at hk
        exact (nd.mem_erase_iff.mp hk).1 rfl
      omega
    have := List.length_erase (a := (8 + (n : Int))) (l := l)
    split at this <;> omega
theorem ints_of : ∀ (l : List Key), (∀ k ∈ l, InR k) → ∃ ns : List Int, l = ns.map Sum.inl ∧ ∀ n ∈ ns, 8 ≤ n ∧ n < 15
  | [], _ => ⟨[], rfl, fun n h => by cases h⟩
  | k :: r, h => by
    obtain ⟨ns, e, q⟩ := ints_of r fun j hj => h j (by simp [hj])
    obtain ⟨n, e2, q1, q2⟩ := h k (by simp)
    refine ⟨n :: ns, by rw [e, e2]; rfl, fun m hm => ?_⟩
    rcases List.mem_cons.mp hm with z | z
    · rw [z]; exact ⟨q1, q2⟩
    · exact q m z
theorem nd_inl {ns : List Int} (h : (ns.map (Sum.inl : Int → Key)).Nodup) : ns.Nodup := (List.pairwise_map.mp h).imp fun h e => h (congrArg _ e)
theorem Kr.ints {kvs : KVs} (h : Kr kvs) : ∃ ns : List Int, keys kvs = ns.map Sum.inl ∧ ns.Nodup ∧ (∀ n ∈ ns, 8 ≤ n ∧ n < 15) ∧ ns.length = kvs.length := by
  obtain ⟨ns, e, q⟩ := ints_of _ h.rg
  refine ⟨ns, e, nd_inl (by rw [← e]; exact h.nd), q, ?_⟩
  have := congrArg List.length e
  unfold keys at this
  rw [List.length_map, List.length_map] at this
  exact this.symm
theorem Kr.len {kvs : KVs} (h : Kr kvs) : kvs.length ≤ 7 := by
  obtain ⟨ns, e, nd, q, l⟩ := h.ints
  rw [← l]
  exact nd_rangeI 7 ns nd fun m hm => by have := q m hm; omega
theorem Kr.nil : Kr [] := ⟨List.nodup_nil, fun k h => by cases h⟩
theorem keys_put_old {kvs : KVs} {k : Key} {v : V} (h : k ∈ keys kvs) : keys (putK kvs k v) = keys kvs := by
  unfold putK
  rw [if_pos (by rw [valV_any]; exact isSome_mem.mpr h)]
  unfold keys
  rw [List.map_map]
  refine List.map_congr_left fun q _ => ?_
  show (if q.1 = k then (q.1, v) else q).1 = q.1
  split <;> rfl
theorem keys_put_new {kvs : KVs} {k : Key} {v : V} (h : k ∉ keys kvs) : keys (putK kvs k v) = keys kvs ++ [k] := by
  rw [putK_new v (none_not.mpr h)]
  unfold keys
  rw [List.map_append]
  rfl
theorem Kr.put {kvs : KVs} (h : Kr kvs) {n : Int} {v : V} (a : 8 ≤ n) (b : n < 15) : Kr (putK kvs (.inl n) v) := by
  by_cases c : (Sum.inl n : Key) ∈ keys kvs
  · exact ⟨by rw [keys_put_old c]; exact h.nd, by rw [keys_put_old c]; exact h.rg⟩
  · refine ⟨by rw [keys_put_new c]; exact List.nodup_append.mpr ⟨h.nd, by simp, fun x hx y hy e => c (by simp at hy; rw [← hy, ← e]; exact hx)⟩, fun k hk => ?_⟩
    rw [keys_put_new c] at hk
    rcases List.mem_append.mp hk with z | z
    · exact h.rg k z
    · exact ⟨n, by simpa using z, a, b⟩
theorem keys_drop (kvs : KVs) (k : Key) : keys (dropK kvs k) = (keys kvs).filter fun j => decide (j ≠ k) := by
  unfold keys dropK
  rw [List.filter_map]
  rfl
theorem Kr.drop {kvs : KVs} (h : Kr kvs) (k : Key) : Kr (dropK kvs k) :=
  ⟨by rw [keys_drop]; exact h.nd.filter _, fun j hj => h.rg j (by rw [keys_drop] at hj; exact (List.mem_filter.mp hj).1)⟩
theorem valV_drop (k j : Key) : ∀ kvs : KVs, valV (dropK kvs k) j = if j = k then none else valV kvs j
  | [] => by rw [show dropK ([] : KVs) k = [] from rfl, valV_nil]; split <;> rfl
  | p :: r => by
    have ih := valV_drop k j r
    by_cases e : p.1 = k
    · rw [dropK_pos e, ih]
      by_cases e2 : j = k
      · rw [if_pos e2, if_pos e2]
      · rw [if_neg e2, if_neg e2, valV_neg (fun z => e2 (z.symm.trans e))]
    · rw [dropK_neg e]
      by_cases e3 : p.1 = j
      · rw [valV_pos e3, valV_pos e3, if_neg (fun z => e (e3.trans z))]
      · rw [valV_neg e3, valV_neg e3, ih]
theorem drop_len {kvs : KVs} {k : Key} : (dropK kvs k).length ≤ kvs.length := dropK_le kvs k
/-! ### shrink -/
def sh1 (cap : Int) (kd b : KVs) (k : Key) : KVs := if (valV kd k).isSome = false ∧ cap < (b.length : Int) then dropK b k else b
def shF (cap : Int) (kd kb : KVs) (l : List Key) : KVs := l.foldl (sh1 cap kd) kb
theorem sh1_cases (cap : Int) (kd b : KVs) (k j : Key) : valV (sh1 cap kd b k) j = valV b j ∨ (valV (sh1 cap kd b k) j = none ∧ valV kd j = none ∧ j = k) := by
  unfold sh1
  split
  · rename_i h
    rw [valV_drop]
    by_cases e : j = k
    · rw [if_pos e, e]
      exact .inr ⟨rfl, by have := h.1; cases q : valV kd k <;> simp [q] at this ⊢, rfl⟩
    · rw [if_neg e]; exact .inl rfl
  · exact .inl rfl
theorem sh1_kr {cap : Int} {kd b : KVs} {k : Key} (h : Kr b) : Kr (sh1 cap kd b k) := by
  unfold sh1; split
  · exact h.drop k
  · exact h
theorem sh1_len {cap : Int} {kd b : KVs} {k : Key} : (sh1 cap kd b k).length ≤ b.length := by
  unfold sh1; split
  · exact drop_len
  · exact Nat.le_refl _
theorem shF_cases (cap : Int) (kd : KVs) (j : Key) : ∀ (l : List Key) (b : KVs), valV (shF cap kd b l) j = valV b j ∨ (valV (shF cap kd b l) j = none ∧ valV kd j = none ∧ j ∈ l)
  | [], b => .inl rfl
  | k :: r, b => by
    have e : shF cap kd b (k :: r) = shF cap kd (sh1 cap kd b k) r := rfl
    rw [e]
    rcases shF_cases cap kd j r (sh1 cap kd b k) with h | h
    · rcases sh1_cases cap kd b k j with h2 | h2
      · exact .inl (h.trans h2)
      · exact .inr ⟨h.trans h2.1, h2.2.1, by rw [h2.2.2]; simp⟩
    · exact .inr ⟨h.1, h.2.1, by simp [h.2.2]⟩
theorem shF_kr {cap : Int} {kd : KVs} : ∀ (l : List Key) {b : KVs}, Kr b → Kr (shF cap kd b l)
  | [], _, h => h
  | k :: r, b, h => shF_kr r (b := sh1 cap kd b k) (sh1_kr h)
theorem shF_len {cap : Int} {kd : KVs} : ∀ (l : List Key) (b : KVs), (shF cap kd b l).length ≤ b.length
  | [], _ => Nat.le_refl _
  | k :: r, b => Nat.le_trans (shF_len r (sh1 cap kd b k)) sh1_len
theorem shF_done {cap : Int} {kd : KVs} : ∀ (l : List Key) (b : KVs), ((shF cap kd b l).length : Int) ≤ cap ∨ ∀ k ∈ l, valV kd k = none → valV (shF cap kd b l) k = none
  | [], _ => .inr fun k h => by cases h
  | k :: r, b => by
    have e : shF cap kd b (k :: r) = shF cap kd (sh1 cap kd b k) r := rfl
    rw [e]
    rcases shF_done r (sh1 cap kd b k) with h | h
    · exact .inl h
    · by_cases c : (b.length : Int) ≤ cap
      · refine .inl ?_
        have h1 := shF_len (cap := cap) (kd := kd) r (sh1 cap kd b k)
        have h2 := sh1_len (cap := cap) (kd := kd) (b := b) (k := k)
        omega
      · refine .inr fun j hj hn => ?_
        rcases List.mem_cons.mp hj with z | z
        · have : valV (sh1 cap kd b k) j = none := by
            unfold sh1
            rw [if_pos ⟨by rw [← z, hn]; rfl, by omega⟩, valV_drop, if_pos z]
          rcases shF_cases cap kd j r (sh1 cap kd b k) with y | y
          · rw [y]; exact this
          · exact y.1
        · exact h j z hn
/-- the keys that are not in kd -/
def clean (kd kb : KVs) : List Key := (keys kb).filter fun k => !(valV kd k).isSome
/-- few, or all but one are changed -/
def Few (cap : Int) (kd kb : KVs) : Prop := (kb.length : Int) ≤ cap ∨ (clean kd kb).length ≤ 1
structure Shr (cap : Int) (kd kb kb' : KVs) : Prop where
  val : ∀ k, valV kb' k = valV kb k ∨ (valV kb' k = none ∧ valV kd k = none)
  kr : Kr kb'
  few : Few cap kd kb'
  last : ∀ r k v, kb = r ++ [(k, v)] → valV kb' k = some v
theorem le1_of {l : List Key} (nd : l.Nodup) {a : Key} (h : ∀ k ∈ l, k = a) : l.length ≤ 1 := by
  match l, nd, h with
  | [], _, _ => exact Nat.zero_le _
  | [x], _, _ => exact Nat.le_refl _
  | x :: y :: r, nd, h =>
    have e1 := h x (by simp)
    have e2 := h y (by simp)
    exact absurd (List.nodup_cons.mp nd).1 (by simp [e1, e2])
theorem dropLast_not {l : List Key} {a : Key} (nd : (l ++ [a]).Nodup) : a ∉ l := fun h => by
  exact (List.nodup_append.mp nd).2.2 a h a (by simp) rfl
theorem Shr.of {cap : Int} {kd kb : KVs} (h : Kr kb) (c0 : 0 ≤ cap) : Shr cap kd kb (shF cap kd kb (keys kb).dropLast) := by
  refine ⟨fun k => (shF_cases cap kd k _ kb).imp id fun z => ⟨z.1, z.2.1⟩, shF_kr _ h, ?_, fun r k v e => ?_⟩
  · rcases shF_done (cap := cap) (kd := kd) (keys kb).dropLast kb with z | z
    · exact .inl z
    · refine .inr ?_
      have nd2 : (clean kd (shF cap kd kb (keys kb).dropLast)).Nodup := (shF_kr _ h).nd.filter _
      cases hk : (keys kb).getLast? with
      | none =>
        have e0 : keys kb = [] := by simpa using hk
        have : kb = [] := by unfold keys at e0; simpa using e0
        subst this
        exact Nat.zero_le _
      | some a =>
        obtain ⟨ys, ey⟩ := List.getLast?_eq_some_iff.mp hk
        have es : keys kb = (keys kb).dropLast ++ [a] := by rw [ey, List.dropLast_concat]
        refine le1_of nd2 (a := a) fun k hkm => ?_
        obtain ⟨m1, m2⟩ := List.mem_filter.mp hkm
        have hn : valV kd k = none := by cases q : valV kd k <;> simp [q] at m2 ⊢
        have hs := isSome_mem.mpr m1
        have hin : k ∈ keys kb := by
          rcases shF_cases cap kd k (keys kb).dropLast kb with y | y
          · rw [y] at hs; exact isSome_mem.mp hs
          · rw [y.1] at hs; cases hs
        rw [es] at hin
        rcases List.mem_append.mp hin with y | y
        · rw [z k y hn] at hs; cases hs
        · simpa using y
  · have hke : keys kb = keys r ++ [k] := by rw [e]; unfold keys; rw [List.map_append]; rfl
    rcases shF_cases cap kd k (keys kb).dropLast kb with y | y
    · rw [y, e]
      have nr : valV r k = none := none_not.mpr (dropLast_not (by rw [← hke]; exact h.nd))
      have := valV_snoc k k v r nr
      rw [this, if_pos rfl]
    · exfalso
      have := y.2.2
      rw [hke, List.dropLast_concat] at this
      exact dropLast_not (by rw [← hke]; exact h.nd) this
theorem Shr.same {cap : Int} {kd kb : KVs} (h : Kr kb) (c : (kb.length : Int) ≤ cap) : Shr cap kd kb kb :=
  ⟨fun _ => .inl rfl, h, .inl c, fun r k v e => by
    have hke : keys kb = keys r ++ [k] := by rw [e]; unfold keys; rw [List.map_append]; rfl
    have nr : valV r k = none := none_not.mpr (dropLast_not (by rw [← hke]; exact h.nd))
    rw [e, valV_snoc k k v r nr, if_pos rfl]⟩
end K03
namespace K03
open PySem L2 HK
abbrev sCInit : Stmt := inClass (top 5) 0
abbrev sRdB : Stmt := inClass (top 5) 1
abbrev sShr : Stmt := inClass (top 5) 2
abbrev sPut : Stmt := inClass (top 5) 3
abbrev sBeg : Stmt := inClass (top 5) 4
abbrev sEnd : Stmt := inClass (top 5) 5
abbrev sUndo : Stmt := inClass (top 5) 6
abbrev sSync : Stmt := inClass (top 5) 7
abbrev sEarl : Stmt := inClass (top 5) 8
abbrev sCCom : Stmt := inClass (top 5) 9
structure CCls (K : PySem.W.Frag) (mg : Str → Option Value) (CC : Addr) : Prop where
  cl : Cls K CC
  n1 : NoAttr K CC "journal"
  n2 : NoAttr K CC "capacity"
  n3 : NoAttr K CC "blocks"
  n4 : NoAttr K CC "dirty"
  n5 : NoAttr K CC "before"
  n6 : NoAttr K CC "commits"
  gC : mg "Cache" = some (.ref CC)
def fsC (j : Addr) (cap : Int) (bA dA : Addr) (be : V) (com : Int) : List (Str × V) := [("journal", .ref j), ("capacity", .int cap), ("blocks", .ref bA), ("dirty", .ref dA), ("before", be), ("commits", .int com)]
def kvl (kb : KVs) : List V := kb.map fun kv => kV kv.1
theorem cut_last (xs : List V) : cutV xs none (some (-1)) = xs.dropLast := by
  unfold cutV
  rw [HT.sIx_none, Nat.sub_zero, List.drop_zero, List.dropLast_eq_take]
  have e : HT.sIx xs.length xs.length (some (-1)) = xs.length - 1 := by
    have e0 : HT.sIx xs.length xs.length (some (-1)) = ((-1 : Int) + (xs.length : Int)).toNat := rfl
    rw [e0]
    omega
  rw [e]
theorem kvl_cut (kb : KVs) : (kvl kb).dropLast = (keys kb).dropLast.map kV := by
  unfold kvl keys
  rw [← List.map_dropLast, ← List.map_dropLast, List.map_map]
  rfl
theorem dGet_i {H : Hp} {a : Addr} {kvs : KVs} {k : Key} (h : H a = some (.dK kvs)) : DGet H a (kV k) (valV kvs k) := DGet.k h
def spShr (CC : Addr) : Sp := fun vs H Q _ => ∃ c cx j cap bA dA be com kb kd, vs = [.ref c] ∧ H c = some (.ins CC cx (fsC j cap bA dA be com)) ∧ H bA = some (.dK kb) ∧ H dA = some (.dK kd) ∧ dA ≠ bA ∧ Kr kb ∧ 0 ≤ cap ∧
  ∀ H' kb', SameX bA H H' → H' bA = some (.dK kb') → Shr cap kd kb kb' → Q .non H'
section
variable {P : Program} {w : World} {K : PySem.W.Frag} {mg : Str → Option Value} {base : Heap} {C CE CJ CJE CC : Addr}
theorem scShr : FnScope ["self", "number"] ["self"] (defScope sShr) := ⟨rfl, rfl, rfl, by decide +kernel, rfl, by decide +kernel, by decide +kernel⟩
theorem ok_shr {f : Addr} {fd : FuncData} (F : L2.Fun K "shrink" "Cache.shrink" sShr f fd) (T : DTxt K mg C CE) (J : JCls K mg CJ CJE) (X : CCls K mg CC) : FnOk P w K mg base L2.CX0 1 f fd ["self"] (spShr CC) := by
  refine F.ok scShr (fun vs H Q E h => ?_) (fun cdv A outer s H vs Q E hr h => ?_)
  · obtain ⟨c, cx, j, cap, bA, dA, be, com, kb, kd, rfl, _⟩ := h
    rfl
  · obtain ⟨c, cx, j, cap, bA, dA, be, com, kb, kd, rfl, hc, hb, hd, ndb, kr, c0, k⟩ := h
    refine ⟨_, pss_cons (ps_if (pt_cmpR op_le (pe_callB call_lenD (by rfl) T.len PySem.boot_len (pa_cons (pe_fld (pv 0) rfl) pa_nil)) (pe_fld (pv 0) rfl) (nomark _)) (pss_one ps_retN) pss_nil)
      (pss_one (ps_for PassesOwn.never rfl (pi_list (pe_slice sl_list (pe_callTy (call_listD rfl) (by rfl) J.list PyProof.Rows.Boot.«list» (pa_cons (pe_fld (pv 0) rfl) pa_nil)) po_none (po_some (pe_un un_neg pe_int)))) (pg_name (i := 1) scShr.nd rfl (Or.inl rfl))
        (pss_one (ps_if (PW.pt (pw_and (pt_cmp (pc_dnotin (hu_of hr) (pv 1) (pe_fld (pv 0) rfl))) (pw_and1 (pt_cmpR op_gt (pe_callB call_lenD (by rfl) T.len PySem.boot_len (pa_cons (pe_fld (pv 0) rfl) pa_nil)) (pe_fld (pv 0) rfl) (nomark _)))))
          (pss_one (ps_ddel (pe_fld (pv 0) rfl) (pv 1))) pss_nil)))), ?_⟩
    refine ⟨_, rfl, c, CC, cx, _, _, rfl, hc, X.cl, X.n3, rfl, bA, kb, rfl, hb, ?_⟩
    refine ⟨_, rfl, c, CC, cx, _, _, rfl, hc, X.cl, X.n2, rfl, _, _, rfl, rfl, _, rfl, ite2 (fun c1 => ?_) (fun c1 => ?_)⟩
    · have c1 : (kb.length : Int) ≤ cap := by simpa using c1
      exact k H kb (SameX.refl _ _) hb (Shr.same kr c1)
    · refine ⟨_, rfl, c, CC, cx, _, _, rfl, hc, X.cl, X.n3, rfl, bA, kb, rfl, .inl hb, fun l1 n1 => ?_⟩
      refine ⟨_, rfl, _, rfl, l1, kvl kb, rfl, SqL.of upd_same, fun l2 n2 => ?_⟩
      rw [cut_last, kvl_cut]
      have s1 : Same H (upd H l1 (.lst (kb.map fun kv => kV kv.1))) := same_upd n1
      have s2 : Same (upd H l1 (.lst (kb.map fun kv => kV kv.1))) (upd (upd H l1 (.lst (kb.map fun kv => kV kv.1))) l2 (.lst ((keys kb).dropLast.map kV))) := same_upd n2
      have h2 : (upd (upd H l1 (.lst (kb.map fun kv => kV kv.1))) l2 (.lst ((keys kb).dropLast.map kV))) l2 = some (.lst ((keys kb).dropLast.map kV)) := upd_same
      have ss := s1.trans s2
      generalize upd (upd H l1 (.lst (kb.map fun kv => kV kv.1))) l2 (.lst ((keys kb).dropLast.map kV)) = H2 at ss h2 ⊢
      clear s1 s2 n1 n2
      refine ⟨l2, rfl, ⟨_, SqL.of h2⟩, ?_⟩
      refine for_list (K := K) (a := l2) (xs := (keys kb).dropLast.map kV) (fun i σ H' => SameX bA H2 H' ∧ H' bA = some (.dK (shF cap kd kb ((keys kb).dropLast.take i))) ∧ ∃ u, σ = [some (.ref c), u]) ⟨SameX.refl _ _, ss _ _ hb, none, rfl⟩ (fun i σ H' hi q => SqL.of (q.1 _ _ (ne_of h2 (ss _ _ hb) (by intro z; cases z)) h2)) (fun i x σ H' hx q => ?_) (fun σ H' q => ?_)
      · obtain ⟨sx, hb', u, rfl⟩ := q
        rw [List.getElem?_map] at hx
        obtain ⟨kk, hk, rfl⟩ := Option.map_eq_some_iff.mp hx
        have e1 : (keys kb).dropLast.take (i + 1) = (keys kb).dropLast.take i ++ [kk] := by rw [List.take_add_one, hk]; rfl
        have e2 : shF cap kd kb ((keys kb).dropLast.take (i + 1)) = sh1 cap kd (shF cap kd kb ((keys kb).dropLast.take i)) kk := by
          rw [e1]; unfold shF; rw [List.foldl_append]; rfl
        have hc' := sx _ _ (ne_of (ss _ _ hc) (ss _ _ hb) (by intro z; cases z)) (ss _ _ hc)
        have hd' := sx _ _ ndb (ss _ _ hd)
        have mem : kk ∈ keys kb := (List.dropLast_sublist _).subset (List.mem_of_getElem? hk)
        refine ⟨_, rfl, _, rfl, c, CC, cx, _, _, rfl, hc', X.cl, X.n4, rfl, dA, _, rfl, dGet_i hd', _, rfl, ite2 (fun c2 => ?_) (fun c2 => iteF ?_)⟩
        · refine ⟨_, rfl, c, CC, cx, _, _, rfl, hc', X.cl, X.n3, rfl, bA, _, rfl, hb', _, rfl, c, CC, cx, _, _, rfl, hc', X.cl, X.n2, rfl, _, _, rfl, rfl, _, rfl, ite2 (fun c3 => ?_) (fun c3 => ?_)⟩
          · refine ⟨_, rfl, c, CC, cx, _, _, rfl, hc', X.cl, X.n3, rfl, _, rfl, bA, _, kk, rfl, hb', rfl, ?_, ?_⟩
            · have ni : kk ∉ (keys kb).dropLast.take i := fun z => by
                have nd := (List.nodup_append.mp (by rw [← e1]; exact (List.Sublist.nodup ((List.take_sublist _ _).trans (List.dropLast_sublist _)) kr.nd) : ((keys kb).dropLast.take i ++ [kk]).Nodup)).2.2
                exact nd kk z kk (by simp) rfl
              rcases shF_cases cap kd kk ((keys kb).dropLast.take i) kb with y | y
              · rw [y]; exact isSome_mem.mpr mem
              · exact absurd y.2.2 ni
            · refine ⟨sx.trans SameX.upd, ?_, _, rfl⟩
              rw [upd_same, e2]
              unfold sh1
              rw [if_pos ⟨by simpa using c2, by simpa using c3⟩]
          · refine ⟨sx, ?_, _, rfl⟩
            rw [e2]
            unfold sh1
            rw [if_neg (fun z => by have := z.2; simp at c3; omega)]
            exact hb'
        · refine ⟨sx, ?_, _, rfl⟩
          rw [e2]
          unfold sh1
          rw [if_neg (fun z => by rw [z.1] at c2; exact c2 rfl)]
          exact hb'
      · obtain ⟨sx, hb', u, rfl⟩ := q
        rw [List.length_map, List.take_length] at hb'
        exact k H' _ ((SameX.of ss).trans sx) hb' (Shr.of kr c0)
end
end K03
namespace K03
open PySem L2 HK
/-- where the cache's parts stand, and what they hold -/
structure CG where
  j : Addr
  jx : Addr
  p : Addr
  dx : Addr
  B : Addr
  W : Addr
  bA : Addr
  dA : Addr
  be : V
  cap : Int
  com : Int
  sr : Int
  N : Nat
  d : AD
  kb : KVs
  kd : KVs
structure CAt (CC CJ C c cx : Addr) (g : CG) (vw : Fn) (H : Hp) : Prop where
  ins : H c = some (.ins CC cx (fsC g.j g.cap g.bA g.dA g.be g.com))
  jat : JAt CJ H g.j g.jx g.p g.sr
  dev : DevS C H g.p g.dx g.B g.W g.N g.d
  hb : H g.bA = some (.dK g.kb)
  hd : H g.dA = some (.dK g.kd)
  al : g.d.dead = false
  hw : g.d.ws = []
  hz : g.d.f 1 = zero64
  ncj : c ≠ g.j
  ncp : c ≠ g.p
  njp : g.j ≠ g.p
  ndb : g.dA ≠ g.bA
  nbB : g.bA ≠ g.B
  ndB : g.dA ≠ g.B
  kb : Kr g.kb
  kd : Kr g.kd
  sub : ∀ k, k ∈ keys g.kd → k ∈ keys g.kb
  dv : ∀ k v, valV g.kd k = some v → v = .bl true
  v1 : ∀ n v, valV g.kb (.inl n) = some v → ∃ t, v = .ref t ∧ H t = some (tupI (vw n))
  v2 : ∀ n, 8 ≤ n → n < 15 → (.inl n : Key) ∉ keys g.kd → vw n = g.d.f n
  v3 : ∀ n, 8 ≤ n → n < 15 → (vw n).length = 64
  c1 : 1 ≤ g.cap
/-- what an open operation has changed -/
structure BAt (g : CG) (vw pv : Fn) (eA : Addr) (ke : KVs) (od : List Key) (H : Hp) : Prop where
  be : g.be = .ref eA
  he : H eA = some (.dK ke)
  neb : eA ≠ g.bA
  ned : eA ≠ g.dA
  neB : eA ≠ g.B
  kr : Kr ke
  e1 : ∀ n v, valV ke (.inl n) = some v → ∃ u t ch, v = .ref u ∧ H u = some (.tup [.ref t, .bl ch]) ∧ H t = some (tupI (pv n)) ∧ (.inl n : Key) ∈ keys g.kd ∧ (ch = true ↔ (.inl n : Key) ∈ od)
  e2 : ∀ n, 8 ≤ n → n < 15 → (.inl n : Key) ∉ keys ke → vw n = pv n
  e3 : ∀ k, k ∈ keys g.kd → k ∉ keys ke → k ∈ od
  e4 : ∀ k, k ∈ od → k ∈ keys g.kd
  e5 : ∀ n, 8 ≤ n → n < 15 → (.inl n : Key) ∉ od → pv n = g.d.f n
  e6 : ∀ n, 8 ≤ n → n < 15 → (pv n).length = 64
  nd : od.Nodup
  len : od.length ≤ 5
theorem tup_ne {H : Hp} {t a : Addr} {xs : List V} {o : HO} (h : H t = some (.tup xs)) (ha : H a = some o) (n : ∀ ys, o ≠ .tup ys) : t ≠ a := ne_of h ha (fun z => n _ z.symm)
section
variable {CC CJ C c cx : Addr} {g : CG} {vw pv : Fn} {H H' : Hp}
theorem CAt.nB (x : CAt CC CJ C c cx g vw H) : ∃ kvs, H g.B = some (.dK kvs) := by
  obtain ⟨i, nf, kvs, es, hB, _⟩ := x.dev
  exact ⟨kvs, hB⟩
theorem CAt.nW (x : CAt CC CJ C c cx g vw H) : ∃ xs, H g.W = some (.lst xs) := by
  obtain ⟨i, nf, kvs, es, hB, hc, hW, _⟩ := x.dev
  exact ⟨_, hW.lst⟩
/-- another table of blocks -/
theorem CAt.setB (x : CAt CC CJ C c cx g vw H) {kb' : KVs} (s : SameX g.bA H H') (hb' : H' g.bA = some (.dK kb')) (kr : Kr kb') (sub : ∀ k, k ∈ keys g.kd → k ∈ keys kb') (v1 : ∀ n v, valV kb' (.inl n) = some v → ∃ t, v = .ref t ∧ H' t = some (tupI (vw n))) : CAt CC CJ C c cx { g with kb := kb' } vw H' where
  ins := s _ _ (ne_of x.ins x.hb (by intro z; cases z)) x.ins
  jat := s _ _ (ne_of x.jat x.hb (by intro z; cases z)) x.jat
  dev := x.dev.mv (Mv.sameX (by rw [x.hb]; exact Soft.dK) s) (by
    obtain ⟨kB, hB⟩ := x.nB
    obtain ⟨kW, hW⟩ := x.nW
    have n1 := ne_of x.dev.ins x.hb (by intro z; cases z)
    have n2 := ne_of hW x.hb (by intro z; cases z)
    simp [n1, n2, x.nbB.symm])
  hb := hb'
  hd := s _ _ x.ndb x.hd
  al := x.al
  hw := x.hw
  hz := x.hz
  ncj := x.ncj
  ncp := x.ncp
  njp := x.njp
  ndb := x.ndb
  nbB := x.nbB
  ndB := x.ndB
  kb := kr
  kd := x.kd
  sub := sub
  dv := x.dv
  v1 := v1
  v2 := x.v2
  v3 := x.v3
  c1 := x.c1
theorem BAt.setB (x : BAt g vw pv eA ke od H) {kb' kb0 : KVs} (hb0 : H g.bA = some (.dK kb0)) (s : SameX g.bA H H') : BAt { g with kb := kb' } vw pv eA ke od H' where
  be := x.be
  he := s _ _ x.neb x.he
  neb := x.neb
  ned := x.ned
  neB := x.neB
  kr := x.kr
  e1 := fun n v h => by
    obtain ⟨u, t, ch, e, h1, h2, h3, h4⟩ := x.e1 n v h
    exact ⟨u, t, ch, e, s _ _ (tup_ne h1 hb0 (fun ys z => by cases z)) h1, s _ _ (tup_ne h2 hb0 (fun ys z => by cases z)) h2, h3, h4⟩
  e2 := x.e2
  e3 := x.e3
  e4 := x.e4
  e5 := x.e5
  e6 := x.e6
  nd := x.nd
  len := x.len
end
/-! ### read_block -/
def spRdB (CC CJ C : Addr) : Sp := fun vs H Q _ => ∃ c cx g vw n, vs = [.ref c, .int n] ∧ CAt CC CJ C c cx g vw H ∧ g.N ≤ 900 ∧ 8 ≤ n ∧ n < 15 ∧
  ∀ H' kb' t, SameX g.bA H H' → CAt CC CJ C c cx { g with kb := kb' } vw H' → Few g.cap g.kd kb' → valV kb' (.inl n) = some (.ref t) → H' t = some (tupI (vw n)) → Q (.ref t) H'
section
variable {P : Program} {w : World} {K : PySem.W.Frag} {mg : Str → Option Value} {base : Heap} {C CE CJ CJE CC : Addr}
theorem scRdB : FnScope ["self", "number", "data"] ["self", "number"] (defScope sRdB) := ⟨rfl, rfl, rfl, by decide +kernel, rfl, by decide +kernel, by decide +kernel⟩
theorem ok_rdB {f fR fS : Addr} {fd fdR fdS : FuncData} (F : L2.Fun K "read_block" "Cache.read_block" sRdB f fd) (T : DTxt K mg C CE) (J : JCls K mg CJ CJE) (X : CCls K mg CC)
    (FR : FnOk P w K mg base (L2.CX P w) 2 fR fdR ["self", "number"] (spReadA C CE)) (bR : Binds K fdR ["self", "number"] []) (mR : Meth K C "read" fR)
    (FS : FnOk P w K mg base L2.CX0 1 fS fdS ["self"] (spShr CC)) (bS : Binds K fdS ["self"] []) (mS : Meth K CC "shrink" fS) :
    FnOk P w K mg base L2.CX0 3 f fd ["self", "number"] (spRdB CC CJ C) := by
  refine F.ok scRdB (fun vs H Q E h => ?_) (fun cdv A outer s H vs Q E hr h => ?_)
  · obtain ⟨c, cx, g, vw, n, rfl, _⟩ := h
    rfl
  · obtain ⟨c, cx, g, vw, n, rfl, x, hN, n8, n15, k⟩ := h
    have rS := FS.mono (show 1 ≤ 2 by decide)
    refine ⟨_, pss_cons (ps_if (pt_cmp (pc_din (hu_of hr) (pv 1) (pe_fld (pv 0) rfl))) (pss_one (ps_set (i := 2) scRdB.nd rfl (Or.inl rfl) (pe_dpop1 (pe_fld (pv 0) rfl) (pv 1) ⟨rfl, rfl, rfl, rfl⟩)))
        (pss_one (ps_set (i := 2) scRdB.nd rfl (Or.inl rfl) (pe_meth (pe_fld (pe_fld (pv 0) rfl) rfl) T.cl mR FR hr bR .nil passL (pa_cons (pv 1) pa_nil)))))
      (pss_cons (ps_dput (hu_of hr) (pe_fld (pv 0) rfl) (pv 1) (pv 2) rfl)
      (pss_cons (ps_expr (pe_meth0 (pv 0) X.cl mS rS hr bS .nil pass0))
      (pss_one (ps_ret (pv 2))))), ?_⟩
    refine ⟨_, rfl, _, rfl, c, CC, cx, _, _, rfl, x.ins, X.cl, X.n3, rfl, g.bA, _, rfl, dGet_i (k := .inl n) x.hb, _, rfl, ite2 (fun c1 => ?A) (fun c1 => ?B)⟩
    case' A =>
      obtain ⟨v, hv⟩ := Option.isSome_iff_exists.mp c1
      obtain ⟨t, rfl, ht⟩ := x.v1 n v hv
      refine ⟨_, rfl, c, CC, cx, _, _, rfl, x.ins, X.cl, X.n3, rfl, g.bA, rfl, .inl ⟨_, .inl x.hb⟩, _, rfl, g.kb, .inl n, .ref t, x.hb, rfl, hv, ?_⟩
      obtain ⟨kb1, hk1⟩ : ∃ kb1, kb1 = dropK g.kb (.inl n) := ⟨_, rfl⟩
      have q1 : valV kb1 (.inl n) = none := by rw [hk1, valV_drop, if_pos rfl]
      have q2 : ∀ j, j ≠ (.inl n : Key) → valV kb1 j = valV g.kb j := fun j hj => by rw [hk1, valV_drop, if_neg hj]
      have q3 : Kr kb1 := by rw [hk1]; exact x.kb.drop _
      have s1 : SameX g.bA H (upd H g.bA (.dK (dropK g.kb (.inl n)))) := SameX.upd
      have hb1 : (upd H g.bA (.dK (dropK g.kb (.inl n)))) g.bA = some (.dK kb1) := by rw [upd_same, hk1]
      have ht1 : (upd H g.bA (.dK (dropK g.kb (.inl n)))) t = some (tupI (vw n)) := s1 _ _ (tup_ne ht x.hb (fun ys z => by cases z)) ht
      generalize upd H g.bA (.dK (dropK g.kb (.inl n))) = H1 at s1 hb1 ht1 ⊢
      clear c1 hv ht hk1
    case' B =>
      have c1 : (.inl n : Key) ∉ keys g.kb := fun z => c1 (isSome_mem.mpr z)
      refine ⟨_, rfl, c, CC, cx, _, _, rfl, x.ins, X.cl, X.n1, rfl, g.j, CJ, g.jx, _, _, rfl, x.jat, J.cl, J.n1, rfl, g.p, g.dx, _, rfl, x.dev.ins, rfl, _, rfl, g.p, g.dx, g.B, g.W, g.N, g.d, n, rfl, x.dev, hN, (fun z => by rw [x.al] at z; cases z), (fun z => absurd ⟨by omega, by omega⟩ z), fun _ _ H1 t s0 ht0 => ?_⟩
      obtain ⟨kb1, hk1⟩ : ∃ kb1, kb1 = g.kb := ⟨_, rfl⟩
      have q1 : valV kb1 (.inl n) = none := by rw [hk1]; exact none_not.mpr c1
      have q2 : ∀ j, j ≠ (.inl n : Key) → valV kb1 j = valV g.kb j := fun j hj => by rw [hk1]
      have q3 : Kr kb1 := by rw [hk1]; exact x.kb
      have s1 : SameX g.bA H H1 := SameX.of s0
      have hb1 : H1 g.bA = some (.dK kb1) := by rw [hk1]; exact s0 _ _ x.hb
      have ht1 : H1 t = some (tupI (vw n)) := by rw [ht0, rd_of x.hw, x.v2 n n8 n15 (fun z => c1 (x.sub _ z))]
      clear c1 s0 ht0 hk1
    all_goals
      have hc1 := s1 _ _ (ne_of x.ins x.hb (by intro z; cases z)) x.ins
      refine ⟨_, rfl, _, rfl, c, CC, cx, _, _, rfl, hc1, X.cl, X.n3, rfl, _, rfl, g.bA, _, rfl, DPut.k (k := Sum.inl n) hb1 (by have := q3.len; rw [sizeLine_eq]; omega), ?_⟩
      have s2 := s1.trans (SameX.upd (o := .dK (putK kb1 (Sum.inl n) (.ref t))))
      have hb2 : (upd H1 g.bA (.dK (putK kb1 (Sum.inl n) (.ref t)))) g.bA = some (.dK (kb1 ++ [(Sum.inl n, .ref t)])) := by rw [upd_same, putK_new _ q1]
      have ht2 : (upd H1 g.bA (.dK (putK kb1 (Sum.inl n) (.ref t)))) t = some (tupI (vw n)) := by rw [upd_ne (tup_ne ht1 hb1 (fun ys z => by cases z))]; exact ht1
      have kr2 : Kr (kb1 ++ [(Sum.inl n, V.ref t)]) := by rw [← putK_new _ q1]; exact q3.put n8 n15
      generalize upd H1 g.bA (.dK (putK kb1 (Sum.inl n) (.ref t))) = H2 at s2 hb2 ht2 ⊢
      have hc2 := s2 _ _ (ne_of x.ins x.hb (by intro z; cases z)) x.ins
      have hd2 := s2 _ _ x.ndb x.hd
      refine ⟨_, rfl, c, cx, _, rfl, hc2, rfl, c, cx, _, _, g.bA, g.dA, _, _, _, g.kd, rfl, hc2, hb2, hd2, x.ndb, kr2, by have := x.c1; omega, fun H3 kb3 s3 hb3 sh => ⟨_, rfl, ?_⟩⟩
      have ht3 := s3 _ _ (tup_ne ht2 hb2 (fun ys z => by cases z)) ht2
      have val2 : ∀ j, valV (kb1 ++ [(Sum.inl n, V.ref t)]) j = if j = (.inl n : Key) then some (.ref t) else valV g.kb j := fun j => by
        rw [valV_snoc _ j _ kb1 q1]
        by_cases e : j = (.inl n : Key)
        · rw [if_pos e, if_pos e]
        · rw [if_neg e, if_neg e, q2 j e]
      refine k H3 kb3 t (s2.trans s3) (x.setB (s2.trans s3) hb3 sh.kr (fun j hj => ?_) (fun m v hv => ?_)) sh.few (sh.last kb1 _ _ rfl) ht3
      · rcases sh.val j with z | z
        · have hs : (valV g.kb j).isSome = true := isSome_mem.mpr (x.sub j hj)
          refine isSome_mem.mp ?_
          rw [z, val2 j]
          split
          · rfl
          · exact hs
        · exact absurd (none_not.mp z.2) (fun y => y hj)
      · rcases sh.val (.inl m) with z | z
        · rw [z, val2] at hv
          by_cases e : (.inl m : Key) = .inl n
          · rw [if_pos e] at hv
            obtain rfl := Option.some.inj hv
            injection e with e
            subst e
            exact ⟨t, rfl, ht3⟩
          · rw [if_neg e] at hv
            obtain ⟨t', e', h'⟩ := x.v1 m v hv
            exact ⟨t', e', s3 _ _ (tup_ne (s2 _ _ (tup_ne h' x.hb (fun ys z => by cases z)) h') hb2 (fun ys z => by cases z)) (s2 _ _ (tup_ne h' x.hb (fun ys z => by cases z)) h')⟩
        · rw [z.1] at hv; cases hv
end
end K03
namespace K03
open PySem L2 HK
/-- all stands but those at l -/
def Fr (l : List Addr) (H H' : Hp) : Prop := ∀ b o, H b = some o → b ∉ l → H' b = some o
theorem Fr.refl (l : List Addr) (H : Hp) : Fr l H H := fun _ _ h _ => h
theorem Fr.of {l : List Addr} {H H' : Hp} (s : Same H H') : Fr l H H' := fun b o h _ => s b o h
theorem Fr.trans {l : List Addr} {H H1 H2 : Hp} (a : Fr l H H1) (b : Fr l H1 H2) : Fr l H H2 := fun c o h n => b c o (a c o h n) n
theorem Fr.sx {l : List Addr} {a : Addr} {H H' : Hp} (s : SameX a H H') (m : a ∈ l) : Fr l H H' := fun b o h n => s b o (fun e => n (by rw [e]; exact m)) h
theorem Fr.mono {l m : List Addr} {H H' : Hp} (f : Fr l H H') (h : ∀ a ∈ l, a ∈ m) : Fr m H H' := fun b o e n => f b o e (fun z => n (h b z))
theorem Fr.mv {l : List Addr} {H H' : Hp} (f : Fr l H H') (s : ∀ b ∈ l, Soft (H b)) : Mv l H H' := ⟨s, f⟩
noncomputable def addK (l : List Key) (k : Key) : List Key := open Classical in if k ∈ l then l else l ++ [k]
theorem keys_put (kvs : KVs) (k : Key) (v : V) : keys (putK kvs k v) = addK (keys kvs) k := by
  unfold addK
  split
  · rename_i h; exact keys_put_old h
  · rename_i h; exact keys_put_new h
theorem mem_addK {l : List Key} {k j : Key} : j ∈ addK l k ↔ j ∈ l ∨ j = k := by
  unfold addK
  split
  · rename_i h
    exact ⟨.inl, fun z => z.elim id fun e => e ▸ h⟩
  · simp
theorem few_mono {cap : Int} {kd kb kd' kb' : KVs} (h : Few cap kd kb) (e : keys kb' = keys kb) (m : ∀ k, k ∈ keys kd → k ∈ keys kd') : Few cap kd' kb' := by
  have el : kb'.length = kb.length := by
    have := congrArg List.length e
    unfold keys at this
    rwa [List.length_map, List.length_map] at this
  rcases h with h | h
  · exact .inl (by rw [el]; exact h)
  · refine .inr (Nat.le_trans ?_ h)
    unfold clean
    rw [e, ← List.countP_eq_length_filter, ← List.countP_eq_length_filter]
    refine List.countP_mono_left fun k _ hk => ?_
    cases q : (valV kd k).isSome with
    | false => rfl
    | true =>
      rw [isSome_mem.mpr (m k (isSome_mem.mp q))] at hk
      cases hk
/-- the table of what is changed -/
theorem CAt.setD {CC CJ C c cx : Addr} {g : CG} {vw : Fn} {H H' : Hp} (x : CAt CC CJ C c cx g vw H) {kb' kd' : KVs} {l : List Addr} (f : Fr l H H') (hl : ∀ b ∈ l, (∃ k, H b = some (.dK k)) ∧ b ≠ g.B) (hb' : H' g.bA = some (.dK kb')) (hd' : H' g.dA = some (.dK kd'))
    (krb : Kr kb') (krd : Kr kd') (sub : ∀ k, k ∈ keys kd' → k ∈ keys kb') (dv : ∀ k v, valV kd' k = some v → v = .bl true) {vw' : Fn} (v1 : ∀ n v, valV kb' (.inl n) = some v → ∃ t, v = .ref t ∧ H' t = some (tupI (vw' n)))
    (v2 : ∀ n, 8 ≤ n → n < 15 → (.inl n : Key) ∉ keys kd' → vw' n = g.d.f n) (v3 : ∀ n, 8 ≤ n → n < 15 → (vw' n).length = 64) : CAt CC CJ C c cx { g with kb := kb', kd := kd' } vw' H' := by
  have ni : ∀ {a : Addr} {o : HO}, H a = some o → (∀ k, o ≠ .dK k) → a ∉ l := fun {a o} h n m => by
    obtain ⟨⟨k, e⟩, _⟩ := hl a m
    rw [h] at e
    exact n k (Option.some.inj e)
  obtain ⟨kB, hB⟩ := x.nB
  obtain ⟨kW, hW⟩ := x.nW
  have mv : Mv l H H' := Fr.mv f (fun b hb => by
    obtain ⟨⟨k, e⟩, _⟩ := hl b hb
    rw [e]; exact Soft.dK)
  exact
  { ins := f _ _ x.ins (ni x.ins (fun k z => by cases z))
    jat := f _ _ x.jat (ni x.jat (fun k z => by cases z))
    dev := x.dev.mv mv ⟨ni x.dev.ins (fun k z => by cases z), fun m => (hl _ m).2 rfl, ni hW (fun k z => by cases z)⟩
    hb := hb'
    hd := hd'
    al := x.al
    hw := x.hw
    hz := x.hz
    ncj := x.ncj
    ncp := x.ncp
    njp := x.njp
    ndb := x.ndb
    nbB := x.nbB
    ndB := x.ndB
    kb := krb
    kd := krd
    sub := sub
    dv := dv
    v1 := v1
    v2 := v2
    v3 := v3
    c1 := x.c1 }
def spPut (CC CJ C CJE : Addr) : Sp := fun vs H Q E => ∃ c cx g vw n t y, vs = [.ref c, .int n, .ref t] ∧ CAt CC CJ C c cx g vw H ∧ g.N ≤ 900 ∧ 8 ≤ n ∧ n < 15 ∧ H t = some (tupI y) ∧ y.length = 64 ∧
  ((g.be = .non ∧ E (.ref CJE) none H) ∨ ∃ pv eA ke od, BAt g vw pv eA ke od H ∧
    ∀ H' kb' kd' ke', Fr [g.bA, g.dA, eA] H H' → CAt CC CJ C c cx { g with kb := kb', kd := kd' } (setF vw n y) H' → BAt { g with kb := kb', kd := kd' } (setF vw n y) pv eA ke' od H' → keys ke' = addK (keys ke) (.inl n) → Few g.cap kd' kb' → Q .non H')
section
variable {P : Program} {w : World} {K : PySem.W.Frag} {mg : Str → Option Value} {base : Heap} {C CE CJ CJE CC : Addr}
theorem scPut : FnScope ["self", "number", "data", "old"] ["self", "number", "data"] (defScope sPut) := ⟨rfl, rfl, rfl, by decide +kernel, rfl, by decide +kernel, by decide +kernel⟩
theorem ok_put {f fR : Addr} {fd fdR : FuncData} (F : L2.Fun K "put" "Cache.put" sPut f fd) (T : DTxt K mg C CE) (J : JCls K mg CJ CJE) (X : CCls K mg CC)
    (FR : FnOk P w K mg base L2.CX0 3 fR fdR ["self", "number"] (spRdB CC CJ C)) (bR : Binds K fdR ["self", "number"] []) (mR : Meth K CC "read_block" fR) :
    FnOk P w K mg base (L2.CX P w) 4 f fd ["self", "number", "data"] (spPut CC CJ C CJE) := by
  refine F.okX scPut (fun vs H Q E h => ?_) (fun cdv A outer s H vs Q E hr h => ?_)
  · obtain ⟨c, cx, g, vw, n, t, y, rfl, _⟩ := h
    rfl
  · obtain ⟨c, cx, g, vw, n, t, y, rfl, x, hN, n8, n15, ht, hy, k⟩ := h
    refine ⟨_, pss_cons (ps_if (pt_cmpR op_isN (pe_fld (pv 0) rfl) pe_non (nomark _)) (pss_one (ps_raise rfl (takes_of rfl rfl rfl rfl) (pmk_own PySem.F.excBase_ValueError J.xE J.gE J.kE (raises_own J.bE J.tE) rfl))) pss_nil)
      (pss_cons (ps_set (i := 3) scPut.nd rfl (Or.inl rfl) (pe_meth (pv 0) X.cl mR FR hr bR .nil pass0 (pa_cons (pv 1) pa_nil)))
      (pss_cons (ps_if (pt_cmp (pc_dnotin (hu_of hr) (pv 1) (pe_fld (pv 0) rfl))) (pss_one (ps_dput (hu_of hr) (pe_fld (pv 0) rfl) (pv 1) (pe_tup (pa_cons (pv 3) (pa_cons (pe_cmp (pc_din (hu_of hr) (pv 1) (pe_fld (pv 0) rfl)) rfl) pa_nil))) rfl)) pss_nil)
      (pss_cons (ps_dput (hu_of hr) (pe_fld (pv 0) rfl) (pv 1) (pe_callTy call_tupleT (by rfl) T.tup PyProof.Rows.Boot.«tuple» (pa_cons (pv 2) pa_nil)) rfl)
      (pss_one (ps_dput (hu_of hr) (pe_fld (pv 0) rfl) (pv 1) pe_bl rfl))))), ?_⟩
    refine ⟨_, rfl, c, CC, cx, _, _, rfl, x.ins, X.cl, X.n5, rfl, rfl, _, rfl, ?_⟩
    rcases k with ⟨hb0, ke⟩ | ⟨pv, eA, ke, od, y0, k⟩
    · rw [hb0]
      exact iteT ke
    · rw [y0.be]
      refine iteF ?_
      refine ⟨_, rfl, c, cx, _, rfl, x.ins, rfl, _, rfl, c, cx, g, vw, n, rfl, x, hN, n8, n15, fun H1 kb1 t0 s1 x1 fw1 hv1 ht0 => ?_⟩
      have y1 : BAt { g with kb := kb1 } vw pv eA ke od H1 := y0.setB x.hb s1
      have ht1 := s1 _ _ (tup_ne ht x.hb (fun ys z => by cases z)) ht
      refine ⟨_, rfl, _, rfl, c, CC, cx, _, _, rfl, x1.ins, X.cl, X.n5, rfl, eA, _, y0.be, dGet_i (k := .inl n) y1.he, _, rfl, ite2 (fun c1 => ?A) (fun c1 => ?B)⟩
      case' A =>
        have c1 : (.inl n : Key) ∉ keys ke := none_not.mp (by simpa using c1)
        refine ⟨_, rfl, _, rfl, _, rfl, c, CC, cx, _, _, rfl, x1.ins, X.cl, X.n4, rfl, g.dA, _, rfl, dGet_i (k := .inl n) x1.hd, by show 2 ≤ sizeLine; decide, fun u nu => ?_⟩
        have s2 : Same H1 (upd H1 u (.tup [.ref t0, .bl (valV g.kd (.inl n)).isSome])) := same_upd nu
        have hu2 : (upd H1 u (.tup [.ref t0, .bl (valV g.kd (.inl n)).isSome])) u = some (.tup [.ref t0, .bl (valV g.kd (.inl n)).isSome]) := upd_same
        generalize upd H1 u (.tup [.ref t0, .bl (valV g.kd (.inl n)).isSome]) = H2 at s2 hu2 ⊢
        refine ⟨_, rfl, c, CC, cx, _, _, rfl, s2 _ _ x1.ins, X.cl, X.n5, rfl, _, rfl, eA, _, y0.be, DPut.k (k := Sum.inl n) (s2 _ _ y1.he) (by have := y0.kr.len; rw [sizeLine_eq]; omega), ?_⟩
        have he2 := s2 _ _ y1.he
        have s3 : SameX eA H2 (upd H2 eA (.dK (putK ke (Sum.inl n) (.ref u)))) := SameX.upd
        have f3 : Fr [g.bA, g.dA, eA] H1 (upd H2 eA (.dK (putK ke (Sum.inl n) (.ref u)))) := (Fr.of s2).trans (Fr.sx s3 (by simp))
        have hbx := s3 _ _ y0.neb.symm (s2 _ _ x1.hb)
        have hdx := s3 _ _ y0.ned.symm (s2 _ _ x1.hd)
        have hcx := s3 _ _ (ne_of x1.ins y1.he (by intro z; cases z)) (s2 _ _ x1.ins)
        have htx := s3 _ _ (tup_ne ht1 y1.he (fun ys z => by cases z)) (s2 _ _ ht1)
        have hex : (upd H2 eA (.dK (putK ke (Sum.inl n) (.ref u)))) eA = some (.dK (putK ke (Sum.inl n) (.ref u))) := upd_same
        have kr' : Kr (putK ke (Sum.inl n) (.ref u)) := y0.kr.put n8 n15
        have kk' : keys (putK ke (Sum.inl n) (.ref u)) = addK (keys ke) (.inl n) := keys_put _ _ _
        have tp : ∀ t xs, H1 t = some (.tup xs) → (upd H2 eA (.dK (putK ke (Sum.inl n) (.ref u)))) t = some (.tup xs) := fun t xs h => s3 _ _ (tup_ne h y1.he (fun ys z => by cases z)) (s2 _ _ h)
        have e1' : ∀ m v, valV (putK ke (Sum.inl n) (.ref u)) (.inl m) = some v → ∃ u' t ch, v = .ref u' ∧ (upd H2 eA (.dK (putK ke (Sum.inl n) (.ref u)))) u' = some (.tup [.ref t, .bl ch]) ∧ (upd H2 eA (.dK (putK ke (Sum.inl n) (.ref u)))) t = some (tupI (pv m)) ∧ ((.inl m : Key) ∈ keys g.kd ∨ m = n) ∧ (ch = true ↔ (.inl m : Key) ∈ od) := fun m v hv => by
          rw [valV_put] at hv
          by_cases e : (.inl m : Key) = .inl n
          · rw [if_pos e] at hv
            obtain rfl := Option.some.inj hv
            injection e with e
            subst e
            refine ⟨u, t0, _, rfl, s3 _ _ (tup_ne hu2 he2 (fun ys z => by cases z)) hu2, ?_, .inr rfl, ?_⟩
            · rw [← y0.e2 m n8 n15 c1]; exact tp _ _ ht0
            · rw [isSome_mem]
              exact ⟨fun z => y0.e3 _ z c1, fun z => y0.e4 _ z⟩
          · rw [if_neg e] at hv
            obtain ⟨u', t', ch, e1, h1, h2, h3, h4⟩ := y1.e1 m v hv
            exact ⟨u', t', ch, e1, tp _ _ h1, tp _ _ h2, .inl h3, h4⟩
        generalize putK ke (Sum.inl n) (.ref u) = ke' at f3 hbx hdx hcx htx hex kr' kk' e1' tp ⊢
        generalize upd H2 eA (.dK ke') = H3 at f3 hbx hdx hcx htx hex e1' tp ⊢
        clear s2 hu2 he2 s3 c1 nu
      case' B =>
        have c1 : (.inl n : Key) ∈ keys ke := isSome_mem.mp (by cases q : valV ke (.inl n) <;> simp [q] at c1 ⊢)
        obtain ⟨H3, eH⟩ : ∃ H3, H3 = H1 := ⟨_, rfl⟩
        have f3 : Fr [g.bA, g.dA, eA] H1 H3 := by rw [eH]; exact Fr.refl _ _
        have hbx := x1.hb
        have hdx := x1.hd
        have hcx := x1.ins
        have htx := ht1
        obtain ⟨ke', ek⟩ : ∃ ke', ke' = ke := ⟨_, rfl⟩
        have hex : H1 eA = some (.dK ke') := by rw [ek]; exact y1.he
        have kr' : Kr ke' := by rw [ek]; exact y0.kr
        have kk' : keys ke' = addK (keys ke) (.inl n) := by unfold addK; rw [if_pos c1, ek]
        have e1' : ∀ m v, valV ke' (.inl m) = some v → ∃ u' t ch, v = .ref u' ∧ H1 u' = some (.tup [.ref t, .bl ch]) ∧ H1 t = some (tupI (pv m)) ∧ ((.inl m : Key) ∈ keys g.kd ∨ m = n) ∧ (ch = true ↔ (.inl m : Key) ∈ od) := fun m v hv => by
          rw [ek] at hv
          obtain ⟨u', t', ch, e1, h1, h2, h3, h4⟩ := y1.e1 m v hv
          exact ⟨u', t', ch, e1, h1, h2, .inl h3, h4⟩
        have tp : ∀ t xs, H1 t = some (.tup xs) → H3 t = some (.tup xs) := by rw [eH]; exact fun _ _ h => h
        rw [← eH] at hbx hdx hcx htx hex e1' ⊢
        clear c1
      all_goals
        dsimp only at hbx hdx hcx
        refine ⟨_, rfl, t, _, rfl, SqT.of htx, ?_⟩
        refine ⟨_, rfl, c, CC, cx, _, _, rfl, hcx, X.cl, X.n3, rfl, _, rfl, g.bA, _, rfl, DPut.k (k := Sum.inl n) hbx (by have := x1.kb.len; rw [sizeLine_eq]; dsimp only at this; omega), ?_⟩
        have s4 : SameX g.bA H3 (upd H3 g.bA (.dK (putK kb1 (Sum.inl n) (.ref t)))) := SameX.upd
        have hb4 : (upd H3 g.bA (.dK (putK kb1 (Sum.inl n) (.ref t)))) g.bA = some (.dK (putK kb1 (Sum.inl n) (.ref t))) := upd_same
        have hc4 := s4 _ _ (ne_of hcx hbx (by intro z; cases z)) hcx
        have hd4 := s4 _ _ x.ndb hdx
        have he4 := s4 _ _ y0.neb hex
        have tp4 : ∀ a xs, H3 a = some (.tup xs) → (upd H3 g.bA (.dK (putK kb1 (Sum.inl n) (.ref t)))) a = some (.tup xs) := fun a xs h => s4 _ _ (tup_ne h hbx (fun ys z => by cases z)) h
        generalize upd H3 g.bA (.dK (putK kb1 (Sum.inl n) (.ref t))) = H4 at s4 hb4 hc4 hd4 he4 tp4 ⊢
        refine ⟨_, rfl, c, CC, cx, _, _, rfl, hc4, X.cl, X.n4, rfl, _, rfl, g.dA, _, rfl, DPut.k (k := Sum.inl n) hd4 (by have := x.kd.len; rw [sizeLine_eq]; omega), ?_⟩
        have s5 : SameX g.dA H4 (upd H4 g.dA (.dK (putK g.kd (Sum.inl n) (.bl true)))) := SameX.upd
        have hd5 : (upd H4 g.dA (.dK (putK g.kd (Sum.inl n) (.bl true)))) g.dA = some (.dK (putK g.kd (Sum.inl n) (.bl true))) := upd_same
        have hb5 := s5 _ _ x.ndb.symm hb4
        have he5 := s5 _ _ y0.ned he4
        have tp5 : ∀ a xs, H4 a = some (.tup xs) → (upd H4 g.dA (.dK (putK g.kd (Sum.inl n) (.bl true)))) a = some (.tup xs) := fun a xs h => s5 _ _ (tup_ne h hd4 (fun ys z => by cases z)) h
        generalize upd H4 g.dA (.dK (putK g.kd (Sum.inl n) (.bl true))) = H5 at s5 hd5 hb5 he5 tp5 ⊢
        have f5 : Fr [g.bA, g.dA, eA] H1 H5 := (f3.trans (Fr.sx s4 (by simp))).trans (Fr.sx s5 (by simp))
        have f0 : Fr [g.bA, g.dA, eA] H H5 := (Fr.sx s1 (by simp)).trans f5
        have mk : ∀ k, k ∈ keys (putK g.kd (Sum.inl n) (.bl true)) ↔ k ∈ keys g.kd ∨ k = .inl n := fun k => by rw [keys_put]; exact mem_addK
        have mb : ∀ k, k ∈ keys (putK kb1 (Sum.inl n) (.ref t)) ↔ k ∈ keys kb1 ∨ k = .inl n := fun k => by rw [keys_put]; exact mem_addK
        have mke : ∀ k, k ∈ keys ke' ↔ k ∈ keys ke ∨ k = .inl n := fun k => by rw [kk']; exact mem_addK
        have ein : ∀ m : Int, (.inl m : Key) = .inl n ↔ m = n := fun m => ⟨fun z => by injection z, fun z => by rw [z]⟩
        have xx : CAt CC CJ C c cx { g with kb := putK kb1 (Sum.inl n) (.ref t), kd := putK g.kd (Sum.inl n) (.bl true) } (setF vw n y) H5 := by
          have hvn : (.inl n : Key) ∈ keys kb1 := some_mem hv1
          refine CAt.setD (H := H) x f0 (fun b hb => ?_) hb5 hd5 (x1.kb.put n8 n15) (x.kd.put n8 n15) (fun k hk => ?_) (fun k v hv => ?_) (fun m v hv => ?_) (fun m m8 m15 hm => ?_) (fun m m8 m15 => ?_)
          · simp only [List.mem_cons, List.not_mem_nil, or_false] at hb
            rcases hb with e | e | e
            · rw [e]; exact ⟨⟨_, x.hb⟩, x.nbB⟩
            · rw [e]; exact ⟨⟨_, x.hd⟩, x.ndB⟩
            · rw [e]; exact ⟨⟨_, y0.he⟩, y0.neB⟩
          · rw [mb]
            rcases (mk k).mp hk with z | z
            · exact .inl (x1.sub k z)
            · exact .inr z
          · rw [valV_put] at hv
            split at hv
            · exact (Option.some.inj hv).symm
            · exact x.dv k v hv
          · rw [valV_put] at hv
            by_cases e : (.inl m : Key) = .inl n
            · rw [if_pos e] at hv
              refine ⟨t, (Option.some.inj hv).symm, ?_⟩
              rw [(ein m).mp e, setF_at]
              exact tp5 _ _ (tp4 _ _ htx)
            · rw [if_neg e] at hv
              obtain ⟨t', e', h'⟩ := x1.v1 m v hv
              refine ⟨t', e', ?_⟩
              rw [setF_off (fun z => e ((ein m).mpr z))]
              exact tp5 _ _ (tp4 _ _ (tp _ _ h'))
          · have hm2 : ¬ ((.inl m : Key) ∈ keys g.kd ∨ (.inl m : Key) = .inl n) := fun z => hm ((mk _).mpr z)
            rw [setF_off (fun z => hm2 (.inr ((ein m).mpr z)))]
            exact x.v2 m m8 m15 (fun z => hm2 (.inl z))
          · unfold setF
            split
            · exact hy
            · exact x.v3 m m8 m15
        refine k H5 _ _ ke' f0 xx ?_ kk' (few_mono fw1 ?_ fun k hk => (mk k).mpr (.inl hk))
        · exact
          { be := y0.be
            he := he5
            neb := y0.neb
            ned := y0.ned
            neB := y0.neB
            kr := kr'
            e1 := fun m v hv => by
              obtain ⟨u', t', ch, e, h1, h2, h3, h4⟩ := e1' m v hv
              refine ⟨u', t', ch, e, tp5 _ _ (tp4 _ _ h1), tp5 _ _ (tp4 _ _ h2), (mk _).mpr (h3.imp id fun z => (ein m).mpr z), h4⟩
            e2 := fun m m8 m15 hm => by
              have hm2 : ¬ ((.inl m : Key) ∈ keys ke ∨ (.inl m : Key) = .inl n) := fun z => hm ((mke _).mpr z)
              rw [setF_off (fun z => hm2 (.inr ((ein m).mpr z)))]
              exact y0.e2 m m8 m15 (fun z => hm2 (.inl z))
            e3 := fun k hk hn => by
              have hn2 : ¬ (k ∈ keys ke ∨ k = .inl n) := fun z => hn ((mke _).mpr z)
              rcases (mk k).mp hk with z | z
              · exact y0.e3 k z (fun z => hn2 (.inl z))
              · exact absurd z (fun z => hn2 (.inr z))
            e4 := fun k hk => (mk k).mpr (.inl (y0.e4 k hk))
            e5 := y0.e5
            e6 := y0.e6
            nd := y0.nd
            len := y0.len }
        · exact keys_put_old (some_mem hv1)
end
end K03
namespace K03
open PySem L2 HK
theorem nd_sub {α : Type} : ∀ {l m : List α}, l.Nodup → (∀ x ∈ l, x ∈ m) → l.length ≤ m.length
  | [], _, _, _ => Nat.zero_le _
  | x :: r, m, nd, h => by
    obtain ⟨s, t, e⟩ := List.append_of_mem (h x (by simp))
    subst e
    have ih := nd_sub (l := r) (m := s ++ t) (List.nodup_cons.mp nd).2 fun y hy => by
      have hm := h y (by simp [hy])
      have ne : y ≠ x := fun z => (List.nodup_cons.mp nd).1 (z ▸ hy)
      rcases List.mem_append.mp hm with z | z
      · exact List.mem_append_left _ z
      · rcases List.mem_cons.mp z with z | z
        · exact absurd z ne
        · exact List.mem_append_right _ z
    rw [List.length_append] at ih
    rw [List.length_append, List.length_cons, List.length_cons]
    omega
/-- the cache's own fields -/
theorem CAt.setC {CC CJ C c cx : Addr} {g : CG} {vw : Fn} {H H' : Hp} (x : CAt CC CJ C c cx g vw H) {be : V} {com : Int} (f : Fr [c] H H') (hc : H' c = some (.ins CC cx (fsC g.j g.cap g.bA g.dA be com))) : CAt CC CJ C c cx { g with be := be, com := com } vw H' := by
  have nb := ne_of x.hb x.ins (by intro z; cases z)
  have nd := ne_of x.hd x.ins (by intro z; cases z)
  obtain ⟨kB, hB⟩ := x.nB
  obtain ⟨kW, hW⟩ := x.nW
  have mv : Mv [c] H H' := Fr.mv f (fun b hb => by rw [List.mem_singleton.mp hb, x.ins]; exact Soft.ins)
  exact
  { ins := hc
    jat := f _ _ x.jat (by simp [x.ncj.symm])
    dev := x.dev.mv mv (by simp [x.ncp.symm, ne_of hB x.ins (by intro z; cases z), ne_of hW x.ins (by intro z; cases z)])
    hb := f _ _ x.hb (by simp [nb])
    hd := f _ _ x.hd (by simp [nd])
    al := x.al
    hw := x.hw
    hz := x.hz
    ncj := x.ncj
    ncp := x.ncp
    njp := x.njp
    ndb := x.ndb
    nbB := x.nbB
    ndB := x.ndB
    kb := x.kb
    kd := x.kd
    sub := x.sub
    dv := x.dv
    v1 := fun n v h => by
      obtain ⟨t, e, ht⟩ := x.v1 n v h
      exact ⟨t, e, f _ _ ht (by simp [tup_ne ht x.ins (fun ys z => by cases z)])⟩
    v2 := x.v2
    v3 := x.v3
    c1 := x.c1 }
theorem CAt.shrunk {CC CJ C c cx : Addr} {g : CG} {vw : Fn} {H H' : Hp} (x : CAt CC CJ C c cx g vw H) {kb' : KVs} (s : SameX g.bA H H') (hb' : H' g.bA = some (.dK kb')) (sh : Shr g.cap g.kd g.kb kb') : CAt CC CJ C c cx { g with kb := kb' } vw H' := by
  refine x.setB s hb' sh.kr (fun j hj => ?_) (fun m v hv => ?_)
  · rcases sh.val j with z | z
    · exact isSome_mem.mp (by rw [z]; exact isSome_mem.mpr (x.sub j hj))
    · exact absurd hj (none_not.mp z.2)
  · rcases sh.val (.inl m) with z | z
    · rw [z] at hv
      obtain ⟨t, e, h⟩ := x.v1 m v hv
      exact ⟨t, e, s _ _ (tup_ne h x.hb (fun ys z => by cases z)) h⟩
    · rw [z.1] at hv; cases hv
def spBeg (CC CJ C CJE : Addr) : Sp := fun vs H Q E => ∃ c cx g vw, vs = [.ref c] ∧ CAt CC CJ C c cx g vw H ∧
  (((∃ a, g.be = .ref a) ∧ E (.ref CJE) none H) ∨ (g.be = .non ∧ g.kd.length ≤ 5 ∧
    ∀ H' eA, H eA = none → Fr [c] H H' → CAt CC CJ C c cx { g with be := .ref eA } vw H' → BAt { g with be := .ref eA } vw vw eA [] (keys g.kd) H' → Q .non H'))
section
variable {P : Program} {w : World} {K : PySem.W.Frag} {mg : Str → Option Value} {base : Heap} {C CE CJ CJE CC : Addr}
theorem scBeg : FnScope ["self"] ["self"] (defScope sBeg) := ⟨rfl, rfl, rfl, by decide +kernel, rfl, by decide +kernel, by decide +kernel⟩
theorem ok_beg {f : Addr} {fd : FuncData} (F : L2.Fun K "begin" "Cache.begin" sBeg f fd) (J : JCls K mg CJ CJE) (X : CCls K mg CC) : FnOk P w K mg base (L2.CX P w) 1 f fd ["self"] (spBeg CC CJ C CJE) := by
  refine F.okX scBeg (fun vs H Q E h => ?_) (fun cdv A outer s H vs Q E hr h => ?_)
  · obtain ⟨c, cx, g, vw, rfl, _⟩ := h
    rfl
  · obtain ⟨c, cx, g, vw, rfl, x, k⟩ := h
    refine ⟨_, pss_cons (ps_if (pt_cmpR op_notN (pe_fld (pv 0) rfl) pe_non (nomark _)) (pss_one (ps_raise rfl (takes_of rfl rfl rfl rfl) (pmk_own PySem.F.excBase_ValueError J.xE J.gE J.kE (raises_own J.bE J.tE) rfl))) pss_nil)
      (pss_one (ps_fld (pv 0) pe_dnewK rfl)), ?_⟩
    refine ⟨_, rfl, c, CC, cx, _, _, rfl, x.ins, X.cl, X.n5, rfl, rfl, _, rfl, ?_⟩
    rcases k with ⟨⟨a, ha⟩, ke⟩ | ⟨hn, h5, k⟩
    · rw [ha]
      exact iteT ke
    · rw [hn]
      refine iteF fun eA nE => ?_
      have nce : c ≠ eA := ne_of_none x.ins nE
      refine ⟨_, rfl, c, CC, cx, _, rfl, by rw [upd_ne nce]; exact x.ins, X.cl, X.n5, (by show 6 < 1000; decide), ?_⟩
      have s1 : Same H (upd H eA (.dK [])) := same_upd nE
      have he1 : (upd H eA (.dK [])) eA = some (.dK []) := upd_same
      generalize upd H eA (.dK []) = H1 at s1 he1 ⊢
      have s2 : SameX c H1 (upd H1 c (.ins CC cx (putF "before" (.ref eA) (fsC g.j g.cap g.bA g.dA g.be g.com)))) := SameX.upd
      have hc2 : (upd H1 c (.ins CC cx (putF "before" (.ref eA) (fsC g.j g.cap g.bA g.dA g.be g.com)))) c = some (.ins CC cx (fsC g.j g.cap g.bA g.dA (.ref eA) g.com)) := by rw [upd_same]; rfl
      have he2 := s2 _ _ nce.symm he1
      generalize upd H1 c (.ins CC cx (putF "before" (.ref eA) (fsC g.j g.cap g.bA g.dA g.be g.com))) = H2 at s2 hc2 he2 ⊢
      have f2 : Fr [c] H H2 := (Fr.of s1).trans (Fr.sx s2 (by simp))
      have x2 : CAt CC CJ C c cx { g with be := .ref eA } vw H2 := x.setC f2 hc2
      obtain ⟨kB, hB⟩ := x.nB
      refine k H2 eA nE f2 x2 ⟨rfl, he2, (ne_of_none x.hb nE).symm, (ne_of_none x.hd nE).symm, (ne_of_none hB nE).symm, Kr.nil, (fun n v h => by cases h), fun _ _ _ _ => rfl, fun _ h _ => h, fun _ h => h, fun n a b h => x.v2 n a b h, x.v3, x.kd.nd, ?_⟩
      unfold keys
      rw [List.length_map]
      exact h5
end
/-! ### undo -/
def spUndo (CC CJ C : Addr) : Sp := fun vs H Q _ => ∃ c cx g vw pv eA ke od, vs = [.ref c] ∧ CAt CC CJ C c cx g vw H ∧ BAt g vw pv eA ke od H ∧
  ∀ H' kb' kd', Fr [c, g.bA, g.dA, eA] H H' → CAt CC CJ C c cx { g with kb := kb', kd := kd', be := .non } pv H' → kd'.length ≤ 5 → Few g.cap kd' kb' → Q .non H'
/-- while the changes are undone -/
structure UAt (g : CG) (vw pv : Fn) (eA : Addr) (od : List Key) (H0 : Hp) (done : List Key) (kb kd : KVs) (H : Hp) : Prop where
  fr : Fr [g.bA, g.dA, eA] H0 H
  hb : H g.bA = some (.dK kb)
  hd : H g.dA = some (.dK kd)
  kk : keys kb = keys g.kb
  kr : Kr kd
  mem : ∀ k, k ∈ keys kd ↔ k ∈ keys g.kd ∧ (k ∈ done → k ∈ od)
  dv : ∀ k v, valV kd k = some v → v = .bl true
  v1 : ∀ n v, valV kb (.inl n) = some v → ∃ t, v = .ref t ∧ (((.inl n : Key) ∈ done ∧ H0 t = some (tupI (pv n))) ∨ ((.inl n : Key) ∉ done ∧ H0 t = some (tupI (vw n))))
section
variable {P : Program} {w : World} {K : PySem.W.Frag} {mg : Str → Option Value} {base : Heap} {C CE CJ CJE CC : Addr}
theorem scUndo : FnScope ["self", "number", "data", "changed"] ["self"] (defScope sUndo) := ⟨rfl, rfl, rfl, by decide +kernel, rfl, by decide +kernel, by decide +kernel⟩
theorem ok_undo {f fS : Addr} {fd fdS : FuncData} (F : L2.Fun K "undo" "Cache.undo" sUndo f fd) (T : DTxt K mg C CE) (J : JCls K mg CJ CJE) (X : CCls K mg CC)
    (FS : FnOk P w K mg base L2.CX0 1 fS fdS ["self"] (spShr CC)) (bS : Binds K fdS ["self"] []) (mS : Meth K CC "shrink" fS) :
    FnOk P w K mg base L2.CX0 2 f fd ["self"] (spUndo CC CJ C) := by
  refine F.ok scUndo (fun vs H Q E h => ?_) (fun cdv A outer s H vs Q E hr h => ?_)
  · obtain ⟨c, cx, g, vw, pv, eA, ke, od, rfl, _⟩ := h
    rfl
  · obtain ⟨c, cx, g, vw, pv_, eA, ke, od, rfl, x, y, k⟩ := h
    refine ⟨_, pss_cons (ps_lock (ps_for PassesOwn.never rfl (pi_items (pe_fld (pv 0) rfl)) (pg_tup rfl (pgs_cons (pg_name (i := 1) scUndo.nd rfl (Or.inl rfl)) (pgs_cons (pg_tup rfl (pgs_cons (pg_name (i := 2) scUndo.nd rfl (Or.inl rfl)) (pgs_cons (pg_name (i := 3) scUndo.nd rfl (Or.inl rfl)) pgs_nil))) pgs_nil)))
        (pss_cons (ps_dput (hu_of hr) (pe_fld (pv 0) rfl) (pv 1) (pv 2) rfl)
        (pss_one (ps_if (pt_not (pt_val (pv 3))) (pss_one (ps_ddel (pe_fld (pv 0) rfl) (pv 1))) pss_nil)))))
      (pss_cons (ps_fld (pv 0) pe_non rfl)
      (pss_one (ps_expr (pe_meth0 (pv 0) X.cl mS FS hr bS .nil pass0)))), ?_⟩
    refine ⟨eA, _, y.he, trivial, fun od_ => ?_⟩
    have s1 : SameX eA H (upd H eA (.frz od_ (.dK ke))) := SameX.upd
    have he1 : (upd H eA (.frz od_ (.dK ke))) eA = some (.frz od_ (.dK ke)) := upd_same
    generalize upd H eA (.frz od_ (.dK ke)) = H1 at s1 he1 ⊢
    have nce : c ≠ eA := ne_of x.ins y.he (by intro z; cases z)
    have hc1 := s1 _ _ nce x.ins
    refine ⟨_, rfl, c, CC, cx, _, _, rfl, hc1, X.cl, X.n5, rfl, eA, od_, ke, y.be, he1, ?_⟩
    refine for_it walk_items (fun i σ H' => H' eA = some (.frz od_ (.dK ke)) ∧ ∃ kb kd u v w, σ = [some (.ref c), u, v, w] ∧ UAt g vw pv_ eA od H ((keys ke).take i) kb kd H') ⟨he1, g.kb, g.kd, none, none, none, rfl, ⟨Fr.sx s1 (by simp), s1 _ _ y.neb.symm x.hb, s1 _ _ y.ned.symm x.hd, rfl, x.kd, fun k => by simp, x.dv, fun n v h => by
        obtain ⟨t, e, ht⟩ := x.v1 n v h
        exact ⟨t, e, .inr ⟨by simp, ht⟩⟩⟩⟩ (fun i σ H' hi q => q.1) (fun i z σ H' H'' hi q yy => ?_) (fun σ H' q => ?_)
    · obtain ⟨hfz, kb, kd, u2, u3, u4, rfl, U⟩ := q
      obtain ⟨TT, k1, v1, rfl, nT, rfl, ek, ev⟩ := yy
      obtain ⟨⟨kk, vv⟩, hkv⟩ : ∃ q, ke[i]? = some q := ⟨_, List.getElem?_eq_getElem hi⟩
      dsimp only at ek ev
      rw [hkv] at ek ev
      obtain rfl := Option.some.inj ek
      obtain rfl := Option.some.inj ev
      have hkk : (keys ke)[i]? = some kk := by unfold keys; rw [List.getElem?_map, hkv]; rfl
      have hmem : kk ∈ keys ke := List.mem_of_getElem? hkk
      obtain ⟨n, rfl, n8, n15⟩ := y.kr.rg kk hmem
      have hval : valV ke (.inl n) = some vv := by
        have := val_nodup (κ := Key) (kvs := ke) y.kr.nd (.inl n, vv) (List.mem_of_getElem? hkv)
        exact this
      obtain ⟨u, t, ch, rfl, hu, ht, hkd, hod⟩ := y.e1 n vv hval
      have e1 : (keys ke).take (i + 1) = (keys ke).take i ++ [.inl n] := by rw [List.take_add_one, hkk]; rfl
      have ni : (.inl n : Key) ∉ (keys ke).take i := fun z => by
        have nd := (List.nodup_append.mp (by rw [← e1]; exact (List.Sublist.nodup (List.take_sublist _ _) y.kr.nd) : ((keys ke).take i ++ [(.inl n : Key)]).Nodup)).2.2
        exact nd _ z _ (by simp) rfl
      have s2 : Same H' (upd H' TT (.tup [kV (.inl n), .ref u])) := same_upd nT
      have hT2 : (upd H' TT (.tup [kV (.inl n), .ref u])) TT = some (.tup [kV (.inl n), .ref u]) := upd_same
      generalize upd H' TT (.tup [kV (.inl n), .ref u]) = H2 at s2 hT2 ⊢
      have f2 : Fr [g.bA, g.dA, eA] H H2 := U.fr.trans (Fr.of s2)
      have tpl : ∀ {a : Addr} {xs : List V}, H a = some (.tup xs) → a ∉ [g.bA, g.dA, eA] := fun {a xs} h => by
        simp [tup_ne h x.hb (fun ys z => by cases z), tup_ne h x.hd (fun ys z => by cases z), tup_ne h y.he (fun ys z => by cases z)]
      have hu2 := f2 _ _ hu (tpl hu)
      have ncl : c ∉ [g.bA, g.dA, eA] := by simp [ne_of x.ins x.hb (by intro z; cases z), ne_of x.ins x.hd (by intro z; cases z), nce]
      have hc2 := f2 _ _ x.ins ncl
      refine ⟨TT, _, rfl, SqT.of hT2, rfl, _, _, rfl, _, _, rfl, u, _, rfl, SqT.of hu2, rfl, _, _, rfl, _, _, rfl, rfl, rfl, ?_⟩
      have hb2 := s2 _ _ U.hb
      have hd2 := s2 _ _ U.hd
      have hf2 := s2 _ _ hfz
      have lkb : kb.length ≤ 7 := by
        have := x.kb.len
        have e := congrArg List.length U.kk
        unfold keys at e
        rw [List.length_map, List.length_map] at e
        omega
      refine ⟨_, rfl, _, rfl, c, CC, cx, _, _, rfl, hc2, X.cl, X.n3, rfl, _, rfl, g.bA, _, rfl, DPut.k (k := Sum.inl n) hb2 (by rw [sizeLine_eq]; omega), ?_⟩
      have s3 : SameX g.bA H2 (upd H2 g.bA (.dK (putK kb (Sum.inl n) (.ref t)))) := SameX.upd
      have hb3 : (upd H2 g.bA (.dK (putK kb (Sum.inl n) (.ref t)))) g.bA = some (.dK (putK kb (Sum.inl n) (.ref t))) := upd_same
      have hd3 := s3 _ _ x.ndb hd2
      have hf3 := s3 _ _ y.neb hf2
      have hc3 := s3 _ _ (ne_of x.ins x.hb (by intro z; cases z)) hc2
      have f3 : Fr [g.bA, g.dA, eA] H (upd H2 g.bA (.dK (putK kb (Sum.inl n) (.ref t)))) := f2.trans (Fr.sx s3 (by simp))
      have hin : (.inl n : Key) ∈ keys kb := by rw [U.kk]; exact x.sub _ hkd
      have kk3 : keys (putK kb (Sum.inl n) (.ref t)) = keys g.kb := by rw [keys_put_old hin, U.kk]
      have v13 : ∀ m v, valV (putK kb (Sum.inl n) (.ref t)) (.inl m) = some v → ∃ t, v = .ref t ∧ (((.inl m : Key) ∈ (keys ke).take (i + 1) ∧ H t = some (tupI (pv_ m))) ∨ ((.inl m : Key) ∉ (keys ke).take (i + 1) ∧ H t = some (tupI (vw m)))) := fun m v hv => by
        rw [valV_put] at hv
        by_cases e : (.inl m : Key) = .inl n
        · rw [if_pos e] at hv
          injection e with e
          subst e
          exact ⟨t, (Option.some.inj hv).symm, .inl ⟨by rw [e1]; simp, ht⟩⟩
        · rw [if_neg e] at hv
          obtain ⟨t', e', h'⟩ := U.v1 m v hv
          refine ⟨t', e', ?_⟩
          rw [e1]
          rcases h' with h' | h'
          · exact .inl ⟨List.mem_append_left _ h'.1, h'.2⟩
          · refine .inr ⟨fun z => ?_, h'.2⟩
            rcases List.mem_append.mp z with z | z
            · exact h'.1 z
            · exact e (by simpa using z)
      generalize upd H2 g.bA (.dK (putK kb (Sum.inl n) (.ref t))) = H3 at s3 hb3 hd3 hf3 hc3 f3 ⊢
      generalize putK kb (Sum.inl n) (.ref t) = kb3 at hb3 kk3 v13
      refine ⟨_, rfl, ch, rfl, ite2 (fun c2 => ?_) (fun c2 => ?_)⟩
      · have cf : ch = false := by simpa using c2
        have no : (.inl n : Key) ∉ od := fun z => by rw [hod.mpr z] at cf; cases cf
        refine ⟨_, rfl, c, CC, cx, _, _, rfl, hc3, X.cl, X.n4, rfl, _, rfl, g.dA, _, .inl n, rfl, hd3, rfl, isSome_mem.mpr ((U.mem _).mpr ⟨hkd, fun z => absurd z ni⟩), ?_⟩
        refine ⟨by rw [upd_ne y.ned]; exact hf3, kb3, _, _, _, _, rfl, f3.trans (Fr.sx SameX.upd (by simp)), by rw [upd_ne x.ndb.symm]; exact hb3, upd_same, kk3, U.kr.drop _, fun j => ?_, fun j v hv => ?_, v13⟩
        · rw [keys_drop, List.mem_filter, decide_eq_true_eq, U.mem, e1]
          constructor
          · rintro ⟨⟨a, b⟩, cne⟩
            refine ⟨a, fun z => ?_⟩
            rcases List.mem_append.mp z with z | z
            · exact b z
            · exact absurd (by simpa using z) cne
          · rintro ⟨a, b⟩
            exact ⟨⟨a, fun z => b (List.mem_append_left _ z)⟩, fun z => no (z ▸ b (by rw [z]; simp))⟩
        · rw [valV_drop] at hv
          split at hv
          · cases hv
          · exact U.dv j v hv
      · have ct : ch = true := by simpa using c2
        refine ⟨hf3, kb3, kd, _, _, _, rfl, f3, hb3, hd3, kk3, U.kr, fun j => ?_, U.dv, v13⟩
        rw [U.mem, e1]
        constructor
        · rintro ⟨a, b⟩
          refine ⟨a, fun z => ?_⟩
          rcases List.mem_append.mp z with z | z
          · exact b z
          · rw [show j = .inl n by simpa using z]; exact hod.mp ct
        · rintro ⟨a, b⟩
          exact ⟨a, fun z => b (List.mem_append_left _ z)⟩
    · obtain ⟨hfz, kb, kd, u2, u3, u4, rfl, U⟩ := q
      have lk : ke.length = (keys ke).length := by unfold keys; rw [List.length_map]
      rw [lk, List.take_length] at U
      refine ⟨hfz, ?_⟩
      have f2 : Fr [g.bA, g.dA, eA] H (upd H' eA (.dK ke)) := U.fr.trans (Fr.sx SameX.upd (by simp))
      have hb2 : (upd H' eA (.dK ke)) g.bA = some (.dK kb) := by rw [upd_ne y.neb.symm]; exact U.hb
      have hd2 : (upd H' eA (.dK ke)) g.dA = some (.dK kd) := by rw [upd_ne y.ned.symm]; exact U.hd
      generalize upd H' eA (.dK ke) = H2 at f2 hb2 hd2 ⊢
      have tpl : ∀ {a : Addr} {xs : List V}, H a = some (.tup xs) → a ∉ [g.bA, g.dA, eA] := fun {a xs} h => by
        simp [tup_ne h x.hb (fun ys z => by cases z), tup_ne h x.hd (fun ys z => by cases z), tup_ne h y.he (fun ys z => by cases z)]
      have memod : ∀ k, k ∈ keys kd → k ∈ od := fun k hk => by
        obtain ⟨a, b⟩ := (U.mem k).mp hk
        by_cases z : k ∈ keys ke
        · exact b z
        · exact y.e3 k a z
      have x2 : CAt CC CJ C c cx { g with kb := kb, kd := kd } pv_ H2 := by
        refine x.setD f2 (fun b hb => ?_) hb2 hd2 ⟨by rw [U.kk]; exact x.kb.nd, by rw [U.kk]; exact x.kb.rg⟩ U.kr (fun k hk => by rw [U.kk]; exact x.sub k ((U.mem k).mp hk).1) U.dv (fun n v hv => ?_) (fun n a b hn => ?_) y.e6
        · simp only [List.mem_cons, List.not_mem_nil, or_false] at hb
          rcases hb with e | e | e
          · rw [e]; exact ⟨⟨_, x.hb⟩, x.nbB⟩
          · rw [e]; exact ⟨⟨_, x.hd⟩, x.ndB⟩
          · rw [e]; exact ⟨⟨_, y.he⟩, y.neB⟩
        · obtain ⟨t, e, h⟩ := U.v1 n v hv
          obtain ⟨m, em, m8, m15⟩ := x.kb.rg (.inl n) (by rw [← U.kk]; exact some_mem hv)
          injection em with em
          subst em
          rcases h with h | h
          · exact ⟨t, e, f2 _ _ h.2 (tpl h.2)⟩
          · refine ⟨t, e, f2 _ _ ?_ (tpl h.2)⟩
            rw [← y.e2 n m8 m15 h.1]
            exact h.2
        · refine y.e5 n a b fun z => hn ((U.mem _).mpr ⟨y.e4 _ z, fun _ => z⟩)
      refine ⟨_, rfl, c, CC, cx, _, rfl, x2.ins, X.cl, X.n5, (by show 6 < 1000; decide), ?_⟩
      have s3 : SameX c H2 (upd H2 c (.ins CC cx (putF "before" .non (fsC g.j g.cap g.bA g.dA g.be g.com)))) := SameX.upd
      have hc3 : (upd H2 c (.ins CC cx (putF "before" .non (fsC g.j g.cap g.bA g.dA g.be g.com)))) c = some (.ins CC cx (fsC g.j g.cap g.bA g.dA .non g.com)) := by rw [upd_same]; rfl
      generalize upd H2 c (.ins CC cx (putF "before" .non (fsC g.j g.cap g.bA g.dA g.be g.com))) = H3 at s3 hc3 ⊢
      have x3 : CAt CC CJ C c cx { g with kb := kb, kd := kd, be := .non } pv_ H3 := x2.setC (be := .non) (com := g.com) (Fr.sx s3 (by simp)) hc3
      refine ⟨_, rfl, c, cx, _, rfl, hc3, rfl, c, cx, _, _, g.bA, g.dA, _, _, kb, kd, rfl, hc3, x3.hb, x3.hd, x.ndb, x3.kb, by have := x.c1; omega, fun H4 kb4 s4 hb4 sh => ?_⟩
      have x4 : CAt CC CJ C c cx { g with kb := kb4, kd := kd, be := .non } pv_ H4 := x3.shrunk s4 hb4 sh
      refine k H4 kb4 kd ((f2.mono (by simp)).trans ((Fr.sx s3 (by simp)).trans (Fr.sx s4 (by simp)))) x4 ?_ sh.few
      have := nd_sub U.kr.nd memod
      have l5 := y.len
      unfold keys at this
      rw [List.length_map] at this
      omega
end
end K03
namespace K03
open PySem L2 HK
theorem inl_nd {ns : List Int} (h : ns.Nodup) : (ns.map (Sum.inl : Int → Key)).Nodup := List.pairwise_map.mpr (List.Pairwise.imp (fun {a b} (n : a ≠ b) e => n (Sum.inl.inj e)) h)
/-! ### a cache is made -/
def spCInit (CC : Addr) : Sp := fun vs H Q _ => ∃ c cx j cap, vs = [.ref c, .ref j, .int cap] ∧ H c = some (.ins CC cx []) ∧
  ∀ bA dA H', H bA = none → H dA = none → bA ≠ dA → Fr [c] H H' → H' c = some (.ins CC cx (fsC j cap bA dA .non 0)) → H' bA = some (.dK []) → H' dA = some (.dK []) → Q .non H'
/-! ### earlier_rows -/
def okR (pv : Fn) (od : List Key) (gs : List Rw) : Prop := (∀ q ∈ gs, q.2 = pv q.1.2.1 ∧ (.inl q.1.2.1 : Key) ∈ od ∧ 8 ≤ q.1.2.1 ∧ q.1.2.1 < 15 ∧ q.2.length = 64) ∧ (∀ k ∈ od, ∃ q ∈ gs, k = .inl q.1.2.1) ∧ gs.length ≤ od.length
def spEarl (CC CJ C : Addr) : Sp := fun vs H Q _ => ∃ c cx g vw pv eA ke od, vs = [.ref c] ∧ CAt CC CJ C c cx g vw H ∧ BAt g vw pv eA ke od H ∧
  ∀ H' r gs, Same H H' → H r = none → RowsAt H' r gs → okR pv od gs → Q (.ref r) H'
section
variable {P : Program} {w : World} {K : PySem.W.Frag} {mg : Str → Option Value} {base : Heap} {C CE CJ CJE CC : Addr}
theorem scCInit : FnScope ["self", "journal", "capacity"] ["self", "journal", "capacity"] (defScope sCInit) := ⟨rfl, rfl, rfl, by decide +kernel, rfl, by decide +kernel, by decide +kernel⟩
abbrev FCI (K : PySem.W.Frag) (f : Addr) (fd : FuncData) : Prop := FunD K "__init__" "Cache.__init__" (defArgs sCInit) (defBody sCInit) (defScope sCInit) [.int 16] [] f fd
theorem ok_cinit {f : Addr} {fd : FuncData} (F : FCI K f fd) (X : CCls K mg CC) : FnOk P w K mg base L2.CX0 1 f fd ["self", "journal", "capacity"] (spCInit CC) := by
  refine F.ok scCInit (fun vs H Q E h => ?_) (fun cdv A outer s H vs Q E hr h => ?_)
  · obtain ⟨c, cx, j, cap, rfl, _⟩ := h
    rfl
  · suffices hX : ∃ t, PSs (cxOf L2.CX0 P w K mg base ["self", "journal", "capacity"] "Cache.__init__" (defScope sCInit) f cdv A outer s H E).nox (defBody sCInit) t ∧ t { nx := fun _ H' => Q .non H', rt := Q } (L2.start ["self", "journal", "capacity"] vs) H by
      obtain ⟨t, h1, h2⟩ := hX
      exact ⟨t, h1.nox, h2⟩
    obtain ⟨c, cx, j, cap, rfl, hc, k⟩ := h
    refine ⟨_, pss_cons (ps_fld (pv 0) (pv 1) rfl) (pss_cons (ps_fld (pv 0) (pv 2) rfl) (pss_cons (ps_fld (pv 0) pe_dnewK rfl) (pss_cons (ps_fld (pv 0) pe_dnewK rfl) (pss_cons (ps_fld (pv 0) pe_non rfl) (pss_one (ps_fld (pv 0) pe_int rfl)))))), ?_⟩
    refine ⟨_, rfl, _, rfl, c, CC, cx, _, rfl, hc, X.cl, X.n1, (by show 0 < 1000; decide), ?_⟩
    refine ⟨_, rfl, _, rfl, c, CC, cx, _, rfl, upd_same, X.cl, X.n2, (by show 1 < 1000; decide), fun bA nB => ?_⟩
    have ncb : c ≠ bA := ne_of_none upd_same nB
    refine ⟨_, rfl, c, CC, cx, _, rfl, by rw [upd_ne ncb, upd_same], X.cl, X.n3, (by show 2 < 1000; decide), fun dA nD => ?_⟩
    have ncd : c ≠ dA := ne_of_none upd_same nD
    have nbd : bA ≠ dA := ne_of_none (by rw [upd_ne ncb.symm, upd_same]) nD
    refine ⟨_, rfl, c, CC, cx, _, rfl, by rw [upd_ne ncd, upd_same], X.cl, X.n4, (by show 3 < 1000; decide), ?_⟩
    refine ⟨_, rfl, c, CC, cx, _, rfl, upd_same, X.cl, X.n5, (by show 4 < 1000; decide), ?_⟩
    refine ⟨_, rfl, c, CC, cx, _, rfl, upd_same, X.cl, X.n6, (by show 5 < 1000; decide), ?_⟩
    have nB0 : H bA = none := by
      rw [upd_ne ncb.symm, upd_ne ncb.symm] at nB
      exact nB
    have nD0 : H dA = none := by
      rw [upd_ne ncd.symm, upd_ne nbd.symm, upd_ne ncd.symm, upd_ne ncd.symm] at nD
      exact nD
    refine k bA dA _ nB0 nD0 nbd (fun b o h n => ?_) (by rw [upd_same]; rfl) (by simp only [upd_ne ncb.symm, upd_ne nbd, upd_same]) (by simp only [upd_ne ncd.symm, upd_same])
    have n1 : b ≠ c := fun e => n (by simp [e])
    simp only [upd_ne n1, upd_ne (ne_of_none h nB0), upd_ne (ne_of_none h nD0)]
    exact h
theorem scEarl : FnScope ["self", "rows", "number", "data", "changed"] ["self"] (defScope sEarl) := ⟨rfl, rfl, rfl, by decide +kernel, rfl, by decide +kernel, by decide +kernel⟩
theorem ok_earl {f : Addr} {fd : FuncData} (F : L2.Fun K "earlier_rows" "Cache.earlier_rows" sEarl f fd) (G : GTxt mg) (X : CCls K mg CC) : FnOk P w K mg base L2.CX0 1 f fd ["self"] (spEarl CC CJ C) := by
  refine F.ok scEarl (fun vs H Q E h => ?_) (fun cdv A outer s H vs Q E hr h => ?_)
  · obtain ⟨c, cx, g, vw, pv, eA, ke, od, rfl, _⟩ := h
    rfl
  · obtain ⟨c, cx, g, vw, pv_, eA, ke, od, rfl, x, y, k⟩ := h
    refine ⟨_, pss_cons (ps_set (i := 1) scEarl.nd rfl (Or.inl rfl) (pe_lst pa_nil))
      (pss_cons (ps_for PassesOwn.never rfl (pi_list (pe_callB (call_sortedDI (by rfl)) (by rfl) G.sorted PyProof.Rows.boot_sorted (pa_cons (pe_fld (pv 0) rfl) pa_nil))) (pg_name (i := 2) scEarl.nd rfl (Or.inl rfl))
        (pss_cons (ps_asg (pe_dget2 (hu_of hr) (pe_fld (pv 0) rfl) (pv 2) (pe_tup (pa_cons (pe_dget (hu_of hr) (pe_fld (pv 0) rfl) (pv 2) (fun _ _ => rfl)) (pa_cons pe_bl pa_nil))) ⟨rfl, rfl, rfl, rfl⟩) (pg_tup rfl (pgs_cons (pg_name (i := 3) scEarl.nd rfl (Or.inl rfl)) (pgs_cons (pg_name (i := 4) scEarl.nd rfl (Or.inl rfl)) pgs_nil))))
        (pss_one (ps_if (pt_val (pv 4)) (pss_one (ps_expr (pe_bm PySem.F.plainAttrs_list PySem.F.slot_list_append PySem.F.type_list_append mt_append (pv 1) (pa_cons (pe_tup (pa_cons (pv 2) (pa_cons (pv 3) pa_nil))) pa_nil)))) pss_nil))))
      (pss_one (ps_ret (pv 1)))), ?_⟩
    refine ⟨by show 0 ≤ sizeLine; decide, fun r nr => ?_⟩
    have s1 : Same H (upd H r (.lst [])) := same_upd nr
    have hr1 : (upd H r (.lst [])) r = some (.lst []) := upd_same
    generalize upd H r (.lst []) = H1 at s1 hr1 ⊢
    obtain ⟨ns, en, nd, rg, ln⟩ := x.kd.ints
    refine ⟨_, rfl, c, CC, cx, _, _, rfl, s1 _ _ x.ins, X.cl, X.n4, rfl, g.dA, g.kd, ns, rfl, .inl (s1 _ _ x.hd), en, by have := x.kd.len; omega, fun ys L perm _ nL => ?_⟩
    have s2 : Same H1 (upd H1 L (.lst (ys.map V.int))) := same_upd nL
    have hL2 : (upd H1 L (.lst (ys.map V.int))) L = some (.lst (ys.map V.int)) := upd_same
    have hr2 := s2 _ _ hr1
    generalize upd H1 L (.lst (ys.map V.int)) = H2 at s2 hL2 hr2 ⊢
    have nLr : L ≠ r := (ne_of_none hr1 nL).symm
    refine ⟨L, rfl, ⟨_, SqL.of hL2⟩, ?_⟩
    refine for_list (K := K) (a := L) (xs := ys.map V.int) (fun i σ H' => Same H H' ∧ H' L = some (.lst (ys.map V.int)) ∧ ∃ gs u2 u3 u4, σ = [some (.ref c), some (.ref r), u2, u3, u4] ∧ RowsAt H' r gs ∧ gs.length ≤ i ∧
        (∀ q ∈ gs, q.2 = pv_ q.1.2.1 ∧ (.inl q.1.2.1 : Key) ∈ od ∧ 8 ≤ q.1.2.1 ∧ q.1.2.1 < 15 ∧ q.2.length = 64) ∧ (∀ n ∈ ys.take i, (.inl n : Key) ∈ od → n ∈ gs.map fun q => q.1.2.1) ∧ (gs.map fun q => q.1.2.1).Nodup ∧ (∀ n ∈ gs.map fun q => q.1.2.1, n ∈ ys.take i))
      ⟨s1.trans s2, hL2, [], none, none, none, rfl, ⟨hr2, (fun q h => by cases h), (fun q h => by cases h)⟩, Nat.le_refl _, (fun q h => by cases h), (fun n h => by cases h), List.nodup_nil, (fun n h => by cases h)⟩ (fun i σ H' hi q => SqL.of q.2.1) (fun i z σ H' hx q => ?_) (fun σ H' q => ?_)
    · obtain ⟨sm, hL', gs, u2, u3, u4, rfl, R, hg, q1, q2, q3, q4⟩ := q
      rw [List.getElem?_map] at hx
      obtain ⟨n, hn, rfl⟩ := Option.map_eq_some_iff.mp hx
      have hmem : n ∈ ns := perm.mem_iff.mp (List.mem_of_getElem? hn)
      obtain ⟨n8, n15⟩ := rg n hmem
      have hkd : (.inl n : Key) ∈ keys g.kd := by rw [en]; exact List.mem_map_of_mem hmem
      obtain ⟨v, hv⟩ := Option.isSome_iff_exists.mp (isSome_mem.mpr (x.sub _ hkd))
      obtain ⟨t, rfl, ht⟩ := x.v1 n v hv
      have e1 : ys.take (i + 1) = ys.take i ++ [n] := by rw [List.take_add_one, hn]; rfl
      have ni : n ∉ ys.take i := fun z => by
        have nd := (List.nodup_append.mp (by rw [← e1]; exact (List.Sublist.nodup (List.take_sublist _ _) (perm.nodup_iff.mpr nd)) : (ys.take i ++ [n]).Nodup)).2.2
        exact nd _ z _ (by simp) rfl
      have hc' := sm _ _ x.ins
      refine ⟨_, rfl, c, CC, cx, _, _, rfl, hc', X.cl, X.n5, rfl, eA, y.be, .inl ⟨_, .inl (sm _ _ y.he)⟩, _, rfl, ?_⟩
      refine ⟨_, rfl, c, CC, cx, _, _, rfl, hc', X.cl, X.n3, rfl, _, rfl, g.bA, .ref t, rfl, by rw [← hv]; exact dGet_i (k := .inl n) (sm _ _ x.hb), by show 2 ≤ sizeLine; decide, fun d0 nd0 => ?_⟩
      have s3 : Same H' (upd H' d0 (.tup [.ref t, .bl true])) := same_upd nd0
      have hd3 : (upd H' d0 (.tup [.ref t, .bl true])) d0 = some (.tup [.ref t, .bl true]) := upd_same
      generalize upd H' d0 (.tup [.ref t, .bl true]) = H3 at s3 hd3 ⊢
      have sm3 := sm.trans s3
      refine ⟨_, dGet_i (k := .inl n) (sm3 _ _ y.he), ?_⟩
      -- what stands for it
      obtain ⟨u, tt, ch, hu, hut, htt, hod⟩ : ∃ u tt ch, (valV ke (.inl n)).getD (.ref d0) = .ref u ∧ H3 u = some (.tup [.ref tt, .bl ch]) ∧ H3 tt = some (tupI (pv_ n)) ∧ (ch = true ↔ (.inl n : Key) ∈ od) := by
        cases hk : valV ke (.inl n) with
        | none =>
          have hne := none_not.mp hk
          exact ⟨d0, t, true, rfl, hd3, by rw [← y.e2 n n8 n15 hne]; exact sm3 _ _ ht, ⟨fun _ => y.e3 _ hkd hne, fun _ => rfl⟩⟩
        | some v =>
          obtain ⟨u, t', ch, rfl, h1, h2, h3, h4⟩ := y.e1 n v hk
          exact ⟨u, t', ch, rfl, sm3 _ _ h1, sm3 _ _ h2, h4⟩
      rw [hu]
      refine ⟨u, _, rfl, SqT.of hut, rfl, _, _, rfl, _, _, rfl, rfl, ?_⟩
      have R3 := R.same s3
      refine ⟨_, rfl, ch, rfl, ite2 (fun c2 => ?_) (fun c2 => ?_)⟩
      · have no := hod.mp c2
        refine ⟨_, rfl, .inl ⟨rfl, _, SqL.of R3.lst⟩, _, rfl, _, rfl, by show 2 ≤ sizeLine; decide, fun p np => ?_⟩
        have s4 : Same H3 (upd H3 p (.tup [.int n, .ref tt])) := same_upd np
        have hp4 : (upd H3 p (.tup [.int n, .ref tt])) p = some (.tup [.int n, .ref tt]) := upd_same
        generalize upd H3 p (.tup [.int n, .ref tt]) = H4 at s4 hp4 ⊢
        have R4 := R3.same s4
        have ly : ys.length ≤ 7 := by rw [perm.length_eq, ln]; exact x.kd.len
        have hi : i < ys.length := (List.getElem?_eq_some_iff.mp hn).1
        refine ⟨r, _, _, rfl, rfl, R4.lst, by rw [List.length_map, sizeLine_eq]; omega, ?_⟩
        have s5 : SameX r H4 (upd H4 r (.lst ((gs.map fun q => V.ref q.1.1) ++ [V.ref p]))) := SameX.upd
        have hr5 : (upd H4 r (.lst ((gs.map fun q => V.ref q.1.1) ++ [V.ref p]))) r = some (.lst ((gs.map fun q => V.ref q.1.1) ++ [V.ref p])) := upd_same
        generalize upd H4 r (.lst ((gs.map fun q => V.ref q.1.1) ++ [V.ref p])) = H5 at s5 hr5 ⊢
        have tp : ∀ {a : Addr} {xs : List V}, H4 a = some (.tup xs) → H5 a = some (.tup xs) := fun {a xs} h => s5 _ _ (tup_ne h R4.lst (fun ys z => by cases z)) h
        refine ⟨fun b o h => s5 _ _ (ne_of_none h nr) (s4 _ _ (sm3 _ _ h)), s5 _ _ nLr (s4 _ _ (s3 _ _ hL')), gs ++ [((p, n, tt), pv_ n)], _, _, _, rfl, ⟨by rw [hr5, List.map_append]; rfl, fun q hq => ?_, fun q hq => ?_⟩, by rw [List.length_append]; exact Nat.succ_le_succ hg, fun q hq => ?_, fun m hm ho => ?_, ?_, fun m hm => ?_⟩
        · rcases List.mem_append.mp hq with z | z
          · exact tp (R4.tup q z)
          · rw [List.mem_singleton.mp z]; exact tp hp4
        · rcases List.mem_append.mp hq with z | z
          · exact tp (R4.dat q z)
          · rw [List.mem_singleton.mp z]; exact tp (s4 _ _ htt)
        · rcases List.mem_append.mp hq with z | z
          · exact q1 q z
          · rw [List.mem_singleton.mp z]; exact ⟨rfl, no, n8, n15, y.e6 n n8 n15⟩
        · rw [List.map_append]
          rw [e1] at hm
          rcases List.mem_append.mp hm with z | z
          · exact List.mem_append_left _ (q2 m z ho)
          · exact List.mem_append_right _ (by simpa using z)
        · rw [List.map_append]
          refine List.nodup_append.mpr ⟨q3, by simp, fun a ha b hb e => ?_⟩
          have hb : b = n := by simpa using hb
          exact ni (by rw [← hb, ← e]; exact q4 a ha)
        · rw [List.map_append] at hm
          rw [e1]
          rcases List.mem_append.mp hm with z | z
          · exact List.mem_append_left _ (q4 m z)
          · exact List.mem_append_right _ (by simpa using z)
      · have no : (.inl n : Key) ∉ od := fun z => c2 (hod.mpr z)
        refine ⟨sm3, s3 _ _ hL', gs, _, _, _, rfl, R3, by omega, q1, fun m hm ho => ?_, q3, fun m hm => by rw [e1]; exact List.mem_append_left _ (q4 m hm)⟩
        rw [e1] at hm
        rcases List.mem_append.mp hm with z | z
        · exact q2 m z ho
        · have : m = n := by simpa using z
          rw [this] at ho
          exact absurd ho no
    · obtain ⟨sm, hL', gs, u2, u3, u4, rfl, R, hg, q1, q2, q3, q4⟩ := q
      rw [List.length_map, List.take_length] at q2 q4
      refine ⟨_, rfl, k H' r gs sm nr R ⟨q1, fun kk hk => ?_, ?_⟩⟩
      · have hkd := y.e4 kk hk
        rw [en] at hkd
        obtain ⟨n, hn, rfl⟩ := List.mem_map.mp hkd
        obtain ⟨q, hq, e⟩ := List.mem_map.mp (q2 n (perm.mem_iff.mpr hn) hk)
        exact ⟨q, hq, by rw [e]⟩
      · have := nd_sub (l := (gs.map fun q => q.1.2.1).map (Sum.inl : Int → Key)) (m := od) (inl_nd q3) fun kk hk => by
          obtain ⟨n, hn, rfl⟩ := List.mem_map.mp hk
          obtain ⟨q, hq, rfl⟩ := List.mem_map.mp hn
          exact (q1 q hq).2.1
        rwa [List.length_map, List.length_map] at this
end
end K03
namespace K03
open PySem L2 HK
/-- a dict comprehension over a list that stays -/
theorem dc_list {K : PySem.W.Frag} {a : Addr} {xs : List V} {g : TG} {tt : TT} {tk tv : TE} {vs : List Nat} {σ : L2.St} {H1 : Hp} {D : Addr} {Qd : Hp → Prop} (Pv : Nat → Hp → Prop) (h0 : Pv 0 (upd H1 D (.dK []))) (hl : ∀ i H, i ≤ xs.length → Pv i H → SqL K H a xs)
    (hs : ∀ i x H, xs[i]? = some x → Pv i H → g x (wipe σ vs) H fun σ2 H2 => wipe σ2 vs = wipe σ vs ∧ tt σ2 H2 fun b H3 =>
      if b = true then tk σ2 H3 fun y H4 => tv σ2 H4 fun z H5 => ∃ kvs k, y = kV k ∧ H5 D = some (.dK kvs) ∧ kvs.length < sizeLine ∧ Pv (i + 1) (upd H5 D (.dK (putK kvs k z))) else Pv (i + 1) H3) (hd : ∀ H, Pv xs.length H → Qd H) :
    ∃ W : Nat → Nat → Hp → Prop, (∃ m, W 0 m (upd H1 D (.dK []))) ∧ ∀ i m H, W i m H →
      ((Itl K a).stop i H ∧ Qd H) ∨ ((Itl K a).go i H ∧ ∃ Nx : Hp → Prop, (∀ H', Nx H' → ∃ m', m' < m ∧ W (i + 1) m' H') ∧ ∀ x H', (Itl K a).yld i H x H' → g x (wipe σ vs) H' fun σ2 H2 => wipe σ2 vs = wipe σ vs ∧ tt σ2 H2 fun b H3 =>
        if b = true then tk σ2 H3 fun y H4 => tv σ2 H4 fun z H5 => ∃ kvs k, y = kV k ∧ H5 D = some (.dK kvs) ∧ kvs.length < sizeLine ∧ Nx (upd H5 D (.dK (putK kvs k z))) else Nx H3) := by
  refine ⟨fun i m H => m = xs.length - i ∧ i ≤ xs.length ∧ Pv i H, ⟨xs.length, by simp, Nat.zero_le _, h0⟩, ?_⟩
  rintro i m H ⟨rfl, hi, p⟩
  have q := hl i H hi p
  by_cases hlt : i < xs.length
  · refine .inr ⟨⟨xs, xs[i], q, by simp [hlt]⟩, Pv (i + 1), fun H' p' => ⟨xs.length - (i + 1), by omega, rfl, hlt, p'⟩, fun x H' y => ?_⟩
    obtain ⟨e, y⟩ := y
    subst e
    exact hs i x _ (y xs q) p
  · have e : i = xs.length := by omega
    subst e
    exact .inl ⟨⟨xs, q, Nat.le_refl _⟩, hd H p⟩
theorem HomeIs.trans {f g h : Fn} (a : HomeIs f g) (b : HomeIs g h) : HomeIs f h := fun n x y => (a n x y).trans (b n x y)
theorem HomeIs.symm {f g : Fn} (a : HomeIs f g) : HomeIs g f := fun n x y => (a n x y).symm
theorem HomeIs.refl (f : Fn) : HomeIs f f := fun _ _ _ => rfl
theorem SS.to {g0 g1 g0' g1' f : Fn} (h : SS g0 g1 f) (e0 : HomeIs g0 g0') (e : HomeIs g1 g1') : SS g0' g1' f := by
  refine ⟨h.1, h.2.imp (fun z => ⟨z.1, z.2.imp (fun y => y.trans e0) fun y => y.trans e⟩) fun ⟨s, ns, ds, z⟩ => ⟨s, ns, ds, ?_⟩⟩
  exact { head := z.head, len := z.len, le := z.le, s0 := z.s0, s1 := z.s1, num := z.num, dat := z.dat, home := z.home.trans e }
theorem CrashOk.to {g0 g1 g0' g1' : Fn} {d : AD} (h : CrashOk g0 g1 d) (e0 : HomeIs g0 g0') (e : HomeIs g1 g1') : CrashOk g0' g1' d := fun cs => (h cs).to e0 e
theorem ops_len {sr : Int} {gs : List Rw} (h5 : gs.length ≤ 5) : (opsG sr gs ++ opsH gs).length ≤ 16 := by
  have : (dwk 2 gs).length = gs.length := by
    have e := dwk_eq gs 2
    have e2 := congrArg List.length e
    rw [List.length_map, List.length_mapIdx] at e2
    exact e2.symm
  rw [ops_split]
  simp only [List.length_append, List.length_map, List.length_cons, List.length_nil, opsP, pairs, this]
  omega
def kdOf (ks : List Key) : KVs := ks.map fun k => (k, V.bl true)
theorem keys_kdOf (ks : List Key) : keys (kdOf ks) = ks := by
  unfold keys kdOf
  rw [List.map_map]
  exact (List.map_congr_left (fun _ _ => rfl)).trans (List.map_id ks)
theorem kdOf_put {ks : List Key} {k : Key} (h : k ∉ ks) : putK (kdOf ks) k (.bl true) = kdOf (ks ++ [k]) := by
  rw [putK_new _ (none_not.mpr (by rw [keys_kdOf]; exact h))]
  unfold kdOf
  rw [List.map_append]
  rfl
theorem kdOf_val {ks : List Key} {k : Key} {v : V} (h : valV (kdOf ks) k = some v) : v = .bl true := by
  obtain ⟨k', _, e⟩ := List.mem_map.mp (HKE.valV_mem h)
  injection e with _ e
  exact e.symm
/-- what stood outside of l is not a -/
def Nw (l : List Addr) (H : Hp) (a : Addr) : Prop := ∀ b o, H b = some o → b ∉ l → b ≠ a
theorem Nw.of {l : List Addr} {H H2 : Hp} {a : Addr} (f : Fr l H H2) (h : H2 a = none) : Nw l H a := fun b o hb n e => by
  have := f b o hb n
  rw [e, h] at this
  cases this
theorem Nw.old {l : List Addr} {H : Hp} {a W : Addr} (m : W ∈ l) (h : a = W ∨ H a = none) : Nw l H a := fun b o hb n e => by
  rcases h with z | z
  · exact n (by rw [e, z]; exact m)
  · rw [← e, hb] at z; cases z
def ownJ (c : Addr) (g : CG) : List Addr := [c, g.j, g.p, g.B, g.W, g.bA, g.dA]
def spCCom (CC CJ C CE : Addr) : Sp := fun vs H Q E => ∃ c cx g vw r l gs ks g1, vs = [.ref c, .ref r, .ref l] ∧ CAt CC CJ C c cx g vw H ∧ g.N ≤ 600 ∧ RowsAt H r gs ∧ r ≠ g.W ∧ (∀ q ∈ gs, q.2.length = 64 ∧ 8 ≤ q.1.2.1 ∧ q.1.2.1 < 15) ∧ gs.length ≤ 5 ∧ 0 ≤ g.sr ∧ g.sr < 60000 ∧
  H l = some (.lst (ks.map kV)) ∧ l ≠ g.W ∧ ks.Nodup ∧ (∀ k ∈ ks, k ∈ keys g.kb) ∧ HomeIs (setAll g.d.f (pairs gs)) g1 ∧ (∀ n, 8 ≤ n → n < 15 → (.inl n : Key) ∉ ks → vw n = g1 n) ∧
  (∀ H' W' N' d' dA' kb', Fr (ownJ c g) H H' → Nw (ownJ c g) H W' → Nw (ownJ c g) H dA' → N' ≤ g.N + 16 → HomeIs d'.f g1 →
    CAt CC CJ C c cx { g with W := W', N := N', d := d', sr := g.sr + 1, com := g.com + 1, dA := dA', kd := kdOf ks, kb := kb' } vw H' → Few g.cap (kdOf ks) kb' → Q .non H') ∧
  (∀ H' W' N' d', Fr (ownJ c g) H H' → Nw (ownJ c g) H W' → N' ≤ g.N + 16 → DevS C H' g.p g.dx g.B W' N' d' → CrashOk g.d.f g1 d' → H' c = H c → E (.ref CE) none H')
section
variable {P : Program} {w : World} {K : PySem.W.Frag} {mg : Str → Option Value} {base : Heap} {C CE CJ CJE CC : Addr}
theorem scCCom : FnScope ["self", "rows", "left", "number"] ["self", "rows", "left"] (defScope sCCom) := ⟨rfl, rfl, rfl, by decide +kernel, rfl, by decide +kernel, by decide +kernel⟩
theorem ok_ccom {f fC fS : Addr} {fd fdC fdS : FuncData} (F : L2.Fun K "commit" "Cache.commit" sCCom f fd) (T : DTxt K mg C CE) (J : JCls K mg CJ CJE) (X : CCls K mg CC)
    (FC : FnOk P w K mg base (L2.CX P w) 6 fC fdC ["self", "rows"] (spCommit CJ C CE CJE)) (bC : Binds K fdC ["self", "rows"] []) (mC : Meth K CJ "commit" fC)
    (FS : FnOk P w K mg base L2.CX0 1 fS fdS ["self"] (spShr CC)) (bS : Binds K fdS ["self"] []) (mS : Meth K CC "shrink" fS) :
    FnOk P w K mg base (L2.CX P w) 7 f fd ["self", "rows", "left"] (spCCom CC CJ C CE) := by
  refine F.okX scCCom (fun vs H Q E h => ?_) (fun cdv A outer s H vs Q E hr h => ?_)
  · obtain ⟨c, cx, g, vw, r, l, gs, ks, g1, rfl, _⟩ := h
    rfl
  · obtain ⟨c, cx, g, vw, r, l, gs, ks, g1, rfl, x, hN, hR, nrW, hok, h5, sr0, sr1, hl, nlW, knd, ksub, hg1, hv, kOk, kNo⟩ := h
    have rS := FS.mono (show 1 ≤ 6 by decide)
    refine ⟨_, pss_cons (ps_expr (pe_meth (pe_fld (pv 0) rfl) J.cl mC FC hr bC .nil (passes_call (takes_of rfl rfl rfl rfl) (fun _ _ _ _ h => h)) (pa_cons (pv 1) pa_nil)))
      (pss_cons (ps_fld (pv 0) (pe_op op_add (pe_fld (pv 0) rfl) pe_int) rfl)
      (pss_cons (ps_fld (pv 0) (pe_dc (own := [("number", 3)]) (g := gName 3) (tt := tYes) (tk := tVar 3) (tv := tC (.bl true)) rfl scCCom.nd (pi_list (pv 2)) (blkOk_by (N := ["self", "rows", "left", "number"]) (sc := defScope sCCom) (by decide +kernel))
          (fun _ _ _ _ _ => pg_name (i := 3) scCCom.nd rfl (Or.inl rfl)) (fun _ _ _ _ _ => pts_nil) (fun _ _ _ _ _ => pv 3) (fun _ _ _ _ _ => pe_bl)) rfl)
      (pss_one (ps_expr (pe_meth0 (pv 0) X.cl mS rS hr bS .nil pass0))))), ?_⟩
    have cr := commit_run (g0 := g.d.f) (sr := g.sr) (gs := gs) x.al x.hw (fun n => x.dev.len n) hok h5 (by omega) (by omega) x.hz (HomeIs.refl _)
    have lo := ops_len (sr := g.sr) h5
    refine ⟨_, rfl, c, CC, cx, _, _, rfl, x.ins, X.cl, X.n1, rfl, g.j, g.jx, _, rfl, x.jat, rfl, _, rfl, g.j, g.jx, g.p, g.dx, g.sr, g.N, g.d, g.B, g.W, r, gs, rfl, x.jat, x.njp, x.dev, by omega, hR, nrW, fun q hq => ⟨(hok q hq).1, by have := (hok q hq).2; omega, by have := (hok q hq).2; omega⟩, (fun z => by omega), fun _ => ⟨fun hok2 H1 W1 hW1 b1 D1 => ?_, fun hno H1 W1 hW1 b1 D1 => ?_⟩⟩
    · obtain ⟨kB, hB⟩ := x.nB
      obtain ⟨kW, hW⟩ := x.nW
      obtain ⟨dd, wn, z1, l64, hm1⟩ := cr.2 hok2
      generalize runA g.d (opsG g.sr gs ++ opsH gs) = RR at D1 dd wn z1 l64 hm1
      generalize (opsG g.sr gs ++ opsH gs).length = lops at D1 lo
      have ncB : c ≠ g.B := ne_of x.ins hB (by intro z; cases z)
      have ncW : c ≠ g.W := ne_of x.ins hW (by intro z; cases z)
      have njB : g.j ≠ g.B := ne_of x.jat hB (by intro z; cases z)
      have njW : g.j ≠ g.W := ne_of x.jat hW (by intro z; cases z)
      have hc1 := b1 _ _ x.ins x.ncp ncB ncW
      have hj1 : JAt CJ H1 g.j g.jx g.p g.sr := b1 _ _ x.jat x.njp njB njW
      have s2 : SameX g.j H1 (upd H1 g.j (.ins CJ g.jx (fsJ g.p (g.sr + 1)))) := SameX.upd
      have hj2 : JAt CJ (upd H1 g.j (.ins CJ g.jx (fsJ g.p (g.sr + 1)))) g.j g.jx g.p (g.sr + 1) := upd_same
      generalize upd H1 g.j (.ins CJ g.jx (fsJ g.p (g.sr + 1))) = H2 at s2 hj2 ⊢
      have f2 : Fr (ownJ c g) H H2 := fun b o h n => by
        simp only [ownJ, List.mem_cons, List.not_mem_nil, or_false, not_or] at n
        exact s2 _ _ n.2.1 (b1 _ _ h n.2.2.1 n.2.2.2.1 n.2.2.2.2.1)
      have hW1' : ∃ xs, H1 W1 = some (.lst xs) := by
        obtain ⟨i, nf, kvs, es, hB, hc, hW, _⟩ := D1
        exact ⟨_, hW.lst⟩
      obtain ⟨kW1, hW1'⟩ := hW1'
      have hB1 : ∃ xs, H1 g.B = some (.dK xs) := by
        obtain ⟨i, nf, kvs, es, hB, hc, hW, _⟩ := D1
        exact ⟨_, hB⟩
      obtain ⟨kB1, hB1⟩ := hB1
      have mvj : Mv [g.j] H1 H2 := Mv.sameX (by
        have e : H1 g.j = _ := hj1
        rw [e]; exact Soft.ins) s2
      have D2 : DevS C H2 g.p g.dx g.B W1 (g.N + lops) RR.1 := D1.mv mvj (by simp [x.njp.symm, ne_of hB1 hj1 (by intro z; cases z), ne_of hW1' hj1 (by intro z; cases z)])
      have hc2 := s2 _ _ x.ncj hc1
      have nbp : g.bA ≠ g.p := ne_of x.hb x.dev.ins (by intro z; cases z)
      have nbW : g.bA ≠ g.W := ne_of x.hb hW (by intro z; cases z)
      have nbj : g.bA ≠ g.j := ne_of x.hb x.jat (by intro z; cases z)
      have hb2 := s2 _ _ nbj (b1 _ _ x.hb nbp x.nbB nbW)
      have tp2 : ∀ {a : Addr} {xs : List V}, H a = some (.tup xs) → H2 a = some (.tup xs) := fun {a xs} h => s2 _ _ (tup_ne h x.jat (fun ys z => by cases z)) (b1 _ _ h (tup_ne h x.dev.ins (fun ys z => by cases z)) (tup_ne h hB (fun ys z => by cases z)) (tup_ne h hW (fun ys z => by cases z)))
      have hl2 := s2 _ _ (ne_of hl x.jat (by intro z; cases z)) (b1 _ _ hl (ne_of hl x.dev.ins (by intro z; cases z)) (ne_of hl hB (by intro z; cases z)) nlW)
      have nw1 : Nw (ownJ c g) H W1 := Nw.old (W := g.W) (by simp [ownJ]) hW1
      have hB2 := s2 _ _ (ne_of hB1 hj1 (by intro z; cases z)) hB1
      have hW2 := s2 _ _ (ne_of hW1' hj1 (by intro z; cases z)) hW1'
      clear hj1 hc1 mvj b1 D1 hB1 hW1' hW1
      refine ⟨_, rfl, c, CC, cx, _, _, rfl, hc2, X.cl, X.n6, rfl, _, _, rfl, rfl, _, rfl, c, CC, cx, _, rfl, hc2, X.cl, X.n6, (by show 6 < 1000; decide), ?_⟩
      have s3 : SameX c H2 (upd H2 c (.ins CC cx (putF "commits" (.int (g.com + 1)) (fsC g.j g.cap g.bA g.dA g.be g.com)))) := SameX.upd
      have hc3 : (upd H2 c (.ins CC cx (putF "commits" (.int (g.com + 1)) (fsC g.j g.cap g.bA g.dA g.be g.com)))) c = some (.ins CC cx (fsC g.j g.cap g.bA g.dA g.be (g.com + 1))) := by rw [upd_same]; rfl
      generalize upd H2 c (.ins CC cx (putF "commits" (.int (g.com + 1)) (fsC g.j g.cap g.bA g.dA g.be g.com))) = H3 at s3 hc3 ⊢
      have f3 : Fr (ownJ c g) H H3 := f2.trans (Fr.sx s3 (by simp [ownJ]))
      have hl3 := s3 _ _ (ne_of hl x.ins (by intro z; cases z)) hl2
      refine ⟨_, rfl, l, rfl, ⟨_, SqL.of hl3⟩, fun D nD => ?_⟩
      have nwD : Nw (ownJ c g) H D := Nw.of f3 nD
      have hb3 := s3 _ _ (ne_of x.hb x.ins (by intro z; cases z)) hb2
      have hB3 := s3 _ _ ncB.symm hB2
      have nDb : D ≠ g.bA := fun e => by rw [e, hb3] at nD; cases nD
      have nDB : D ≠ g.B := fun e => by rw [e, hB3] at nD; cases nD
      have nDc : D ≠ c := fun e => by rw [e, hc3] at nD; cases nD
      have nDl : D ≠ l := fun e => by rw [e, hl3] at nD; cases nD
      refine dc_list (K := K) (a := l) (xs := ks.map kV) (fun i H' => SameX D H3 H' ∧ H' D = some (.dK (kdOf (ks.take i)))) ⟨SameX.upd, upd_same⟩ (fun i H' hi q => SqL.of (q.1 _ _ nDl.symm hl3)) (fun i z H' hx q => ?_) (fun H4 q => ?_)
      · obtain ⟨sx, hD⟩ := q
        rw [List.getElem?_map] at hx
        obtain ⟨kk, hk, rfl⟩ := Option.map_eq_some_iff.mp hx
        have e1 : ks.take (i + 1) = ks.take i ++ [kk] := by rw [List.take_add_one, hk]; rfl
        have ni : kk ∉ ks.take i := fun z => by
          have nd := (List.nodup_append.mp (by rw [← e1]; exact (List.Sublist.nodup (List.take_sublist _ _) knd) : (ks.take i ++ [kk]).Nodup)).2.2
          exact nd _ z _ (by simp) rfl
        have lk : ks.length ≤ 7 := by
          have := nd_sub knd ksub
          have h7 := x.kb.len
          unfold keys at this
          rw [List.length_map] at this
          omega
        refine ⟨rfl, _, rfl, _, kk, rfl, hD, by unfold kdOf; rw [List.length_map, List.length_take, sizeLine_eq]; omega, sx.trans SameX.upd, ?_⟩
        rw [upd_same, kdOf_put ni, e1]
      · obtain ⟨sx, hD⟩ := q
        rw [List.length_map, List.take_length] at hD
        have hc4 := sx _ _ nDc.symm hc3
        refine ⟨_, rfl, c, CC, cx, _, rfl, hc4, X.cl, X.n4, (by show 6 < 1000; decide), ?_⟩
        have s5 : SameX c H4 (upd H4 c (.ins CC cx (putF "dirty" (.ref D) (fsC g.j g.cap g.bA g.dA g.be (g.com + 1))))) := SameX.upd
        have hc5 : (upd H4 c (.ins CC cx (putF "dirty" (.ref D) (fsC g.j g.cap g.bA g.dA g.be (g.com + 1))))) c = some (.ins CC cx (fsC g.j g.cap g.bA D g.be (g.com + 1))) := by rw [upd_same]; rfl
        generalize upd H4 c (.ins CC cx (putF "dirty" (.ref D) (fsC g.j g.cap g.bA g.dA g.be (g.com + 1)))) = H5 at s5 hc5 ⊢
        have st : ∀ {a : Addr} {o : HO}, H2 a = some o → a ≠ c → H5 a = some o := fun {a o} h n => s5 _ _ n (sx _ _ (fun e => by rw [← e, s3 _ _ n h] at nD; cases nD) (s3 _ _ n h))
        have f5 : Fr (ownJ c g) H H5 := fun b o h n => by
          have nc : b ≠ c := fun e => n (by rw [e]; simp [ownJ])
          exact st (f2 b o h n) nc
        have D5 : DevS C H5 g.p g.dx g.B W1 (g.N + lops) RR.1 := D2.mv (l := [c]) (H' := H5) ⟨fun b hb => by rw [List.mem_singleton.mp hb, hc2]; exact Soft.ins, fun b o h n => st h (by simpa using n)⟩ (by simp [x.ncp.symm, ncB.symm, ne_of hW2 hc2 (by intro z; cases z)])
        have x5 : CAt CC CJ C c cx { g with W := W1, N := g.N + lops, d := RR.1, sr := g.sr + 1, com := g.com + 1, dA := D, kd := kdOf ks } vw H5 :=
          { ins := hc5
            jat := st hj2 x.ncj.symm
            dev := D5
            hb := st hb2 (ne_of x.hb x.ins (by intro z; cases z))
            hd := s5 _ _ nDc hD
            al := dd
            hw := wn
            hz := z1
            ncj := x.ncj
            ncp := x.ncp
            njp := x.njp
            ndb := nDb
            nbB := x.nbB
            ndB := nDB
            kb := x.kb
            kd := ⟨by rw [keys_kdOf]; exact knd, fun k hk => by rw [keys_kdOf] at hk; exact x.kb.rg k (ksub k hk)⟩
            sub := fun k hk => by rw [keys_kdOf] at hk; exact ksub k hk
            dv := fun k v h => kdOf_val h
            v1 := fun n v h => by
              obtain ⟨t, e, ht⟩ := x.v1 n v h
              exact ⟨t, e, st (tp2 ht) (tup_ne ht x.ins (fun ys z => by cases z))⟩
            v2 := fun n a b h => by
              rw [keys_kdOf] at h
              rw [hv n a b h]
              exact ((hm1.trans hg1) n a b).symm
            v3 := x.v3
            c1 := x.c1 }
        refine ⟨_, rfl, c, cx, _, rfl, hc5, rfl, c, cx, _, _, g.bA, D, _, _, g.kb, kdOf ks, rfl, hc5, x5.hb, x5.hd, nDb, x.kb, by have := x.c1; omega, fun H6 kb6 s6 hb6 sh => ?_⟩
        exact kOk H6 W1 (g.N + lops) RR.1 D kb6 (f5.trans (Fr.sx s6 (by simp [ownJ]))) nw1 nwD (by omega) (hm1.trans hg1) (x5.shrunk s6 hb6 sh) sh.few
    · refine kNo H1 W1 _ _ (fun b o h n => ?_) (Nw.old (W := g.W) (by simp [ownJ]) hW1) (by omega) D1 ((cr.1 hno).2.to (HomeIs.refl _) hg1) ?_
      · simp only [ownJ, List.mem_cons, List.not_mem_nil, or_false, not_or] at n
        exact b1 _ _ h n.2.2.1 n.2.2.2.1 n.2.2.2.2.1
      · obtain ⟨kB, hB⟩ := x.nB
        obtain ⟨kW, hW⟩ := x.nW
        rw [x.ins]
        exact b1 _ _ x.ins x.ncp (ne_of x.ins hB (by intro z; cases z)) (ne_of x.ins hW (by intro z; cases z))
end
end K03
namespace K03
open PySem L2 HK
theorem setAll_is : ∀ (ps : Ps) (f g : Fn) (n : Int), (∀ q ∈ ps, q.2 = g q.1) → n ∈ ps.map (·.1) → setAll f ps n = g n
  | [], _, _, _, _, h => by cases h
  | q :: r, f, g, n, hq, h => by
    rw [setAll_cons]
    by_cases c : n ∈ r.map (·.1)
    · exact setAll_is r _ g n (fun y hy => hq y (by simp [hy])) c
    · rw [setAll_off r _ n c]
      have e : n = q.1 := by
        rcases List.mem_cons.mp h with z | z
        · exact z
        · exact absurd z c
      rw [e, setF_at]
      exact hq q (by simp)
theorem home_rows {gs : List Rw} {f g : Fn} {ok : Key → Prop} (h1 : ∀ q ∈ gs, q.2 = g q.1.2.1) (h2 : ∀ n, 8 ≤ n → n < 15 → (∀ q ∈ gs, n ≠ q.1.2.1) → g n = f n) : HomeIs (setAll f (pairs gs)) g := fun n a b => by
  have em : (pairs gs).map (·.1) = gs.map fun q => q.1.2.1 := by unfold pairs; rw [List.map_map]; rfl
  by_cases c : n ∈ gs.map fun q => q.1.2.1
  · refine setAll_is _ f g n (fun q hq => ?_) (by rw [em]; exact c)
    unfold pairs at hq
    obtain ⟨y, hy, rfl⟩ := List.mem_map.mp hq
    exact h1 y hy
  · rw [setAll_off _ _ _ (by rw [em]; exact c)]
    exact (h2 n a b fun q hq e => c (by rw [e]; exact List.mem_map_of_mem hq)).symm
theorem CAt.same {CC CJ C c cx : Addr} {g : CG} {vw : Fn} {H H' : Hp} (x : CAt CC CJ C c cx g vw H) (s : Same H H') : CAt CC CJ C c cx g vw H' :=
  x.setB (kb' := g.kb) (SameX.of s) (s _ _ x.hb) x.kb x.sub fun n v h => by
    obtain ⟨t, e, ht⟩ := x.v1 n v h
    exact ⟨t, e, s _ _ ht⟩
theorem BAt.same {g : CG} {vw pv : Fn} {eA : Addr} {ke : KVs} {od : List Key} {H H' : Hp} (x : BAt g vw pv eA ke od H) (s : Same H H') : BAt g vw pv eA ke od H' where
  be := x.be
  he := s _ _ x.he
  neb := x.neb
  ned := x.ned
  neB := x.neB
  kr := x.kr
  e1 := fun n v h => by
    obtain ⟨u, t, ch, e, h1, h2, h3, h4⟩ := x.e1 n v h
    exact ⟨u, t, ch, e, s _ _ h1, s _ _ h2, h3, h4⟩
  e2 := x.e2
  e3 := x.e3
  e4 := x.e4
  e5 := x.e5
  e6 := x.e6
  nd := x.nd
  len := x.len
structure Nxt (c : Addr) (g g' : CG) (H : Hp) : Prop where
  ej : g'.j = g.j
  ejx : g'.jx = g.jx
  ep : g'.p = g.p
  edx : g'.dx = g.dx
  eB : g'.B = g.B
  eb : g'.bA = g.bA
  ec : g'.cap = g.cap
  nW : Nw (ownJ c g) H g'.W
  nD : Nw (ownJ c g) H g'.dA
  leN : g'.N ≤ g.N + 16
  s0 : g.sr ≤ g'.sr
  s1 : g'.sr ≤ g.sr + 1
  com : g.com ≤ g'.com
theorem Nw.mem {l : List Addr} {H : Hp} {a : Addr} (m : a ∈ l) : Nw l H a := fun b o _ n e => n (e ▸ m)
theorem Nw.pre {l : List Addr} {H H1 : Hp} {a : Addr} (s : Same H H1) (n : Nw l H1 a) : Nw l H a := fun b o h m => n b o (s _ _ h) m
def NoK (CC CJ C CE c cx : Addr) (g : CG) (g1 : Fn) (H : Hp) (E : XK) : Prop := ∀ H' W' N' d', Fr (ownJ c g) H H' → Nw (ownJ c g) H W' → N' ≤ g.N + 16 → DevS C H' g.p g.dx g.B W' N' d' → CrashOk g.d.f g1 d' → (∃ bA dA be, H' c = some (.ins CC cx (fsC g.j g.cap bA dA be g.com))) → E (.ref CE) none H'
def OkK (CC CJ C c cx : Addr) (g : CG) (g1 vw : Fn) (H : Hp) (Q : VK) : Prop := ∀ H' g', Fr (ownJ c g) H H' → Nxt c g g' H → g'.be = .non → CAt CC CJ C c cx g' vw H' → g'.kd.length ≤ 5 → Few g'.cap g'.kd g'.kb → (HomeIs g'.d.f g1 ∨ (g'.d = g.d)) → Q .non H'
def spEnd (CC CJ C CE CJE : Addr) : Sp := fun vs H Q E => ∃ c cx g vw pv eA ke od, vs = [.ref c] ∧ CAt CC CJ C c cx g vw H ∧ BAt g vw pv eA ke od H ∧ g.N ≤ 600 ∧ 0 ≤ g.sr ∧ g.sr < 60000 ∧ Few g.cap g.kd g.kb ∧
  (5 < ke.length → ∀ H' kb' kd', Fr [c, g.bA, g.dA, eA] H H' → CAt CC CJ C c cx { g with kb := kb', kd := kd', be := .non } pv H' → kd'.length ≤ 5 → Few g.cap kd' kb' → E (.ref CJE) none H') ∧
  (ke.length ≤ 5 → OkK CC CJ C c cx g pv vw H Q ∧ NoK CC CJ C CE c cx g pv H E)
section
variable {P : Program} {w : World} {K : PySem.W.Frag} {mg : Str → Option Value} {base : Heap} {C CE CJ CJE CC : Addr}
theorem scEnd : FnScope ["self"] ["self"] (defScope sEnd) := ⟨rfl, rfl, rfl, by decide +kernel, rfl, by decide +kernel, by decide +kernel⟩
theorem ok_end {f fM fU fE fC : Addr} {fd fdM fdU fdE fdC : FuncData} (F : L2.Fun K "end" "Cache.end" sEnd f fd) (T : DTxt K mg C CE) (J : JCls K mg CJ CJE) (X : CCls K mg CC)
    (FM : FnOk P w K mg base L2.CX0 2 fM fdM ["self"] (spRoom CJ C)) (bM : Binds K fdM ["self"] []) (mM : Meth K CJ "room" fM)
    (FU : FnOk P w K mg base L2.CX0 2 fU fdU ["self"] (spUndo CC CJ C)) (bU : Binds K fdU ["self"] []) (mU : Meth K CC "undo" fU)
    (FE : FnOk P w K mg base L2.CX0 1 fE fdE ["self"] (spEarl CC CJ C)) (bE : Binds K fdE ["self"] []) (mE : Meth K CC "earlier_rows" fE)
    (FC : FnOk P w K mg base (L2.CX P w) 7 fC fdC ["self", "rows", "left"] (spCCom CC CJ C CE)) (bC : Binds K fdC ["self", "rows", "left"] []) (mC : Meth K CC "commit" fC) :
    FnOk P w K mg base (L2.CX P w) 8 f fd ["self"] (spEnd CC CJ C CE CJE) := by
  refine F.okX scEnd (fun vs H Q E h => ?_) (fun cdv A outer s H vs Q E hr h => ?_)
  · obtain ⟨c, cx, g, vw, pv, eA, ke, od, rfl, _⟩ := h
    rfl
  · obtain ⟨c, cx, g, vw, pv_, eA, ke, od, rfl, x, y, hN, sr0, sr1, fw, k1, k2⟩ := h
    have rM := FM.mono (show 2 ≤ 7 by decide)
    have rU := FU.mono (show 2 ≤ 7 by decide)
    have rE := FE.mono (show 1 ≤ 7 by decide)
    refine ⟨_, pss_cons (ps_if (pt_cmpR op_gt (pe_callB call_lenD (by rfl) T.len PySem.boot_len (pa_cons (pe_fld (pv 0) rfl) pa_nil)) (pe_meth0 (pe_fld (pv 0) rfl) J.cl mM rM hr bM .nil pass0) (nomark _))
        (pss_cons (ps_expr (pe_meth0 (pv 0) X.cl mU rU hr bU .nil pass0)) (pss_one (ps_raise rfl (takes_of rfl rfl rfl rfl) (pmk_own PySem.F.excBase_ValueError J.xE J.gE J.kE (raises_own J.bE J.tE) rfl)))) pss_nil)
      (pss_cons (ps_if (pt_cmpR op_gt (pe_callB call_lenD (by rfl) T.len PySem.boot_len (pa_cons (pe_fld (pv 0) rfl) pa_nil)) (pe_meth0 (pe_fld (pv 0) rfl) J.cl mM rM hr bM .nil pass0) (nomark _))
        (pss_one (ps_expr (pe_meth (pv 0) X.cl mC FC hr bC .nil (passes_call (takes_of rfl rfl rfl rfl) (fun _ _ _ _ h => h)) (pa_cons (pe_meth0 (pv 0) X.cl mE rE hr bE .nil pass0) (pa_cons (pe_callTy (call_listD rfl) (by rfl) J.list PyProof.Rows.Boot.«list» (pa_cons (pe_fld (pv 0) rfl) pa_nil)) pa_nil))))) pss_nil)
      (pss_one (ps_fld (pv 0) pe_non rfl))), ?_⟩
    refine ⟨_, rfl, c, CC, cx, _, _, rfl, x.ins, X.cl, X.n5, rfl, eA, ke, (by show [g.be] = [V.ref eA]; rw [y.be]), y.he, ?_⟩
    refine ⟨_, rfl, c, CC, cx, _, _, rfl, x.ins, X.cl, X.n1, rfl, g.j, g.jx, _, rfl, x.jat, rfl, g.j, g.jx, g.p, g.dx, g.sr, g.N, g.d, g.B, g.W, rfl, x.jat, x.dev, _, _, rfl, rfl, _, rfl, ite2 (fun c1 => ?_) (fun c1 => ?_)⟩
    · have c1 : 5 < ke.length := by have := of_decide_eq_true c1; omega
      refine ⟨_, rfl, c, cx, _, rfl, x.ins, rfl, c, cx, g, vw, pv_, eA, ke, od, rfl, x, y, fun H' kb' kd' f' x' h5 fw' => ?_⟩
      exact k1 c1 H' kb' kd' f' x' h5 fw'
    · have c1 : ke.length ≤ 5 := by simp at c1; omega
      obtain ⟨kOk, kNo⟩ := k2 c1
      refine ⟨_, rfl, c, CC, cx, _, _, rfl, x.ins, X.cl, X.n4, rfl, g.dA, g.kd, rfl, x.hd, ?_⟩
      refine ⟨_, rfl, c, CC, cx, _, _, rfl, x.ins, X.cl, X.n1, rfl, g.j, g.jx, _, rfl, x.jat, rfl, g.j, g.jx, g.p, g.dx, g.sr, g.N, g.d, g.B, g.W, rfl, x.jat, x.dev, _, _, rfl, rfl, _, rfl, ite2 (fun c2 => ?_) (fun c2 => ?_)⟩
      · refine ⟨_, rfl, c, cx, _, rfl, x.ins, rfl, ?_⟩
        refine ⟨_, rfl, c, cx, _, rfl, x.ins, rfl, c, cx, g, vw, pv_, eA, ke, od, rfl, x, y, fun H1 r gs s1 nr R1 okr => ?_⟩
        have x1 := x.same s1
        have y1 := y.same s1
        refine ⟨_, rfl, c, CC, cx, _, _, rfl, x1.ins, X.cl, X.n5, rfl, eA, ke, (by show [g.be] = [V.ref eA]; rw [y.be]), .inl y1.he, fun l nl => ?_⟩
        have s2 : Same H1 (upd H1 l (.lst (ke.map fun kv => kV kv.1))) := same_upd nl
        have hl2 : (upd H1 l (.lst (ke.map fun kv => kV kv.1))) l = some (.lst ((keys ke).map kV)) := by
          rw [upd_same]
          unfold keys
          rw [List.map_map]
          rfl
        generalize upd H1 l (.lst (ke.map fun kv => kV kv.1)) = H2 at s2 hl2 ⊢
        have x2 := x1.same s2
        have s12 := s1.trans s2
        obtain ⟨kW, hW⟩ := x.nW
        have hg1 : HomeIs (setAll g.d.f (pairs gs)) pv_ := home_rows (ok := fun _ => True) (fun q hq => (okr.1 q hq).1) fun n a b hn => y.e5 n a b fun z => by
          obtain ⟨q, hq, e⟩ := okr.2.1 _ z
          exact hn q hq (by injection e)
        refine ⟨c, cx, g, vw, r, l, gs, keys ke, pv_, rfl, x2, hN, R1.same s2, (ne_of_none hW nr).symm, fun q hq => ⟨(okr.1 q hq).2.2.2.2, (okr.1 q hq).2.2.1, (okr.1 q hq).2.2.2.1⟩, Nat.le_trans okr.2.2 y.len, sr0, sr1, hl2, (ne_of_none (s1 _ _ hW) nl).symm, y.kr.nd, fun kk hk => ?_, hg1, y.e2, ?_, ?_⟩
        · obtain ⟨n, rfl, _⟩ := y.kr.rg kk hk
          obtain ⟨v, hv⟩ := Option.isSome_iff_exists.mp (isSome_mem.mpr hk)
          obtain ⟨u, t, ch, _, _, _, h3, _⟩ := y.e1 n v hv
          exact x.sub _ h3
        · intro H3 W' N' d' dA' kb' f3 nW' nD' hN' hm x3 fw3
          refine ⟨_, rfl, c, CC, cx, _, rfl, x3.ins, X.cl, X.n5, (by show 6 < 1000; decide), ?_⟩
          have s4 : SameX c H3 (upd H3 c (.ins CC cx (putF "before" .non (fsC g.j g.cap g.bA dA' g.be (g.com + 1))))) := SameX.upd
          have hc4 : (upd H3 c (.ins CC cx (putF "before" .non (fsC g.j g.cap g.bA dA' g.be (g.com + 1))))) c = some (.ins CC cx (fsC g.j g.cap g.bA dA' .non (g.com + 1))) := by rw [upd_same]; rfl
          generalize upd H3 c (.ins CC cx (putF "before" .non (fsC g.j g.cap g.bA dA' g.be (g.com + 1)))) = H4 at s4 hc4 ⊢
          have x4 := x3.setC (be := .non) (com := g.com + 1) (Fr.sx s4 (by simp)) hc4
          refine kOk H4 { g with W := W', N := N', d := d', sr := g.sr + 1, com := g.com + 1, dA := dA', kd := kdOf (keys ke), kb := kb', be := .non } ((Fr.of s12).trans (f3.trans (Fr.sx s4 (by simp [ownJ])))) ⟨rfl, rfl, rfl, rfl, rfl, rfl, rfl, nW'.pre s12, nD'.pre s12, hN', by dsimp only; omega, by dsimp only; omega, by dsimp only; omega⟩ rfl x4 ?_ fw3 (.inl hm)
          dsimp only
          unfold kdOf keys
          rw [List.length_map, List.length_map]
          exact c1
        · intro H3 W' N' d' f3 nW' hN' D3 ck hc
          exact kNo H3 W' N' d' ((Fr.of s12).trans f3) (nW'.pre s12) hN' D3 ck ⟨g.bA, g.dA, g.be, by rw [hc]; exact x2.ins⟩
      · have c2 : g.kd.length ≤ 5 := by simp at c2; omega
        refine ⟨_, rfl, c, CC, cx, _, rfl, x.ins, X.cl, X.n5, (by show 6 < 1000; decide), ?_⟩
        have s4 : SameX c H (upd H c (.ins CC cx (putF "before" .non (fsC g.j g.cap g.bA g.dA g.be g.com)))) := SameX.upd
        have hc4 : (upd H c (.ins CC cx (putF "before" .non (fsC g.j g.cap g.bA g.dA g.be g.com)))) c = some (.ins CC cx (fsC g.j g.cap g.bA g.dA .non g.com)) := by rw [upd_same]; rfl
        generalize upd H c (.ins CC cx (putF "before" .non (fsC g.j g.cap g.bA g.dA g.be g.com))) = H4 at s4 hc4 ⊢
        have x4 := x.setC (be := .non) (com := g.com) (Fr.sx s4 (by simp)) hc4
        exact kOk H4 { g with be := .non } (Fr.sx s4 (by simp [ownJ])) ⟨rfl, rfl, rfl, rfl, rfl, rfl, rfl, Nw.mem (by simp [ownJ]), Nw.mem (by simp [ownJ]), by dsimp only; omega, by dsimp only; omega, by dsimp only; omega, by dsimp only; omega⟩ rfl x4 c2 fw (.inr rfl)
end
theorem room66 {k : Nat} {A : Around} (hr : Room k A) : A.units + 66 < cLine := by have := hr.un; omega
/-! ### sync -/
def spSync (CC CJ C CE CJE : Addr) : Sp := fun vs H Q E => ∃ c cx g vw, vs = [.ref c] ∧ CAt CC CJ C c cx g vw H ∧ g.N ≤ 600 ∧ 0 ≤ g.sr ∧ g.sr < 60000 ∧ Few g.cap g.kd g.kb ∧
  (((∃ a, g.be = .ref a) ∧ E (.ref CJE) none H) ∨ (g.be = .non ∧ g.kd.length ≤ 5 ∧ (∀ H' g', Fr (ownJ c g) H H' → Nxt c g g' H → g'.be = .non → CAt CC CJ C c cx g' vw H' → g'.kd.length ≤ 5 → Few g'.cap g'.kd g'.kb → HomeIs g'.d.f vw → Q .non H') ∧ NoK CC CJ C CE c cx g vw H E))
section
variable {P : Program} {w : World} {K : PySem.W.Frag} {mg : Str → Option Value} {base : Heap} {C CE CJ CJE CC : Addr}
theorem scSync : FnScope ["self", "number"] ["self"] (defScope sSync) := ⟨rfl, rfl, rfl, by decide +kernel, rfl, by decide +kernel, by decide +kernel⟩
theorem ok_sync {f fC : Addr} {fd fdC : FuncData} (F : L2.Fun K "sync" "Cache.sync" sSync f fd) (T : DTxt K mg C CE) (J : JCls K mg CJ CJE) (X : CCls K mg CC) (G : GTxt mg)
    (FC : FnOk P w K mg base (L2.CX P w) 7 fC fdC ["self", "rows", "left"] (spCCom CC CJ C CE)) (bC : Binds K fdC ["self", "rows", "left"] []) (mC : Meth K CC "commit" fC) :
    FnOk P w K mg base (L2.CX P w) 8 f fd ["self"] (spSync CC CJ C CE CJE) := by
  refine F.okX scSync (fun vs H Q E h => ?_) (fun cdv A outer s H vs Q E hr h => ?_)
  · obtain ⟨c, cx, g, vw, rfl, _⟩ := h
    rfl
  · obtain ⟨c, cx, g, vw, rfl, x, hN, sr0, sr1, fw, k⟩ := h
    refine ⟨_, pss_cons (ps_if (pt_cmpR op_notN (pe_fld (pv 0) rfl) pe_non (nomark _)) (pss_one (ps_raise rfl (takes_of rfl rfl rfl rfl) (pmk_own PySem.F.excBase_ValueError J.xE J.gE J.kE (raises_own J.bE J.tE) rfl))) pss_nil)
      (pss_one (ps_if (pt_cmpR (HKE.op_neDD (room66 hr)) (pe_fld (pv 0) rfl) pe_dnewK (nomark _))
        (pss_one (ps_expr (pe_meth (pv 0) X.cl mC FC hr bC .nil (passes_call (takes_of rfl rfl rfl rfl) (fun _ _ _ _ h => h)) (pa_cons
          (pe_lc (own := [("number", 1)]) (g := gName 1) (te := tTup (tCons (tVar 1) (tCons (tDGet (tFld K (tVar 0) "blocks") (tVar 1)) tNil))) (by rfl) scSync.nd (pi_list (pe_callB (call_sortedDI (by rfl)) (by rfl) G.sorted PyProof.Rows.boot_sorted (pa_cons (pe_fld (pv 0) rfl) pa_nil)))
            (blkOk_by (N := ["self", "number"]) (sc := defScope sSync) (by decide +kernel)) (fun _ _ _ _ _ => pg_name (i := 1) scSync.nd rfl (Or.inl rfl)) (fun _ _ _ _ _ => pts_nil)
            (fun _ _ _ _ _ => pe_tup (pa_cons (pv 1) (pa_cons (pe_dget (by exact hu_of hr) (pe_fld (pv 0) rfl) (pv 1) (fun _ _ => rfl)) pa_nil))))
          (pa_cons (pe_lst pa_nil) pa_nil))))) pss_nil)), ?_⟩
    refine ⟨_, rfl, c, CC, cx, _, _, rfl, x.ins, X.cl, X.n5, rfl, rfl, _, rfl, ?_⟩
    rcases k with ⟨⟨a, ha⟩, ke⟩ | ⟨hn, h5, kOk, kNo⟩
    · rw [ha]
      exact iteT ke
    · rw [hn]
      refine iteF ?_
      refine ⟨_, rfl, c, CC, cx, _, _, rfl, x.ins, X.cl, X.n4, rfl, fun e0 ne0 => ?_⟩
      have s1 : Same H (upd H e0 (.dK [])) := same_upd ne0
      have he1 : (upd H e0 (.dK [])) e0 = some (.dK []) := upd_same
      generalize upd H e0 (.dK []) = H1 at s1 he1 ⊢
      have x1 := x.same s1
      refine ⟨g.dA, e0, g.kd, [], fun _ => .bool true, fun _ => .bool true, rfl, rfl, x1.hd, he1, fun k v hm => ?_, (fun k v hm => by cases hm), ?_⟩
      · have : v = .bl true := x.dv k v (val_nodup (κ := Key) (kvs := g.kd) x.kd.nd (k, v) hm)
        rw [this]
        exact ⟨.bl true, rfl⟩
      by_cases c1 : g.kd = []
      · have e2 : HKE.dEq g.kd [] (fun _ => PyData.bool true) (fun _ => PyData.bool true) = true := by rw [c1]; rfl
        rw [e2]
        refine ⟨_, rfl, iteF ?_⟩
        refine kOk H1 g (Fr.of s1) ⟨rfl, rfl, rfl, rfl, rfl, rfl, rfl, Nw.mem (by simp [ownJ]), Nw.mem (by simp [ownJ]), by omega, by omega, by omega, by omega⟩ hn x1 h5 fw fun n a b => ?_
        exact (x.v2 n a b (by rw [c1]; intro z; cases z)).symm
      · have e2 : HKE.dEq g.kd [] (fun _ => PyData.bool true) (fun _ => PyData.bool true) = false := by
          unfold HKE.dEq
          have : (g.kd.length == ([] : KVs).length) = false := by
            rw [beq_eq_false_iff_ne]
            intro z
            exact c1 (List.eq_nil_of_length_eq_zero z)
          rw [this, Bool.false_and]
        rw [e2]
        refine ⟨_, rfl, iteT ?_⟩
        obtain ⟨ns, en, nd, rg, ln⟩ := x.kd.ints
        refine ⟨_, rfl, c, cx, _, rfl, x1.ins, rfl, ?_⟩
        refine ⟨_, rfl, c, CC, cx, _, _, rfl, x1.ins, X.cl, X.n4, rfl, g.dA, g.kd, ns, rfl, .inl x1.hd, en, by omega, fun ys L0 perm _ nL0 => ?_⟩
        have s2 : Same H1 (upd H1 L0 (.lst (ys.map V.int))) := same_upd nL0
        have hL0 : (upd H1 L0 (.lst (ys.map V.int))) L0 = some (.lst (ys.map V.int)) := upd_same
        generalize upd H1 L0 (.lst (ys.map V.int)) = H2 at s2 hL0 ⊢
        have x2 := x1.same s2
        refine ⟨L0, rfl, ⟨_, SqL.of hL0⟩, fun L nL => ?_⟩
        have ly : ys.length ≤ 5 := by rw [perm.length_eq, ln]; exact h5
        refine lc_list (K := K) (a := L0) (xs := ys.map V.int) (fun i H3 => Same H2 H3 ∧ ∃ gs : List Rw, gs.map (fun q => q.1.2.1) = ys.take i ∧ RowsAt H3 L gs ∧ ∀ q ∈ gs, q.2 = vw q.1.2.1) ⟨same_upd nL, [], rfl, ⟨upd_same, (fun _ z => by cases z), (fun _ z => by cases z)⟩, (fun _ z => by cases z)⟩ (fun i H3 hi q => SqL.of (q.1 _ _ hL0)) (fun i z H3 hx q => ?_) (fun H3 q => ?_)
        · obtain ⟨s3, gs, hg, R, q1⟩ := q
          rw [List.getElem?_map] at hx
          obtain ⟨n, hn', rfl⟩ := Option.map_eq_some_iff.mp hx
          have hi := (List.getElem?_eq_some_iff.mp hn').1
          have hmem : n ∈ ns := perm.mem_iff.mp (List.mem_of_getElem? hn')
          have hkd : (.inl n : Key) ∈ keys g.kd := by rw [en]; exact List.mem_map_of_mem hmem
          obtain ⟨v, hv⟩ := Option.isSome_iff_exists.mp (isSome_mem.mpr (x.sub _ hkd))
          obtain ⟨t, rfl, ht⟩ := x2.v1 n v hv
          refine ⟨rfl, _, rfl, _, rfl, c, CC, cx, _, _, rfl, s3 _ _ x2.ins, X.cl, X.n3, rfl, _, rfl, g.bA, .ref t, rfl, by rw [← hv]; exact dGet_i (k := .inl n) (s3 _ _ x2.hb), by show 2 ≤ sizeLine; decide, fun p np => ?_⟩
          have s4 : Same H3 (upd H3 p (.tup [.int n, .ref t])) := same_upd np
          have hp4 : (upd H3 p (.tup [.int n, .ref t])) p = some (.tup [.int n, .ref t]) := upd_same
          generalize upd H3 p (.tup [.int n, .ref t]) = H4 at s4 hp4 ⊢
          have R4 := R.same s4
          have lg : gs.length ≤ 5 := by
            have := congrArg List.length hg
            rw [List.length_map, List.length_take] at this
            omega
          refine ⟨_, R4.lst, by rw [List.length_map, sizeLine_eq]; omega, fun b o h => ?_, gs ++ [((p, n, t), vw n)], ?_, ⟨by rw [upd_same, List.map_append]; rfl, fun q hq => ?_, fun q hq => ?_⟩, fun q hq => ?_⟩
          · rw [upd_ne (ne_of_none h nL)]
            exact s4 _ _ (s3 _ _ h)
          · rw [List.map_append, hg, List.take_add_one, hn']; rfl
          · have tp : ∀ {a : Addr} {xs : List V}, H4 a = some (.tup xs) → (upd H4 L (.lst ((gs.map fun q => V.ref q.1.1) ++ [V.ref p]))) a = some (.tup xs) := fun {a xs} h => by rw [upd_ne (tup_ne h R4.lst (fun ys z => by cases z))]; exact h
            rcases List.mem_append.mp hq with z | z
            · exact tp (R4.tup q z)
            · rw [List.mem_singleton.mp z]; exact tp hp4
          · have tp : ∀ {a : Addr} {xs : List V}, H4 a = some (.tup xs) → (upd H4 L (.lst ((gs.map fun q => V.ref q.1.1) ++ [V.ref p]))) a = some (.tup xs) := fun {a xs} h => by rw [upd_ne (tup_ne h R4.lst (fun ys z => by cases z))]; exact h
            rcases List.mem_append.mp hq with z | z
            · exact tp (R4.dat q z)
            · rw [List.mem_singleton.mp z]; exact tp (s4 _ _ (s3 _ _ ht))
          · rcases List.mem_append.mp hq with z | z
            · exact q1 q z
            · rw [List.mem_singleton.mp z]
        · obtain ⟨s3, gs, hg, R, q1⟩ := q
          rw [List.length_map, List.take_length] at hg
          refine ⟨by show 0 ≤ sizeLine; decide, fun l nl => ?_⟩
          have s4 : Same H3 (upd H3 l (.lst [])) := same_upd nl
          have hl4 : (upd H3 l (.lst [])) l = some (.lst (([] : List Key).map kV)) := upd_same
          generalize upd H3 l (.lst []) = H4 at s4 hl4 ⊢
          have s14 := (s1.trans s2).trans (s3.trans s4)
          have x4 := x.same s14
          obtain ⟨kW, hW⟩ := x.nW
          have hW3 := s3 _ _ (s2 _ _ (s1 _ _ hW))
          have inns : ∀ q ∈ gs, q.1.2.1 ∈ ns := fun q hq => perm.mem_iff.mp (by rw [← hg]; exact List.mem_map_of_mem hq)
          refine ⟨c, cx, g, vw, L, l, gs, [], vw, rfl, x4, hN, R.same s4, (ne_of_none (s2 _ _ (s1 _ _ hW)) nL).symm, fun q hq => ⟨by rw [q1 q hq]; exact x.v3 _ (rg _ (inns q hq)).1 (rg _ (inns q hq)).2, (rg _ (inns q hq)).1, (rg _ (inns q hq)).2⟩, ?_, sr0, sr1, hl4, (ne_of_none hW3 nl).symm, List.nodup_nil, (fun k h => by cases h), home_rows (ok := fun _ => True) q1 (fun n a b hn => x.v2 n a b fun z => ?_), fun _ _ _ _ => rfl, ?_, ?_⟩
          · have := congrArg List.length hg
            rw [List.length_map] at this
            omega
          · rw [en] at z
            obtain ⟨m, hm, e⟩ := List.mem_map.mp z
            injection e with e
            subst e
            have := perm.mem_iff.mpr hm
            rw [← hg] at this
            obtain ⟨q, hq, e⟩ := List.mem_map.mp this
            exact hn q hq e.symm
          · intro H5 W' N' d' dA' kb' f5 nW' nD' hN' hm x5 fw5
            exact kOk H5 { g with W := W', N := N', d := d', sr := g.sr + 1, com := g.com + 1, dA := dA', kd := kdOf [], kb := kb' } ((Fr.of s14).trans f5) ⟨rfl, rfl, rfl, rfl, rfl, rfl, rfl, nW'.pre s14, nD'.pre s14, hN', by dsimp only; omega, by dsimp only; omega, by dsimp only; omega⟩ hn x5 (Nat.zero_le _) fw5 hm
          · intro H5 W' N' d' f5 nW' hN' D5 ck hc
            exact kNo H5 W' N' d' ((Fr.of s14).trans f5) (nW'.pre s14) hN' D5 ck ⟨g.bA, g.dA, g.be, by rw [hc]; exact x4.ins⟩
end
end K03
namespace K03
open PySem L2 HK
abbrev sBlks : Stmt := top 31
theorem small1000' {n : Nat} (h : n ≤ 1000) : n < sizeLine := by rw [sizeLine_eq]; omega
def spBlks : Sp := fun vs H Q _ => ∃ D dc, vs = [.ref D] ∧ H D = some (.lst (Dice.vs dc)) ∧ ∀ H' L gs dc', SameX D H H' → H' D = some (.lst (Dice.vs dc')) → H L = none → L ≠ D → RowsAt H' L gs → okGrp gs → gs.length ≤ 8 → Q (.ref L) H'
section
variable {P : Program} {w : World} {K : PySem.W.Frag} {mg : Str → Option Value} {base : Heap} {C CE CJ CJE CC : Addr}
theorem scBlks : FnScope ["dice", "k"] ["dice"] (defScope sBlks) := ⟨rfl, rfl, rfl, by decide +kernel, rfl, by decide +kernel, by decide +kernel⟩
theorem ok_blks {f fR fB : Addr} {fd fdR fdB : FuncData} (F : L2.Fun K "_law_blocks" "_law_blocks" sBlks f fd) (G : GTxt mg)
    (FR : FnOk P w K mg base L2.CX0 1 fR fdR ["dice", "many"] spRoll) (mR : mg "_law_roll" = some (.ref fR)) (kR : PySem.W.keepIn K (.ref fR) = true) (bR : Binds K fdR ["dice", "many"] [])
    (FB : FnOk P w K mg base L2.CX0 2 fB fdB ["dice"] spBlk) (mB : mg "_law_block" = some (.ref fB)) (kB : PySem.W.keepIn K (.ref fB) = true) (bB : Binds K fdB ["dice"] []) :
    FnOk P w K mg base L2.CX0 3 f fd ["dice"] spBlks := by
  refine F.ok scBlks (fun vs H Q E h => ?_) (fun cdv A outer s H vs Q E hr h => ?_)
  · obtain ⟨D, dc, rfl, _⟩ := h
    rfl
  · obtain ⟨D, dc, rfl, hD, k⟩ := h
    have rR := FR.mono (show 1 ≤ 2 by decide)
    refine ⟨_, pss_one (ps_ret (pe_lc (own := [("k", 1)]) (g := gName 1) (by rfl) scBlks.nd (pi_range1 (by rfl) G.range (pa_cons (pe_call rR hr (by rfl) mR kR bR .nil pass0 (pa_cons (pv 0) (pa_cons pe_int pa_nil))) pa_nil))
        (blkOk_by (N := ["dice", "k"]) (sc := defScope sBlks) (by decide +kernel)) (fun _ _ _ _ _ => pg_name (i := 1) scBlks.nd rfl (Or.inl rfl)) (fun _ _ _ _ _ => pts_nil)
        (fun _ _ _ _ _ => pe_tup (pa_cons (pe_op op_add pe_int (pe_call rR hr (by rfl) mR kR bR .nil pass0 (pa_cons (pv 0) (pa_cons pe_int pa_nil)))) (pa_cons (pe_call FB hr (by rfl) mB kB bB .nil pass0 (pa_cons (pv 0) pa_nil)) pa_nil))))), ?_⟩
    refine ⟨_, rfl, D, dc, 9, rfl, hD, by decide, by decide, ?_⟩
    obtain ⟨r0, r1⟩ := roll_range dc (m := 9) (by decide)
    have h1 : (upd H D (.lst (roll dc 9).2.vs)) D = some (.lst (roll dc 9).2.vs) := upd_same
    have s1 : SameX D H (upd H D (.lst (roll dc 9).2.vs)) := SameX.upd
    generalize upd H D (.lst (roll dc 9).2.vs) = H1 at h1 s1 ⊢
    refine ⟨_, rfl, by omega, by omega, fun L nL => ?_⟩
    have nLD : L ≠ D := fun e => by rw [e, h1] at nL; cases nL
    refine lc_it (walk_range (lo := 0) (n := (roll dc 9).1.toNat)) (fun i H' => ∃ dc' gs, SameX D H1 H' ∧ H' D = some (.lst (Dice.vs dc')) ∧ RowsAt H' L gs ∧ okGrp gs ∧ gs.length ≤ i) ⟨_, [], SameX.of (same_upd nL), by rw [upd_ne nLD.symm]; exact h1, ⟨upd_same, (fun _ z => by cases z), (fun _ z => by cases z)⟩, (fun _ z => by cases z), Nat.le_refl _⟩ (fun _ _ _ _ => trivial) (fun i x H' H'' hi q y => ?_) (fun H' q => ?_)
    · obtain ⟨rfl, rfl⟩ := y
      obtain ⟨dc', gs, sx, hd', R, og, hg⟩ := q
      refine ⟨rfl, _, rfl, D, dc', 7, rfl, hd', by decide, by decide, ?_⟩
      obtain ⟨v0, v1⟩ := roll_range dc' (m := 7) (by decide)
      have s2 : SameX D H'' (upd H'' D (.lst (roll dc' 7).2.vs)) := SameX.upd
      have hd2 : (upd H'' D (.lst (roll dc' 7).2.vs)) D = some (.lst (roll dc' 7).2.vs) := upd_same
      have R2 := R.dice hd' nLD s2
      generalize upd H'' D (.lst (roll dc' 7).2.vs) = H2 at s2 hd2 R2 ⊢
      refine ⟨_, _, rfl, rfl, _, rfl, D, _, rfl, hd2, fun H3 t y dc3 s3 hd3 nt ht by64 => ?_⟩
      have R3 := R2.dice hd2 nLD s3
      refine ⟨by show 2 ≤ sizeLine; decide, fun p np => ?_⟩
      have s4 : Same H3 (upd H3 p (.tup [.int (8 + (roll dc' 7).1), .ref t])) := same_upd np
      have hp4 : (upd H3 p (.tup [.int (8 + (roll dc' 7).1), .ref t])) p = some (.tup [.int (8 + (roll dc' 7).1), .ref t]) := upd_same
      generalize upd H3 p (.tup [.int (8 + (roll dc' 7).1), .ref t]) = H4 at s4 hp4 ⊢
      have R4 := R3.same s4
      have tp : ∀ {a : Addr} {xs : List V}, H4 a = some (.tup xs) → (upd H4 L (.lst ((gs.map fun q => V.ref q.1.1) ++ [V.ref p]))) a = some (.tup xs) := fun {a xs} h => by rw [upd_ne (tup_ne h R4.lst (fun ys z => by cases z))]; exact h
      refine ⟨_, R4.lst, by rw [List.length_map]; exact small1000' (by omega), dc3, gs ++ [((p, 8 + (roll dc' 7).1, t), y)], fun b o n hb => ?_, by rw [upd_ne nLD.symm]; exact s4 _ _ hd3, ⟨by rw [upd_same, List.map_append]; rfl, fun q hq => ?_, fun q hq => ?_⟩, fun q hq => ?_, by rw [List.length_append]; show gs.length + 1 ≤ i + 1; omega⟩
      · rw [upd_ne (ne_of_none hb nL)]
        exact s4 _ _ (s3 _ _ n (s2 _ _ n (sx _ _ n hb)))
      · rcases List.mem_append.mp hq with z | z
        · exact tp (R4.tup q z)
        · rw [List.mem_singleton.mp z]; exact tp hp4
      · rcases List.mem_append.mp hq with z | z
        · exact tp (R4.dat q z)
        · rw [List.mem_singleton.mp z]; exact tp (s4 _ _ ht)
      · rcases List.mem_append.mp hq with z | z
        · exact og q z
        · rw [List.mem_singleton.mp z]
          exact ⟨by64, by show 8 ≤ 8 + (roll dc' 7).1; omega, by show 8 + (roll dc' 7).1 < 15; omega⟩
    · obtain ⟨dc', gs, sx, hd', R, og, hg⟩ := q
      have sx2 := s1.trans sx
      exact k H' L gs dc' sx2 hd' (s1.free nLD nL) nLD R og (by omega)
end
/-! ### the law's own objects -/
/-- a dict of the law's -/
def LD (H : Hp) (k : Addr) (g : Fn) : Prop := ∃ kvs, H k = some (.dK kvs) ∧ Kr kvs ∧ Cont H 64 kvs g
theorem LD.fr {l : List Addr} {H H' : Hp} {k : Addr} {g : Fn} (x : LD H k g) (m : Mv l H H') (n : k ∉ l) : LD H' k g := by
  obtain ⟨kvs, h1, h2, h3⟩ := x
  exact ⟨kvs, m.2 _ _ h1 n, h2, h3.keep m.keep⟩
theorem LD.same {H H' : Hp} {k : Addr} {g : Fn} (x : LD H k g) (s : Same H H') : LD H' k g := by
  obtain ⟨kvs, h1, h2, h3⟩ := x
  exact ⟨kvs, s _ _ h1, h2, h3.keep (Keep.of s)⟩
theorem LD.ext {H H' : Hp} {k : Addr} {g : Fn} (x : LD H k g) (s : LamX.ExtN H H') : LD H' k g := by
  obtain ⟨kvs, h1, h2, h3⟩ := x
  exact ⟨kvs, s _ _ h1 (fun ps z => by cases z), h2, h3.keep fun t xs z => s _ _ z (fun ps y => by cases y)⟩
structure LO (D R PT St Nd : Addr) (sts : List (Addr × Fn)) (nf : Fn) (dc : Dice) (H : Hp) : Prop where
  dice : H D = some (.lst dc.vs)
  row : H R = some (.lst [.ref D])
  tabs : LamX.Tabs [(PT, lamQ)] H
  st : H St = some (.lst (sts.map fun s => V.ref s.1))
  dst : ∀ s ∈ sts, LD H s.1 s.2
  now : LD H Nd nf
  nDR : D ≠ R
  nDS : D ≠ St
  nRS : R ≠ St
/-- they lie apart from l -/
structure Apt (D R St Nd : Addr) (sts : List (Addr × Fn)) (l : List Addr) : Prop where
  D : D ∉ l
  R : R ∉ l
  S : St ∉ l
  N : Nd ∉ l
  s : ∀ s ∈ sts, s.1 ∉ l
section
variable {D R PT St Nd : Addr} {sts : List (Addr × Fn)} {nf : Fn} {dc : Dice} {H H' : Hp} {l : List Addr}
theorem LO.mv (x : LO D R PT St Nd sts nf dc H) (m : Mv l H H') (a : Apt D R St Nd sts l) : LO D R PT St Nd sts nf dc H' :=
  ⟨m.2 _ _ x.dice a.D, m.2 _ _ x.row a.R, m.tabs x.tabs, m.2 _ _ x.st a.S, fun s hs => (x.dst s hs).fr m (a.s s hs), x.now.fr m a.N, x.nDR, x.nDS, x.nRS⟩
theorem LO.same (x : LO D R PT St Nd sts nf dc H) (s : Same H H') : LO D R PT St Nd sts nf dc H' :=
  ⟨s _ _ x.dice, s _ _ x.row, x.tabs.ext s, s _ _ x.st, fun q hq => (x.dst q hq).same s, x.now.same s, x.nDR, x.nDS, x.nRS⟩
theorem LO.ext (x : LO D R PT St Nd sts nf dc H) (s : LamX.ExtN H H') (t : LamX.Tabs [(PT, lamQ)] H') : LO D R PT St Nd sts nf dc H' :=
  ⟨s _ _ x.dice (fun _ z => by cases z), s _ _ x.row (fun _ z => by cases z), t, s _ _ x.st (fun _ z => by cases z), fun q hq => (x.dst q hq).ext s, x.now.ext s, x.nDR, x.nDS, x.nRS⟩
theorem LD.ne_lst {k a : Addr} {g : Fn} {xs : List V} (x : LD H k g) (h : H a = some (.lst xs)) : k ≠ a := by
  obtain ⟨kvs, h1, _⟩ := x
  exact ne_of h1 h (by intro z; cases z)
theorem LO.mvD (x : LO D R PT St Nd sts nf dc H) (s : SameX D H H') : Mv [D] H H' := Mv.sameX (by rw [x.dice]; exact Soft.lst) s
theorem LO.rolled (x : LO D R PT St Nd sts nf dc H) {dc' : Dice} (s : SameX D H H') (h : H' D = some (.lst dc'.vs)) : LO D R PT St Nd sts nf dc' H' := by
  have m := x.mvD s
  exact ⟨h, s _ _ x.nDR.symm x.row, m.tabs x.tabs, s _ _ x.nDS.symm x.st, fun q hq => (x.dst q hq).fr m (by simp [(x.dst q hq).ne_lst x.dice]), x.now.fr m (by simp [x.now.ne_lst x.dice]), x.nDR, x.nDS, x.nRS⟩
theorem Apt.of_none (x : LO D R PT St Nd sts nf dc H) {a : Addr} (n : H a = none) : Apt D R St Nd sts [a] :=
  ⟨by simp [ne_of_none x.dice n], by simp [ne_of_none x.row n], by simp [ne_of_none x.st n], by
    obtain ⟨k, h, _⟩ := x.now
    simp [ne_of_none h n], fun s hs => by
    obtain ⟨k, h, _⟩ := x.dst s hs
    simp [ne_of_none h n]⟩
theorem Apt.app {l m : List Addr} (a : Apt D R St Nd sts l) (b : Apt D R St Nd sts m) : Apt D R St Nd sts (l ++ m) :=
  ⟨by simp [a.D, b.D], by simp [a.R, b.R], by simp [a.S, b.S], by simp [a.N, b.N], fun s hs => by simp [a.s s hs, b.s s hs]⟩
theorem Apt.sub {l m : List Addr} (a : Apt D R St Nd sts l) (h : ∀ x ∈ m, x ∈ l) : Apt D R St Nd sts m :=
  ⟨fun z => a.D (h _ z), fun z => a.R (h _ z), fun z => a.S (h _ z), fun z => a.N (h _ z), fun s hs z => a.s s hs (h _ z)⟩
/-- what stands, stands apart from what is new -/
theorem Apt.nw (x : LO D R PT St Nd sts nf dc H) (a : Apt D R St Nd sts l) {b : Addr} (n : Nw l H b) : Apt D R St Nd sts [b] :=
  ⟨by simp [n _ _ x.dice a.D], by simp [n _ _ x.row a.R], by simp [n _ _ x.st a.S], by
    obtain ⟨k, h, _⟩ := x.now
    simp [n _ _ h a.N], fun s hs => by
    obtain ⟨k, h, _⟩ := x.dst s hs
    simp [n _ _ h (a.s s hs)]⟩
theorem Apt.nxt {c : Addr} {g g' : CG} (x : LO D R PT St Nd sts nf dc H) (a : Apt D R St Nd sts (ownJ c g)) (n : Nxt c g g' H) : Apt D R St Nd sts (ownJ c g') := by
  have aW := Apt.nw x a n.nW
  have aD := Apt.nw x a n.nD
  refine Apt.sub ((a.app aW).app aD) fun y hy => ?_
  simp only [ownJ, List.mem_cons, List.not_mem_nil, or_false, List.mem_append] at hy ⊢
  rw [n.ej, n.ep, n.eB, n.eb] at hy
  rcases hy with h | h | h | h | h | h | h <;> simp [h]
end
/-- the cache's own parts are no tuples, tables or code -/
theorem CAt.soft {CC CJ C c cx : Addr} {g : CG} {vw : Fn} {H : Hp} (x : CAt CC CJ C c cx g vw H) : ∀ b ∈ ownJ c g, Soft (H b) := fun b hb => by
  obtain ⟨kB, hB⟩ := x.nB
  obtain ⟨kW, hW⟩ := x.nW
  simp only [ownJ, List.mem_cons, List.not_mem_nil, or_false] at hb
  rcases hb with h | h | h | h | h | h | h
  · rw [h, x.ins]; exact Soft.ins
  · have e : H g.j = _ := x.jat
    rw [h, e]; exact Soft.ins
  · rw [h, x.dev.ins]; exact Soft.ins
  · rw [h, hB]; exact Soft.dK
  · rw [h, hW]; exact Soft.lst
  · rw [h, x.hb]; exact Soft.dK
  · rw [h, x.hd]; exact Soft.dK
/-- the cache under a change elsewhere -/
theorem CAt.mv {CC CJ C c cx : Addr} {g : CG} {vw : Fn} {H H' : Hp} {l : List Addr} (x : CAt CC CJ C c cx g vw H) (m : Mv l H H') (n : ∀ b ∈ ownJ c g, b ∉ l) : CAt CC CJ C c cx g vw H' where
  ins := m.2 _ _ x.ins (n _ (by simp [ownJ]))
  jat := m.2 _ _ x.jat (n _ (by simp [ownJ]))
  dev := x.dev.mv m ⟨n _ (by simp [ownJ]), n _ (by simp [ownJ]), n _ (by simp [ownJ])⟩
  hb := m.2 _ _ x.hb (n _ (by simp [ownJ]))
  hd := m.2 _ _ x.hd (n _ (by simp [ownJ]))
  al := x.al
  hw := x.hw
  hz := x.hz
  ncj := x.ncj
  ncp := x.ncp
  njp := x.njp
  ndb := x.ndb
  nbB := x.nbB
  ndB := x.ndB
  kb := x.kb
  kd := x.kd
  sub := x.sub
  dv := x.dv
  v1 := fun n v h => by
    obtain ⟨t, e, ht⟩ := x.v1 n v h
    exact ⟨t, e, m.keep _ _ ht⟩
  v2 := x.v2
  v3 := x.v3
  c1 := x.c1
theorem CAt.ext {CC CJ C c cx : Addr} {g : CG} {vw : Fn} {H H' : Hp} (x : CAt CC CJ C c cx g vw H) (s : LamX.ExtN H H') : CAt CC CJ C c cx g vw H' where
  ins := s _ _ x.ins (fun _ z => by cases z)
  jat := s _ _ x.jat (fun _ z => by cases z)
  dev := x.dev.ext s
  hb := s _ _ x.hb (fun _ z => by cases z)
  hd := s _ _ x.hd (fun _ z => by cases z)
  al := x.al
  hw := x.hw
  hz := x.hz
  ncj := x.ncj
  ncp := x.ncp
  njp := x.njp
  ndb := x.ndb
  nbB := x.nbB
  ndB := x.ndB
  kb := x.kb
  kd := x.kd
  sub := x.sub
  dv := x.dv
  v1 := fun n v h => by
    obtain ⟨t, e, ht⟩ := x.v1 n v h
    exact ⟨t, e, s _ _ ht (fun _ z => by cases z)⟩
  v2 := x.v2
  v3 := x.v3
  c1 := x.c1
theorem BAt.mv {g : CG} {vw pv : Fn} {eA : Addr} {ke : KVs} {od : List Key} {H H' : Hp} {l : List Addr} (x : BAt g vw pv eA ke od H) (m : Mv l H H') (n : eA ∉ l) : BAt g vw pv eA ke od H' where
  be := x.be
  he := m.2 _ _ x.he n
  neb := x.neb
  ned := x.ned
  neB := x.neB
  kr := x.kr
  e1 := fun n v h => by
    obtain ⟨u, t, ch, e, h1, h2, h3, h4⟩ := x.e1 n v h
    exact ⟨u, t, ch, e, m.keep _ _ h1, m.keep _ _ h2, h3, h4⟩
  e2 := x.e2
  e3 := x.e3
  e4 := x.e4
  e5 := x.e5
  e6 := x.e6
  nd := x.nd
  len := x.len
theorem BAt.ext {g : CG} {vw pv : Fn} {eA : Addr} {ke : KVs} {od : List Key} {H H' : Hp} (x : BAt g vw pv eA ke od H) (s : LamX.ExtN H H') : BAt g vw pv eA ke od H' where
  be := x.be
  he := s _ _ x.he (fun _ z => by cases z)
  neb := x.neb
  ned := x.ned
  neB := x.neB
  kr := x.kr
  e1 := fun n v h => by
    obtain ⟨u, t, ch, e, h1, h2, h3, h4⟩ := x.e1 n v h
    exact ⟨u, t, ch, e, s _ _ h1 (fun _ z => by cases z), s _ _ h2 (fun _ z => by cases z), h3, h4⟩
  e2 := x.e2
  e3 := x.e3
  e4 := x.e4
  e5 := x.e5
  e6 := x.e6
  nd := x.nd
  len := x.len
end K03
namespace K03
open PySem L2 HK
abbrev NL : List Str := ["script", "dice", "device", "capacity", "states", "now", "dead", "step", "sort", "told_now", "number", "changes", "later", "data", "large", "again", "found", "cache", "one", "k", "state"]
theorem scLaw : FnScope NL ["script"] (defScope sLaw) := ⟨rfl, rfl, rfl, by decide +kernel, rfl, by decide +kernel, by decide +kernel⟩
/-- what the law asks of the module -/
structure LTxt (P : Program) (w : World) (K : PySem.W.Frag) (mg : Str → Option Value) (base : Heap) (C CE CJ CJE CC g : Addr) : Prop where
  told : ToldTxt K mg CE CJE g
  e11 : PySem.W.exmOne K (.ref CE) (.ref CE) = some true
  e21 : PySem.W.exmOne K (.ref CJE) (.ref CE) = some false
  e22 : PySem.W.exmOne K (.ref CJE) (.ref CJE) = some true
  D : DTxt K mg C CE
  J : JCls K mg CJ CJE
  G : GTxt mg
  X : CCls K mg CC
  rounds : ∃ f fd, FnOk P w K mg base L2.CX0 2 f fd ["script", "most"] (spRounds K) ∧ mg "_law_rounds" = some (.ref f) ∧ PySem.W.keepIn K (.ref f) = true ∧ Binds K fd ["script", "most"] []
  roll : ∃ f fd, FnOk P w K mg base L2.CX0 1 f fd ["dice", "many"] spRoll ∧ mg "_law_roll" = some (.ref f) ∧ PySem.W.keepIn K (.ref f) = true ∧ Binds K fd ["dice", "many"] []
  blks : ∃ f fd, FnOk P w K mg base L2.CX0 3 f fd ["dice"] spBlks ∧ mg "_law_blocks" = some (.ref f) ∧ PySem.W.keepIn K (.ref f) = true ∧ Binds K fd ["dice"] []
  jinit : ∃ f fd, FnOk P w K mg base L2.CX0 1 f fd ["self", "device", "start", "count"] (spJInit CJ) ∧ Mk K CJ f ∧ Binds K fd ["self", "device", "start", "count"] []
  recov : ∃ f fd, FnOk P w K mg base (L2.CX P w) 5 f fd ["self"] (spRec CJ C CE) ∧ Meth K CJ "recover" f ∧ Binds K fd ["self"] []
  arm : ∃ f fd, FnOk P w K mg base L2.CX0 1 f fd ["self", "steps"] (spArmA C) ∧ Meth K C "arm" f ∧ Binds K fd ["self", "steps"] []
  read : ∃ f fd, FnOk P w K mg base (L2.CX P w) 2 f fd ["self", "number"] (spReadA C CE) ∧ Meth K C "read" f ∧ Binds K fd ["self", "number"] []
  rest : ∃ f fd, FnOk P w K mg base L2.CX0 3 f fd ["self", "choices"] (spRestA C) ∧ Meth K C "restarted" f ∧ Binds K fd ["self", "choices"] []
  init : ∃ f fd, FnOk P w K mg base L2.CX0 1 f fd ["self", "block_size", "count", "blocks"] (spInitA C) ∧ Mk K C f ∧ ∃ ds, Vals [V.non] ds ∧ Binds K fd ["self", "block_size", "count", "blocks"] ds
  cinit : ∃ f fd, FnOk P w K mg base L2.CX0 1 f fd ["self", "journal", "capacity"] (spCInit CC) ∧ Mk K CC f ∧ Binds K fd ["self", "journal", "capacity"] []
  rdB : ∃ f fd, FnOk P w K mg base L2.CX0 3 f fd ["self", "number"] (spRdB CC CJ C) ∧ Meth K CC "read_block" f ∧ Binds K fd ["self", "number"] []
  put : ∃ f fd, FnOk P w K mg base (L2.CX P w) 4 f fd ["self", "number", "data"] (spPut CC CJ C CJE) ∧ Meth K CC "put" f ∧ Binds K fd ["self", "number", "data"] []
  beg : ∃ f fd, FnOk P w K mg base (L2.CX P w) 1 f fd ["self"] (spBeg CC CJ C CJE) ∧ Meth K CC "begin" f ∧ Binds K fd ["self"] []
  end_ : ∃ f fd, FnOk P w K mg base (L2.CX P w) 8 f fd ["self"] (spEnd CC CJ C CE CJE) ∧ Meth K CC "end" f ∧ Binds K fd ["self"] []
  undo : ∃ f fd, FnOk P w K mg base L2.CX0 2 f fd ["self"] (spUndo CC CJ C) ∧ Meth K CC "undo" f ∧ Binds K fd ["self"] []
  sync : ∃ f fd, FnOk P w K mg base (L2.CX P w) 8 f fd ["self"] (spSync CC CJ C CE CJE) ∧ Meth K CC "sync" f ∧ Binds K fd ["self"] []
def forBody : Stmt → List Stmt
  | .For _ _ b _ _ => b
  | _ => []
def ifBody : Stmt → List Stmt
  | .If _ b _ _ => b
  | _ => []
abbrev lawBody : List Stmt := forBody ((defBody sLaw).getD 0 (.Pass ⟨0, 0, 0, 0⟩))
abbrev stepBody : List Stmt := forBody (lawBody.getD 4 (.Pass ⟨0, 0, 0, 0⟩))
abbrev syncBody : List Stmt := ifBody (stepBody.getD 1 (.Pass ⟨0, 0, 0, 0⟩))
abbrev readBody : List Stmt := ifBody (stepBody.getD 2 (.Pass ⟨0, 0, 0, 0⟩))
/-- between two steps -/
structure WSt (CC CJ C R PT D p c cx : Addr) (g : CG) (vw nf : Fn) (St Nd : Addr) (sts : List (Addr × Fn)) (dc : Dice) (i : Nat) (H : Hp) : Prop where
  lo : LO D R PT St Nd sts nf dc H
  cat : CAt CC CJ C c cx g vw H
  apt : Apt D R St Nd sts (ownJ c g)
  ep : g.p = p
  be : g.be = .non
  k5 : g.kd.length ≤ 5
  few : Few g.cap g.kd g.kb
  view : HomeIs vw nf
  has : ∃ s ∈ sts, HomeIs s.2 nf
  com : ∃ s ∈ sts, HomeIs s.2 g.d.f
  N : g.N ≤ 16 * i
  s0 : 0 ≤ g.sr
  s1 : g.sr ≤ i
  c0 : 0 ≤ g.com
  len : sts.length ≤ i + 1
def WS (CC CJ C R PT a D p : Addr) (i : Nat) (σ : L2.St) (H : Hp) : Prop :=
  ∃ (c cx : Addr) (g : CG) (vw nf : Fn) (St Nd : Addr) (sts : List (Addr × Fn)) (dc : Dice) (u7 u8 u9 u10 u11 u12 u13 u14 u15 u16 u18 u19 u20 : Option V),
    σ = [some (.ref a), some (.ref D), some (.ref p), some (.int g.cap), some (.ref St), some (.ref Nd), some (.bl false), u7, u8, u9, u10, u11, u12, u13, u14, u15, u16, some (.ref c), u18, u19, u20] ∧ WSt CC CJ C R PT D p c cx g vw nf St Nd sts dc i H
/-- the device has crashed -/
def WD (CC C R PT a D p : Addr) (σ : L2.St) (H : Hp) : Prop :=
  ∃ (c cx j : Addr) (cap com : Int) (bA dA : Addr) (be : V) (N : Nat) (d : AD) (dx B W : Addr) (g0 g1 nf : Fn) (St Nd : Addr) (sts : List (Addr × Fn)) (dc : Dice) (u7 u8 u9 u10 u11 u12 u13 u14 u15 u16 u18 u19 u20 : Option V),
    σ = [some (.ref a), some (.ref D), some (.ref p), some (.int cap), some (.ref St), some (.ref Nd), some (.bl true), u7, u8, u9, u10, u11, u12, u13, u14, u15, u16, some (.ref c), u18, u19, u20] ∧ LO D R PT St Nd sts nf dc H ∧
    H c = some (.ins CC cx (fsC j cap bA dA be com)) ∧ 0 ≤ com ∧ DevS C H p dx B W N d ∧ N ≤ 700 ∧ CrashOk g0 g1 d ∧ (∃ s ∈ sts, HomeIs s.2 g0) ∧ (∃ s ∈ sts, HomeIs s.2 g1) ∧ D ≠ W ∧ sts.length ≤ 40
theorem CAt.own_some {CC CJ C c cx : Addr} {g : CG} {vw : Fn} {H : Hp} (x : CAt CC CJ C c cx g vw H) : ∀ b ∈ ownJ c g, ∃ o, H b = some o := fun b hb => by
  obtain ⟨kB, hB⟩ := x.nB
  obtain ⟨kW, hW⟩ := x.nW
  simp only [ownJ, List.mem_cons, List.not_mem_nil, or_false] at hb
  rcases hb with h | h | h | h | h | h | h
  · exact ⟨_, by rw [h]; exact x.ins⟩
  · exact ⟨_, by rw [h]; exact x.jat⟩
  · exact ⟨_, by rw [h]; exact x.dev.ins⟩
  · exact ⟨_, by rw [h]; exact hB⟩
  · exact ⟨_, by rw [h]; exact hW⟩
  · exact ⟨_, by rw [h]; exact x.hb⟩
  · exact ⟨_, by rw [h]; exact x.hd⟩
theorem CAt.not_new {CC CJ C c cx : Addr} {g : CG} {vw : Fn} {H : Hp} (x : CAt CC CJ C c cx g vw H) {a : Addr} (n : H a = none) : a ∉ ownJ c g := fun h => by
  obtain ⟨o, e⟩ := x.own_some a h
  rw [n] at e; cases e
theorem CAt.notD {CC CJ C c cx : Addr} {g : CG} {vw : Fn} {H H' : Hp} {D : Addr} {xs : List V} (x : CAt CC CJ C c cx g vw H) (hD : H D = some (.lst xs)) (n : D ∉ ownJ c g) (s : SameX D H H') : CAt CC CJ C c cx g vw H' :=
  x.mv (Mv.sameX (by rw [hD]; exact Soft.lst) s) fun b hb e => n (by rw [List.mem_singleton.mp e] at hb; exact hb)
/-- a roll of the dice -/
theorem WSt.rolled {CC CJ C R PT D p c cx : Addr} {g : CG} {vw nf : Fn} {St Nd : Addr} {sts : List (Addr × Fn)} {dc dc' : Dice} {i : Nat} {H H' : Hp} (x : WSt CC CJ C R PT D p c cx g vw nf St Nd sts dc i H) (s : SameX D H H') (h : H' D = some (.lst dc'.vs)) : WSt CC CJ C R PT D p c cx g vw nf St Nd sts dc' i H' :=
  { x with lo := x.lo.rolled s h, cat := x.cat.notD x.lo.dice x.apt.D s }
theorem WSt.ext {CC CJ C R PT D p c cx : Addr} {g : CG} {vw nf : Fn} {St Nd : Addr} {sts : List (Addr × Fn)} {dc : Dice} {i : Nat} {H H' : Hp} (x : WSt CC CJ C R PT D p c cx g vw nf St Nd sts dc i H) (s : LamX.ExtN H H') (t : LamX.Tabs [(PT, lamQ)] H') : WSt CC CJ C R PT D p c cx g vw nf St Nd sts dc i H' :=
  { x with lo := x.lo.ext s t, cat := x.cat.ext s }
theorem WSt.same {CC CJ C R PT D p c cx : Addr} {g : CG} {vw nf : Fn} {St Nd : Addr} {sts : List (Addr × Fn)} {dc : Dice} {i : Nat} {H H' : Hp} (x : WSt CC CJ C R PT D p c cx g vw nf St Nd sts dc i H) (s : Same H H') : WSt CC CJ C R PT D p c cx g vw nf St Nd sts dc i H' :=
  { x with lo := x.lo.same s, cat := x.cat.same s }
section
variable {P : Program} {w : World} {K : PySem.W.Frag} {mg : Str → Option Value} {base : Heap} {C CE CJ CJE CC g0 : Addr}
abbrev LX (P : Program) (w : World) (K : PySem.W.Frag) (mg : Str → Option Value) (base : Heap) (f c : Addr) (A : Around) (outer : List Env) (s : Shared) (H : Hp) (E : XK) : Cx := (cxOf L2.CX0 P w K mg base NL "law" (defScope sLaw) f (.ref c) A outer s H E).nox
theorem sync_ok (L : LTxt P w K mg base C CE CJ CJE CC g0) {f c0 PT : Addr} {A : Around} {outer : List Env} {s : Shared} {H0 : Hp} {E0 : XK} (TB : LamX.TabB base mg c0 PT) (hr : Room 10 (LX P w K mg base f c0 A outer s H0 E0).A) :
    ∃ t, PSs (LX P w K mg base f c0 A outer s H0 E0) syncBody t ∧ ∀ (R a D p : Addr) (Dn : Ends) (i : Nat) (σ : L2.St) (H : Hp), i < 30 → WS CC CJ C R PT a D p i σ H → (∀ σ' H', WS CC CJ C R PT a D p (i + 1) σ' H' → Dn.ct σ' H') → (∀ σ' H', WD CC C R PT a D p σ' H' → Dn.bk σ' H') → t Dn σ H := by
  obtain ⟨fS, dS, FS, mS, bS⟩ := L.sync
  have T := L.D
  have X := L.X
  have l11 := L.e11
  refine ⟨_, pss_cons (ps_set (i := 9) scLaw.nd rfl (Or.inl rfl) (pe_told (k := 8) L.told TB rfl (by rfl) hr (LamX.lamS_by (sc := defScope sLaw) (by decide +kernel)) rfl (fun _ _ _ _ _ => rfl)
        (fun A1 o1 s1 H1 E1 f1 c1 hr7 => pe_meth0 (pv 17) X.cl mS FS hr7 bS .nil (passes_call (takes_of rfl rfl rfl rfl) (fun _ _ _ _ h => h)))))
    (pss_cons (ps_if (pt_cmpR op_eq (pv 9) pe_str (nomark _)) (pss_cons (ps_set (i := 6) scLaw.nd rfl (Or.inl rfl) pe_bl) (pss_one ps_break)) pss_nil)
    (pss_cons (ps_set (i := 4) scLaw.nd rfl (Or.inl rfl) (pe_lst (pa_cons (pv 5) pa_nil)))
    (pss_one ps_continue))), ?_⟩
  intro R a D p Dn i σ H hi hW hct hbk
  obtain ⟨c, cx, g, vw, nf, St, Nd, sts, dc, u7, u8, u9, u10, u11, u12, u13, u14, u15, u16, u18, u19, u20, rfl, x⟩ := hW
  refine ⟨x.lo.tabs, fun H1 e1 t1 => ?_⟩
  have x1 := x.ext e1 t1
  clear x e1 t1
  have hN := x1.N
  have hs0 := x1.s0
  have hs1 := x1.s1
  refine ⟨_, rfl, c, cx, _, rfl, x1.cat.ins, rfl, c, cx, g, vw, rfl, x1.cat, by omega, by omega, by omega, x1.few, .inr ⟨x1.be, x1.k5, fun H2 g' f2 nx hbe x2 k5 fw hm => ?_, fun H2 W' N' d' f2 nW hN' D2 ck hc => ?_⟩⟩
  · -- all is kept
    have l2 := x1.lo.mv (Fr.mv f2 x1.cat.soft) x1.apt
    have a2 := x1.apt.nxt x1.lo nx
    refine ⟨_, rfl, rfl, _, rfl, ite2 (fun z => absurd z (by decide)) (fun _ => ?_)⟩
    refine ⟨_, rfl, by show 1 ≤ sizeLine; decide, fun l nl => ?_⟩
    have s3 : Same H2 (upd H2 l (.lst [.ref Nd])) := same_upd nl
    have hl3 : (upd H2 l (.lst [.ref Nd])) l = some (.lst [.ref Nd]) := upd_same
    generalize upd H2 l (.lst [.ref Nd]) = H3 at s3 hl3 ⊢
    have l3 := l2.same s3
    have nld := x2.not_new nl
    refine hct _ _ ⟨c, cx, g', vw, nf, l, Nd, [(Nd, nf)], dc, _, _, _, _, _, _, _, _, _, _, _, _, _, by rw [nx.ec]; rfl, ⟨⟨l3.dice, l3.row, l3.tabs, hl3, (fun s hs => by rw [List.mem_singleton.mp hs]; exact l3.now), l3.now, l3.nDR, ne_of_none l2.dice nl, ne_of_none l2.row nl⟩, x2.same s3, ⟨a2.D, a2.R, nld, a2.N, (fun s hs => by rw [List.mem_singleton.mp hs]; exact a2.N)⟩, nx.ep.trans x1.ep, hbe, k5, fw, x1.view, ⟨(Nd, nf), by simp, HomeIs.refl _⟩, ⟨(Nd, nf), by simp, (hm.trans x1.view).symm⟩, ?_, ?_, ?_, ?_, by show 1 ≤ _; omega⟩⟩
    · have := nx.leN; omega
    · have := nx.s0; omega
    · have := nx.s1; omega
    · have := nx.com; have := x1.c0; omega
  · -- the device crashes
    obtain ⟨bA, dA, be, hc⟩ := hc
    have l2 := x1.lo.mv (Fr.mv f2 x1.cat.soft) x1.apt
    refine ⟨true, l11, fun _ => ?_, (fun z => by cases z)⟩
    refine ⟨_, rfl, rfl, _, rfl, iteD rfl ?_⟩
    obtain ⟨s1, hs1, e1⟩ := x1.has
    obtain ⟨s2, hs2, e2⟩ := x1.com
    have hlen := x1.len
    refine hbk _ _ ⟨c, cx, g.j, g.cap, g.com, bA, dA, be, N', d', g.dx, g.B, W', g.d.f, vw, nf, St, Nd, sts, dc, _, _, _, _, _, _, _, _, _, _, _, _, _, rfl, l2, hc, x1.c0, by rw [← x1.ep]; exact D2, by omega, ck, ⟨s2, hs2, e2⟩, ⟨s1, hs1, e1.trans x1.view.symm⟩, nW _ _ x1.lo.dice x1.apt.D, by omega⟩
end
end K03
namespace K03
open PySem L2 HK
/-- the bytes that a dict of the law's tells, zeros else -/
theorem LD.get {H : Hp} {k : Addr} {f : Fn} (x : LD H k f) : ∃ kvs, H k = some (.dK kvs) ∧ ∀ (H' : Hp) (z : Addr), Same H H' → H' z = some (.tup (zeros ((64 : Nat) : Int))) → ∀ n, ∃ r, (valV kvs (.inl n)).getD (.ref z) = .ref r ∧ H' r = some (tupI (f n)) := by
  obtain ⟨kvs, h1, h2, h3⟩ := x
  exact ⟨kvs, h1, fun H' z s hz n => (h3.keep (Keep.of s)).get hz n⟩
theorem zeros_at {H : Hp} {z : Addr} : (upd H z (.tup (List.replicate (64 : Int).toNat [V.int 0]).flatten)) z = some (.tup (zeros ((64 : Nat) : Int))) := by
  rw [upd_same, flat_zeros]
  rfl
section
variable {P : Program} {w : World} {K : PySem.W.Frag} {mg : Str → Option Value} {base : Heap} {C CE CJ CJE CC g0 : Addr}
/-- read_block within the law -/
theorem WSt.rd {CC CJ C R PT D p c cx : Addr} {g : CG} {vw nf : Fn} {St Nd : Addr} {sts : List (Addr × Fn)} {dc : Dice} {i : Nat} {H H' : Hp} {kb' : KVs} (x : WSt CC CJ C R PT D p c cx g vw nf St Nd sts dc i H) (s : SameX g.bA H H') (y : CAt CC CJ C c cx { g with kb := kb' } vw H') (fw : Few g.cap g.kd kb') : WSt CC CJ C R PT D p c cx { g with kb := kb' } vw nf St Nd sts dc i H' :=
  ⟨x.lo.mv (Mv.sameX (by rw [x.cat.hb]; exact Soft.dK) s) (x.apt.sub fun b hb => by rw [List.mem_singleton.mp hb]; simp [ownJ]), y, x.apt, x.ep, x.be, x.k5, fw, x.view, x.has, x.com, x.N, x.s0, x.s1, x.c0, x.len⟩
theorem read_ok (L : LTxt P w K mg base C CE CJ CJE CC g0) {f c0 : Addr} {A : Around} {outer : List Env} {s : Shared} {H0 : Hp} {E0 : XK} (hr : Room 10 (LX P w K mg base f c0 A outer s H0 E0).A) :
    ∃ t, PSs (LX P w K mg base f c0 A outer s H0 E0) readBody t ∧ ∀ (R PT a D p : Addr) (Dn : Ends) (i : Nat) (σ : L2.St) (H : Hp), i < 30 → WS CC CJ C R PT a D p i σ H → (∀ σ' H', WS CC CJ C R PT a D p (i + 1) σ' H' → Dn.ct σ' H') → t Dn σ H := by
  obtain ⟨fR, dR, FR, mR, bR⟩ := L.rdB
  obtain ⟨f3, d3, F3, m3, k3, b3⟩ := L.roll
  have T := L.D
  have X := L.X
  have rR := FR.mono (show 3 ≤ 10 by decide)
  have r3 := F3.mono (show 1 ≤ 10 by decide)
  refine ⟨_, pss_cons (ps_set (i := 10) scLaw.nd rfl (Or.inl rfl) (pe_op op_add pe_int (pe_call r3 hr (by rfl) m3 k3 b3 .nil pass0 (pa_cons (pv 1) (pa_cons pe_int pa_nil)))))
    (pss_cons (ps_if (pt_cmpR (op_neD hr.units) (pe_meth (pv 17) X.cl mR rR hr bR .nil pass0 (pa_cons (pv 10) pa_nil)) (pe_dget2 (hu_of hr) (pv 5) (pv 10) (pe_op op_repT (pe_tup (pa_cons pe_int pa_nil)) pe_int) ⟨rfl, rfl, rfl, rfl⟩) (nomark _)) (pss_one (ps_ret pe_bl)) pss_nil)
    (pss_one ps_continue)), ?_⟩
  intro R PT a D p Dn i σ H hi hW hct
  obtain ⟨c, cx, g, vw, nf, St, Nd, sts, dc, u7, u8, u9, u10, u11, u12, u13, u14, u15, u16, u18, u19, u20, rfl, x⟩ := hW
  obtain ⟨q0, q1⟩ := roll_range dc (m := 7) (by decide)
  refine ⟨_, rfl, D, dc, 7, rfl, x.lo.dice, by decide, by decide, ?_⟩
  have x1 := x.rolled (H' := upd H D (.lst (roll dc 7).2.vs)) SameX.upd upd_same
  generalize upd H D (.lst (roll dc 7).2.vs) = H1 at x1 ⊢
  clear x
  have hN := x1.N
  refine ⟨_, _, rfl, rfl, ?_⟩
  refine ⟨_, rfl, c, cx, _, rfl, x1.cat.ins, rfl, _, rfl, c, cx, g, vw, _, rfl, x1.cat, by omega, by omega, by omega, fun H2 kb' t s2 y2 fw hv ht => ?_⟩
  have x2 := x1.rd s2 y2 fw
  obtain ⟨kvs, hk, get⟩ := x2.lo.now.get
  refine ⟨_, rfl, Nd, rfl, .inl ⟨_, .inl hk⟩, _, rfl, by show 1 ≤ sizeLine; decide, fun o no => ?_⟩
  have s3 : Same H2 (upd H2 o (.tup [.int 0])) := same_upd no
  refine ⟨o, 64, [.int 0], rfl, rfl, SqT.of upd_same, (fun z => by cases z), by decide, by decide, by decide, fun z nz => ?_⟩
  have s4 := s3.trans (same_upd (o := .tup (List.replicate (64 : Int).toNat [V.int 0]).flatten) nz)
  have hz := zeros_at (H := upd H2 o (.tup [.int 0])) (z := z)
  generalize upd (upd H2 o (.tup [.int 0])) z (.tup (List.replicate (64 : Int).toNat [V.int 0]).flatten) = H4 at s4 hz ⊢
  obtain ⟨r, er, hr4⟩ := get H4 z s4 hz (8 + (roll dc 7).1)
  refine ⟨_, dGet_i (k := .inl (8 + (roll dc 7).1)) (s4 _ _ hk), ?_⟩
  rw [er]
  refine ne_tupI (SqT.of (s4 _ _ ht)) (SqT.of hr4) ⟨_, rfl, ?_⟩
  rw [x2.view _ (by omega) (by omega), decide_eq_true rfl]
  have x4 := x2.same s4
  have s1' := x4.s1
  have len' := x4.len
  exact iteF (hct _ _ ⟨c, cx, { g with kb := kb' }, vw, nf, St, Nd, sts, _, _, _, _, _, _, _, _, _, _, _, _, _, _, rfl, { x4 with N := Nat.le_trans x4.N (by omega), s1 := by omega, len := by omega }⟩)
end
end K03
namespace K03
open PySem L2 HK
abbrev midBody : List Stmt := (stepBody.drop 3).take 5
noncomputable def numK (gs : List Rw) : List Key := (gs.map fun q => (Sum.inl q.1.2.1 : Key)).foldl addK []
theorem numK_snoc (gs : List Rw) (q : Rw) : numK (gs ++ [q]) = addK (numK gs) (.inl q.1.2.1) := by
  unfold numK
  rw [List.map_append, List.foldl_append]
  rfl
/-- an operation is open -/
structure WMt (CC CJ C R PT D p c cx : Addr) (g : CG) (vm vw nf lf : Fn) (eA : Addr) (ke : KVs) (od : List Key) (St Nd Ch Lt : Addr) (gs : List Rw) (n : Nat) (sts : List (Addr × Fn)) (dc : Dice) (i : Nat) (H : Hp) : Prop where
  lo : LO D R PT St Nd sts nf dc H
  cat : CAt CC CJ C c cx g vm H
  bat : BAt g vm vw eA ke od H
  apt : Apt D R St Nd sts (ownJ c g ++ [eA])
  ep : g.p = p
  few : Few g.cap g.kd g.kb
  view : HomeIs vw nf
  has : ∃ s ∈ sts, HomeIs s.2 nf
  com : ∃ s ∈ sts, HomeIs s.2 g.d.f
  N : g.N ≤ 16 * i
  s0 : 0 ≤ g.sr
  s1 : g.sr ≤ i
  c0 : 0 ≤ g.com
  len : sts.length ≤ i + 1
  rows : RowsAt H Ch gs
  okg : okGrp gs
  lg : gs.length ≤ 8
  later : LD H Lt lf
  lview : HomeIs vm lf
  keys : keys ke = numK (gs.take n)
  nCh : Ch ∉ ownJ c g ++ [eA]
  nLt : Lt ∉ ownJ c g ++ [eA]
  nDL : Apt D R St Nd sts [Lt]
  neL : Ch ≠ Lt
section
variable {CC CJ C R PT D p c cx : Addr} {g : CG} {vm vw nf lf : Fn} {eA : Addr} {ke : KVs} {od : List Key} {St Nd Ch Lt : Addr} {gs : List Rw} {n : Nat} {sts : List (Addr × Fn)} {dc : Dice} {i : Nat} {H H' : Hp}
theorem WMt.ext (x : WMt CC CJ C R PT D p c cx g vm vw nf lf eA ke od St Nd Ch Lt gs n sts dc i H) (s : LamX.ExtN H H') (t : LamX.Tabs [(PT, lamQ)] H') : WMt CC CJ C R PT D p c cx g vm vw nf lf eA ke od St Nd Ch Lt gs n sts dc i H' :=
  { x with lo := x.lo.ext s t, cat := x.cat.ext s, bat := x.bat.ext s, rows := x.rows.ext s, later := x.later.ext s }
theorem WMt.same (x : WMt CC CJ C R PT D p c cx g vm vw nf lf eA ke od St Nd Ch Lt gs n sts dc i H) (s : Same H H') : WMt CC CJ C R PT D p c cx g vm vw nf lf eA ke od St Nd Ch Lt gs n sts dc i H' :=
  { x with lo := x.lo.same s, cat := x.cat.same s, bat := x.bat.same s, rows := x.rows.same s, later := x.later.same s }
end
def WM (CC CJ C R PT a D p : Addr) (i : Nat) (σ : L2.St) (H : Hp) : Prop :=
  ∃ (c cx : Addr) (g : CG) (vm vw nf lf : Fn) (eA : Addr) (ke : KVs) (od : List Key) (St Nd Ch Lt : Addr) (gs : List Rw) (sts : List (Addr × Fn)) (dc : Dice) (sort : Int) (u7 u9 u10 u13 u14 u15 u16 u18 u19 u20 : Option V),
    σ = [some (.ref a), some (.ref D), some (.ref p), some (.int g.cap), some (.ref St), some (.ref Nd), some (.bl false), u7, some (.int sort), u9, u10, some (.ref Ch), some (.ref Lt), u13, u14, u15, u16, some (.ref c), u18, u19, u20] ∧
    WMt CC CJ C R PT D p c cx g vm vw nf lf eA ke od St Nd Ch Lt gs gs.length sts dc i H
section
variable {P : Program} {w : World} {K : PySem.W.Frag} {mg : Str → Option Value} {base : Heap} {C CE CJ CJE CC g0 : Addr}
theorem mid_ok (L : LTxt P w K mg base C CE CJ CJE CC g0) {f c0 PT : Addr} {A : Around} {outer : List Env} {s : Shared} {H0 : Hp} {E0 : XK} (TB : LamX.TabB base mg c0 PT) (hr : Room 10 (LX P w K mg base f c0 A outer s H0 E0).A) :
    ∃ t, PSs (LX P w K mg base f c0 A outer s H0 E0) midBody t ∧ ∀ (R a D p : Addr) (Dn : Ends) (i : Nat) (σ : L2.St) (H : Hp) (sort : Int), i < 30 → WS CC CJ C R PT a D p i σ H → σ[8]? = some (some (.int sort)) → (∀ σ' H', WM CC CJ C R PT a D p i σ' H' → σ'[8]? = some (some (.int sort)) → Dn.nx σ' H') → t Dn σ H := by
  obtain ⟨fS, dS, FS, mS, bS⟩ := L.sync
  obtain ⟨fB, dB, FB, mB, bB⟩ := L.beg
  obtain ⟨fP, dP, FP, mP, bP⟩ := L.put
  obtain ⟨fK, dK, FK, mK, kK, bK⟩ := L.blks
  have T := L.D
  have X := L.X
  have l21 := L.e21
  have l22 := L.e22
  have rK := FK.mono (show 3 ≤ 10 by decide)
  have rP8 := FP.mono (show 4 ≤ 8 by decide)
  have rP := FP.mono (show 4 ≤ 10 by decide)
  have rB8 := FB.mono (show 1 ≤ 8 by decide)
  have rB := FB.mono (show 1 ≤ 10 by decide)
  refine ⟨_, pss_cons (ps_par (i := 11) (j := 12) rfl scLaw.nd rfl rfl (by decide) rfl rfl (pa_cons (pe_call rK hr (by rfl) mK kK bK .nil pass0 (pa_cons (pv 1) pa_nil)) (pa_cons (pe_callTy call_dictD (by rfl) T.dict PyProof.Rows.Boot.«dict» (pa_cons (pv 5) pa_nil)) pa_nil)) (by rfl))
    (pss_cons (ps_if (pt_cmpR op_ne (pe_told (k := 8) L.told TB rfl (by rfl) hr (LamX.lamS_by (sc := defScope sLaw) (by decide +kernel)) rfl (fun _ _ _ _ _ => rfl)
        (fun A1 o1 s1 H1 E1 f1 c1 hr7 => pe_meth (pv 17) X.cl mP rP8 hr7 bP .nil (passes_call (takes_of rfl rfl rfl rfl) (fun _ _ _ _ h => h)) (pa_cons pe_int (pa_cons (pe_op (r := rRepT K) (by exact op_repT) (pe_tup (pa_cons pe_int pa_nil)) pe_int) pa_nil)))) pe_str (nomark _)) (pss_one (ps_ret pe_bl)) pss_nil)
    (pss_cons (ps_expr (pe_meth0 (pv 17) X.cl mB rB hr bB .nil passL))
    (pss_cons (ps_if (PW.pt (pw_or (pt_cmpR op_ne (pe_told (k := 8) L.told TB rfl (by rfl) hr (LamX.lamS_by (sc := defScope sLaw) (by decide +kernel)) rfl (fun _ _ _ _ _ => rfl)
        (fun A1 o1 s1 H1 E1 f1 c1 hr7 => pe_meth0 (pv 17) X.cl mB rB8 hr7 bB .nil (passes_call (takes_of rfl rfl rfl rfl) (fun _ _ _ _ h => h)))) pe_str (nomark _))
        (pw_or1 (pt_cmpR op_ne (pe_told (k := 8) L.told TB rfl (by rfl) hr (LamX.lamS_by (sc := defScope sLaw) (by decide +kernel)) rfl (fun _ _ _ _ _ => rfl)
        (fun A1 o1 s1 H1 E1 f1 c1 hr7 => pe_meth0 (pv 17) X.cl mS FS hr7 bS .nil (passes_call (takes_of rfl rfl rfl rfl) (fun _ _ _ _ h => h)))) pe_str (nomark _))))) (pss_one (ps_ret pe_bl)) pss_nil)
    (pss_one (ps_for PassesOwn.never rfl (pi_list (pv 11)) (pg_tup rfl (pgs_cons (pg_name (i := 10) scLaw.nd rfl (Or.inl rfl)) (pgs_cons (pg_name (i := 13) scLaw.nd rfl (Or.inl rfl)) pgs_nil)))
      (pss_cons (ps_expr (pe_meth (pv 17) X.cl mP rP hr bP .nil passL (pa_cons (pv 10) (pa_cons (pv 13) pa_nil))))
      (pss_one (ps_dput (hu_of hr) (pv 12) (pv 10) (pv 13) rfl)))))))), ?_⟩
  intro R a D p Dn i σ H sort hi hW hsort hnx
  obtain ⟨c, cx, g, vw, nf, St, Nd, sts, dc, u7, u8, u9, u10, u11, u12, u13, u14, u15, u16, u18, u19, u20, rfl, x⟩ := hW
  obtain rfl : u8 = some (.int sort) := Option.some.inj hsort
  -- changes, later
  refine ⟨_, rfl, D, dc, rfl, x.lo.dice, fun H1 Ch gs dc1 s1 hd1 nC nCD R1 okg lg => ?_⟩
  have nCo : Ch ∉ ownJ c g := x.cat.not_new nC
  have x1 := x.rolled s1 hd1
  clear x s1 hd1 nC
  obtain ⟨kvs, hk, krn, ctn⟩ := id x1.lo.now
  refine ⟨_, rfl, Nd, kvs, rfl, .inl hk, fun Lt nL => ?_⟩
  have s2 : Same H1 (upd H1 Lt (.dK kvs)) := same_upd nL
  have nLo : Lt ∉ ownJ c g := x1.cat.not_new nL
  have aL : Apt D R St Nd sts [Lt] := Apt.of_none x1.lo nL
  have nCL : Ch ≠ Lt := ne_of_none R1.lst nL
  have x2 := x1.same s2
  have R2 := R1.same s2
  have l2 : LD (upd H1 Lt (.dK kvs)) Lt nf := ⟨kvs, upd_same, krn, ctn.keep (Keep.of s2)⟩
  generalize upd H1 Lt (.dK kvs) = H2 at s2 x2 R2 l2 ⊢
  clear hk krn ctn nL x1 R1 s2
  refine ⟨_, _, rfl, ?_⟩
  have hN := x2.N
  have hs0 := x2.s0
  have hs1 := x2.s1
  -- put without an operation
  refine ⟨x2.lo.tabs, fun H3 e3 t3 => ?_⟩
  have x3 := x2.ext e3 t3
  have R3 := R2.ext e3
  have l3 := l2.ext e3
  clear x2 R2 l2 e3 t3
  refine ⟨_, rfl, c, cx, _, rfl, x3.cat.ins, rfl, by show 1 ≤ sizeLine; decide, fun o no => ?_⟩
  have s4 : Same H3 (upd H3 o (.tup [.int 0])) := same_upd no
  refine ⟨o, 64, [.int 0], rfl, rfl, SqT.of upd_same, (fun z => by cases z), by decide, by decide, by decide, fun z nz => ?_⟩
  have s5 := s4.trans (same_upd (o := .tup (List.replicate (64 : Int).toNat [V.int 0]).flatten) nz)
  have hz : (upd (upd H3 o (.tup [.int 0])) z (.tup (List.replicate (64 : Int).toNat [V.int 0]).flatten)) z = some (tupI zero64) := by
    rw [zeros_at]
    rfl
  generalize upd (upd H3 o (.tup [.int 0])) z (.tup (List.replicate (64 : Int).toNat [V.int 0]).flatten) = H5 at s5 hz ⊢
  have x5 := x3.same s5
  have R5 := R3.same s5
  have l5 := l3.same s5
  clear x3 R3 l3 s4 s5 no nz
  refine ⟨c, cx, g, vw, 8, z, zero64, rfl, x5.cat, by omega, by decide, by decide, hz, rfl, .inl ⟨x5.be, ?_⟩⟩
  refine ⟨false, l21, (fun z => by cases z), fun _ => ⟨true, l22, fun _ => ?_, (fun z => by cases z)⟩⟩
  refine ⟨rfl, _, rfl, ite2 (fun z => absurd z (by decide +kernel)) (fun _ => ?_)⟩
  -- begin
  refine ⟨_, rfl, c, cx, _, rfl, x5.cat.ins, rfl, c, cx, g, vw, rfl, x5.cat, .inr ⟨x5.be, x5.k5, fun H6 eA nE f6 c6 b6 => ?_⟩⟩
  have sc : ∀ b ∈ [c], Soft (H5 b) := fun b hb => by rw [List.mem_singleton.mp hb, x5.cat.ins]; exact Soft.ins
  have m6 : Mv [c] H5 H6 := Fr.mv f6 sc
  have nCc : Ch ≠ c := ne_of R5.lst x5.cat.ins (by intro z; cases z)
  have y6 : WMt CC CJ C R PT D p c cx { g with be := .ref eA } vw vw nf nf eA [] (keys g.kd) St Nd Ch Lt gs 0 sts dc1 i H6 :=
    { lo := x5.lo.mv m6 (x5.apt.sub fun b hb => by rw [List.mem_singleton.mp hb]; simp [ownJ])
      cat := c6
      bat := b6
      apt := x5.apt.app (Apt.of_none x5.lo nE)
      ep := x5.ep
      few := x5.few
      view := x5.view
      has := x5.has
      com := x5.com
      N := x5.N
      s0 := x5.s0
      s1 := x5.s1
      c0 := x5.c0
      len := x5.len
      rows := R5.mv m6 (by simp [nCc])
      okg := okg
      lg := lg
      later := l5.fr m6 (by
        obtain ⟨k, h, _⟩ := l5
        simp [ne_of h x5.cat.ins (by intro z; cases z)])
      lview := x5.view
      keys := by rw [List.take_zero]; rfl
      nCh := by
        simp only [List.mem_append, List.mem_singleton, not_or]
        exact ⟨nCo, ne_of_none R5.lst nE⟩
      nLt := by
        simp only [List.mem_append, List.mem_singleton, not_or]
        obtain ⟨k, h, _⟩ := l5
        exact ⟨nLo, ne_of_none h nE⟩
      nDL := aL
      neL := nCL }
  clear x5 R5 l5 sc m6 f6 c6 b6 nE hz
  -- neither begun again nor kept meanwhile
  refine ⟨y6.lo.tabs, fun H7 e7 t7 => ?_⟩
  have y7 := y6.ext e7 t7
  clear y6 e7 t7
  refine ⟨_, rfl, c, cx, _, rfl, y7.cat.ins, rfl, c, cx, _, vw, rfl, y7.cat, .inl ⟨⟨eA, rfl⟩, ?_⟩⟩
  refine ⟨false, l21, (fun z => by cases z), fun _ => ⟨true, l22, fun _ => ?_, (fun z => by cases z)⟩⟩
  refine ⟨rfl, _, rfl, ite2 (fun z => absurd z (by decide +kernel)) (fun _ => ?_)⟩
  refine ⟨y7.lo.tabs, fun H8 e8 t8 => ?_⟩
  have y8 := y7.ext e8 t8
  clear y7 e8 t8
  refine ⟨_, rfl, c, cx, _, rfl, y8.cat.ins, rfl, c, cx, _, vw, rfl, y8.cat, by dsimp only; omega, by dsimp only; omega, by dsimp only; omega, y8.few, .inl ⟨⟨eA, rfl⟩, ?_⟩⟩
  refine ⟨false, l21, (fun z => by cases z), fun _ => ⟨true, l22, fun _ => ?_, (fun z => by cases z)⟩⟩
  refine ⟨rfl, _, rfl, ite2 (fun z => absurd z (by decide +kernel)) (fun _ => ?_)⟩
  -- the changes
  refine ⟨_, rfl, Ch, rfl, ⟨_, SqL.of y8.rows.lst⟩, ?_⟩
  refine for_list (K := K) (a := Ch) (xs := gs.map fun q => V.ref q.1.1) (fun n σ H' => ∃ g' vm lf ke u10 u13, σ = [some (.ref a), some (.ref D), some (.ref p), some (.int g.cap), some (.ref St), some (.ref Nd), some (.bl false), u7, some (.int sort), u9, u10, some (.ref Ch), some (.ref Lt), u13, u14, u15, u16, some (.ref c), u18, u19, u20] ∧ g'.cap = g.cap ∧
      WMt CC CJ C R PT D p c cx g' vm vw nf lf eA ke (keys g.kd) St Nd Ch Lt gs n sts dc1 i H') ⟨_, _, _, _, u10, u13, rfl, rfl, y8⟩ (fun n σ H' hn q => ?_) (fun n z σ H' hx q => ?_) (fun σ H' q => ?_)
  · obtain ⟨_, _, _, _, _, _, _, _, y⟩ := q
    exact SqL.of y.rows.lst
  · obtain ⟨g', vm, lf, ke, v10, v13, rfl, ecap, y⟩ := q
    rw [List.getElem?_map] at hx
    obtain ⟨q, hq, rfl⟩ := Option.map_eq_some_iff.mp hx
    have hm := List.mem_of_getElem? hq
    obtain ⟨by64, n8, n15⟩ := okg q hm
    have yN := y.N
    refine ⟨q.1.1, _, rfl, SqT.of (y.rows.tup q hm), rfl, _, _, rfl, _, _, rfl, rfl, ?_⟩
    refine ⟨_, rfl, c, cx, _, rfl, y.cat.ins, rfl, _, rfl, _, rfl, c, cx, g', vm, q.1.2.1, q.1.2.2, q.2, rfl, y.cat, by omega, n8, n15, y.rows.dat q hm, by64.len, .inr ⟨vw, eA, ke, _, y.bat, fun H1' kb' kd' ke' f1 x1' b1' kk fw => ?_⟩⟩
    have sof : ∀ b ∈ [g'.bA, g'.dA, eA], Soft (H' b) := fun b hb => by
      simp only [List.mem_cons, List.not_mem_nil, or_false] at hb
      rcases hb with e | e | e
      · rw [e, y.cat.hb]; exact Soft.dK
      · rw [e, y.cat.hd]; exact Soft.dK
      · rw [e, y.bat.he]; exact Soft.dK
    have m1 : Mv [g'.bA, g'.dA, eA] H' H1' := Fr.mv f1 sof
    have sub1 : ∀ b ∈ [g'.bA, g'.dA, eA], b ∈ ownJ c g' ++ [eA] := fun b hb => by
      simp only [List.mem_cons, List.not_mem_nil, or_false] at hb
      rcases hb with e | e | e <;> rw [e] <;> simp [ownJ]
    have lo1 := y.lo.mv m1 (y.apt.sub sub1)
    have R1 := y.rows.mv m1 (fun z => y.nCh (sub1 _ z))
    have L1 := y.later.fr m1 (fun z => y.nLt (sub1 _ z))
    obtain ⟨kl, hkl, krl, ctl⟩ := L1
    refine ⟨_, rfl, _, rfl, _, rfl, Lt, _, rfl, DPut.k (k := Sum.inl q.1.2.1) hkl (by have := krl.len; rw [sizeLine_eq]; omega), ?_⟩
    have sx : SameX Lt H1' (upd H1' Lt (.dK (putK kl (Sum.inl q.1.2.1) (.ref q.1.2.2)))) := SameX.upd
    have hL2 : (upd H1' Lt (.dK (putK kl (Sum.inl q.1.2.1) (.ref q.1.2.2)))) Lt = some (.dK (putK kl (Sum.inl q.1.2.1) (.ref q.1.2.2))) := upd_same
    generalize upd H1' Lt (.dK (putK kl (Sum.inl q.1.2.1) (.ref q.1.2.2))) = H2' at sx hL2 ⊢
    have m2 : Mv [Lt] H1' H2' := Mv.sameX (by rw [hkl]; exact Soft.dK) sx
    have nLj := y.nLt
    simp only [List.mem_append, List.mem_singleton, not_or] at nLj
    refine ⟨{ g' with kb := kb', kd := kd' }, setF vm q.1.2.1 q.2, setF lf q.1.2.1 q.2, ke', _, _, rfl, ecap,
      { lo := lo1.mv m2 y.nDL
        cat := x1'.mv m2 fun b hb e => nLj.1 (by rw [List.mem_singleton.mp e] at hb; exact hb)
        bat := b1'.mv m2 (by simp [Ne.symm nLj.2])
        apt := y.apt
        ep := y.ep
        few := fw
        view := y.view
        has := y.has
        com := y.com
        N := y.N
        s0 := y.s0
        s1 := y.s1
        c0 := y.c0
        len := y.len
        rows := R1.mv m2 (by simp [y.neL])
        okg := okg
        lg := lg
        later := ⟨_, hL2, krl.put n8 n15, (ctl.put (R1.dat q hm) by64.len).keep m2.keep⟩
        lview := fun m a b => by
          unfold setF
          split
          · rfl
          · exact y.lview m a b
        keys := by
          rw [kk, y.keys, List.take_add_one, hq]
          exact (numK_snoc _ _).symm
        nCh := y.nCh
        nLt := y.nLt
        nDL := y.nDL
        neL := y.neL }⟩
  · obtain ⟨g', vm, lf, ke, v10, v13, rfl, ecap, y⟩ := q
    rw [List.length_map] at y
    exact hnx _ _ ⟨c, cx, g', vm, vw, nf, lf, eA, ke, _, St, Nd, Ch, Lt, gs, sts, dc1, sort, u7, u9, v10, v13, u14, u15, u16, u18, u19, u20, by rw [ecap], y⟩ rfl
end
end K03
namespace K03
open PySem L2 HK
abbrev tailBody : List Stmt := stepBody.drop 13
def clF (kd : KVs) (l : List Key) : List Key := l.filter fun k => !(valV kd k).isSome
section
variable {P : Program} {w : World} {K : PySem.W.Frag} {mg : Str → Option Value} {base : Heap} {C CE CJ CJE CC g0 : Addr}
theorem tail_ok (L : LTxt P w K mg base C CE CJ CJE CC g0) {f c0 : Addr} {A : Around} {outer : List Env} {s : Shared} {H0 : Hp} {E0 : XK} (hr : Room 10 (LX P w K mg base f c0 A outer s H0 E0).A) :
    ∃ t, PSs (LX P w K mg base f c0 A outer s H0 E0) tailBody t ∧ ∀ (R PT a D p : Addr) (Dn : Ends) (i : Nat) (H : Hp) (c cx : Addr) (g : CG) (vw nf lf : Fn) (St Nd Lt : Addr) (sts : List (Addr × Fn)) (dc : Dice) (big : Bool) (u7 u8 u9 u10 u11 u13 u15 u16 u18 u19 u20 : Option V), i < 30 →
      LO D R PT St Nd sts nf dc H → CAt CC CJ C c cx g vw H → Apt D R St Nd sts (ownJ c g) → g.p = p → g.be = .non → g.kd.length ≤ 5 → Few g.cap g.kd g.kb → LD H Lt lf → Lt ∉ ownJ c g → (big = true → HomeIs vw nf) → (big = false → HomeIs vw lf) → (∃ s ∈ sts, HomeIs s.2 g.d.f) →
      g.N ≤ 16 * (i + 1) → 0 ≤ g.sr → g.sr ≤ i + 1 → 0 ≤ g.com → sts.length ≤ i + 1 → (∀ σ' H', WS CC CJ C R PT a D p (i + 1) σ' H' → Dn.nx σ' H') →
      t Dn [some (.ref a), some (.ref D), some (.ref p), some (.int g.cap), some (.ref St), some (.ref Nd), some (.bl false), u7, u8, u9, u10, u11, some (.ref Lt), u13, some (.bl big), u15, u16, some (.ref c), u18, u19, u20] H := by
  have T := L.D
  have X := L.X
  refine ⟨_, pss_cons (ps_set (i := 5) scLaw.nd rfl (Or.inr rfl) (pe_ifExp (pt_val (pv 14)) (pv 5) (pv 12)))
    (pss_cons (ps_set (i := 4) scLaw.nd rfl (Or.inl rfl) (pe_op op_cat (pv 4) (pe_lst (pa_cons (pv 5) pa_nil))))
    (pss_one (ps_if (PW.pt (pw_or (pt_cmpR op_gt (pe_callB call_lenD (by rfl) T.len PySem.boot_len (pa_cons (pe_fld (pv 17) rfl) pa_nil)) pe_int (nomark _))
      (pw_or1 (pt_cmpR op_gt (pe_callB call_len_seq (by rfl) T.len PySem.boot_len (pa_cons (pe_lock (pe_lc (own := [("one", 18)]) (g := gName 18) (tt := tB (tDNotIn (tVar 18) (tFld K (tVar 17) "dirty"))) (te := tVar 18) (by rfl) scLaw.nd (pi_keys (pe_fld (pv 17) rfl)) (blkOk_by (N := NL) (sc := defScope sLaw) (by decide +kernel))
          (fun _ _ _ _ _ => pg_name (i := 18) scLaw.nd rfl (Or.inl rfl)) (fun _ _ _ _ _ => pts_one (pt_cmp (pc_dnotin (by exact hu_of hr) (pv 18) (pe_fld (pv 17) rfl)))) (fun _ _ _ _ _ => pv 18))) pa_nil)) (pe_op op_add (pv 3) pe_int) (nomark _))))) (pss_one (ps_ret pe_bl)) pss_nil))), ?_⟩
  intro R PT a D p Dn i H c cx g vw nf lf St Nd Lt sts dc big u7 u8 u9 u10 u11 u13 u15 u16 u18 u19 u20 hi lo x ap ep be k5 fw hl nLo b1 b2 hcom hN s0 s1 c0' hlen hnx
  -- what is said behind now
  obtain ⟨Nd', nf', hN', hld, hno, hvw⟩ : ∃ Nd' nf', (if big = true then (Nd' = Nd) else Nd' = Lt) ∧ LD H Nd' nf' ∧ Nd' ∉ ownJ c g ∧ HomeIs vw nf' := by
    cases big with
    | true => exact ⟨Nd, nf, rfl, lo.now, ap.N, b1 rfl⟩
    | false => exact ⟨Lt, lf, rfl, hl, nLo, b2 rfl⟩
  refine ⟨_, rfl, big, rfl, ?_⟩
  have key : ∀ (t : L2.St → Hp → Prop), t [some (.ref a), some (.ref D), some (.ref p), some (.int g.cap), some (.ref St), some (.ref Nd'), some (.bl false), u7, u8, u9, u10, u11, some (.ref Lt), u13, some (.bl big), u15, u16, some (.ref c), u18, u19, u20] H →
      if big = true then tVar 5 [some (.ref a), some (.ref D), some (.ref p), some (.int g.cap), some (.ref St), some (.ref Nd), some (.bl false), u7, u8, u9, u10, u11, some (.ref Lt), u13, some (.bl big), u15, u16, some (.ref c), u18, u19, u20] H (fun x H1 => gName 5 x [some (.ref a), some (.ref D), some (.ref p), some (.int g.cap), some (.ref St), some (.ref Nd), some (.bl false), u7, u8, u9, u10, u11, some (.ref Lt), u13, some (.bl big), u15, u16, some (.ref c), u18, u19, u20] H1 t)
      else tVar 12 [some (.ref a), some (.ref D), some (.ref p), some (.int g.cap), some (.ref St), some (.ref Nd), some (.bl false), u7, u8, u9, u10, u11, some (.ref Lt), u13, some (.bl big), u15, u16, some (.ref c), u18, u19, u20] H (fun x H1 => gName 5 x [some (.ref a), some (.ref D), some (.ref p), some (.int g.cap), some (.ref St), some (.ref Nd), some (.bl false), u7, u8, u9, u10, u11, some (.ref Lt), u13, some (.bl big), u15, u16, some (.ref c), u18, u19, u20] H1 t) := fun t h => by
    cases big with
    | true =>
      have e : Nd' = Nd := hN'
      rw [e] at h
      exact ⟨_, rfl, h⟩
    | false =>
      have e : Nd' = Lt := hN'
      rw [e] at h
      exact ⟨_, rfl, h⟩
  refine key _ ?_
  clear key b1 b2 hN'
  refine ⟨_, rfl, _, rfl, by show 1 ≤ sizeLine; decide, fun l nl => ?_⟩
  have s2 : Same H (upd H l (.lst [.ref Nd'])) := same_upd nl
  have hl2 : (upd H l (.lst [.ref Nd'])) l = some (.lst [.ref Nd']) := upd_same
  generalize upd H l (.lst [.ref Nd']) = H2 at s2 hl2 ⊢
  have lo2 := lo.same s2
  have x2 := x.same s2
  have hld2 := hld.same s2
  refine ⟨St, l, _, _, rfl, rfl, lo2.st, hl2, by rw [List.length_map, sizeLine_eq]; show sts.length + 1 ≤ _; omega, fun S2 nS => ?_⟩
  have s3 : Same H2 (upd H2 S2 (.lst ((sts.map fun s => V.ref s.1) ++ [.ref Nd']))) := same_upd nS
  have hS3 : (upd H2 S2 (.lst ((sts.map fun s => V.ref s.1) ++ [.ref Nd']))) S2 = some (.lst ((sts ++ [(Nd', nf')]).map fun s => V.ref s.1)) := by rw [upd_same, List.map_append]; rfl
  have nSo := x2.not_new nS
  generalize upd H2 S2 (.lst ((sts.map fun s => V.ref s.1) ++ [.ref Nd'])) = H3 at s3 hS3 ⊢
  have lo3 := lo2.same s3
  have x3 := x2.same s3
  have hld3 := hld2.same s3
  have nDS := ne_of_none lo2.dice nS
  have nRS := ne_of_none lo2.row nS
  clear lo x lo2 x2 hld hld2 s2 s3 nS nl hl2
  have W3 : WSt CC CJ C R PT D p c cx g vw nf' S2 Nd' (sts ++ [(Nd', nf')]) dc (i + 1) H3 :=
    { lo := ⟨lo3.dice, lo3.row, lo3.tabs, hS3, fun s hs => by
        rcases List.mem_append.mp hs with z | z
        · exact lo3.dst s z
        · rw [List.mem_singleton.mp z]; exact hld3, hld3, lo3.nDR, nDS, nRS⟩
      cat := x3
      apt := ⟨ap.D, ap.R, nSo, hno, fun s hs => by
        rcases List.mem_append.mp hs with z | z
        · exact ap.s s z
        · rw [List.mem_singleton.mp z]; exact hno⟩
      ep := ep
      be := be
      k5 := k5
      few := fw
      view := hvw
      has := ⟨(Nd', nf'), by simp, HomeIs.refl _⟩
      com := by
        obtain ⟨s, hs, e⟩ := hcom
        exact ⟨s, List.mem_append_left _ hs, e⟩
      N := hN
      s0 := s0
      s1 := by omega
      c0 := c0'
      len := by rw [List.length_append]; show sts.length + 1 ≤ i + 1 + 1; omega }
  clear lo3 x3 hld3 hS3 nDS nRS nSo hl
  -- few are changed, few are kept unchanged
  refine ⟨_, rfl, c, CC, cx, _, _, rfl, W3.cat.ins, X.cl, X.n4, rfl, g.dA, g.kd, rfl, W3.cat.hd, _, _, rfl, rfl, _, rfl, ite2 (fun z => by exfalso; simp at z; omega) (fun _ => ?_)⟩
  refine ⟨g.bA, _, W3.cat.hb, trivial, fun od => ?_⟩
  have s4 : SameX g.bA H3 (upd H3 g.bA (.frz od (.dK g.kb))) := SameX.upd
  have hf4 : (upd H3 g.bA (.frz od (.dK g.kb))) g.bA = some (.frz od (.dK g.kb)) := upd_same
  have back : ∀ H', (∀ b o, b ≠ g.bA → H3 b = some o → H' b = some o) → Same H3 (upd H' g.bA (.dK g.kb)) := fun H' hh b o h => by
    by_cases e : b = g.bA
    · rw [e, upd_same]
      rw [e, W3.cat.hb] at h
      exact h
    · rw [upd_ne e]
      exact hh b o e h
  generalize upd H3 g.bA (.frz od (.dK g.kb)) = H4 at s4 hf4 ⊢
  have hc4 := s4 _ _ (ne_of W3.cat.ins W3.cat.hb (by intro z; cases z)) W3.cat.ins
  have hd4 := s4 _ _ W3.cat.ndb W3.cat.hd
  refine ⟨_, rfl, c, CC, cx, _, _, rfl, hc4, X.cl, X.n3, rfl, g.bA, od, rfl, .inl ⟨g.kb, hf4, fun Z nZ => ?_⟩⟩
  have nZb : Z ≠ g.bA := fun e => by rw [e, hf4] at nZ; cases nZ
  refine lc_it walk_keys (fun n H' => Same H4 H' ∧ H' Z = some (.lst ((clF g.kd ((keys g.kb).take n)).map kV))) ⟨same_upd nZ, upd_same⟩ (fun n H' hn q => q.1 _ _ hf4) (fun n z H' H'' hn q yy => ?_) (fun H' q => ?_)
  · obtain ⟨sm, hZ⟩ := q
    obtain ⟨rfl, kk, vv, hkv, rfl⟩ := yy
    have hkk : (keys g.kb)[n]? = some kk := by unfold keys; rw [List.getElem?_map, hkv]; rfl
    have e1 : (keys g.kb).take (n + 1) = (keys g.kb).take n ++ [kk] := by rw [List.take_add_one, hkk]; rfl
    have lz : (clF g.kd ((keys g.kb).take n)).length ≤ 7 := by
      have h1 := List.length_filter_le (fun k => !(valV g.kd k).isSome) ((keys g.kb).take n)
      have h2 := W3.cat.kb.len
      unfold clF
      rw [List.length_take] at h1
      unfold keys at h1
      rw [List.length_map] at h1
      unfold keys
      omega
    refine ⟨rfl, _, rfl, _, rfl, c, CC, cx, _, _, rfl, sm _ _ hc4, X.cl, X.n4, rfl, g.dA, _, rfl, dGet_i (sm _ _ hd4), _, rfl, ite2 (fun c1 => ?_) (fun c1 => ?_)⟩
    · refine ⟨_, rfl, _, hZ, by rw [List.length_map]; exact small1000' (by omega), fun b o h => ?_, ?_⟩
      · rw [upd_ne (ne_of_none h nZ)]
        exact sm _ _ h
      · rw [upd_same, e1]
        unfold clF
        rw [List.filter_append, List.map_append, List.filter_cons, if_pos c1]
        rfl
    · refine ⟨sm, ?_⟩
      rw [hZ, e1]
      unfold clF
      rw [List.filter_append, List.filter_cons, if_neg c1, List.filter_nil, List.append_nil]
  · obtain ⟨sm, hZ⟩ := q
    have lk : g.kb.length = (keys g.kb).length := by unfold keys; rw [List.length_map]
    rw [lk, List.take_length] at hZ
    refine ⟨sm _ _ hf4, ?_⟩
    have s5 := back H' fun b o n h => sm _ _ (s4 _ _ n h)
    have hZ5 : (upd H' g.bA (.dK g.kb)) Z = some (.lst ((clF g.kd (keys g.kb)).map kV)) := by rw [upd_ne nZb]; exact hZ
    generalize upd H' g.bA (.dK g.kb) = H5 at s5 hZ5 ⊢
    have W5 := W3.same s5
    refine ⟨Z, _, rfl, .inl (SqL.of hZ5), _, rfl, _, _, rfl, rfl, _, _, rfl, rfl, _, rfl, ite2 (fun z => ?_) (fun _ => ?_)⟩
    · exfalso
      have z : g.cap + 1 < (((clF g.kd (keys g.kb)).map kV).length : Int) := of_decide_eq_true z
      rw [List.length_map] at z
      have c1 := W3.cat.c1
      rcases fw with h | h
      · have h1 : (clF g.kd (keys g.kb)).length ≤ (keys g.kb).length := List.length_filter_le _ _
        rw [← lk] at h1
        omega
      · have h1 : (clF g.kd (keys g.kb)).length ≤ 1 := h
        omega
    · exact hnx _ _ ⟨c, cx, g, vw, nf', S2, Nd', sts ++ [(Nd', nf')], dc, u7, u8, u9, u10, u11, some (.ref Lt), u13, some (.bl big), u15, u16, u18, u19, u20, rfl, W5⟩
end
end K03
namespace K03
open PySem L2 HK
theorem execs_app (env : Env) (b : List Stmt) : ∀ a : List Stmt, execs (a ++ b) env = (execs a env >>= fun f => match f with | .next => execs b env | f => pure f)
  | [] => rfl
  | s :: r => by
    rw [List.cons_append, execs_cons, execs_cons, bind_assoc]
    refine congrArg (fun k => exec s env >>= k) (funext fun f => ?_)
    cases f with
    | next => exact execs_app env b r
    | _ => rfl
theorem pss_app {X : Cx} {a b : List Stmt} {t u : TS} (h1 : PSs X a t) (h2 : PSs X b u) : PSs X (a ++ b) (tSeq t u) := by
  refine ⟨fun pins s σ H D I h => ?_⟩
  rw [execs_app]
  refine wpAny_bind (thn (h1.run pins s σ H { D with nx := u D } I h) fun f s1 q => ?_)
  cases f with
  | next =>
    obtain ⟨σ', H', I', q⟩ := q
    exact h2.run pins s1 σ' H' D I' q
  | _ => exact wpAny_pure q
theorem keys_merge : ∀ (more kvs : KVs), keys (mergeK kvs more) = (more.map (·.1)).foldl addK (keys kvs)
  | [], _ => rfl
  | q :: r, kvs => by
    have e : mergeK kvs (q :: r) = mergeK (putK kvs q.1 q.2) r := rfl
    rw [e, keys_merge r, keys_put]
    rfl
def chKV (gs : List Rw) : KVs := gs.map fun q => (Sum.inl q.1.2.1, V.ref q.1.2.2)
theorem paired_rows {K : PySem.W.Frag} {H : Hp} : ∀ (gs : List Rw), (∀ q ∈ gs, H q.1.1 = some (.tup [.int q.1.2.1, .ref q.1.2.2])) → Paired (fun p (kv : Key × V) => SqT K H p [kV kv.1, kv.2]) (gs.map (·.1.1)) (chKV gs)
  | [], _ => .nil
  | q :: r, h => .cons (SqT.of (h q (by simp))) (paired_rows r fun y hy => h y (by simp [hy]))
abbrev endBody : List Stmt := (stepBody.drop 8).take 5
/-- ahead of the end of a step -/
def WT (CC CJ C R PT a D p : Addr) (i : Nat) (σ : L2.St) (H : Hp) : Prop :=
  ∃ (c cx : Addr) (g : CG) (vw nf lf : Fn) (St Nd Lt : Addr) (sts : List (Addr × Fn)) (dc : Dice) (big : Bool) (u7 u8 u9 u10 u11 u13 u15 u16 u18 u19 u20 : Option V),
    σ = [some (.ref a), some (.ref D), some (.ref p), some (.int g.cap), some (.ref St), some (.ref Nd), some (.bl false), u7, u8, u9, u10, u11, some (.ref Lt), u13, some (.bl big), u15, u16, some (.ref c), u18, u19, u20] ∧
    LO D R PT St Nd sts nf dc H ∧ CAt CC CJ C c cx g vw H ∧ Apt D R St Nd sts (ownJ c g) ∧ g.p = p ∧ g.be = .non ∧ g.kd.length ≤ 5 ∧ Few g.cap g.kd g.kb ∧ LD H Lt lf ∧ Lt ∉ ownJ c g ∧ (big = true → HomeIs vw nf) ∧ (big = false → HomeIs vw lf) ∧ (∃ s ∈ sts, HomeIs s.2 g.d.f) ∧
      g.N ≤ 16 * (i + 1) ∧ 0 ≤ g.sr ∧ g.sr ≤ i + 1 ∧ 0 ≤ g.com ∧ sts.length ≤ i + 1
section
variable {P : Program} {w : World} {K : PySem.W.Frag} {mg : Str → Option Value} {base : Heap} {C CE CJ CJE CC g0 : Addr}
theorem end_ok (L : LTxt P w K mg base C CE CJ CJE CC g0) {f c0 PT : Addr} {A : Around} {outer : List Env} {s : Shared} {H0 : Hp} {E0 : XK} (TB : LamX.TabB base mg c0 PT) (hr : Room 10 (LX P w K mg base f c0 A outer s H0 E0).A) :
    ∃ t, PSs (LX P w K mg base f c0 A outer s H0 E0) endBody t ∧ ∀ (R a D p : Addr) (Dn : Ends) (i : Nat) (σ : L2.St) (H : Hp), i < 30 → WM CC CJ C R PT a D p i σ H → (∀ σ' H', WS CC CJ C R PT a D p (i + 1) σ' H' → Dn.ct σ' H') → (∀ σ' H', WD CC C R PT a D p σ' H' → Dn.bk σ' H') → (∀ σ' H', WT CC CJ C R PT a D p i σ' H' → Dn.nx σ' H') → t Dn σ H := by
  obtain ⟨fU, dU, FU, mU, bU⟩ := L.undo
  obtain ⟨fE, dE, FE, mE, bE⟩ := L.end_
  have T := L.D
  have X := L.X
  have l11 := L.e11
  have l21 := L.e21
  have l22 := L.e22
  have rU := FU.mono (show 2 ≤ 10 by decide)
  refine ⟨_, pss_cons (ps_if (pt_cmpR op_eq (pv 8) pe_int (nomark _)) (pss_cons (ps_expr (pe_meth0 (pv 17) X.cl mU rU hr bU .nil pass0)) (pss_one ps_continue)) pss_nil)
    (pss_cons (ps_set (i := 9) scLaw.nd rfl (Or.inl rfl) (pe_told (k := 8) L.told TB rfl (by rfl) hr (LamX.lamS_by (sc := defScope sLaw) (by decide +kernel)) rfl (fun _ _ _ _ _ => rfl)
        (fun A1 o1 s1 H1 E1 f1 c1 hr7 => pe_meth0 (pv 17) X.cl mE FE hr7 bE .nil (passes_call (takes_of rfl rfl rfl rfl) (fun _ _ _ _ h => h)))))
    (pss_cons (ps_if (pt_cmpR op_eq (pv 9) pe_str (nomark _)) (pss_cons (ps_par (i := 4) (j := 6) rfl scLaw.nd rfl rfl (by decide) rfl rfl (pa_cons (pe_op op_cat (pv 4) (pe_lst (pa_cons (pv 12) pa_nil))) (pa_cons pe_bl pa_nil)) (by rfl)) (pss_one ps_break)) pss_nil)
    (pss_cons (ps_set (i := 14) scLaw.nd rfl (Or.inl rfl) (pe_cmpR op_gt (pe_callB call_lenD (by rfl) T.len PySem.boot_len (pa_cons (pe_callTy (call_dictP rfl) (by rfl) T.dict PyProof.Rows.Boot.«dict» (pa_cons (pv 11) pa_nil)) pa_nil)) pe_int (nomark _)))
    (pss_one (ps_if (pt_cmpR op_ne (pe_cmpR op_eq (pv 9) pe_str (nomark _)) (pv 14) (nomark _)) (pss_one (ps_ret pe_bl)) pss_nil))))), ?_⟩
  intro R a D p Dn i σ H hi hW hct hbk hnx
  obtain ⟨c, cx, g, vm, vw, nf, lf, eA, ke, od, St, Nd, Ch, Lt, gs, sts, dc, sort, u7, u9, u10, u13, u14, u15, u16, u18, u19, u20, rfl, y⟩ := hW
  have hN := y.N
  have hs0 := y.s0
  have hs1 := y.s1
  have hc0 := y.c0
  have hlen := y.len
  have ownS : ∀ b ∈ ownJ c g, b ∈ ownJ c g ++ [eA] := fun b hb => List.mem_append_left _ hb
  have undoS : ∀ b ∈ [c, g.bA, g.dA, eA], b ∈ ownJ c g ++ [eA] := fun b hb => by
    simp only [List.mem_cons, List.not_mem_nil, or_false] at hb
    rcases hb with e | e | e | e <;> rw [e] <;> simp [ownJ]
  have undoF : ∀ (x : CAt CC CJ C c cx g vm H), ∀ b ∈ [c, g.bA, g.dA, eA], Soft (H b) := fun x b hb => by
    simp only [List.mem_cons, List.not_mem_nil, or_false] at hb
    rcases hb with e | e | e | e
    · rw [e, x.ins]; exact Soft.ins
    · rw [e, x.hb]; exact Soft.dK
    · rw [e, x.hd]; exact Soft.dK
    · rw [e, y.bat.he]; exact Soft.dK
  refine ⟨_, rfl, rfl, _, rfl, ite2 (fun _ => ?_) (fun _ => ?_)⟩
  · -- undone
    refine ⟨_, rfl, c, cx, _, rfl, y.cat.ins, rfl, c, cx, g, vm, vw, eA, ke, od, rfl, y.cat, y.bat, fun H1 kb' kd' f1 x1 k5 fw => ?_⟩
    have m1 := Fr.mv f1 (undoF y.cat)
    refine hct _ _ ⟨c, cx, { g with kb := kb', kd := kd', be := .non }, vw, nf, St, Nd, sts, dc, _, _, _, _, _, _, _, _, _, _, _, _, _, rfl,
      ⟨y.lo.mv m1 (y.apt.sub undoS), x1, y.apt.sub ownS, y.ep, rfl, k5, fw, y.view, y.has, y.com, Nat.le_trans y.N (by omega), hs0, by dsimp only; omega, hc0, by omega⟩⟩
  clear undoF
  refine ⟨y.lo.tabs, fun H1 e1 t1 => ?_⟩
  have y1 := y.ext e1 t1
  clear y e1 t1
  have y := y1
  clear y1
  have ndf : ∀ b ∈ [c, g.bA, g.dA, eA], Soft (H1 b) := fun b hb => by
    simp only [List.mem_cons, List.not_mem_nil, or_false] at hb
    rcases hb with e | e | e | e
    · rw [e, y.cat.ins]; exact Soft.ins
    · rw [e, y.cat.hb]; exact Soft.dK
    · rw [e, y.cat.hd]; exact Soft.dK
    · rw [e, y.bat.he]; exact Soft.dK
  have nLj := y.nLt
  simp only [List.mem_append, List.mem_singleton, not_or] at nLj
  have mlen : (mergeK [] (chKV gs)).length = ke.length := by
    have e := keys_merge (chKV gs) []
    have e2 : (chKV gs).map (·.1) = gs.map fun q => (Sum.inl q.1.2.1 : Key) := by unfold chKV; rw [List.map_map]; rfl
    have e3 : keys (mergeK [] (chKV gs)) = keys ke := by
      rw [e, e2, y.keys, List.take_length]
      rfl
    have := congrArg List.length e3
    unfold keys at this
    rwa [List.length_map, List.length_map] at this
  refine ⟨_, rfl, c, cx, _, rfl, y.cat.ins, rfl, c, cx, g, vm, vw, eA, ke, od, rfl, y.cat, y.bat, by omega, by omega, by omega, y.few, fun h5 H2 kb' kd' f2 x2 k5 fw => ?_, fun h5 => ⟨fun H2 g' f2 nx hbe x2 k5 fw hm => ?_, fun H2 W' N' d' f2 nW hN' D2 ck hc => ?_⟩⟩
  · -- too large
    have m2 := Fr.mv f2 ndf
    have lo2 := y.lo.mv m2 (y.apt.sub undoS)
    have R2 := y.rows.mv m2 (fun z => y.nCh (undoS _ z))
    have L2 := y.later.fr m2 (fun z => y.nLt (undoS _ z))
    refine ⟨false, l21, (fun z => by cases z), fun _ => ⟨true, l22, fun _ => ?_, (fun z => by cases z)⟩⟩
    refine ⟨_, rfl, rfl, _, rfl, ite2 (fun z => absurd z (by decide +kernel)) (fun _ => ?_)⟩
    refine ⟨_, rfl, Ch, gs.map (·.1.1), chKV gs, rfl, SqL.of (by rw [List.map_map]; exact R2.lst), paired_rows gs R2.tup, fun dd ndd => ⟨dd, _, rfl, upd_same, _, _, rfl, rfl, ?_⟩⟩
    have s3 : Same H2 (upd H2 dd (.dK (mergeK [] (chKV gs)))) := same_upd ndd
    generalize upd H2 dd (.dK (mergeK [] (chKV gs))) = H3 at s3 ⊢
    rw [mlen]
    have hb : (fun i j : Int => V.bl (decide (j < i))) (ke.length : Int) 5 = V.bl true := by
      show V.bl (decide ((5 : Int) < (ke.length : Int))) = _
      rw [decide_eq_true (by omega)]
    rw [hb]
    refine ⟨_, rfl, rfl, _, rfl, rfl, _, rfl, ite2 (fun z => absurd z (by decide +kernel)) (fun _ => ?_)⟩
    refine hnx _ _ ⟨c, cx, { g with kb := kb', kd := kd', be := .non }, vw, nf, lf, St, Nd, Lt, sts, dc, true, _, _, _, _, _, _, _, _, _, _, _, rfl, lo2.same s3, x2.same s3, y.apt.sub ownS, y.ep, rfl, k5, fw, L2.same s3, nLj.1, fun _ => y.view, (fun z => by cases z), y.com, Nat.le_trans hN (by omega), hs0, by dsimp only; omega, hc0, hlen⟩
  · -- taken
    have m2 := Fr.mv f2 y.cat.soft
    have lo2 := y.lo.mv m2 (y.apt.sub ownS)
    have R2 := y.rows.mv m2 (fun z => y.nCh (ownS _ z))
    have L2 := y.later.fr m2 nLj.1
    have a2 := (y.apt.sub ownS).nxt y.lo nx
    have nL2 : Lt ∉ ownJ c g' := fun hm' => by
      obtain ⟨kl, hkl, _⟩ := y.later
      simp only [ownJ, List.mem_cons, List.not_mem_nil, or_false] at hm'
      rw [nx.ej, nx.ep, nx.eB, nx.eb] at hm'
      have nn := nLj.1
      simp only [ownJ, List.mem_cons, List.not_mem_nil, or_false, not_or] at nn
      rcases hm' with e | e | e | e | e | e | e
      · exact nn.1 e
      · exact nn.2.1 e
      · exact nn.2.2.1 e
      · exact nn.2.2.2.1 e
      · exact nx.nW _ _ hkl nLj.1 e
      · exact nn.2.2.2.2.2.1 e
      · exact nx.nD _ _ hkl nLj.1 e
    refine ⟨_, rfl, rfl, _, rfl, ite2 (fun z => absurd z (by decide)) (fun _ => ?_)⟩
    refine ⟨_, rfl, Ch, gs.map (·.1.1), chKV gs, rfl, SqL.of (by rw [List.map_map]; exact R2.lst), paired_rows gs R2.tup, fun dd ndd => ⟨dd, _, rfl, upd_same, _, _, rfl, rfl, ?_⟩⟩
    have s3 : Same H2 (upd H2 dd (.dK (mergeK [] (chKV gs)))) := same_upd ndd
    generalize upd H2 dd (.dK (mergeK [] (chKV gs))) = H3 at s3 ⊢
    rw [mlen]
    have hb : (fun i j : Int => V.bl (decide (j < i))) (ke.length : Int) 5 = V.bl false := by
      show V.bl (decide ((5 : Int) < (ke.length : Int))) = _
      rw [decide_eq_false (by omega)]
    rw [hb]
    refine ⟨_, rfl, rfl, _, rfl, rfl, _, rfl, ite2 (fun z => absurd z (by decide)) (fun _ => ?_)⟩
    refine hnx _ _ ⟨c, cx, g', vm, nf, lf, St, Nd, Lt, sts, dc, false, _, _, _, _, _, _, _, _, _, _, _, by rw [nx.ec]; rfl, lo2.same s3, x2.same s3, a2, nx.ep.trans y.ep, hbe, k5, fw, L2.same s3, nL2, (fun z => by cases z), fun _ => y.lview, ?_, ?_, ?_, ?_, ?_, hlen⟩
    · rcases hm with hm | hm
      · obtain ⟨s, hs, e⟩ := y.has
        exact ⟨s, hs, (e.trans y.view.symm).trans hm.symm⟩
      · obtain ⟨s, hs, e⟩ := y.com
        exact ⟨s, hs, by rw [hm]; exact e⟩
    · have := nx.leN; omega
    · have := nx.s0; omega
    · have := nx.s1; omega
    · have := nx.com; omega
  · -- the device crashes
    obtain ⟨bA, dA, be, hc⟩ := hc
    have m2 := Fr.mv f2 y.cat.soft
    have lo2 := y.lo.mv m2 (y.apt.sub ownS)
    have L2 := y.later.fr m2 nLj.1
    have nDW : D ≠ W' := nW _ _ y.lo.dice (y.apt.sub ownS).D
    refine ⟨true, l11, fun _ => ?_, (fun z => by cases z)⟩
    refine ⟨_, rfl, rfl, _, rfl, iteD rfl ?_⟩
    refine ⟨_, rfl, _, rfl, by show 1 ≤ sizeLine; decide, fun l nl => ?_⟩
    have s3 : Same H2 (upd H2 l (.lst [.ref Lt])) := same_upd nl
    have hl3 : (upd H2 l (.lst [.ref Lt])) l = some (.lst [.ref Lt]) := upd_same
    generalize upd H2 l (.lst [.ref Lt]) = H3 at s3 hl3 ⊢
    have lo3 := lo2.same s3
    refine ⟨St, l, _, _, rfl, rfl, lo3.st, hl3, by rw [List.length_map, sizeLine_eq]; show sts.length + 1 ≤ _; omega, fun S2 nS => ⟨_, _, rfl, ?_⟩⟩
    have s4 : Same H3 (upd H3 S2 (.lst ((sts.map fun s => V.ref s.1) ++ [.ref Lt]))) := same_upd nS
    have hS4 : (upd H3 S2 (.lst ((sts.map fun s => V.ref s.1) ++ [.ref Lt]))) S2 = some (.lst ((sts ++ [(Lt, lf)]).map fun s => V.ref s.1)) := by rw [upd_same, List.map_append]; rfl
    generalize upd H3 S2 (.lst ((sts.map fun s => V.ref s.1) ++ [.ref Lt])) = H4 at s4 hS4 ⊢
    have lo4 := lo3.same s4
    obtain ⟨s1, hs1', e1⟩ := y.has
    obtain ⟨s2, hs2', e2⟩ := y.com
    refine hbk _ _ ⟨c, cx, g.j, g.cap, g.com, bA, dA, be, N', d', g.dx, g.B, W', g.d.f, vw, nf, S2, Nd, sts ++ [(Lt, lf)], dc, _, _, _, _, _, _, _, _, _, _, _, _, _, rfl,
      ⟨lo4.dice, lo4.row, lo4.tabs, hS4, fun s hs => ?_, lo4.now, lo4.nDR, ne_of_none lo3.dice nS, ne_of_none lo3.row nS⟩, s4 _ _ (s3 _ _ hc), hc0, ?_, by omega, ck, ⟨s2, List.mem_append_left _ hs2', e2⟩, ⟨s1, List.mem_append_left _ hs1', e1.trans y.view.symm⟩, nDW, by rw [List.length_append]; show sts.length + 1 ≤ 40; omega⟩
    · rcases List.mem_append.mp hs with z | z
      · exact lo4.dst s z
      · rw [List.mem_singleton.mp z]; exact (L2.same s3).same s4
    · rw [← y.ep]
      exact (D2.same s3).same s4
end
end K03
namespace K03
open PySem L2 HK
theorem rec_spec {C CE CJ p dx B W j jx : Addr} {H : Hp} {N : Nat} {d : AD} {sr : Int} {g0 g1 : Fn} {Q : VK} {E : XK} (D : DevS C H p dx B W N d) (hj : JAt CJ H j jx p sr) (njp : j ≠ p) (hN : N ≤ 700) (al : d.dead = false) (hw : d.ws = []) (h : SS g0 g1 d.f)
    (kOk : ∀ H' W' d' t ns, (W' = W ∨ H W' = none) → Bar p B W H H' → DevS C H' p dx B W' (N + 16) d' → d'.dead = false → d'.ws = [] → Rested g0 g1 d'.f → (d.fz = .non → d'.fz = .non) → (∀ n ∈ ns, 8 ≤ n ∧ n < 15) → (Rested g0 g1 d.f → ns = []) → H' t = some (tupI ns) → Q (.ref t) H')
    (kNo : ∀ H' W' d', (W' = W ∨ H W' = none) → Bar p B W H H' → DevS C H' p dx B W' (N + 16) d' → CrashOk g0 g1 d' → d.fz ≠ .non → E (.ref CE) none H') : spRec CJ C CE [.ref j] H Q E := by
  refine ⟨j, jx, p, dx, sr, N, d, B, W, rfl, hj, njp, D, by omega, (fun z => by rw [al] at z; cases z), fun _ => ?_⟩
  have cases2 : (d.f 1 = zero64 ∧ Rested g0 g1 d.f) ∨ ∃ s ns ds, Held g1 d.f s ns ds ∧ (Rested g0 g1 d.f → ns = []) := by
    by_cases hr : Rested g0 g1 d.f
    · rcases id hr with ⟨hz, _⟩ | ⟨s, hh⟩
      · exact .inl ⟨hz, hr⟩
      · exact .inr ⟨s, [], [], hh, fun _ => rfl⟩
    · rcases h.2 with hz | ⟨s, ns, ds, hh⟩
      · exact .inl ⟨hz.1, .inl hz⟩
      · exact .inr ⟨s, ns, ds, hh, fun z => absurd z hr⟩
  rcases cases2 with ⟨hz, hr⟩ | ⟨s, ns, ds, hh, hn⟩
  · exact .inl ⟨by rw [rd_of hw]; exact hz, fun H' t s ht => kOk H' W d t [] (.inl rfl) (Bar.of_same s) ((D.same s).mono (by omega)) al hw hr id (fun n z => by cases z) (fun _ => rfl) ht⟩
  · have ed := datL_of hw hh
    have rr := rec_run (g0 := g0) al hw h.1 hh
    have lo : (opsR (ns.zip ds)).length ≤ 16 := by
      have := hh.le
      unfold opsR opsP
      split
      · exact Nat.zero_le _
      · rw [List.length_append, List.length_map, List.length_zip]
        show min ns.length ds.length + 3 ≤ 16
        omega
    refine .inr ⟨s, ns, sumI (startI s ns ++ ds.flatten), by rw [rd_of hw]; exact hh.head, rfl, hh.le, hh.s0, hh.s1, fun n z => ⟨by have := (hh.num n z).1; omega, by have := (hh.num n z).2; omega⟩, by rw [ed], ?_⟩
    rw [ed]
    refine ⟨fun hok H' W' hW b D' => ?_, fun hno H' W' hW b D' => ?_⟩
    · obtain ⟨dd, wn, l64, rs⟩ := rr.2 hok
      refine fun H2 t s2 ht => kOk H2 W' _ t ns hW (b.same s2) ((D'.same s2).mono (by omega)) dd wn rs (fun z => (run_never _ d al z).2) hh.num hn ht
    · exact kNo H' W' _ hW b (D'.mono (by omega)) (rr.1 hno).2 (fun z => by
        have := (run_never (opsR (ns.zip ds)) d al z).1
        rw [hno] at this
        cases this)
/-- a Journal is made -/
theorem made_J {CJ j jx : Addr} {H : Hp} {fs fs' : List (Str × V)} (nj : H j = none) (njx : H jx = none) : Same H (upd (upd (upd H jx (.own j)) j (.ins CJ jx fs)) j (.ins CJ jx fs')) := fun b u e => by
  rw [upd_upd, upd_ne (ne_of_none e nj), upd_ne (ne_of_none e njx)]
  exact e
theorem made_dev {p dx B W : Addr} {H H' : Hp} {o1 o2 : HO} (np : H p = none) (ndx : H dx = none) (nB : (upd (upd H dx o1) p o2) B = none) (nW : (upd (upd H dx o1) p o2) W = none) (o : Off [p, B, W] (upd (upd H dx o1) p o2) H') : Same H H' ∧ H B = none ∧ H W = none := by
  have z : ∀ b, (upd (upd H dx o1) p o2) b = none → H b = none := fun b e => by
    by_cases h1 : b = p
    · rw [h1]; exact np
    · by_cases h2 : b = dx
      · rw [h2]; exact ndx
      · rw [upd_ne h1, upd_ne h2] at e; exact e
  refine ⟨fun b u e => ?_, z B nB, z W nW⟩
  rw [o b (by simp [ne_of_none e np, ne_of_none e (z B nB), ne_of_none e (z W nW)]), upd_ne (ne_of_none e np), upd_ne (ne_of_none e ndx)]
  exact e
end K03
namespace K03
open PySem L2 HK
theorem step_cut : stepBody.drop 3 = midBody ++ (endBody ++ tailBody) := rfl
section
variable {P : Program} {w : World} {K : PySem.W.Frag} {mg : Str → Option Value} {base : Heap} {C CE CJ CJE CC g0 : Addr}
theorem step_ok (L : LTxt P w K mg base C CE CJ CJE CC g0) {f c0 PT : Addr} {A : Around} {outer : List Env} {s : Shared} {H0 : Hp} {E0 : XK} (TB : LamX.TabB base mg c0 PT) (hr : Room 10 (LX P w K mg base f c0 A outer s H0 E0).A) :
    ∃ t, PSs (LX P w K mg base f c0 A outer s H0 E0) stepBody t ∧ ∀ (R a D p : Addr) (Dn : Ends) (i : Nat) (σ : L2.St) (H : Hp), i < 30 → WS CC CJ C R PT a D p i σ H → (∀ σ' H', WS CC CJ C R PT a D p (i + 1) σ' H' → Dn.nx σ' H') → (∀ σ' H', WS CC CJ C R PT a D p (i + 1) σ' H' → Dn.ct σ' H') → (∀ σ' H', WD CC C R PT a D p σ' H' → Dn.bk σ' H') → t Dn σ H := by
  obtain ⟨ts, hts, qs⟩ := sync_ok (s := s) (H0 := H0) (E0 := E0) L TB hr
  obtain ⟨tr, htr, qr⟩ := read_ok (s := s) (H0 := H0) (E0 := E0) L hr
  obtain ⟨tm, htm, qm⟩ := mid_ok (s := s) (H0 := H0) (E0 := E0) L TB hr
  obtain ⟨te, hte, qe⟩ := end_ok (s := s) (H0 := H0) (E0 := E0) L TB hr
  obtain ⟨tt, htt, qt⟩ := tail_ok (s := s) (H0 := H0) (E0 := E0) L hr
  obtain ⟨f3, d3, F3, m3, k3, b3⟩ := L.roll
  have r3 := F3.mono (show 1 ≤ 10 by decide)
  have hrest : PSs (LX P w K mg base f c0 A outer s H0 E0) (stepBody.drop 3) (tSeq tm (tSeq te tt)) := by
    rw [step_cut]
    exact pss_app htm (pss_app hte htt)
  refine ⟨_, pss_cons (ps_set (i := 8) scLaw.nd rfl (Or.inl rfl) (pe_call r3 hr (by rfl) m3 k3 b3 .nil pass0 (pa_cons (pv 1) (pa_cons pe_int pa_nil))))
    (pss_cons (ps_if (pt_cmpR op_eq (pv 8) pe_int (nomark _)) hts pss_nil)
    (pss_cons (ps_if (pt_cmpR op_eq (pv 8) pe_int (nomark _)) htr pss_nil) hrest)), ?_⟩
  intro R a D p Dn i σ H hi hW hnx hct hbk
  obtain ⟨c, cx, g, vw, nf, St, Nd, sts, dc, u7, u8, u9, u10, u11, u12, u13, u14, u15, u16, u18, u19, u20, rfl, x⟩ := hW
  refine ⟨_, rfl, D, dc, 6, rfl, x.lo.dice, by decide, by decide, ?_⟩
  have x1 := x.rolled (H' := upd H D (.lst (roll dc 6).2.vs)) SameX.upd upd_same
  generalize upd H D (.lst (roll dc 6).2.vs) = H1 at x1 ⊢
  have W1 : WS CC CJ C R PT a D p i [some (.ref a), some (.ref D), some (.ref p), some (.int g.cap), some (.ref St), some (.ref Nd), some (.bl false), u7, some (.int (roll dc 6).1), u9, u10, u11, u12, u13, u14, u15, u16, some (.ref c), u18, u19, u20] H1 :=
    ⟨c, cx, g, vw, nf, St, Nd, sts, _, u7, _, u9, u10, u11, u12, u13, u14, u15, u16, u18, u19, u20, rfl, x1⟩
  clear x x1
  refine ⟨_, rfl, rfl, _, rfl, ite2 (fun _ => ?_) (fun _ => ?_)⟩
  · exact qs R a D p _ i _ _ hi W1 (fun σ' H' h => hct σ' H' h) (fun σ' H' h => hbk σ' H' h)
  · refine ⟨_, rfl, rfl, _, rfl, ite2 (fun _ => ?_) (fun _ => ?_)⟩
    · exact qr R PT a D p _ i _ _ hi W1 (fun σ' H' h => hct σ' H' h)
    · refine qm R a D p _ i _ _ (roll dc 6).1 hi W1 rfl (fun σ2 H2 h2 _ => ?_)
      refine qe R a D p _ i σ2 H2 hi h2 (fun σ' H' h => hct σ' H' h) (fun σ' H' h => hbk σ' H' h) (fun σ3 H3 h3 => ?_)
      obtain ⟨c, cx, g, vw, nf, lf, St, Nd, Lt, sts, dc, big, u7, u8, u9, u10, u11, u13, u15, u16, u18, u19, u20, rfl, z1, z2, z3, z4, z5, z6, z7, z8, z9, z10, z11, z12, z13, z14, z15, z16, z17⟩ := h3
      exact qt R PT a D p _ i H3 c cx g vw nf lf St Nd Lt sts dc big u7 u8 u9 u10 u11 u13 u15 u16 u18 u19 u20 hi z1 z2 z3 z4 z5 z6 z7 z8 z9 z10 z11 z12 z13 z14 z15 z16 z17 (fun σ' H' h => hnx σ' H' h)
end
end K03
namespace K03
open PySem L2 HK
theorem ne_intsL {K : PySem.W.Frag} {H : Hp} {a b : Addr} {xs ys : List Int} {Q : VK} (ha : SqL K H a (xs.map V.int)) (hb : SqL K H b (ys.map V.int)) (q : Q (.bl (!decide (xs = ys))) H) : rNeD K (.ref a) (.ref b) H Q := by
  refine ⟨_, _, Dp.lst ha (dpall_ints xs), Dp.lst hb (dpall_ints ys), PySem.W.ke_shaped_ints xs, PySem.W.ke_shaped_ints ys, ?_⟩
  rw [PyData.eqv, eqv_ints]
  exact q
theorem eq_intsL {K : PySem.W.Frag} {H : Hp} {a b : Addr} {xs ys : List Int} {Q : VK} (ha : SqL K H a (xs.map V.int)) (hb : SqL K H b (ys.map V.int)) (q : Q (.bl (decide (xs = ys))) H) : rEqD K (.ref a) (.ref b) H Q := by
  refine ⟨_, _, Dp.lst ha (dpall_ints xs), Dp.lst hb (dpall_ints ys), PySem.W.ke_shaped_ints xs, PySem.W.ke_shaped_ints ys, ?_⟩
  rw [PyData.eqv, eqv_ints]
  exact q
abbrev chkBody : List Stmt := [lawBody.getD 5 (.Pass ⟨0, 0, 0, 0⟩)]
/-- behind the steps: a device, crashed or not, and what may be found -/
def WX (CC C R PT a D p : Addr) (σ : L2.St) (H : Hp) : Prop :=
  ∃ (c cx j : Addr) (cap com : Int) (bA dA : Addr) (be : V) (N : Nat) (d : AD) (dx B W : Addr) (g0 g1 nf : Fn) (St Nd : Addr) (sts : List (Addr × Fn)) (dc : Dice) (dead : Bool) (u7 u8 u9 u10 u11 u12 u13 u14 u15 u16 u18 u19 u20 : Option V),
    σ = [some (.ref a), some (.ref D), some (.ref p), some (.int cap), some (.ref St), some (.ref Nd), some (.bl dead), u7, u8, u9, u10, u11, u12, u13, u14, u15, u16, some (.ref c), u18, u19, u20] ∧ LO D R PT St Nd sts nf dc H ∧
    H c = some (.ins CC cx (fsC j cap bA dA be com)) ∧ 0 ≤ com ∧ DevS C H p dx B W N d ∧ N ≤ 700 ∧ CrashOk g0 g1 d ∧ (∃ s ∈ sts, HomeIs s.2 g0) ∧ (∃ s ∈ sts, HomeIs s.2 g1) ∧ D ≠ W ∧ sts.length ≤ 40
section
variable {P : Program} {w : World} {K : PySem.W.Frag} {mg : Str → Option Value} {base : Heap} {C CE CJ CJE CC g0 : Addr}
theorem chk_ok (L : LTxt P w K mg base C CE CJ CJE CC g0) {f c0 : Addr} {A : Around} {outer : List Env} {s : Shared} {H0 : Hp} {E0 : XK} (hr : Room 10 (LX P w K mg base f c0 A outer s H0 E0).A) :
    ∃ t, PSs (LX P w K mg base f c0 A outer s H0 E0) chkBody t ∧ ∀ (R PT a D p : Addr) (Dn : Ends) (σ : L2.St) (H : Hp), ((∃ i, i ≤ 30 ∧ WS CC CJ C R PT a D p i σ H) ∨ WD CC C R PT a D p σ H) → (∀ σ' H', WX CC C R PT a D p σ' H' → Dn.nx σ' H') → t Dn σ H := by
  obtain ⟨fR, dR, FR, mR, bR⟩ := L.rdB
  have T := L.D
  have X := L.X
  have rR := FR.mono (show 3 ≤ 10 by decide)
  refine ⟨_, pss_one (ps_if (PW.pt (pw_and (pt_not (pt_val (pv 6))) (pw_and1 (pt_cmpR (op_neD hr.units) (pe_lc (own := [("number", 10)]) (g := gName 10) (te := tVar 10) (by rfl) scLaw.nd (pi_range2 (by rfl) L.G.range (pa_cons pe_int (pa_cons pe_int pa_nil)))
        (blkOk_by (N := NL) (sc := defScope sLaw) (by decide +kernel)) (fun _ _ _ _ _ => pg_name (i := 10) scLaw.nd rfl (Or.inl rfl))
        (fun _ _ _ _ _ => pts_one (pt_cmpR (r := rNeD K) (op_neD (by exact hr.units)) (pe_meth (pv 17) X.cl mR rR hr bR .nil pass0 (pa_cons (pv 10) pa_nil))
          (pe_dget2 (by exact hu_of hr) (pv 5) (pv 10) (pe_op (r := rRepT K) (by exact op_repT) (pe_tup (pa_cons pe_int pa_nil)) pe_int) ⟨rfl, rfl, rfl, rfl⟩) (nomark _)))
        (fun _ _ _ _ _ => pv 10)) (pe_lst pa_nil) (nomark _))))) (pss_one (ps_ret pe_bl)) pss_nil), ?_⟩
  intro R PT a D p Dn σ H hW hnx
  rcases hW with ⟨i, hi, hW⟩ | hW
  · obtain ⟨c, cx, g, vw, nf, St, Nd, sts, dc, u7, u8, u9, u10, u11, u12, u13, u14, u15, u16, u18, u19, u20, rfl, x⟩ := hW
    have hN := x.N
    have hlen := x.len
    refine ⟨_, rfl, false, rfl, iteT ?_⟩
    refine ⟨8, 15, rfl, ⟨by decide, by decide, by decide, by decide⟩, fun Z nZ => ?_⟩
    have nZb : Z ≠ g.bA := fun e => by rw [e, x.cat.hb] at nZ; cases nZ
    refine lc_it (walk_range (lo := 8) (n := 7)) (fun k H' => (∃ kb', WSt CC CJ C R PT D p c cx { g with kb := kb' } vw nf St Nd sts dc i H') ∧ H' Z = some (.lst [])) ⟨⟨g.kb, x.same (same_upd nZ)⟩, upd_same⟩ (fun _ _ _ _ => trivial) (fun k z H' H'' hk q y => ?_) (fun H' q => ?_)
    · obtain ⟨rfl, rfl⟩ := y
      obtain ⟨⟨kb', x1⟩, hZ⟩ := q
      refine ⟨rfl, _, rfl, c, cx, _, rfl, x1.cat.ins, rfl, _, rfl, c, cx, _, vw, _, rfl, x1.cat, by dsimp only; omega, by omega, by omega, fun H2 kb2 t s2 y2 fw hv ht => ?_⟩
      have x2 := x1.rd s2 y2 fw
      have hZ2 := s2 _ _ nZb hZ
      obtain ⟨kvs, hkn, get⟩ := x2.lo.now.get
      refine ⟨_, rfl, Nd, rfl, .inl ⟨_, .inl hkn⟩, _, rfl, by show 1 ≤ sizeLine; decide, fun o no => ?_⟩
      have s3 : Same H2 (upd H2 o (.tup [.int 0])) := same_upd no
      refine ⟨o, 64, [.int 0], rfl, rfl, SqT.of upd_same, (fun z => by cases z), by decide, by decide, by decide, fun z nz => ?_⟩
      have s4 := s3.trans (same_upd (o := .tup (List.replicate (64 : Int).toNat [V.int 0]).flatten) nz)
      have hz := zeros_at (H := upd H2 o (.tup [.int 0])) (z := z)
      generalize upd (upd H2 o (.tup [.int 0])) z (.tup (List.replicate (64 : Int).toNat [V.int 0]).flatten) = H4 at s4 hz ⊢
      obtain ⟨r, er, hr4⟩ := get H4 z s4 hz (8 + (k : Nat))
      refine ⟨_, dGet_i (k := .inl (8 + ((k : Nat) : Int))) (s4 _ _ hkn), ?_⟩
      rw [er]
      refine ne_tupI (SqT.of (s4 _ _ ht)) (SqT.of hr4) ⟨_, rfl, ?_⟩
      rw [x2.view _ (by omega) (by omega), decide_eq_true rfl]
      exact iteF ⟨⟨kb2, x2.same s4⟩, s4 _ _ hZ2⟩
    · obtain ⟨⟨kb', x1⟩, hZ⟩ := q
      refine ⟨by show 0 ≤ sizeLine; decide, fun l nl => ?_⟩
      have s2 : Same H' (upd H' l (.lst [])) := same_upd nl
      refine ne_intsL (xs := []) (ys := []) (SqL.of (s2 _ _ hZ)) (SqL.of upd_same) ⟨_, rfl, iteF ?_⟩
      have x2 := x1.same s2
      obtain ⟨kW, hW⟩ := x2.cat.nW
      have hc0 := x2.c0
      refine hnx _ _ ⟨c, cx, g.j, g.cap, g.com, g.bA, g.dA, g.be, g.N, g.d, g.dx, g.B, g.W, g.d.f, g.d.f, nf, St, Nd, sts, dc, false, u7, u8, u9, u10, u11, u12, u13, u14, u15, u16, u18, u19, u20, rfl, x2.lo, x2.cat.ins, hc0, by rw [← x2.ep]; exact x2.cat.dev, by omega, fun cs => ?_, x2.com, x2.com, fun e => x2.apt.D (by rw [e]; simp [ownJ]), by omega⟩
      have hw : g.d.ws = [] := x2.cat.hw
      rw [hw]
      exact ⟨fun n => x2.cat.dev.len n, .inl ⟨x2.cat.hz, .inl (HomeIs.refl _)⟩⟩
  · obtain ⟨c, cx, j, cap, com, bA, dA, be, N, d, dx, B, W, g0, g1, nf, St, Nd, sts, dc, u7, u8, u9, u10, u11, u12, u13, u14, u15, u16, u18, u19, u20, rfl, rest⟩ := hW
    refine ⟨_, rfl, true, rfl, iteF ?_⟩
    exact hnx _ _ ⟨c, cx, j, cap, com, bA, dA, be, N, d, dx, B, W, g0, g1, nf, St, Nd, sts, dc, true, u7, u8, u9, u10, u11, u12, u13, u14, u15, u16, u18, u19, u20, rfl, rest⟩
end
end K03
namespace K03
open PySem L2 HK
/-! ### dicts of the seven blocks -/
def sevK : List Key := (List.range 7).map fun i => (Sum.inl (8 + ((i : Nat) : Int)) : Key)
structure Sev (H : Hp) (kvs : KVs) (F : Fn) : Prop where
  ks : keys kvs = sevK
  val : ∀ n v, (Sum.inl n, v) ∈ kvs → ∃ t, v = .ref t ∧ H t = some (tupI (F n))
theorem Sev.keep {H H' : Hp} {kvs : KVs} {F : Fn} (x : Sev H kvs F) (k : Keep H H') : Sev H' kvs F := ⟨x.ks, fun n v h => by
  obtain ⟨t, e, ht⟩ := x.val n v h
  exact ⟨t, e, k _ _ ht⟩⟩
theorem mem_putK' {kvs : KVs} {k : Key} {v : V} {kv : Key × V} (h : kv ∈ putK kvs k v) : kv = (k, v) ∨ kv ∈ kvs := by
  unfold putK at h
  split at h
  · obtain ⟨y, hy, e⟩ := List.mem_map.mp h
    by_cases c : y.1 = k
    · rw [if_pos c] at e
      rw [← e, c]
      exact .inl rfl
    · rw [if_neg c] at e
      rw [← e]
      exact .inr hy
  · rcases List.mem_append.mp h with z | z
    · exact .inr z
    · exact .inl (by simpa using z)
theorem mem_merge : ∀ (more kvs : KVs) (kv : Key × V), kv ∈ mergeK kvs more → kv ∈ kvs ∨ kv ∈ more
  | [], _, _, h => .inl h
  | q :: r, kvs, kv, h => by
    have e : mergeK kvs (q :: r) = mergeK (putK kvs q.1 q.2) r := rfl
    rw [e] at h
    rcases mem_merge r _ kv h with z | z
    · rcases mem_putK' z with y | y
      · exact .inr (by rw [y]; simp)
      · exact .inl y
    · exact .inr (by simp [z])
theorem addK_fold : ∀ (l acc : List Key), (acc ++ l).Nodup → l.foldl addK acc = acc ++ l
  | [], acc, _ => (List.append_nil acc).symm
  | k :: r, acc, nd => by
    have nk : k ∉ acc := fun z => (List.nodup_append.mp nd).2.2 k z k (by simp) rfl
    have e : addK acc k = acc ++ [k] := by unfold addK; rw [if_neg nk]
    rw [List.foldl_cons, e, addK_fold r (acc ++ [k]) (by rw [List.append_assoc]; exact nd), List.append_assoc]
    rfl
theorem sevK_nd : sevK.Nodup := inl_nd (ns := (List.range 7).map fun i => 8 + ((i : Nat) : Int)) (by decide) |> fun h => by
  rw [List.map_map] at h
  exact h
theorem Sev.of {H : Hp} {gs : List Rw} {F : Fn} (h1 : (gs.map fun q => (Sum.inl q.1.2.1 : Key)) = sevK) (h2 : ∀ q ∈ gs, H q.1.2.2 = some (tupI (F q.1.2.1))) : Sev H (mergeK [] (chKV gs)) F := by
  have e2 : (chKV gs).map (·.1) = gs.map fun q => (Sum.inl q.1.2.1 : Key) := by unfold chKV; rw [List.map_map]; rfl
  refine ⟨?_, fun n v hm => ?_⟩
  · rw [keys_merge, e2, h1]
    have := addK_fold sevK [] (by rw [List.nil_append]; exact sevK_nd)
    rw [List.nil_append] at this
    exact this
  · rcases mem_merge _ _ _ hm with z | z
    · cases z
    · obtain ⟨q, hq, e⟩ := List.mem_map.mp z
      injection e with e3 e4
      injection e3 with e3
      subst e3
      exact ⟨q.1.2.2, e4.symm, h2 q hq⟩
def dOf (F : Fn) : Key → PyData
  | .inl n => .tuple ((F n).map PyData.int)
  | .inr _ => .none
theorem hitsB_iff {ls : KVs} {dk dl : Key → PyData} : ∀ ks : KVs, HKE.hitsB ls dk dl ks = true ↔ ∀ p ∈ ks, (valV ls p.1).isSome = true ∧ PyData.eqv (dk p.1) (dl p.1) = true
  | [] => by simp [HKE.hitsB]
  | p :: r => by
    rw [HKE.hitsB]
    have ih := hitsB_iff (ls := ls) (dk := dk) (dl := dl) r
    cases h : valV ls p.1 with
    | none => simp [h]
    | some v => simp [h, ih]
theorem Sev.dvs {K : PySem.W.Frag} {H : Hp} {kvs : KVs} {F : Fn} (x : Sev H kvs F) : HKE.DVs K H kvs (dOf F) := fun k v hm => by
  have hk : k ∈ sevK := by rw [← x.ks]; exact List.mem_map_of_mem hm
  obtain ⟨i, _, rfl⟩ := List.mem_map.mp hk
  obtain ⟨t, rfl, ht⟩ := x.val _ v hm
  exact ⟨.tup (SqT.of ht) (dpall_ints _), shaped_ints _⟩
theorem Sev.eq {H : Hp} {ks ls : KVs} {F G : Fn} (x : Sev H ks F) (y : Sev H ls G) : (HKE.dEq ks ls (dOf F) (dOf G) = true ↔ HomeIs F G) := by
  have lk : ks.length = 7 := by
    have := congrArg List.length x.ks
    unfold keys at this
    rw [List.length_map] at this
    exact this
  have ll : ls.length = 7 := by
    have := congrArg List.length y.ks
    unfold keys at this
    rw [List.length_map] at this
    exact this
  unfold HKE.dEq
  rw [lk, ll, show ((7 : Nat) == 7) = true from rfl, Bool.true_and, hitsB_iff]
  constructor
  · intro h n a b
    have hk : (Sum.inl n : Key) ∈ keys ks := by
      rw [x.ks]
      exact List.mem_map.mpr ⟨(n - 8).toNat, List.mem_range.mpr (by omega), by congr 1; omega⟩
    obtain ⟨p, hp, e⟩ := List.mem_map.mp hk
    have z := (h p hp).2
    rw [e] at z
    have z : PyData.eqv (.tuple ((F n).map PyData.int)) (.tuple ((G n).map PyData.int)) = true := z
    rw [PyData.eqv, eqv_ints] at z
    exact of_decide_eq_true z
  · intro h p hp
    have hk : p.1 ∈ sevK := by rw [← x.ks]; exact List.mem_map_of_mem hp
    refine ⟨isSome_mem.mpr (by rw [y.ks]; exact hk), ?_⟩
    obtain ⟨i, hi, e⟩ := List.mem_map.mp hk
    have hi := List.mem_range.mp hi
    rw [← e]
    show PyData.eqv (.tuple ((F _).map PyData.int)) (.tuple ((G _).map PyData.int)) = true
    rw [PyData.eqv, eqv_ints, h _ (by omega) (by omega)]
    exact decide_eq_true rfl
end K03
namespace K03
open PySem L2 HK
theorem passL' {P : Program} {w : World} {X : Cx} : Passes (L2.CX P w) X E0 := fun _ _ _ _ _ _ _ h => by
  obtain ⟨_, _, _, _, _, _, _, _, _, _, _, _, z⟩ := h
  exact z.elim
abbrev againBody : List Stmt := (lawBody.drop 6).take 3
/-- what is found -/
def WY (CC R PT a D p : Addr) (σ : L2.St) (H : Hp) : Prop :=
  ∃ (c cx j : Addr) (cap com : Int) (bA dA : Addr) (be : V) (nf F : Fn) (St Nd Fd : Addr) (fk : KVs) (sts : List (Addr × Fn)) (dc : Dice) (dead : Bool) (u7 u8 u9 u10 u11 u12 u13 u14 u15 u18 u19 u20 : Option V),
    σ = [some (.ref a), some (.ref D), some (.ref p), some (.int cap), some (.ref St), some (.ref Nd), some (.bl dead), u7, u8, u9, u10, u11, u12, u13, u14, u15, some (.ref Fd), some (.ref c), u18, u19, u20] ∧ LO D R PT St Nd sts nf dc H ∧
    H c = some (.ins CC cx (fsC j cap bA dA be com)) ∧ 0 ≤ com ∧ H Fd = some (.dK fk) ∧ Sev H fk F ∧ (∃ s ∈ sts, HomeIs F s.2) ∧ sts.length ≤ 40
section
variable {P : Program} {w : World} {K : PySem.W.Frag} {mg : Str → Option Value} {base : Heap} {C CE CJ CJE CC g0 : Addr}
theorem again_ok (L : LTxt P w K mg base C CE CJ CJE CC g0) {f c0 : Addr} {A : Around} {outer : List Env} {s : Shared} {H0 : Hp} {E0 : XK} (hr : Room 10 (LX P w K mg base f c0 A outer s H0 E0).A) :
    ∃ t, PSs (LX P w K mg base f c0 A outer s H0 E0) againBody t ∧ ∀ (R PT a D p : Addr) (Dn : Ends) (σ : L2.St) (H : Hp), WX CC C R PT a D p σ H → (∀ σ' H', WY CC R PT a D p σ' H' → Dn.nx σ' H') → t Dn σ H := by
  obtain ⟨f3, d3, F3, m3, k3, b3⟩ := L.roll
  obtain ⟨fT, dT, FT, mT, bT⟩ := L.rest
  obtain ⟨fJ, dJ, FJ, MJ, bJ⟩ := L.jinit
  obtain ⟨fV, dV, FV, mV, bV⟩ := L.recov
  obtain ⟨fR, dR, FR, mR, bR⟩ := L.read
  have T := L.D
  have J := L.J
  have X := L.X
  have r3 := F3.mono (show 1 ≤ 10 by decide)
  have rT := FT.mono (show 3 ≤ 10 by decide)
  have rJ9 := FJ.mono (show 1 ≤ 9 by decide)
  have rV := FV.mono (show 5 ≤ 10 by decide)
  have rR := FR.mono (show 2 ≤ 10 by decide)
  refine ⟨_, pss_cons (ps_set (i := 15) scLaw.nd rfl (Or.inr rfl) (pe_meth (pv 2) T.cl mT rT hr bT .nil pass0 (pa_cons (pe_lc (own := [("k", 19)]) (g := gName 19) (by rfl) scLaw.nd (pi_range1 (by rfl) L.G.range (pa_cons (pe_call r3 hr (by rfl) m3 k3 b3 .nil pass0 (pa_cons (pv 1) (pa_cons pe_int pa_nil))) pa_nil))
        (blkOk_by (N := NL) (sc := defScope sLaw) (by decide +kernel)) (fun _ _ _ _ _ => pg_name (i := 19) scLaw.nd rfl (Or.inl rfl)) (fun _ _ _ _ _ => pts_nil)
        (fun _ _ _ _ _ => pe_call r3 hr (by rfl) m3 k3 b3 .nil pass0 (pa_cons (pv 1) (pa_cons pe_int pa_nil)))) pa_nil)))
    (pss_cons (ps_expr (pe_meth0 (pe_make MJ rJ9 hr (by rfl) J.gC bJ .nil pass0 (pa_cons (pv 15) (pa_cons pe_int (pa_cons pe_int pa_nil)))) J.cl mV rV hr bV .nil passL))
    (pss_one (ps_set (i := 16) scLaw.nd rfl (Or.inr rfl) (pe_callTy (call_dictP rfl) (by rfl) T.dict PyProof.Rows.Boot.«dict» (pa_cons (pe_lc (own := [("number", 10)]) (g := gName 10) (te := tTup (tCons (tVar 10) (tCons (tMeth C "read" (spReadA C CE) [] L2.E0 (tVar 15) (tCons (tVar 10) tNil)) tNil))) (by rfl) scLaw.nd (pi_range2 (by rfl) L.G.range (pa_cons pe_int (pa_cons pe_int pa_nil)))
        (blkOk_by (N := NL) (sc := defScope sLaw) (by decide +kernel)) (fun _ _ _ _ _ => pg_name (i := 10) scLaw.nd rfl (Or.inl rfl)) (fun _ _ _ _ _ => pts_nil)
        (fun _ _ _ _ _ => by refine pe_tup (pa_cons (pv 10) (pa_cons ?_ pa_nil)); refine pe_meth ?_ T.cl mR rR hr bR .nil passL' (pa_cons ?_ pa_nil); exact pv 15; exact pv 10)) pa_nil))))), ?_⟩
  intro R PT a D p Dn σ H hW hnx
  obtain ⟨c, cx, j, cap, com, bA, dA, be, N, d, dx, B, W, g0, g1, nf, St, Nd, sts, dc, dead, u7, u8, u9, u10, u11, u12, u13, u14, u15, u16, u18, u19, u20, rfl, lo, hc, com0, hD, hN, ck, ⟨sa, hsa, ea⟩, ⟨sb, hsb, eb⟩, nDW, hlen⟩ := hW
  refine ⟨_, rfl, p, dx, _, rfl, hD.ins, rfl, _, rfl, D, dc, 14, rfl, lo.dice, by decide, by decide, ?_⟩
  obtain ⟨r0, r1⟩ := roll_range dc (m := 14) (by decide)
  have s1 : SameX D H (upd H D (.lst (roll dc 14).2.vs)) := SameX.upd
  have lo1 := lo.rolled s1 (dc' := (roll dc 14).2) upd_same
  have ncD := ne_of hc lo.dice (by intro z; cases z)
  have hc1 := s1 _ _ ncD hc
  have hD1 := hD.dice lo.dice nDW s1
  generalize upd H D (.lst (roll dc 14).2.vs) = H1 at s1 lo1 hc1 hD1 ⊢
  generalize (roll dc 14).2 = dc1 at lo1
  clear lo hc hD s1
  refine ⟨_, rfl, by omega, by omega, fun L nL => ?_⟩
  have nLD : L ≠ D := fun e => by rw [e, lo1.dice] at nL; cases nL
  refine lc_it (walk_range (lo := 0) (n := (roll dc 14).1.toNat)) (fun i H' => ∃ dc' cs, LO D R PT St Nd sts nf dc' H' ∧ H' c = some (.ins CC cx (fsC j cap bA dA be com)) ∧ DevS C H' p dx B W N d ∧ H' L = some (.lst (List.map V.int cs)) ∧ cs.length ≤ i ∧ (∀ b o, b ≠ D → H1 b = some o → H' b = some o))
    ⟨dc1, [], lo1.same (same_upd nL), same_upd nL _ _ hc1, hD1.same (same_upd nL), upd_same, Nat.le_refl _, fun b o _ h => same_upd nL _ _ h⟩ (fun _ _ _ _ => trivial) (fun i x H' H'' hi q y => ?_) (fun H' q => ?_)
  · obtain ⟨rfl, rfl⟩ := y
    obtain ⟨dc', cs, lo2, hc2, hD2, hL, hcs, st⟩ := q
    refine ⟨rfl, _, rfl, D, dc', 3, rfl, lo2.dice, by decide, by decide, ?_⟩
    have s3 : SameX D H'' (upd H'' D (.lst (roll dc' 3).2.vs)) := SameX.upd
    have lo3 := lo2.rolled s3 (dc' := (roll dc' 3).2) upd_same
    have hc3 := s3 _ _ ncD hc2
    have hD3 := hD2.dice lo2.dice nDW s3
    have hL3 := s3 _ _ nLD hL
    have st3 : ∀ b o, b ≠ D → H1 b = some o → (upd H'' D (.lst (roll dc' 3).2.vs)) b = some o := fun b o n h => s3 _ _ n (st b o n h)
    generalize upd H'' D (.lst (roll dc' 3).2.vs) = H3 at s3 lo3 hc3 hD3 hL3 st3 ⊢
    refine ⟨_, hL3, by rw [List.length_map]; exact small1000' (by omega), (roll dc' 3).2, cs ++ [(roll dc' 3).1], ?_⟩
    have s4 : SameX L H3 (upd H3 L (.lst (List.map V.int cs ++ [V.int (roll dc' 3).1]))) := SameX.upd
    have aL : Apt D R St Nd sts [L] := Apt.of_none lo1 nL
    have m4 : Mv [L] H3 (upd H3 L (.lst (List.map V.int cs ++ [V.int (roll dc' 3).1]))) := Mv.sameX (by rw [hL3]; exact Soft.lst) s4
    have hB1 : ∃ k, H1 B = some (.dK k) := by
      obtain ⟨i, nf, kvs, es, hB, _⟩ := hD1
      exact ⟨kvs, hB⟩
    have hW1 : ∃ k, H1 W = some (.lst k) := by
      obtain ⟨i, nf, kvs, es, hB, hc, hW, _⟩ := hD1
      exact ⟨_, hW.lst⟩
    obtain ⟨kB, hB1⟩ := hB1
    obtain ⟨kW, hW1⟩ := hW1
    refine ⟨lo3.mv m4 aL, s4 _ _ (ne_of_none hc1 nL) hc3, hD3.mv m4 (by simp [ne_of_none hD1.ins nL, ne_of_none hB1 nL, ne_of_none hW1 nL]), by rw [upd_same, List.map_append]; rfl, by rw [List.length_append]; show cs.length + 1 ≤ i + 1; omega, fun b o n h => s4 _ _ (ne_of_none h nL) (st3 b o n h)⟩
  · obtain ⟨dc2, cs, lo2, hc2, hD2, hL, hcs, _⟩ := q
    clear lo1 hc1 hD1 nL nLD
    refine ⟨p, dx, B, W, N, d, L, cs, rfl, hD2, by omega, hL, fun x xd Bx Wx H3 s3 nx nB nW D3 => ?_⟩
    have lo3 := lo2.same s3
    have hc3 := s3 _ _ hc2
    have ap : Apt D R St Nd sts [x, Bx, Wx] := ((Apt.of_none lo2 nx).app (Apt.of_none lo2 nB)).app (Apt.of_none lo2 nW)
    have nc : c ∉ [x, Bx, Wx] := by simp [ne_of_none hc2 nx, ne_of_none hc2 nB, ne_of_none hc2 nW]
    clear lo2 hc2 hD2 hL s3 nx nB nW
    -- recovered
    refine ⟨_, rfl, fun jj jx nj njx njj => ⟨jj, jx, x, rfl, upd_same, ⟨rfl, ?_⟩⟩⟩
    have s4 : Same H3 (upd (upd (upd H3 jx (.own jj)) jj (.ins CJ jx [])) jj (.ins CJ jx (fsJ x 0))) := made_J nj njx
    have hj4 : JAt CJ (upd (upd (upd H3 jx (.own jj)) jj (.ins CJ jx [])) jj (.ins CJ jx (fsJ x 0))) jj jx x 0 := upd_same
    have njp : jj ≠ x := (ne_of_none D3.ins nj).symm
    generalize upd (upd (upd H3 jx (.own jj)) jj (.ins CJ jx [])) jj (.ins CJ jx (fsJ x 0)) = H4 at s4 hj4 ⊢
    have lo4 := lo3.same s4
    have hc4 := s4 _ _ hc3
    have D4 := D3.same s4
    refine ⟨jj, jx, _, rfl, hj4, rfl, ?_⟩
    refine rec_spec (g0 := g0) (g1 := g1) D4 hj4 njp (by omega) rfl rfl (ck cs) (fun H5 W5 d5 t ns hW5 b5 D5 al5 hw5 rs hfz5 hns _ ht => ?_) (fun H5 W5 d5 hW5 b5 D5 cok ne => absurd rfl ne)
    have m5 := Mv.bar D4 b5
    have lo5 := lo4.mv m5 ap
    have hc5 := m5.2 _ _ hc4 nc
    have hF : ∃ s ∈ sts, HomeIs d5.f s.2 := by
      rcases rs.home with z | z
      · exact ⟨sa, hsa, z.trans ea.symm⟩
      · exact ⟨sb, hsb, z.trans eb.symm⟩
    clear lo3 hc3 D3 lo4 hc4 D4 m5 b5 hj4 s4 nj njx njj hns rs
    -- found
    refine ⟨8, 15, rfl, ⟨by decide, by decide, by decide, by decide⟩, fun Z nZ => ?_⟩
    refine lc_it (walk_range (lo := 8) (n := 7)) (fun k H' => Same H5 H' ∧ ∃ gs : List Rw, RowsAt H' Z gs ∧ (gs.map fun q => (Sum.inl q.1.2.1 : Key)) = sevK.take k ∧ ∀ q ∈ gs, q.2 = d5.f q.1.2.1) ⟨same_upd nZ, [], ⟨upd_same, (fun q h => by cases h), (fun q h => by cases h)⟩, rfl, (fun q h => by cases h)⟩ (fun _ _ _ _ => trivial) (fun k z H' H'' hk q y => ?_) (fun H' q => ?_)
    · obtain ⟨rfl, rfl⟩ := y
      obtain ⟨s6, gs, RR, hg, hq⟩ := q
      refine ⟨rfl, _, rfl, _, rfl, x, xd, _, rfl, s6 _ _ D5.ins, rfl, _, rfl, ?_⟩
      refine spR_of (D5.same s6) (by omega) al5 ⟨by omega, by omega⟩ fun H7 r s7 hr7 => ?_
      rw [rd_of hw5] at hr7
      have R7 := RR.same s7
      refine ⟨by show 2 ≤ sizeLine; decide, fun tt ntt => ?_⟩
      have s8 : Same H7 (upd H7 tt (.tup [.int (8 + ((k : Nat) : Int)), .ref r])) := same_upd ntt
      have ht8 : (upd H7 tt (.tup [.int (8 + ((k : Nat) : Int)), .ref r])) tt = some (.tup [.int (8 + ((k : Nat) : Int)), .ref r]) := upd_same
      generalize upd H7 tt (.tup [.int (8 + ((k : Nat) : Int)), .ref r]) = H8 at s8 ht8 ⊢
      have R8 := R7.same s8
      have lg : gs.length = k := by
        have := congrArg List.length hg
        rw [List.length_map, List.length_take] at this
        have l7 : sevK.length = 7 := rfl
        omega
      have tp : ∀ {a : Addr} {xs : List V}, H8 a = some (.tup xs) → (upd H8 Z (.lst ((gs.map fun q => V.ref q.1.1) ++ [V.ref tt]))) a = some (.tup xs) := fun {a xs} h => by rw [upd_ne (tup_ne h R8.lst (fun ys z => by cases z))]; exact h
      refine ⟨_, R8.lst, by rw [List.length_map]; exact small1000' (by omega), fun b o h => ?_, gs ++ [((tt, 8 + ((k : Nat) : Int), r), d5.f (8 + ((k : Nat) : Int)))], ⟨by rw [upd_same, List.map_append]; rfl, fun q hm => ?_, fun q hm => ?_⟩, ?_, fun q hm => ?_⟩
      · rw [upd_ne (ne_of_none h nZ)]
        exact s8 _ _ (s7 _ _ (s6 _ _ h))
      · rcases List.mem_append.mp hm with z | z
        · exact tp (R8.tup q z)
        · rw [List.mem_singleton.mp z]; exact tp ht8
      · rcases List.mem_append.mp hm with z | z
        · exact tp (R8.dat q z)
        · rw [List.mem_singleton.mp z]; exact tp (s8 _ _ hr7)
      · have hsk : sevK[k]? = some (.inl (8 + ((k : Nat) : Int))) := by
          unfold sevK
          rw [List.getElem?_map, List.getElem?_range (by omega)]
          rfl
        rw [List.map_append, hg, List.take_add_one, hsk]
        rfl
      · rcases List.mem_append.mp hm with z | z
        · exact hq q z
        · rw [List.mem_singleton.mp z]
    · obtain ⟨s6, gs, RR, hg, hq⟩ := q
      have hg7 : (gs.map fun q => (Sum.inl q.1.2.1 : Key)) = sevK := hg
      refine ⟨Z, gs.map (·.1.1), chKV gs, rfl, SqL.of (by rw [List.map_map]; exact RR.lst), paired_rows gs RR.tup, fun Fd nF => ?_⟩
      have s7 : Same H' (upd H' Fd (.dK (mergeK [] (chKV gs)))) := same_upd nF
      have sev : Sev (upd H' Fd (.dK (mergeK [] (chKV gs)))) (mergeK [] (chKV gs)) d5.f := Sev.of hg7 fun q hm => s7 _ _ (by rw [← hq q hm]; exact RR.dat q hm)
      exact hnx _ _ ⟨c, cx, j, cap, com, bA, dA, be, nf, d5.f, St, Nd, Fd, _, sts, dc2, dead, u7, u8, u9, u10, u11, u12, u13, u14, _, u18, u19, u20, rfl, (lo5.same s6).same s7, s7 _ _ (s6 _ _ hc5), com0, upd_same, sev, hF, hlen⟩
end
end K03
namespace K03
open PySem L2 HK
def rDictP (K : PySem.W.Frag) : List V → Hp → VK → Prop := fun xs H Q => ∃ (a : Addr) (ps : List Addr) (kvs : List (Key × V)), xs = [.ref a] ∧ SqL K H a (ps.map V.ref) ∧ Paired (fun p kv => SqT K H p [kV kv.1, kv.2]) ps kvs ∧ ∀ p, H p = none → Q (.ref p) (upd H p (.dK (mergeK [] kvs)))
abbrev lastBody : List Stmt := lawBody.drop 9
def lcScope : Stmt → Scope
  | .If (.Compare (.ListComp _ _ sc _) _ _ _) _ _ _ => { sc with names := sc.names.map fun q => if q.2 == NameKind.free then (q.1, NameKind.cell) else q }
  | _ => default
abbrev outS : Scope := lcScope (lawBody.getD 9 (.Pass ⟨0, 0, 0, 0⟩))
section
variable {P : Program} {w : World} {K : PySem.W.Frag} {mg : Str → Option Value} {base : Heap} {C CE CJ CJE CC g0 : Addr}
theorem last_ok (L : LTxt P w K mg base C CE CJ CJE CC g0) {f c0 : Addr} {A : Around} {outer : List Env} {s : Shared} {H0 : Hp} {E0 : XK} (hr : Room 10 (LX P w K mg base f c0 A outer s H0 E0).A) :
    ∃ t, PSs (LX P w K mg base f c0 A outer s H0 E0) lastBody t ∧ ∀ (R PT a D p : Addr) (Dn : Ends) (σ : L2.St) (H : Hp), WY CC R PT a D p σ H → (∀ σ' H', H' R = some (.lst [.ref D]) → Dn.nx σ' H') → t Dn σ H := by
  have T := L.D
  have X := L.X
  refine ⟨_, pss_cons (ps_if (pt_cmpR (op_eqD hr.units) (pe_lc (own := [("state", 20)]) (g := gName 20) (te := tC (.int 1)) (by rfl) scLaw.nd (pi_list (pv 4)) (blkOk_by (N := NL) (sc := defScope sLaw) (by decide +kernel))
        (fun _ _ _ _ _ => pg_name (i := 20) scLaw.nd rfl (Or.inr rfl))
        (fun _ _ _ _ _ => pts_one (pt_cmpR (r := HKE.rEqDD K) (by exact HKE.op_eqDD (room66 hr)) (pv 16) (pe_callTy (r := rDictP K) (by exact call_dictP rfl) (by rfl) T.dict PyProof.Rows.Boot.«dict» (pa_cons
          (pe_lc (own := [("number", 10)]) (g := gName 10) (by rfl) scLaw.nd (pi_range2 (by rfl) L.G.range (pa_cons pe_int (pa_cons pe_int pa_nil))) (blkOk_by (N := NL) (sc := outS) (by decide +kernel))
            (fun _ _ _ _ _ => pg_name (i := 10) scLaw.nd rfl (Or.inl rfl)) (fun _ _ _ _ _ => pts_nil)
            (fun _ _ _ _ _ => pe_tup (pa_cons (pv 10) (pa_cons (pe_dget2 (by exact hu_of hr) (pv 20) (pv 10) (pe_op (r := rRepT K) (by exact op_repT) (pe_tup (pa_cons pe_int pa_nil)) pe_int) ⟨rfl, rfl, rfl, rfl⟩) pa_nil)))) pa_nil)) (nomark _)))
        (fun _ _ _ _ _ => pe_int)) (pe_lst pa_nil) (nomark _)) (pss_one (ps_ret pe_bl)) pss_nil)
    (pss_one (ps_if (PW.pt (pw_or (pt_cmpR op_lt (pe_fld (pv 17) rfl) pe_int (nomark _)) (pw_or1 (pt_cmpR op_ne (pe_fld (pv 17) rfl) (pv 3) (nomark _))))) (pss_one (ps_ret pe_bl)) pss_nil)), ?_⟩
  intro R PT a D p Dn σ H hW hnx
  obtain ⟨c, cx, j, cap, com, bA, dA, be, nf, F, St, Nd, Fd, fk, sts, dc, dead, u7, u8, u9, u10, u11, u12, u13, u14, u15, u18, u19, u20, rfl, lo, hc, com0, hFd, sev, ⟨sa, hsa, ea⟩, hlen⟩ := hW
  refine ⟨_, rfl, St, rfl, ⟨_, SqL.of lo.st⟩, fun Z nZ => ?_⟩
  refine lc_list (K := K) (a := St) (xs := sts.map fun s => V.ref s.1) (fun i H' => Same H H' ∧ ∃ m : Nat, H' Z = some (.lst ((List.replicate m (1 : Int)).map V.int)) ∧ m ≤ i ∧ ((∃ s ∈ sts.take i, HomeIs F s.2) → 0 < m)) ⟨same_upd nZ, 0, upd_same, Nat.le_refl _, fun ⟨s, hs, _⟩ => by cases hs⟩ (fun i H' hi q => SqL.of (q.1 _ _ lo.st)) (fun i z H' hx q => ?_) (fun H' q => ?_)
  · obtain ⟨sm, m, hZ, hm, hpos⟩ := q
    rw [List.getElem?_map] at hx
    obtain ⟨sq, hsq, rfl⟩ := Option.map_eq_some_iff.mp hx
    have hmem := List.mem_of_getElem? hsq
    have hil := (List.getElem?_eq_some_iff.mp hsq).1
    have ld := (lo.dst sq hmem).same sm
    obtain ⟨kvs, hk, get⟩ := ld.get
    refine ⟨rfl, _, rfl, 8, 15, rfl, ⟨by decide, by decide, by decide, by decide⟩, fun Z2 nZ2 => ?_⟩
    refine lc_it (walk_range (lo := 8) (n := 7)) (fun k H2 => Same H' H2 ∧ ∃ gs : List Rw, RowsAt H2 Z2 gs ∧ (gs.map fun q => (Sum.inl q.1.2.1 : Key)) = sevK.take k ∧ ∀ q ∈ gs, q.2 = sq.2 q.1.2.1) ⟨same_upd nZ2, [], ⟨upd_same, (fun q h => by cases h), (fun q h => by cases h)⟩, rfl, (fun q h => by cases h)⟩ (fun _ _ _ _ => trivial) (fun k z H2 H2' hk2 q y => ?_) (fun H2 q => ?_)
    · obtain ⟨rfl, rfl⟩ := y
      obtain ⟨s2, gs, RR, hg, hq⟩ := q
      refine ⟨rfl, _, rfl, _, rfl, sq.1, rfl, .inl ⟨_, .inl (s2 _ _ hk)⟩, _, rfl, by show 1 ≤ sizeLine; decide, fun o no => ?_⟩
      have s3 : Same H2' (upd H2' o (.tup [.int 0])) := same_upd no
      refine ⟨o, 64, [.int 0], rfl, rfl, SqT.of upd_same, (fun z => by cases z), by decide, by decide, by decide, fun z nz => ?_⟩
      have s4 := s3.trans (same_upd (o := .tup (List.replicate (64 : Int).toNat [V.int 0]).flatten) nz)
      have hz := zeros_at (H := upd H2' o (.tup [.int 0])) (z := z)
      generalize upd (upd H2' o (.tup [.int 0])) z (.tup (List.replicate (64 : Int).toNat [V.int 0]).flatten) = H4 at s4 hz ⊢
      have s24 := s2.trans s4
      obtain ⟨r, er, hr4⟩ := get H4 z s24 hz (8 + (k : Nat))
      refine ⟨_, dGet_i (k := .inl (8 + ((k : Nat) : Int))) (s24 _ _ hk), ?_⟩
      rw [er]
      refine ⟨by show 2 ≤ sizeLine; decide, fun tt ntt => ?_⟩
      have R4 := RR.same s4
      have s8 : Same H4 (upd H4 tt (.tup [.int (8 + ((k : Nat) : Int)), .ref r])) := same_upd ntt
      have ht8 : (upd H4 tt (.tup [.int (8 + ((k : Nat) : Int)), .ref r])) tt = some (.tup [.int (8 + ((k : Nat) : Int)), .ref r]) := upd_same
      generalize upd H4 tt (.tup [.int (8 + ((k : Nat) : Int)), .ref r]) = H8 at s8 ht8 ⊢
      have R8 := R4.same s8
      have lg : gs.length = k := by
        have := congrArg List.length hg
        rw [List.length_map, List.length_take] at this
        have l7 : sevK.length = 7 := rfl
        omega
      have tp : ∀ {a : Addr} {xs : List V}, H8 a = some (.tup xs) → (upd H8 Z2 (.lst ((gs.map fun q => V.ref q.1.1) ++ [V.ref tt]))) a = some (.tup xs) := fun {a xs} h => by rw [upd_ne (tup_ne h R8.lst (fun ys z => by cases z))]; exact h
      refine ⟨_, R8.lst, by rw [List.length_map]; exact small1000' (by omega), fun b o h => ?_, gs ++ [((tt, 8 + ((k : Nat) : Int), r), sq.2 (8 + ((k : Nat) : Int)))], ⟨by rw [upd_same, List.map_append]; rfl, fun q hm => ?_, fun q hm => ?_⟩, ?_, fun q hm => ?_⟩
      · rw [upd_ne (ne_of_none h nZ2)]
        exact s8 _ _ (s24 _ _ h)
      · rcases List.mem_append.mp hm with z | z
        · exact tp (R8.tup q z)
        · rw [List.mem_singleton.mp z]; exact tp ht8
      · rcases List.mem_append.mp hm with z | z
        · exact tp (R8.dat q z)
        · rw [List.mem_singleton.mp z]; exact tp (s8 _ _ hr4)
      · have hsk : sevK[k]? = some (.inl (8 + ((k : Nat) : Int))) := by
          unfold sevK
          rw [List.getElem?_map, List.getElem?_range (by omega)]
          rfl
        rw [List.map_append, hg, List.take_add_one, hsk]
        rfl
      · rcases List.mem_append.mp hm with z | z
        · exact hq q z
        · rw [List.mem_singleton.mp z]
    · obtain ⟨s2, gs, RR, hg, hq⟩ := q
      have hg7 : (gs.map fun q => (Sum.inl q.1.2.1 : Key)) = sevK := hg
      refine ⟨Z2, gs.map (·.1.1), chKV gs, rfl, SqL.of (by rw [List.map_map]; exact RR.lst), paired_rows gs RR.tup, fun dd ndd => ?_⟩
      have s7 : Same H2 (upd H2 dd (.dK (mergeK [] (chKV gs)))) := same_upd ndd
      have sev2 : Sev (upd H2 dd (.dK (mergeK [] (chKV gs)))) (mergeK [] (chKV gs)) sq.2 := Sev.of hg7 fun q hm => s7 _ _ (by rw [← hq q hm]; exact RR.dat q hm)
      have hdd : (upd H2 dd (.dK (mergeK [] (chKV gs)))) dd = some (.dK (mergeK [] (chKV gs))) := upd_same
      generalize upd H2 dd (.dK (mergeK [] (chKV gs))) = H7 at s7 sev2 hdd ⊢
      have s27 := s2.trans s7
      have smz := sm.trans s27
      have sev1 : Sev H7 fk F := sev.keep (Keep.of smz)
      have hZ7 := s27 _ _ hZ
      refine ⟨Fd, dd, fk, mergeK [] (chKV gs), dOf F, dOf sq.2, rfl, rfl, smz _ _ hFd, hdd, sev1.dvs, sev2.dvs, _, rfl, ite2 (fun c1 => ?_) (fun c1 => ?_)⟩
      · refine ⟨_, hZ7, by rw [List.length_map, List.length_replicate]; exact small1000' (by omega), fun b o h => ?_, m + 1, ?_, by omega, fun _ => by omega⟩
        · rw [upd_ne (ne_of_none h nZ)]
          exact smz _ _ h
        · rw [upd_same, List.replicate_succ', List.map_append]
          rfl
      · refine ⟨smz, m, hZ7, by omega, fun ⟨s, hs, e⟩ => ?_⟩
        rw [List.take_add_one, hsq] at hs
        rcases List.mem_append.mp hs with z | z
        · exact hpos ⟨s, z, e⟩
        · have z : s = sq := by simpa using z
          rw [z] at e
          exact absurd ((sev1.eq sev2).mpr e) c1
  · obtain ⟨sm, m, hZ, hm, hpos⟩ := q
    rw [List.length_map, List.take_length] at hpos
    have m0 := hpos ⟨sa, hsa, ea⟩
    refine ⟨by show 0 ≤ sizeLine; decide, fun l nl => ?_⟩
    have s2 : Same H' (upd H' l (.lst [])) := same_upd nl
    refine eq_intsL (xs := List.replicate m 1) (ys := []) (SqL.of (s2 _ _ hZ)) (SqL.of upd_same) ⟨_, rfl, ?_⟩
    have hne : decide (List.replicate m (1 : Int) = []) = false := by
      rw [decide_eq_false_iff_not]
      intro e
      have := congrArg List.length e
      rw [List.length_replicate] at this
      simp at this
      omega
    rw [hne]
    refine iteF ?_
    have hc' := s2 _ _ (sm _ _ hc)
    refine ⟨_, rfl, c, CC, cx, _, _, rfl, hc', X.cl, X.n6, rfl, _, _, rfl, rfl, _, rfl, ite2 (fun z => by exfalso; have z := of_decide_eq_true z; omega) (fun _ => ?_)⟩
    refine ⟨_, rfl, c, CC, cx, _, _, rfl, hc', X.cl, X.n2, rfl, _, rfl, rfl, _, rfl, ite2 (fun z => by simp at z) (fun _ => ?_)⟩
    exact hnx _ _ (s2 _ _ (sm _ _ lo.row))
end
end K03
namespace K03
open PySem L2 HK
def spLaw (K : PySem.W.Frag) (P : Addr) : Sp := fun vs H Q _ => ∃ (a : Addr) (ns : List Int), vs = [.ref a] ∧ SqL K H a (ns.map V.int) ∧ LamX.Tabs [(P, lamQ)] H ∧ ∀ H', Q (.bl true) H'
theorem law_cut : lawBody.drop 5 = chkBody ++ (againBody ++ lastBody) := rfl
theorem for_itB {J : It} {n : Nat} {G : Hp → Prop} {Y : Nat → Hp → V → Hp → Prop} (w : Walk J n G Y) {g : TG} {tb : TS} {D : Ends} {σ : L2.St} {H : Hp} (Post : L2.St → Hp → Prop) (hp : ∀ σ H, Post σ H → D.nx σ H) (Pv : Nat → L2.St → Hp → Prop) (h0 : Pv 0 σ H) (hG : ∀ i σ H, i ≤ n → Pv i σ H → G H)
    (hs : (∀ σ H, Post σ H → D.nx σ H) → ∀ i x σ H H', i < n → Pv i σ H → Y i H x H' → g x σ H' fun σ2 H2 => tb { D with nx := Pv (i + 1), ct := Pv (i + 1), bk := D.nx } σ2 H2) (hd : ∀ σ H, Pv n σ H → Post σ H) :
    ∃ W : Nat → Nat → L2.St → Hp → Prop, (∃ m, W 0 m σ H) ∧ ∀ i m σ H, W i m σ H →
      (J.stop i H ∧ D.nx σ H) ∨ (J.go i H ∧ ∃ N : L2.St → Hp → Prop, (∀ σ' H', N σ' H' → ∃ m', m' < m ∧ W (i + 1) m' σ' H') ∧ ∀ x H', J.yld i H x H' → g x σ H' fun σ2 H2 => tb { D with nx := N, ct := N, bk := D.nx } σ2 H2) :=
  for_it w Pv h0 hG (hs hp) fun σ H h => hp σ H (hd σ H h)
section
variable {P : Program} {w : World} {K : PySem.W.Frag} {mg : Str → Option Value} {base : Heap} {C CE CJ CJE CC g0 : Addr}
theorem ok_law {f c0 PT : Addr} {oc kV doc pm ct : Value} {od an : Option Addr} {osl : Array (Option Value)}
    (lk : K.lookup f = some ⟨oc, od, .func (PySem.W.fnOf "law" "law" (defArgs sLaw) (defBody sLaw) (defScope sLaw) .none kV doc pm an (.ref c0) ct), osl⟩) (hcd : PySem.W.codeIn K (.ref c0) "law" = true) (TB : LamX.TabB base mg c0 PT) (L : LTxt P w K mg base C CE CJ CJE CC g0) :
    FnOk P w K mg base L2.CX0 11 f (PySem.W.fnOf "law" "law" (defArgs sLaw) (defBody sLaw) (defScope sLaw) .none kV doc pm an (.ref c0) ct) ["script"] (spLaw K PT) := by
  obtain ⟨f2, d2, F2, m2, k2, b2⟩ := L.rounds
  obtain ⟨f3, d3, F3, m3, k3, b3⟩ := L.roll
  obtain ⟨fI, dI, FI, MI, ds, vds, bI⟩ := L.init
  obtain ⟨fJ, dJ, FJ, MJ, bJ⟩ := L.jinit
  obtain ⟨fC, dC, FC, MC, bC⟩ := L.cinit
  obtain ⟨fA, dA, FA, mA, bA⟩ := L.arm
  have T := L.D
  have J := L.J
  have X := L.X
  have r2 := F2.mono (show 2 ≤ 10 by decide)
  have r3 := F3.mono (show 1 ≤ 10 by decide)
  have rI := FI.mono (show 1 ≤ 9 by decide)
  have rJ := FJ.mono (show 1 ≤ 9 by decide)
  have rC := FC.mono (show 1 ≤ 9 by decide)
  have rA := FA.mono (show 1 ≤ 10 by decide)
  refine fn_of lk hcd scLaw (fun vs H Q E h => ?_) (fun A outer s H vs Q E hr h => ?_)
  · obtain ⟨a, ns, rfl, _⟩ := h
    rfl
  · obtain ⟨a, ns, rfl, ha, hT, k⟩ := h
    suffices hX : ∃ t, PSs (cxOf L2.CX0 P w K mg base NL "law" (defScope sLaw) f (.ref c0) A outer s H E).nox (defBody sLaw) t ∧ t { nx := fun _ H' => Q .non H', rt := Q } (L2.start NL [.ref a]) H by
      obtain ⟨t, h1, h2⟩ := hX
      exact ⟨t, h1.nox, h2⟩
    have hr : Room 10 (cxOf L2.CX0 P w K mg base NL "law" (defScope sLaw) f (.ref c0) A outer s H E).nox.A := hr
    obtain ⟨ts, hts, qs⟩ := step_ok (s := s) (H0 := H) (E0 := E) L TB hr
    obtain ⟨tc, htc, qc⟩ := chk_ok (s := s) (H0 := H) (E0 := E) L hr
    obtain ⟨ta, hta, qa⟩ := again_ok (s := s) (H0 := H) (E0 := E) L hr
    obtain ⟨tl, htl, ql⟩ := last_ok (s := s) (H0 := H) (E0 := E) L hr
    have hrest : PSs (LX P w K mg base f c0 A outer s H E) (lawBody.drop 5) (tSeq tc (tSeq ta tl)) := by
      rw [law_cut]
      exact pss_app htc (pss_app hta htl)
    refine ⟨_, pss_cons (ps_for PassesOwn.never rfl (pi_list (pe_call r2 hr (by rfl) m2 k2 b2 .nil pass0 (pa_cons (pv 0) (pa_cons pe_int pa_nil)))) (pg_name (i := 1) scLaw.nd rfl (Or.inr rfl))
        (pss_cons (ps_par (i := 2) (j := 3) rfl scLaw.nd rfl rfl (by decide) rfl rfl (pa_cons (pe_make MI rI hr (by rfl) T.gC bI vds pass0 (pa_cons pe_int (pa_cons pe_int pa_nil))) (pa_cons (pe_op op_add pe_int (pe_call r3 hr (by rfl) m3 k3 b3 .nil pass0 (pa_cons (pv 1) (pa_cons pe_int pa_nil)))) pa_nil)) (by rfl))
        (pss_cons (ps_set (i := 17) scLaw.nd rfl (Or.inr rfl) (pe_make MC rC hr (by rfl) X.gC bC .nil pass0 (pa_cons (pe_make MJ rJ hr (by rfl) J.gC bJ .nil pass0 (pa_cons (pv 2) (pa_cons pe_int (pa_cons pe_int pa_nil)))) (pa_cons (pv 3) pa_nil))))
        (pss_cons (ps_expr (pe_meth (pv 2) T.cl mA rA hr bA .nil pass0 (pa_cons (pe_ix ix_list (pe_lst (pa_cons (pe_call r3 hr (by rfl) m3 k3 b3 .nil pass0 (pa_cons (pv 1) (pa_cons pe_int pa_nil))) (pa_cons pe_non pa_nil))) (pe_call r3 hr (by rfl) m3 k3 b3 .nil pass0 (pa_cons (pv 1) (pa_cons pe_int pa_nil))) (fun _ _ => rfl)) pa_nil)))
        (pss_cons (ps_asg (pe_tup (pa_cons (pe_lst (pa_cons pe_dnewK pa_nil)) (pa_cons pe_dnewK (pa_cons pe_bl pa_nil)))) (pg_tup rfl (pgs_cons (pg_name (i := 4) scLaw.nd rfl (Or.inl rfl)) (pgs_cons (pg_name (i := 5) scLaw.nd rfl (Or.inr rfl)) (pgs_cons (pg_name (i := 6) scLaw.nd rfl (Or.inl rfl)) pgs_nil)))))
        (pss_cons (ps_for PassesOwn.never rfl (pi_range1 (by rfl) J.range (pa_cons (pe_call r3 hr (by rfl) m3 k3 b3 .nil pass0 (pa_cons (pv 1) (pa_cons pe_int pa_nil))) pa_nil)) (pg_name (i := 7) scLaw.nd rfl (Or.inl rfl)) hts) hrest))))))
      (pss_one (ps_ret pe_bl)), ?_⟩
    refine ⟨_, rfl, a, ns, rfl, ha, fun H1 R D s1 nR nD nRD hR hD => ?_⟩
    refine ⟨R, rfl, ⟨_, SqL.of hR⟩, ?_⟩
    generalize mkDice (cell0 ns) = dc0 at hD
    refine for_list (K := K) (a := R) (xs := [.ref D]) (fun i σ H' => H' R = some (.lst [.ref D]) ∧ (i = 0 → σ = L2.start NL [.ref a] ∧ H' = H1)) ⟨hR, fun _ => ⟨rfl, rfl⟩⟩ (fun i σ H' hi q => SqL.of q.1) (fun i x σ H' hx q => ?_) (fun σ H' q => ?_)
    · match i, hx with
      | 0, hx =>
      obtain rfl : V.ref D = x := Option.some.inj hx
      obtain ⟨rfl, rfl⟩ := q.2 rfl
      have hT1 := hT.ext s1
      clear q hx hT ha s1 nR nD
      -- the device and the capacity
      refine fun p dx np ndx npd => ⟨p, dx, rfl, upd_same, fun B W H2 nB nW o D2 => ?_⟩
      obtain ⟨s2, nB', nW'⟩ := made_dev np ndx nB nW o
      have hD2 := s2 _ _ hD
      have hR2 := s2 _ _ hR
      have hT2 := hT1.ext s2
      have nDW : D ≠ W := ne_of_none hD nW'
      have nRW : R ≠ W := ne_of_none hR nW'
      clear hD hR hT1 np ndx npd nB nW o s2 nB' nW'
      refine ⟨rfl, _, rfl, D, dc0, 6, rfl, hD2, by decide, by decide, ?_⟩
      obtain ⟨c0r, c1r⟩ := roll_range dc0 (m := 6) (by decide)
      have s3 : SameX D H2 (upd H2 D (.lst (roll dc0 6).2.vs)) := SameX.upd
      have hD3 : (upd H2 D (.lst (roll dc0 6).2.vs)) D = some (.lst (roll dc0 6).2.vs) := upd_same
      have D3 := D2.dice hD2 nDW s3
      have hR3 := s3 _ _ nRD hR2
      have hT3 := (Mv.sameX (by rw [hD2]; exact Soft.lst) s3).tabs hT2
      generalize upd H2 D (.lst (roll dc0 6).2.vs) = H3 at s3 hD3 D3 hR3 hT3 ⊢
      generalize (roll dc0 6).2 = dc1 at hD3
      generalize (roll dc0 6).1 = cr at c0r c1r ⊢
      clear hD2 hR2 hT2 D2 s3
      refine ⟨_, _, rfl, rfl, _, _, rfl, ?_⟩
      -- the journal and the cache
      refine ⟨_, rfl, fun jj jx nj njx njj => ⟨jj, jx, p, rfl, upd_same, ⟨rfl, ?_⟩⟩⟩
      have s4 : Same H3 (upd (upd (upd H3 jx (.own jj)) jj (.ins CJ jx [])) jj (.ins CJ jx (fsJ p 0))) := made_J nj njx
      have hj4 : JAt CJ (upd (upd (upd H3 jx (.own jj)) jj (.ins CJ jx [])) jj (.ins CJ jx (fsJ p 0))) jj jx p 0 := upd_same
      have njp : jj ≠ p := (ne_of_none D3.ins nj).symm
      generalize upd (upd (upd H3 jx (.own jj)) jj (.ins CJ jx [])) jj (.ins CJ jx (fsJ p 0)) = H4 at s4 hj4 ⊢
      have hD4 := s4 _ _ hD3
      have D4 := D3.same s4
      have hR4 := s4 _ _ hR3
      have hT4 := hT3.ext s4
      clear hD3 D3 hR3 hT3 s4 nj njx njj
      refine ⟨_, rfl, fun c cx nc ncx ncc => ⟨c, cx, jj, 1 + cr, rfl, upd_same, fun bA dA H5 nB nDA nbd f5 hc5 hb5 hd5 => ⟨rfl, ?_⟩⟩⟩
      have bk : ∀ b, (upd (upd H4 cx (.own c)) c (.ins CC cx [])) b = none → H4 b = none := fun b e => by
        by_cases h1 : b = c
        · rw [h1]; exact nc
        · by_cases h2 : b = cx
          · rw [h2]; exact ncx
          · rw [upd_ne h1, upd_ne h2] at e; exact e
      have nB4 := bk _ nB
      have nD4 := bk _ nDA
      have s5 : Same H4 H5 := fun b u e => f5 b u (by rw [upd_ne (ne_of_none e nc), upd_ne (ne_of_none e ncx)]; exact e) (by simp [ne_of_none e nc])
      have ncj : c ≠ jj := (ne_of_none hj4 nc).symm
      have ncp : c ≠ p := (ne_of_none D4.ins nc).symm
      have hBk : ∃ k, H4 B = some (.dK k) := by
        obtain ⟨i, nf, kvs, es, hB, _⟩ := D4
        exact ⟨kvs, hB⟩
      obtain ⟨kB, hB4⟩ := hBk
      have nbB : bA ≠ B := (ne_of_none hB4 nB4).symm
      have ndB : dA ≠ B := (ne_of_none hB4 nD4).symm
      have hD5 := s5 _ _ hD4
      have D5 := D4.same s5
      have hR5 := s5 _ _ hR4
      have hT5 := hT4.ext s5
      have hj5 := s5 _ _ hj4
      have nDn : ∀ {a : Addr}, H4 a = none → D ≠ a ∧ R ≠ a := fun h => ⟨ne_of_none hD4 h, ne_of_none hR4 h⟩
      obtain ⟨nDc, nRc⟩ := nDn nc
      obtain ⟨nDb, nRb⟩ := nDn nB4
      obtain ⟨nDd, nRd⟩ := nDn nD4
      have nDj : D ≠ jj := ne_of hD4 hj4 (by intro z; cases z)
      have nRj : R ≠ jj := ne_of hR4 hj4 (by intro z; cases z)
      have nWk : ∃ k, H4 W = some (.lst k) := by
        obtain ⟨i, nf, kvs, es, hB, hc, hW, _⟩ := D4
        exact ⟨_, hW.lst⟩
      obtain ⟨kW, hW4⟩ := nWk
      have nbp : bA ≠ p := (ne_of_none D4.ins nB4).symm
      have nbW : bA ≠ W := (ne_of_none hW4 nB4).symm
      have ndp : dA ≠ p := (ne_of_none D4.ins nD4).symm
      have ndW : dA ≠ W := (ne_of_none hW4 nD4).symm
      have ncB : c ≠ B := (ne_of_none hB4 nc).symm
      have ncW : c ≠ W := (ne_of_none hW4 nc).symm
      have njB : jj ≠ B := ne_of hj4 hB4 (by intro z; cases z)
      have njW : jj ≠ W := ne_of hj4 hW4 (by intro z; cases z)
      have nDp : D ≠ p := ne_of hD4 D4.ins (by intro z; cases z)
      have nRp : R ≠ p := ne_of hR4 D4.ins (by intro z; cases z)
      have nDB : D ≠ B := ne_of hD4 hB4 (by intro z; cases z)
      have nRB : R ≠ B := ne_of hR4 hB4 (by intro z; cases z)
      clear bk nB nDA nB4 nD4 f5 s5 hD4 D4 hR4 hT4 hj4 hB4 hW4 nDn nc ncx ncc
      -- armed
      refine ⟨_, rfl, p, dx, _, rfl, D5.ins, rfl, _, rfl, D, dc1, 60, rfl, hD5, by decide, by decide, by show 2 ≤ sizeLine; decide, fun l nl => ?_⟩
      have s6 : SameX D H5 (upd H5 D (.lst (roll dc1 60).2.vs)) := SameX.upd
      have hD6 : (upd H5 D (.lst (roll dc1 60).2.vs)) D = some (.lst (roll dc1 60).2.vs) := upd_same
      have m6 : Mv [D] H5 (upd H5 D (.lst (roll dc1 60).2.vs)) := Mv.sameX (by rw [hD5]; exact Soft.lst) s6
      have D6 := D5.dice hD5 nDW s6
      have hR6 := s6 _ _ nRD hR5
      have hT6 := m6.tabs hT5
      have hj6 := s6 _ _ nDj.symm hj5
      have hc6 := s6 _ _ nDc.symm hc5
      have hb6 := s6 _ _ nDb.symm hb5
      have hd6 := s6 _ _ nDd.symm hd5
      generalize upd H5 D (.lst (roll dc1 60).2.vs) = H6 at hD6 D6 hR6 hT6 hj6 hc6 hb6 hd6 nl ⊢
      generalize (roll dc1 60).2 = dc2 at hD6
      generalize (roll dc1 60).1 = fz
      clear s6 m6 hD5 D5 hR5 hT5 hj5 hc5 hb5 hd5
      have s7 : Same H6 (upd H6 l (.lst [.int fz, .non])) := same_upd nl
      have hl7 : (upd H6 l (.lst [.int fz, .non])) l = some (.lst [.int fz, .non]) := upd_same
      have nlD : l ≠ D := (ne_of_none hD6 nl).symm
      generalize upd H6 l (.lst [.int fz, .non]) = H7 at s7 hl7 ⊢
      have hD7 := s7 _ _ hD6
      obtain ⟨q0, q1⟩ := roll_range dc2 (m := 2) (by decide)
      refine ⟨_, rfl, D, dc2, 2, rfl, hD7, by decide, by decide, ?_⟩
      have s8 : SameX D H7 (upd H7 D (.lst (roll dc2 2).2.vs)) := SameX.upd
      have hD8 : (upd H7 D (.lst (roll dc2 2).2.vs)) D = some (.lst (roll dc2 2).2.vs) := upd_same
      have m8 : Mv [D] H7 (upd H7 D (.lst (roll dc2 2).2.vs)) := Mv.sameX (by rw [hD7]; exact Soft.lst) s8
      have D8 := (D6.same s7).dice hD7 nDW s8
      have hR8 := s8 _ _ nRD (s7 _ _ hR6)
      have hT8 := m8.tabs (hT6.ext s7)
      have hj8 := s8 _ _ nDj.symm (s7 _ _ hj6)
      have hc8 := s8 _ _ nDc.symm (s7 _ _ hc6)
      have hb8 := s8 _ _ nDb.symm (s7 _ _ hb6)
      have hd8 := s8 _ _ nDd.symm (s7 _ _ hd6)
      have hl8 := s8 _ _ nlD hl7
      generalize upd H7 D (.lst (roll dc2 2).2.vs) = H8 at hD8 D8 hR8 hT8 hj8 hc8 hb8 hd8 hl8 ⊢
      generalize (roll dc2 2).2 = dc3 at hD8
      generalize (roll dc2 2).1 = ch at q0 q1 ⊢
      clear s7 hl7 hD7 s8 m8 hD6 D6 hR6 hT6 hj6 hc6 hb6 hd6
      obtain ⟨fv, hfv, hat⟩ : ∃ fv, (fv = .non ∨ ∃ n, fv = .int n) ∧ atI [V.int fz, .non] ch = some fv := by
        have : ch = 0 ∨ ch = 1 := by omega
        rcases this with rfl | rfl
        · exact ⟨_, .inr ⟨_, rfl⟩, atI_nat (j := 0) rfl⟩
        · exact ⟨_, .inl rfl, atI_nat (j := 1) rfl⟩
      refine ⟨l, _, _, _, rfl, rfl, SqL.of hl8, hat, ?_⟩
      refine ⟨p, dx, B, W, 0, AD.new, fv, rfl, hfv, D8, fun H9 b9 D9 => ?_⟩
      have m9 : Mv [p, B, W] H8 H9 := Mv.bar D8 b9
      have hD9 := b9 _ _ hD8 nDp nDB nDW
      have hR9 := b9 _ _ hR8 nRp nRB nRW
      have hT9 := m9.tabs hT8
      have hj9 := b9 _ _ hj8 njp njB njW
      have hc9 := b9 _ _ hc8 ncp ncB ncW
      have hb9 := b9 _ _ hb8 nbp nbB nbW
      have hd9 := b9 _ _ hd8 ndp ndB ndW
      clear hD8 hR8 hT8 hj8 hc8 hb8 hd8 D8 m9 b9 hl8 hat nl nlD
      have x9 : CAt CC CJ C c cx ⟨jj, jx, p, dx, B, W, bA, dA, .non, 1 + cr, 0, 0, 0, AD.new.armed fv, [], []⟩ (fun _ => List.replicate 64 0) H9 :=
        { ins := hc9
          jat := hj9
          dev := D9
          hb := hb9
          hd := hd9
          al := rfl
          hw := rfl
          hz := rfl
          ncj := ncj
          ncp := ncp
          njp := njp
          ndb := nbd.symm
          nbB := nbB
          ndB := ndB
          kb := Kr.nil
          kd := Kr.nil
          sub := fun k h => h
          dv := fun k v h => by cases h
          v1 := fun n v h => by cases h
          v2 := fun n _ _ _ => rfl
          v3 := fun n _ _ => List.length_replicate
          c1 := by show 1 ≤ 1 + cr; omega }
      have aD9 : D ∉ ownJ c ⟨jj, jx, p, dx, B, W, bA, dA, .non, 1 + cr, 0, 0, 0, AD.new.armed fv, [], []⟩ := by simp [ownJ, nDc, nDj, nDp, nDB, nDW, nDb, nDd]
      have aR9 : R ∉ ownJ c ⟨jj, jx, p, dx, B, W, bA, dA, .non, 1 + cr, 0, 0, 0, AD.new.armed fv, [], []⟩ := by simp [ownJ, nRc, nRj, nRp, nRB, nRW, nRb, nRd]
      clear hj9 hc9 hb9 hd9 D9 ncj ncp njp nbd nbB ndB nDc nDj nDp nDB nDW nDb nDd nRc nRj nRp nRB nRW nRb nRd nbp nbW ndp ndW ncB ncW njB njW
      generalize hgg : (⟨jj, jx, p, dx, B, W, bA, dA, .non, 1 + cr, 0, 0, 0, AD.new.armed fv, [], []⟩ : CG) = gg at x9 aD9 aR9
      have ecap : gg.cap = 1 + cr := by rw [← hgg]
      have ep : gg.p = p := by rw [← hgg]
      have ebe : gg.be = .non := by rw [← hgg]
      have ekd : gg.kd = [] := by rw [← hgg]
      have ekb : gg.kb = [] := by rw [← hgg]
      have eN : gg.N = 0 := by rw [← hgg]
      have esr : gg.sr = 0 := by rw [← hgg]
      have ecm : gg.com = 0 := by rw [← hgg]
      have edf : gg.d.f = fun _ => List.replicate 64 0 := by rw [← hgg]; rfl
      clear hgg
      -- states, now, dead
      refine fun k0 nk0 => ⟨by show 1 ≤ sizeLine; decide, fun l nl => fun k1 nk1 => ⟨by show 3 ≤ sizeLine; decide, fun t nt => ?_⟩⟩
      have s10 : Same H9 (upd H9 k0 (.dK [])) := same_upd nk0
      have s11 : Same (upd H9 k0 (.dK [])) (upd (upd H9 k0 (.dK [])) l (.lst [.ref k0])) := same_upd nl
      have s12 : Same (upd (upd H9 k0 (.dK [])) l (.lst [.ref k0])) (upd (upd (upd H9 k0 (.dK [])) l (.lst [.ref k0])) k1 (.dK [])) := same_upd nk1
      have s13 := same_upd (o := .tup [.ref l, .ref k1, .bl false]) nt
      have hk0 := s13 _ _ (s12 _ _ (s11 _ _ (upd_same (H := H9) (a := k0) (o := .dK []))))
      have hl := s13 _ _ (s12 _ _ (upd_same (H := upd H9 k0 (.dK [])) (a := l) (o := .lst [.ref k0])))
      have hk1 := s13 _ _ (upd_same (H := upd (upd H9 k0 (.dK [])) l (.lst [.ref k0])) (a := k1) (o := .dK []))
      have ak0 := x9.not_new nk0
      have al := (x9.same s10).not_new nl
      have ak1 := ((x9.same s10).same s11).not_new nk1
      have nDl : D ≠ l := ne_of_none (s10 _ _ hD9) nl
      have nRl : R ≠ l := ne_of_none (s10 _ _ hR9) nl
      refine ⟨t, _, rfl, SqT.of upd_same, rfl, _, _, rfl, _, _, rfl, _, _, rfl, rfl, ?_⟩
      have s14 := ((s10.trans s11).trans s12).trans s13
      generalize upd (upd (upd (upd H9 k0 (.dK [])) l (.lst [.ref k0])) k1 (.dK [])) t (.tup [.ref l, .ref k1, .bl false]) = H14 at s14 hk0 hl hk1 ⊢
      clear s10 s11 s12 s13 nk0 nl nk1 nt
      have cz : ∀ H', Cont H' 64 [] (fun _ => List.replicate 64 0) := fun H' => ⟨fun n => List.length_replicate, fun n => .inl ⟨rfl, rfl⟩⟩
      have lo14 : LO D R PT l k1 [(k0, fun _ => List.replicate 64 0)] (fun _ => List.replicate 64 0) dc3 H14 :=
        ⟨s14 _ _ hD9, s14 _ _ hR9, hT9.ext s14, hl, fun s hs => by rw [List.mem_singleton.mp hs]; exact ⟨[], hk0, Kr.nil, cz _⟩, ⟨[], hk1, Kr.nil, cz _⟩, nRD.symm, nDl, nRl⟩
      have W14 : WSt CC CJ C R PT D p c cx gg (fun _ => List.replicate 64 0) (fun _ => List.replicate 64 0) l k1 [(k0, fun _ => List.replicate 64 0)] dc3 0 H14 :=
        { lo := lo14
          cat := x9.same s14
          apt := ⟨aD9, aR9, al, ak1, fun s hs => by rw [List.mem_singleton.mp hs]; exact ak0⟩
          ep := ep
          be := ebe
          k5 := by rw [ekd]; exact Nat.zero_le _
          few := .inl (by rw [ekb, ecap]; show (0 : Int) ≤ 1 + cr; omega)
          view := HomeIs.refl _
          has := ⟨(k0, fun _ => List.replicate 64 0), by simp, HomeIs.refl _⟩
          com := ⟨(k0, fun _ => List.replicate 64 0), by simp, by rw [edf]; exact HomeIs.refl _⟩
          N := by omega
          s0 := by omega
          s1 := by omega
          c0 := by omega
          len := Nat.le_refl _ }
      clear lo14 x9 aD9 aR9 al ak0 ak1 hk0 hk1 hl s14 hD9 hR9 hT9 cz nDl nRl
      -- the steps
      obtain ⟨t0, t1⟩ := roll_range dc3 (m := 31) (by decide)
      refine ⟨_, rfl, D, dc3, 31, rfl, W14.lo.dice, by decide, by decide, ?_⟩
      have W15 := W14.rolled (H' := upd H14 D (.lst (roll dc3 31).2.vs)) SameX.upd upd_same
      generalize upd H14 D (.lst (roll dc3 31).2.vs) = H15 at W15 ⊢
      generalize (roll dc3 31).2 = dc4 at W15
      generalize (roll dc3 31).1 = tn at t0 t1 ⊢
      clear W14
      refine ⟨_, rfl, by omega, by omega, ?_⟩
      refine for_itB (walk_range (lo := 0) (n := tn.toNat)) (fun σ H => (∃ i, i ≤ 30 ∧ WS CC CJ C R PT a D p i σ H) ∨ WD CC C R PT a D p σ H) (fun σ H hP => ?_) (fun i σ H' => WS CC CJ C R PT a D p i σ H')
        ⟨c, cx, gg, _, _, l, k1, _, dc4, none, none, none, none, none, none, none, none, none, none, none, none, none, by rw [ecap]; rfl, W15⟩ (fun _ _ _ _ _ => trivial) (fun hp i y σ H' H'' hi q yy => ?_) (fun σ H' q => .inl ⟨_, by omega, q⟩)
      · refine qc R PT a D p _ σ H hP fun σ2 H2 h2 => ?_
        refine qa R PT a D p _ σ2 H2 h2 fun σ3 H3 h3 => ?_
        refine ql R PT a D p _ σ3 H3 h3 fun σ4 H4 h4 => ?_
        exact ⟨h4, fun z => by cases z⟩
      · obtain ⟨rfl, rfl⟩ := yy
        obtain ⟨c, cx, g, vw, nf, St, Nd, sts, dc, u7, u8, u9, u10, u11, u12, u13, u14, u15, u16, u18, u19, u20, rfl, rest⟩ := q
        exact qs R a D p _ i _ _ (by omega) ⟨c, cx, g, vw, nf, St, Nd, sts, dc, _, u8, u9, u10, u11, u12, u13, u14, u15, u16, u18, u19, u20, rfl, rest⟩ (fun _ _ h => h) (fun _ _ h => h) (fun σ' H' h => hp σ' H' (.inr h))
      | i + 1, hx => cases hx
    · exact k H'
end
end K03
namespace HK
open PySem PySem.Spec PyProof.Rows L2 LamX
theorem tabIn_of {K : PySem.W.Frag} {x : Str} {f c P : Addr} {fd : FuncData} {oc c1 : Value} {od c2 : Option Addr} {sl c3 : Array (Option Value)} {vs : Array Value} (a : PySem.W.nsIn K mainGlobals x = some (some (.ref f))) (l : K.lookup f = some ⟨oc, od, .func fd, sl⟩) (hc : fd.code = .ref c)
    (lc : K.lookup c = some ⟨c1, c2, .fields vs, c3⟩) (hv : vs[11]? = some (.ref P)) : PySem.W.tabIn K x = some (c, P) := by
  unfold PySem.W.tabIn
  rw [a]
  dsimp only
  rw [l]
  dsimp only
  rw [hc]
  dsimp only
  rw [lc]
  dsimp only
  rw [hv]
/-- the end of a law's row, the law's own table of code objects told -/
theorem walk_TT {l : PySem.W.OpenLaw} {n k : Nat} {q : Program} {loose : List Str} {XP : (Str → Option Value) → Heap → Prop} {YP : World → Heap → Prop} {d : DefRec} {K : Params → PySem.W.Frag} {CX : World → CXT} {x : Str}
    (hn : l.most = some n) (hn2 : n ≤ sizeLine) (hdf : d.params.defaults = []) (hr : Room k callerA) (hY : ∀ (w : World) (h : Heap), YP w h → (K w.params).In h) (hrec : (recsOf q).find? (fun e => e.name == d.name) = some d)
    (F : ∀ (w : World) (mg : Str → Option Value) (fa : Addr) (h : Heap), (∀ c P, PySem.W.tabIn (K w.params) d.name = some (c, P) → PySem.W.CodeHd h c P ∧ h.get? P = some ({ cls := .none, data := .fields #[] } : Obj)) → (K w.params).In h → h.Ns mainGlobals mg → mg d.name = some (.ref fa) → LawAtS l w (K w.params) (CX w) k n x mg fa h)
    (hCX : ∀ (w : World) (H : Hp) (s : Shared) (e : Value) (s' : Shared), CX w [] H s (fun _ _ _ => False) e s' → False) :
    PySem.W.WalkO q loose XP YP l.row.toRowW d [] (fun f vs => PySem.call f vs) := by
  refine Att.attach_callB hn hdf fun w s0 s1 mg mb fa o pm cd doc a vs ns G Y ho hd hcd hmg hobj hints hlen hbits hg => ?_
  have KX := hY w _ Y
  obtain ⟨fd, cs, sp, hT, nT, C, hb, hsp, hF⟩ := F w mg fa _ (fun c P ht => PySem.W.tab_of G.T KX hrec ht) KX G.T.g hmg
  exact law_callTs KX G.T.g G.T.b G.T.builtins G.T.nolimit hg hT nT C G.T.bmain hobj hints (Nat.le_trans hlen hn2) hr hF hb (fun H hH hS => hsp H a ns hlen hbits hH hS) fun H e s' => hCX w H s1 e s'
theorem exm_same {K : PySem.W.Frag} {C : Addr} (h1 : PySem.W.subIn K (.ref C) (.type "BaseException") = some true) (h2 : PySem.W.isClsIn K C = true) (h3 : PySem.W.typeIn K (.ref C) = some (.type "type")) (h4 : PySem.W.subIn K (.ref C) (.ref C) = some true) : PySem.W.exmOne K (.ref C) (.ref C) = some true :=
  by
  have e1 : (PySem.W.subIn K (.ref C) (.type "BaseException") == some true) = true := by rw [h1]; rfl
  unfold PySem.W.exmOne
  rw [if_pos e1]
  show (if ((PySem.W.clsIn K C).isSome && PySem.W.typeIn K (.ref C) == some (.type "type")) = true then PySem.W.subIn K (.ref C) (.ref C) else none) = some true
  have e2 : (PySem.W.clsIn K C).isSome = true := h2
  rw [e2, h3, h4]
  rfl
theorem exm_to {K : PySem.W.Frag} {C C2 : Addr} {b : Bool} (h1 : PySem.W.subIn K (.ref C2) (.type "BaseException") = some true) (h2 : PySem.W.isClsIn K C2 = true) (h3 : PySem.W.typeIn K (.ref C2) = some (.type "type")) (h4 : PySem.W.subIn K (.ref C) (.ref C2) = some b) : PySem.W.exmOne K (.ref C) (.ref C2) = some b := by
  have e1 : (PySem.W.subIn K (.ref C2) (.type "BaseException") == some true) = true := by rw [h1]; rfl
  unfold PySem.W.exmOne
  rw [if_pos e1]
  show (if ((PySem.W.clsIn K C2).isSome && PySem.W.typeIn K (.ref C2) == some (.type "type")) = true then PySem.W.subIn K (.ref C) (.ref C2) else none) = some b
  have e2 : (PySem.W.clsIn K C2).isSome = true := h2
  rw [e2, h3, h4]
  rfl
end HK
namespace K03
open PySem L2 HK
theorem all_mk {l : PySem.W.OpenLaw} {w : World} {K : PySem.W.Frag} {h : Heap} {mg : Str → Option Value} {fa : Addr} (X : K.In h) (G : h.Ns mainGlobals mg) (hfa : mg "law" = some (.ref fa))
    (tabs : ∀ c P, PySem.W.tabIn K "law" = some (c, P) → PySem.W.CodeHd h c P ∧ h.get? P = some ({ cls := .none, data := .fields #[] } : Obj))
    {fDice : Addr} {odDice anDice : Option Addr} {slDice : Array (Option Value)} {ocDice kVDice dcDice pmDice cdDice ctDice : Value}
    {fRoll : Addr} {odRoll anRoll : Option Addr} {slRoll : Array (Option Value)} {ocRoll kVRoll dcRoll pmRoll cdRoll ctRoll : Value}
    {fRounds : Addr} {odRounds anRounds : Option Addr} {slRounds : Array (Option Value)} {ocRounds kVRounds dcRounds pmRounds cdRounds ctRounds : Value}
    {fTold : Addr} {odTold anTold : Option Addr} {slTold : Array (Option Value)} {ocTold kVTold dcTold pmTold cdTold ctTold : Value}
    {fPair : Addr} {odPair anPair : Option Addr} {slPair : Array (Option Value)} {ocPair kVPair dcPair pmPair cdPair ctPair : Value}
    {fOfPair : Addr} {odOfPair anOfPair : Option Addr} {slOfPair : Array (Option Value)} {ocOfPair kVOfPair dcOfPair pmOfPair cdOfPair ctOfPair : Value}
    {fSum : Addr} {odSum anSum : Option Addr} {slSum : Array (Option Value)} {ocSum kVSum dcSum pmSum cdSum ctSum : Value}
    {fHRoom : Addr} {odHRoom anHRoom : Option Addr} {slHRoom : Array (Option Value)} {ocHRoom kVHRoom dcHRoom pmHRoom cdHRoom ctHRoom : Value}
    {fGroup : Addr} {odGroup anGroup : Option Addr} {slGroup : Array (Option Value)} {ocGroup kVGroup dcGroup pmGroup cdGroup ctGroup : Value}
    {fStart : Addr} {odStart anStart : Option Addr} {slStart : Array (Option Value)} {ocStart kVStart dcStart pmStart cdStart ctStart : Value}
    {fHead : Addr} {odHead anHead : Option Addr} {slHead : Array (Option Value)} {ocHead kVHead dcHead pmHead cdHead ctHead : Value}
    {fRHead : Addr} {odRHead anRHead : Option Addr} {slRHead : Array (Option Value)} {ocRHead kVRHead dcRHead pmRHead cdRHead ctRHead : Value}
    {fBlk : Addr} {odBlk anBlk : Option Addr} {slBlk : Array (Option Value)} {ocBlk kVBlk dcBlk pmBlk cdBlk ctBlk : Value}
    {fBlks : Addr} {odBlks anBlks : Option Addr} {slBlks : Array (Option Value)} {ocBlks kVBlks dcBlks pmBlks cdBlks ctBlks : Value}
    {fArm : Addr} {odArm anArm : Option Addr} {slArm : Array (Option Value)} {ocArm kVArm dcArm pmArm cdArm ctArm : Value}
    {fAlive : Addr} {odAlive anAlive : Option Addr} {slAlive : Array (Option Value)} {ocAlive kVAlive dcAlive pmAlive cdAlive ctAlive : Value}
    {fStep : Addr} {odStep anStep : Option Addr} {slStep : Array (Option Value)} {ocStep kVStep dcStep pmStep cdStep ctStep : Value}
    {fNumber : Addr} {odNumber anNumber : Option Addr} {slNumber : Array (Option Value)} {ocNumber kVNumber dcNumber pmNumber cdNumber ctNumber : Value}
    {fBlock : Addr} {odBlock anBlock : Option Addr} {slBlock : Array (Option Value)} {ocBlock kVBlock dcBlock pmBlock cdBlock ctBlock : Value}
    {fKept : Addr} {odKept anKept : Option Addr} {slKept : Array (Option Value)} {ocKept kVKept dcKept pmKept cdKept ctKept : Value}
    {fRead : Addr} {odRead anRead : Option Addr} {slRead : Array (Option Value)} {ocRead kVRead dcRead pmRead cdRead ctRead : Value}
    {fWrite : Addr} {odWrite anWrite : Option Addr} {slWrite : Array (Option Value)} {ocWrite kVWrite dcWrite pmWrite cdWrite ctWrite : Value}
    {fFlush : Addr} {odFlush anFlush : Option Addr} {slFlush : Array (Option Value)} {ocFlush kVFlush dcFlush pmFlush cdFlush ctFlush : Value}
    {fRest : Addr} {odRest anRest : Option Addr} {slRest : Array (Option Value)} {ocRest kVRest dcRest pmRest cdRest ctRest : Value}
    {fRoom : Addr} {odRoom anRoom : Option Addr} {slRoom : Array (Option Value)} {ocRoom kVRoom dcRoom pmRoom cdRoom ctRoom : Value}
    {fCommit : Addr} {odCommit anCommit : Option Addr} {slCommit : Array (Option Value)} {ocCommit kVCommit dcCommit pmCommit cdCommit ctCommit : Value}
    {fWG : Addr} {odWG anWG : Option Addr} {slWG : Array (Option Value)} {ocWG kVWG dcWG pmWG cdWG ctWG : Value}
    {fWH : Addr} {odWH anWH : Option Addr} {slWH : Array (Option Value)} {ocWH kVWH dcWH pmWH cdWH ctWH : Value}
    {fPend : Addr} {odPend anPend : Option Addr} {slPend : Array (Option Value)} {ocPend kVPend dcPend pmPend cdPend ctPend : Value}
    {fRec : Addr} {odRec anRec : Option Addr} {slRec : Array (Option Value)} {ocRec kVRec dcRec pmRec cdRec ctRec : Value}
    {fJI : Addr} {odJI anJI : Option Addr} {slJI : Array (Option Value)} {ocJI kVJI dcJI pmJI cdJI ctJI : Value}
    {fRdB : Addr} {odRdB anRdB : Option Addr} {slRdB : Array (Option Value)} {ocRdB kVRdB dcRdB pmRdB cdRdB ctRdB : Value}
    {fShr : Addr} {odShr anShr : Option Addr} {slShr : Array (Option Value)} {ocShr kVShr dcShr pmShr cdShr ctShr : Value}
    {fPut : Addr} {odPut anPut : Option Addr} {slPut : Array (Option Value)} {ocPut kVPut dcPut pmPut cdPut ctPut : Value}
    {fBeg : Addr} {odBeg anBeg : Option Addr} {slBeg : Array (Option Value)} {ocBeg kVBeg dcBeg pmBeg cdBeg ctBeg : Value}
    {fEnd : Addr} {odEnd anEnd : Option Addr} {slEnd : Array (Option Value)} {ocEnd kVEnd dcEnd pmEnd cdEnd ctEnd : Value}
    {fUndo : Addr} {odUndo anUndo : Option Addr} {slUndo : Array (Option Value)} {ocUndo kVUndo dcUndo pmUndo cdUndo ctUndo : Value}
    {fSync : Addr} {odSync anSync : Option Addr} {slSync : Array (Option Value)} {ocSync kVSync dcSync pmSync cdSync ctSync : Value}
    {fEarl : Addr} {odEarl anEarl : Option Addr} {slEarl : Array (Option Value)} {ocEarl kVEarl dcEarl pmEarl cdEarl ctEarl : Value}
    {fCCom : Addr} {odCCom anCCom : Option Addr} {slCCom : Array (Option Value)} {ocCCom kVCCom dcCCom pmCCom cdCCom ctCCom : Value}
    {fL cL PT : Addr} {odL anL cdL2 : Option Addr} {slL cslL : Array (Option Value)} {ocL kVL dcL pmL ctL ccL : Value} {vsL : Array Value}
    {fI TI : Addr} {odI anI : Option Addr} {slI : Array (Option Value)} {ocI kVI dcI pmI cdI ctI : Value} {oTI : Obj} {nTI : Nat} {C CE CJ CJE MK CC fCI TCI : Addr} {odCI anCI : Option Addr} {slCI : Array (Option Value)} {ocCI kVCI dcCI pmCI cdCI ctCI : Value} {oTCI : Obj} {nTCI : Nat} {t16 : Tok} {tK tH tB tHB tSS tm1 tm2 : Tok} {oMK : Obj} {nMK : Nat}
    (aDice : PySem.W.nsIn K mainGlobals "_law_dice" = some (some (.ref fDice)))
    (lDice : K.lookup fDice = some ⟨ocDice, odDice, .func (PySem.W.fnOf "_law_dice" "_law_dice" (defArgs sDice) (defBody sDice) (defScope sDice) .none kVDice dcDice pmDice anDice cdDice ctDice), slDice⟩)
    (cDice : PySem.W.codeIn K cdDice "_law_dice" = true)
    (kDice : PySem.W.keepIn K (.ref fDice) = true)
    (aRoll : PySem.W.nsIn K mainGlobals "_law_roll" = some (some (.ref fRoll)))
    (lRoll : K.lookup fRoll = some ⟨ocRoll, odRoll, .func (PySem.W.fnOf "_law_roll" "_law_roll" (defArgs sRoll) (defBody sRoll) (defScope sRoll) .none kVRoll dcRoll pmRoll anRoll cdRoll ctRoll), slRoll⟩)
    (cRoll : PySem.W.codeIn K cdRoll "_law_roll" = true)
    (kRoll : PySem.W.keepIn K (.ref fRoll) = true)
    (aRounds : PySem.W.nsIn K mainGlobals "_law_rounds" = some (some (.ref fRounds)))
    (lRounds : K.lookup fRounds = some ⟨ocRounds, odRounds, .func (PySem.W.fnOf "_law_rounds" "_law_rounds" (defArgs sRounds) (defBody sRounds) (defScope sRounds) .none kVRounds dcRounds pmRounds anRounds cdRounds ctRounds), slRounds⟩)
    (cRounds : PySem.W.codeIn K cdRounds "_law_rounds" = true)
    (kRounds : PySem.W.keepIn K (.ref fRounds) = true)
    (aTold : PySem.W.nsIn K mainGlobals "_law_told" = some (some (.ref fTold)))
    (lTold : K.lookup fTold = some ⟨ocTold, odTold, .func (PySem.W.fnOf "_law_told" "_law_told" (defArgs sTold) (defBody sTold) (defScope sTold) .none kVTold dcTold pmTold anTold cdTold ctTold), slTold⟩)
    (cTold : PySem.W.codeIn K cdTold "_law_told" = true)
    (kTold : PySem.W.keepIn K (.ref fTold) = true)
    (aPair : PySem.W.nsIn K mainGlobals "pair" = some (some (.ref fPair)))
    (lPair : K.lookup fPair = some ⟨ocPair, odPair, .func (PySem.W.fnOf "pair" "pair" (defArgs sPair) (defBody sPair) (defScope sPair) .none kVPair dcPair pmPair anPair cdPair ctPair), slPair⟩)
    (cPair : PySem.W.codeIn K cdPair "pair" = true)
    (kPair : PySem.W.keepIn K (.ref fPair) = true)
    (aOfPair : PySem.W.nsIn K mainGlobals "number_of_pair" = some (some (.ref fOfPair)))
    (lOfPair : K.lookup fOfPair = some ⟨ocOfPair, odOfPair, .func (PySem.W.fnOf "number_of_pair" "number_of_pair" (defArgs sOfPair) (defBody sOfPair) (defScope sOfPair) .none kVOfPair dcOfPair pmOfPair anOfPair cdOfPair ctOfPair), slOfPair⟩)
    (cOfPair : PySem.W.codeIn K cdOfPair "number_of_pair" = true)
    (kOfPair : PySem.W.keepIn K (.ref fOfPair) = true)
    (aSum : PySem.W.nsIn K mainGlobals "word_sum" = some (some (.ref fSum)))
    (lSum : K.lookup fSum = some ⟨ocSum, odSum, .func (PySem.W.fnOf "word_sum" "word_sum" (defArgs sSum) (defBody sSum) (defScope sSum) .none kVSum dcSum pmSum anSum cdSum ctSum), slSum⟩)
    (cSum : PySem.W.codeIn K cdSum "word_sum" = true)
    (kSum : PySem.W.keepIn K (.ref fSum) = true)
    (aHRoom : PySem.W.nsIn K mainGlobals "head_room" = some (some (.ref fHRoom)))
    (lHRoom : K.lookup fHRoom = some ⟨ocHRoom, odHRoom, .func (PySem.W.fnOf "head_room" "head_room" (defArgs sHeadRoom) (defBody sHeadRoom) (defScope sHeadRoom) .none kVHRoom dcHRoom pmHRoom anHRoom cdHRoom ctHRoom), slHRoom⟩)
    (cHRoom : PySem.W.codeIn K cdHRoom "head_room" = true)
    (kHRoom : PySem.W.keepIn K (.ref fHRoom) = true)
    (aGroup : PySem.W.nsIn K mainGlobals "group_sum" = some (some (.ref fGroup)))
    (lGroup : K.lookup fGroup = some ⟨ocGroup, odGroup, .func (PySem.W.fnOf "group_sum" "group_sum" (defArgs sGroup) (defBody sGroup) (defScope sGroup) .none kVGroup dcGroup pmGroup anGroup cdGroup ctGroup), slGroup⟩)
    (cGroup : PySem.W.codeIn K cdGroup "group_sum" = true)
    (kGroup : PySem.W.keepIn K (.ref fGroup) = true)
    (aStart : PySem.W.nsIn K mainGlobals "head_start" = some (some (.ref fStart)))
    (lStart : K.lookup fStart = some ⟨ocStart, odStart, .func (PySem.W.fnOf "head_start" "head_start" (defArgs sStart) (defBody sStart) (defScope sStart) .none kVStart dcStart pmStart anStart cdStart ctStart), slStart⟩)
    (cStart : PySem.W.codeIn K cdStart "head_start" = true)
    (kStart : PySem.W.keepIn K (.ref fStart) = true)
    (aHead : PySem.W.nsIn K mainGlobals "head_of" = some (some (.ref fHead)))
    (lHead : K.lookup fHead = some ⟨ocHead, odHead, .func (PySem.W.fnOf "head_of" "head_of" (defArgs sHead) (defBody sHead) (defScope sHead) .none kVHead dcHead pmHead anHead cdHead ctHead), slHead⟩)
    (cHead : PySem.W.codeIn K cdHead "head_of" = true)
    (kHead : PySem.W.keepIn K (.ref fHead) = true)
    (aRHead : PySem.W.nsIn K mainGlobals "read_head" = some (some (.ref fRHead)))
    (lRHead : K.lookup fRHead = some ⟨ocRHead, odRHead, .func (PySem.W.fnOf "read_head" "read_head" (defArgs sReadHead) (defBody sReadHead) (defScope sReadHead) .none kVRHead dcRHead pmRHead anRHead cdRHead ctRHead), slRHead⟩)
    (cRHead : PySem.W.codeIn K cdRHead "read_head" = true)
    (kRHead : PySem.W.keepIn K (.ref fRHead) = true)
    (aBlk : PySem.W.nsIn K mainGlobals "_law_block" = some (some (.ref fBlk)))
    (lBlk : K.lookup fBlk = some ⟨ocBlk, odBlk, .func (PySem.W.fnOf "_law_block" "_law_block" (defArgs sBlk) (defBody sBlk) (defScope sBlk) .none kVBlk dcBlk pmBlk anBlk cdBlk ctBlk), slBlk⟩)
    (cBlk : PySem.W.codeIn K cdBlk "_law_block" = true)
    (kBlk : PySem.W.keepIn K (.ref fBlk) = true)
    (aBlks : PySem.W.nsIn K mainGlobals "_law_blocks" = some (some (.ref fBlks)))
    (lBlks : K.lookup fBlks = some ⟨ocBlks, odBlks, .func (PySem.W.fnOf "_law_blocks" "_law_blocks" (defArgs sBlks) (defBody sBlks) (defScope sBlks) .none kVBlks dcBlks pmBlks anBlks cdBlks ctBlks), slBlks⟩)
    (cBlks : PySem.W.codeIn K cdBlks "_law_blocks" = true)
    (kBlks : PySem.W.keepIn K (.ref fBlks) = true)
    (aArm : PySem.W.findIn K (.ref C) "arm" = some (some (.ref fArm)))
    (iArm : PySem.W.isFn K (.ref fArm) = true)
    (lArm : K.lookup fArm = some ⟨ocArm, odArm, .func (PySem.W.fnOf "arm" "Device.arm" (defArgs sArm) (defBody sArm) (defScope sArm) .none kVArm dcArm pmArm anArm cdArm ctArm), slArm⟩)
    (cArm : PySem.W.codeIn K cdArm "Device.arm" = true)
    (kArm : PySem.W.keepIn K (.ref fArm) = true)
    (aAlive : PySem.W.findIn K (.ref C) "check_alive" = some (some (.ref fAlive)))
    (iAlive : PySem.W.isFn K (.ref fAlive) = true)
    (lAlive : K.lookup fAlive = some ⟨ocAlive, odAlive, .func (PySem.W.fnOf "check_alive" "Device.check_alive" (defArgs sAlive) (defBody sAlive) (defScope sAlive) .none kVAlive dcAlive pmAlive anAlive cdAlive ctAlive), slAlive⟩)
    (cAlive : PySem.W.codeIn K cdAlive "Device.check_alive" = true)
    (kAlive : PySem.W.keepIn K (.ref fAlive) = true)
    (aStep : PySem.W.findIn K (.ref C) "step" = some (some (.ref fStep)))
    (iStep : PySem.W.isFn K (.ref fStep) = true)
    (lStep : K.lookup fStep = some ⟨ocStep, odStep, .func (PySem.W.fnOf "step" "Device.step" (defArgs sStep) (defBody sStep) (defScope sStep) .none kVStep dcStep pmStep anStep cdStep ctStep), slStep⟩)
    (cStep : PySem.W.codeIn K cdStep "Device.step" = true)
    (kStep : PySem.W.keepIn K (.ref fStep) = true)
    (aNumber : PySem.W.findIn K (.ref C) "check_number" = some (some (.ref fNumber)))
    (iNumber : PySem.W.isFn K (.ref fNumber) = true)
    (lNumber : K.lookup fNumber = some ⟨ocNumber, odNumber, .func (PySem.W.fnOf "check_number" "Device.check_number" (defArgs sNumber) (defBody sNumber) (defScope sNumber) .none kVNumber dcNumber pmNumber anNumber cdNumber ctNumber), slNumber⟩)
    (cNumber : PySem.W.codeIn K cdNumber "Device.check_number" = true)
    (kNumber : PySem.W.keepIn K (.ref fNumber) = true)
    (aBlock : PySem.W.findIn K (.ref C) "check_block" = some (some (.ref fBlock)))
    (iBlock : PySem.W.isFn K (.ref fBlock) = true)
    (lBlock : K.lookup fBlock = some ⟨ocBlock, odBlock, .func (PySem.W.fnOf "check_block" "Device.check_block" (defArgs sBlock) (defBody sBlock) (defScope sBlock) .none kVBlock dcBlock pmBlock anBlock cdBlock ctBlock), slBlock⟩)
    (cBlock : PySem.W.codeIn K cdBlock "Device.check_block" = true)
    (kBlock : PySem.W.keepIn K (.ref fBlock) = true)
    (aKept : PySem.W.findIn K (.ref C) "kept" = some (some (.ref fKept)))
    (iKept : PySem.W.isFn K (.ref fKept) = true)
    (lKept : K.lookup fKept = some ⟨ocKept, odKept, .func (PySem.W.fnOf "kept" "Device.kept" (defArgs sKept) (defBody sKept) (defScope sKept) .none kVKept dcKept pmKept anKept cdKept ctKept), slKept⟩)
    (cKept : PySem.W.codeIn K cdKept "Device.kept" = true)
    (kKept : PySem.W.keepIn K (.ref fKept) = true)
    (aRead : PySem.W.findIn K (.ref C) "read" = some (some (.ref fRead)))
    (iRead : PySem.W.isFn K (.ref fRead) = true)
    (lRead : K.lookup fRead = some ⟨ocRead, odRead, .func (PySem.W.fnOf "read" "Device.read" (defArgs sRead) (defBody sRead) (defScope sRead) .none kVRead dcRead pmRead anRead cdRead ctRead), slRead⟩)
    (cRead : PySem.W.codeIn K cdRead "Device.read" = true)
    (kRead : PySem.W.keepIn K (.ref fRead) = true)
    (aWrite : PySem.W.findIn K (.ref C) "write_block" = some (some (.ref fWrite)))
    (iWrite : PySem.W.isFn K (.ref fWrite) = true)
    (lWrite : K.lookup fWrite = some ⟨ocWrite, odWrite, .func (PySem.W.fnOf "write_block" "Device.write_block" (defArgs sWrite) (defBody sWrite) (defScope sWrite) .none kVWrite dcWrite pmWrite anWrite cdWrite ctWrite), slWrite⟩)
    (cWrite : PySem.W.codeIn K cdWrite "Device.write_block" = true)
    (kWrite : PySem.W.keepIn K (.ref fWrite) = true)
    (aFlush : PySem.W.findIn K (.ref C) "flush" = some (some (.ref fFlush)))
    (iFlush : PySem.W.isFn K (.ref fFlush) = true)
    (lFlush : K.lookup fFlush = some ⟨ocFlush, odFlush, .func (PySem.W.fnOf "flush" "Device.flush" (defArgs sFlush) (defBody sFlush) (defScope sFlush) .none kVFlush dcFlush pmFlush anFlush cdFlush ctFlush), slFlush⟩)
    (cFlush : PySem.W.codeIn K cdFlush "Device.flush" = true)
    (kFlush : PySem.W.keepIn K (.ref fFlush) = true)
    (aRest : PySem.W.findIn K (.ref C) "restarted" = some (some (.ref fRest)))
    (iRest : PySem.W.isFn K (.ref fRest) = true)
    (lRest : K.lookup fRest = some ⟨ocRest, odRest, .func (PySem.W.fnOf "restarted" "Device.restarted" (defArgs sRest) (defBody sRest) (defScope sRest) .none kVRest dcRest pmRest anRest cdRest ctRest), slRest⟩)
    (cRest : PySem.W.codeIn K cdRest "Device.restarted" = true)
    (kRest : PySem.W.keepIn K (.ref fRest) = true)
    (aRoom : PySem.W.findIn K (.ref CJ) "room" = some (some (.ref fRoom)))
    (iRoom : PySem.W.isFn K (.ref fRoom) = true)
    (lRoom : K.lookup fRoom = some ⟨ocRoom, odRoom, .func (PySem.W.fnOf "room" "Journal.room" (defArgs sRoom) (defBody sRoom) (defScope sRoom) .none kVRoom dcRoom pmRoom anRoom cdRoom ctRoom), slRoom⟩)
    (cRoom : PySem.W.codeIn K cdRoom "Journal.room" = true)
    (kRoom : PySem.W.keepIn K (.ref fRoom) = true)
    (aCommit : PySem.W.findIn K (.ref CJ) "commit" = some (some (.ref fCommit)))
    (iCommit : PySem.W.isFn K (.ref fCommit) = true)
    (lCommit : K.lookup fCommit = some ⟨ocCommit, odCommit, .func (PySem.W.fnOf "commit" "Journal.commit" (defArgs sCommit) (defBody sCommit) (defScope sCommit) .none kVCommit dcCommit pmCommit anCommit cdCommit ctCommit), slCommit⟩)
    (cCommit : PySem.W.codeIn K cdCommit "Journal.commit" = true)
    (kCommit : PySem.W.keepIn K (.ref fCommit) = true)
    (aWG : PySem.W.findIn K (.ref CJ) "write_group" = some (some (.ref fWG)))
    (iWG : PySem.W.isFn K (.ref fWG) = true)
    (lWG : K.lookup fWG = some ⟨ocWG, odWG, .func (PySem.W.fnOf "write_group" "Journal.write_group" (defArgs sWG) (defBody sWG) (defScope sWG) .none kVWG dcWG pmWG anWG cdWG ctWG), slWG⟩)
    (cWG : PySem.W.codeIn K cdWG "Journal.write_group" = true)
    (kWG : PySem.W.keepIn K (.ref fWG) = true)
    (aWH : PySem.W.findIn K (.ref CJ) "write_home" = some (some (.ref fWH)))
    (iWH : PySem.W.isFn K (.ref fWH) = true)
    (lWH : K.lookup fWH = some ⟨ocWH, odWH, .func (PySem.W.fnOf "write_home" "Journal.write_home" (defArgs sWH) (defBody sWH) (defScope sWH) .none kVWH dcWH pmWH anWH cdWH ctWH), slWH⟩)
    (cWH : PySem.W.codeIn K cdWH "Journal.write_home" = true)
    (kWH : PySem.W.keepIn K (.ref fWH) = true)
    (aPend : PySem.W.findIn K (.ref CJ) "pending" = some (some (.ref fPend)))
    (iPend : PySem.W.isFn K (.ref fPend) = true)
    (lPend : K.lookup fPend = some ⟨ocPend, odPend, .func (PySem.W.fnOf "pending" "Journal.pending" (defArgs sPend) (defBody sPend) (defScope sPend) .none kVPend dcPend pmPend anPend cdPend ctPend), slPend⟩)
    (cPend : PySem.W.codeIn K cdPend "Journal.pending" = true)
    (kPend : PySem.W.keepIn K (.ref fPend) = true)
    (aRec : PySem.W.findIn K (.ref CJ) "recover" = some (some (.ref fRec)))
    (iRec : PySem.W.isFn K (.ref fRec) = true)
    (lRec : K.lookup fRec = some ⟨ocRec, odRec, .func (PySem.W.fnOf "recover" "Journal.recover" (defArgs sRec) (defBody sRec) (defScope sRec) .none kVRec dcRec pmRec anRec cdRec ctRec), slRec⟩)
    (cRec : PySem.W.codeIn K cdRec "Journal.recover" = true)
    (kRec : PySem.W.keepIn K (.ref fRec) = true)
    (aJI : PySem.W.findIn K (.ref CJ) "__init__" = some (some (.ref fJI)))
    (iJI : PySem.W.isFn K (.ref fJI) = true)
    (lJI : K.lookup fJI = some ⟨ocJI, odJI, .func (PySem.W.fnOf "__init__" "Journal.__init__" (defArgs sJInit) (defBody sJInit) (defScope sJInit) .none kVJI dcJI pmJI anJI cdJI ctJI), slJI⟩)
    (cJI : PySem.W.codeIn K cdJI "Journal.__init__" = true)
    (kJI : PySem.W.keepIn K (.ref fJI) = true)
    (aRdB : PySem.W.findIn K (.ref CC) "read_block" = some (some (.ref fRdB)))
    (iRdB : PySem.W.isFn K (.ref fRdB) = true)
    (lRdB : K.lookup fRdB = some ⟨ocRdB, odRdB, .func (PySem.W.fnOf "read_block" "Cache.read_block" (defArgs sRdB) (defBody sRdB) (defScope sRdB) .none kVRdB dcRdB pmRdB anRdB cdRdB ctRdB), slRdB⟩)
    (cRdB : PySem.W.codeIn K cdRdB "Cache.read_block" = true)
    (kRdB : PySem.W.keepIn K (.ref fRdB) = true)
    (aShr : PySem.W.findIn K (.ref CC) "shrink" = some (some (.ref fShr)))
    (iShr : PySem.W.isFn K (.ref fShr) = true)
    (lShr : K.lookup fShr = some ⟨ocShr, odShr, .func (PySem.W.fnOf "shrink" "Cache.shrink" (defArgs sShr) (defBody sShr) (defScope sShr) .none kVShr dcShr pmShr anShr cdShr ctShr), slShr⟩)
    (cShr : PySem.W.codeIn K cdShr "Cache.shrink" = true)
    (kShr : PySem.W.keepIn K (.ref fShr) = true)
    (aPut : PySem.W.findIn K (.ref CC) "put" = some (some (.ref fPut)))
    (iPut : PySem.W.isFn K (.ref fPut) = true)
    (lPut : K.lookup fPut = some ⟨ocPut, odPut, .func (PySem.W.fnOf "put" "Cache.put" (defArgs sPut) (defBody sPut) (defScope sPut) .none kVPut dcPut pmPut anPut cdPut ctPut), slPut⟩)
    (cPut : PySem.W.codeIn K cdPut "Cache.put" = true)
    (kPut : PySem.W.keepIn K (.ref fPut) = true)
    (aBeg : PySem.W.findIn K (.ref CC) "begin" = some (some (.ref fBeg)))
    (iBeg : PySem.W.isFn K (.ref fBeg) = true)
    (lBeg : K.lookup fBeg = some ⟨ocBeg, odBeg, .func (PySem.W.fnOf "begin" "Cache.begin" (defArgs sBeg) (defBody sBeg) (defScope sBeg) .none kVBeg dcBeg pmBeg anBeg cdBeg ctBeg), slBeg⟩)
    (cBeg : PySem.W.codeIn K cdBeg "Cache.begin" = true)
    (kBeg : PySem.W.keepIn K (.ref fBeg) = true)
    (aEnd : PySem.W.findIn K (.ref CC) "end" = some (some (.ref fEnd)))
    (iEnd : PySem.W.isFn K (.ref fEnd) = true)
    (lEnd : K.lookup fEnd = some ⟨ocEnd, odEnd, .func (PySem.W.fnOf "end" "Cache.end" (defArgs sEnd) (defBody sEnd) (defScope sEnd) .none kVEnd dcEnd pmEnd anEnd cdEnd ctEnd), slEnd⟩)
    (cEnd : PySem.W.codeIn K cdEnd "Cache.end" = true)
    (kEnd : PySem.W.keepIn K (.ref fEnd) = true)
    (aUndo : PySem.W.findIn K (.ref CC) "undo" = some (some (.ref fUndo)))
    (iUndo : PySem.W.isFn K (.ref fUndo) = true)
    (lUndo : K.lookup fUndo = some ⟨ocUndo, odUndo, .func (PySem.W.fnOf "undo" "Cache.undo" (defArgs sUndo) (defBody sUndo) (defScope sUndo) .none kVUndo dcUndo pmUndo anUndo cdUndo ctUndo), slUndo⟩)
    (cUndo : PySem.W.codeIn K cdUndo "Cache.undo" = true)
    (kUndo : PySem.W.keepIn K (.ref fUndo) = true)
    (aSync : PySem.W.findIn K (.ref CC) "sync" = some (some (.ref fSync)))
    (iSync : PySem.W.isFn K (.ref fSync) = true)
    (lSync : K.lookup fSync = some ⟨ocSync, odSync, .func (PySem.W.fnOf "sync" "Cache.sync" (defArgs sSync) (defBody sSync) (defScope sSync) .none kVSync dcSync pmSync anSync cdSync ctSync), slSync⟩)
    (cSync : PySem.W.codeIn K cdSync "Cache.sync" = true)
    (kSync : PySem.W.keepIn K (.ref fSync) = true)
    (aEarl : PySem.W.findIn K (.ref CC) "earlier_rows" = some (some (.ref fEarl)))
    (iEarl : PySem.W.isFn K (.ref fEarl) = true)
    (lEarl : K.lookup fEarl = some ⟨ocEarl, odEarl, .func (PySem.W.fnOf "earlier_rows" "Cache.earlier_rows" (defArgs sEarl) (defBody sEarl) (defScope sEarl) .none kVEarl dcEarl pmEarl anEarl cdEarl ctEarl), slEarl⟩)
    (cEarl : PySem.W.codeIn K cdEarl "Cache.earlier_rows" = true)
    (kEarl : PySem.W.keepIn K (.ref fEarl) = true)
    (aCCom : PySem.W.findIn K (.ref CC) "commit" = some (some (.ref fCCom)))
    (iCCom : PySem.W.isFn K (.ref fCCom) = true)
    (lCCom : K.lookup fCCom = some ⟨ocCCom, odCCom, .func (PySem.W.fnOf "commit" "Cache.commit" (defArgs sCCom) (defBody sCCom) (defScope sCCom) .none kVCCom dcCCom pmCCom anCCom cdCCom ctCCom), slCCom⟩)
    (cCCom : PySem.W.codeIn K cdCCom "Cache.commit" = true)
    (kCCom : PySem.W.keepIn K (.ref fCCom) = true)
    (aCC : PySem.W.nsIn K mainGlobals "Cache" = some (some (.ref CC)))
    (cpg : PySem.W.plainGet K CC Str.empty = true)
    (chd : PySem.W.hasDictIn K CC = true)
    (cpo : PySem.W.plainOver K CC = true)
    (csa : PySem.W.findIn K (.ref CC) "__setattr__" = some (some (.builtin "object.__setattr__")))
    (cmk : PySem.W.makesIn K CC = true)
    (kCC : PySem.W.keepIn K (.ref CC) = true)
    (cf1 : PySem.W.findIn K (.ref CC) "journal" = some none)
    (cf2 : PySem.W.findIn K (.ref CC) "capacity" = some none)
    (cf3 : PySem.W.findIn K (.ref CC) "blocks" = some none)
    (cf4 : PySem.W.findIn K (.ref CC) "dirty" = some none)
    (cf5 : PySem.W.findIn K (.ref CC) "before" = some none)
    (cf6 : PySem.W.findIn K (.ref CC) "commits" = some none)
    (aCI : PySem.W.findIn K (.ref CC) "__init__" = some (some (.ref fCI)))
    (iCI : PySem.W.isFn K (.ref fCI) = true)
    (lCI : K.lookup fCI = some ⟨ocCI, odCI, .func (PySem.W.fnOf "__init__" "Cache.__init__" (defArgs sCInit) (defBody sCInit) (defScope sCInit) (.ref TCI) kVCI dcCI pmCI anCI cdCI ctCI), slCI⟩)
    (cCI : PySem.W.codeIn K cdCI "Cache.__init__" = true)
    (kCI : PySem.W.keepIn K (.ref fCI) = true)
    (lTC : K.lookup TCI = some oTCI)
    (dTC : oTCI.data = .seq ([Value.int 16 t16] : List Value).toArray nTCI)
    (aCJ : PySem.W.nsIn K mainGlobals "Journal" = some (some (.ref CJ)))
    (jpg : PySem.W.plainGet K CJ Str.empty = true)
    (jhd : PySem.W.hasDictIn K CJ = true)
    (jpo : PySem.W.plainOver K CJ = true)
    (jsa : PySem.W.findIn K (.ref CJ) "__setattr__" = some (some (.builtin "object.__setattr__")))
    (jmk : PySem.W.makesIn K CJ = true)
    (kCJ : PySem.W.keepIn K (.ref CJ) = true)
    (j1 : PySem.W.findIn K (.ref CJ) "device" = some none)
    (j2 : PySem.W.findIn K (.ref CJ) "start" = some none)
    (j3 : PySem.W.findIn K (.ref CJ) "blocks" = some none)
    (j4 : PySem.W.findIn K (.ref CJ) "serial" = some none)
    (aJE : PySem.W.nsIn K mainGlobals "JournalError" = some (some (.ref CJE)))
    (xJE : PySem.W.excIn K CJE [.type "ValueError", .type "Exception", .type "BaseException", .type "object"] "ValueError.__new__" = true)
    (kJE : PySem.W.keepIn K (.ref CJE) = true)
    (bJE : PySem.W.subIn K (.ref CJE) (.type "BaseException") = some true)
    (tJE : PySem.W.typeIn K (.ref CJE) = some (.type "type"))
    (isJE : PySem.W.isClsIn K CJE = true)
    (ssJE : PySem.W.subIn K (.ref CJE) (.ref CJE) = some true)
    (sJD : PySem.W.subIn K (.ref CJE) (.ref CE) = some false)
    (mB : PySem.W.nsIn K mainGlobals "SUM_BASE" = some (some (.int 65521 tB)))
    (mHB : PySem.W.nsIn K mainGlobals "HEAD_BASE" = some (some (.int 6 tHB)))
    (mSS : PySem.W.nsIn K mainGlobals "SUM_SIZE" = some (some (.int 4 tSS)))
    (aMK : PySem.W.nsIn K mainGlobals "HEAD_MARK" = some (some (.ref MK)))
    (lMK : K.lookup MK = some oMK)
    (cMK : oMK.cls = .type "tuple")
    (dMK : oMK.data = .seq ([Value.int 74 tm1, Value.int 82 tm2] : List Value).toArray nMK)
    (aI : PySem.W.findIn K (.ref C) "__init__" = some (some (.ref fI)))
    (iI : PySem.W.isFn K (.ref fI) = true)
    (lI : K.lookup fI = some ⟨ocI, odI, .func (PySem.W.fnOf "__init__" "Device.__init__" (defArgs sInit) (defBody sInit) (defScope sInit) (.ref TI) kVI dcI pmI anI cdI ctI), slI⟩)
    (cI : PySem.W.codeIn K cdI "Device.__init__" = true)
    (kI : PySem.W.keepIn K (.ref fI) = true)
    (lT : K.lookup TI = some oTI)
    (dT : oTI.data = .seq ([Value.none] : List Value).toArray nTI)
    (aL : PySem.W.nsIn K mainGlobals "law" = some (some (.ref fL)))
    (lL : K.lookup fL = some ⟨ocL, odL, .func (PySem.W.fnOf "law" "law" (defArgs sLaw) (defBody sLaw) (defScope sLaw) .none kVL dcL pmL anL (.ref cL) ctL), slL⟩)
    (cL1 : PySem.W.codeIn K (.ref cL) "law" = true)
    (lcL : K.lookup cL = some ⟨ccL, cdL2, .fields vsL, cslL⟩)
    (vL : vsL[11]? = some (.ref PT))
    (nP : K.lookup PT = none)
    (aC : PySem.W.nsIn K mainGlobals "Device" = some (some (.ref C)))
    (pg : PySem.W.plainGet K C Str.empty = true)
    (hd : PySem.W.hasDictIn K C = true)
    (po : PySem.W.plainOver K C = true)
    (sa : PySem.W.findIn K (.ref C) "__setattr__" = some (some (.builtin "object.__setattr__")))
    (mk : PySem.W.makesIn K C = true)
    (kC : PySem.W.keepIn K (.ref C) = true)
    (n1 : PySem.W.findIn K (.ref C) "block_size" = some none)
    (n2 : PySem.W.findIn K (.ref C) "total" = some none)
    (n3 : PySem.W.findIn K (.ref C) "blocks" = some none)
    (n4 : PySem.W.findIn K (.ref C) "waiting" = some none)
    (n5 : PySem.W.findIn K (.ref C) "fuse" = some none)
    (n6 : PySem.W.findIn K (.ref C) "dead" = some none)
    (n7 : PySem.W.findIn K (.ref C) "steps" = some none)
    (aE : PySem.W.nsIn K mainGlobals "DeviceError" = some (some (.ref CE)))
    (xE : PySem.W.excIn K CE [.type "ValueError", .type "Exception", .type "BaseException", .type "object"] "ValueError.__new__" = true)
    (kE : PySem.W.keepIn K (.ref CE) = true)
    (bE : PySem.W.subIn K (.ref CE) (.type "BaseException") = some true)
    (tE : PySem.W.typeIn K (.ref CE) = some (.type "type"))
    (isE : PySem.W.isClsIn K CE = true)
    (ssE : PySem.W.subIn K (.ref CE) (.ref CE) = some true)
    (mK : PySem.W.nsIn K mainGlobals "KEPT" = some (some (.int 1 tK)))
    (mH : PySem.W.nsIn K mainGlobals "HALF_KEPT" = some (some (.int 2 tH)))
    (z_max : PySem.W.nsIn K mainGlobals "max" = some none)
    (z_min : PySem.W.nsIn K mainGlobals "min" = some none)
    (z_any : PySem.W.nsIn K mainGlobals "any" = some none)
    (z_sorted : PySem.W.nsIn K mainGlobals "sorted" = some none)
    (z_len : PySem.W.nsIn K mainGlobals "len" = some none)
    (z_tuple : PySem.W.nsIn K mainGlobals "tuple" = some none)
    (z_int : PySem.W.nsIn K mainGlobals "int" = some none)
    (z_abs : PySem.W.nsIn K mainGlobals "abs" = some none)
    (z_range : PySem.W.nsIn K mainGlobals "range" = some none)
    (z_list : PySem.W.nsIn K mainGlobals "list" = some none)
    (z_dict : PySem.W.nsIn K mainGlobals "dict" = some none)
    (z_enumerate : PySem.W.nsIn K mainGlobals "enumerate" = some none)
    (z_reversed : PySem.W.nsIn K mainGlobals "reversed" = some none)
    (z_zip : PySem.W.nsIn K mainGlobals "zip" = some none)
    : LamX.LawAtS l w K L2.CX0 11 63 "script" mg fa h := by
  have e := hfa.symm.trans (PySem.W.mg_of X G aL)
  cases e
  obtain ⟨hd', ht⟩ := tabs cL PT (tabIn_of aL lL rfl lcL vL)
  have T : DTxt K mg C CE := ⟨⟨pg, hd, po, sa⟩, n1, n2, n3, n4, n5, n6, n7, PySem.W.mg_of X G aC, PySem.W.mg_of X G aE, xE, kE, bE, tE, PySem.W.mg_none_of X G z_len, PySem.W.mg_none_of X G z_tuple, PySem.W.mg_none_of X G z_dict, PySem.W.mg_none_of X G z_reversed, PySem.W.mg_none_of X G z_zip,
    ⟨_, PySem.W.mg_of X G mK⟩, ⟨_, PySem.W.mg_of X G mH⟩⟩
  have J : JCls K mg CJ CJE := ⟨⟨jpg, jhd, jpo, jsa⟩, j1, j2, j3, j4, PySem.W.mg_of X G aCJ, PySem.W.mg_of X G aJE, xJE, kJE, bJE, tJE, PySem.W.mg_none_of X G z_enumerate, PySem.W.mg_none_of X G z_range, PySem.W.mg_none_of X G z_zip, PySem.W.mg_none_of X G z_list⟩
  have JT : JTxt K mg := ⟨⟨_, PySem.W.mg_of X G mB⟩, ⟨MK, PySem.W.mg_of X G aMK, fun H => .inr ⟨oMK, _, nMK, lMK, cMK, dMK, by show 2 ≤ sizeLine; decide, .cons ⟨_, rfl⟩ (.cons ⟨_, rfl⟩ .nil)⟩⟩, ⟨_, PySem.W.mg_of X G mHB⟩, ⟨_, PySem.W.mg_of X G mSS⟩,
    PySem.W.mg_none_of X G z_len, PySem.W.mg_none_of X G z_tuple, PySem.W.mg_none_of X G z_list, PySem.W.mg_none_of X G z_max, PySem.W.mg_none_of X G z_min, PySem.W.mg_none_of X G z_any, PySem.W.mg_none_of X G z_range⟩
  have GT : GTxt mg := ⟨PySem.W.mg_none_of X G z_tuple, PySem.W.mg_none_of X G z_range, PySem.W.mg_none_of X G z_sorted⟩
  have XC : CCls K mg CC := ⟨⟨cpg, chd, cpo, csa⟩, cf1, cf2, cf3, cf4, cf5, cf6, PySem.W.mg_of X G aCC⟩
  have mI := PySem.W.mg_none_of X G z_int
  have mA := PySem.W.mg_none_of X G z_abs
  have GDice := fun_mk (st := sDice) lDice cDice kDice
  have mDice := PySem.W.mg_of X G aDice
  have GRoll := fun_mk (st := sRoll) lRoll cRoll kRoll
  have mRoll := PySem.W.mg_of X G aRoll
  have GRounds := fun_mk (st := sRounds) lRounds cRounds kRounds
  have mRounds := PySem.W.mg_of X G aRounds
  have GTold := fun_mk (st := sTold) lTold cTold kTold
  have mTold := PySem.W.mg_of X G aTold
  have GPair := fun_mk (st := sPair) lPair cPair kPair
  have mPair := PySem.W.mg_of X G aPair
  have GOfPair := fun_mk (st := sOfPair) lOfPair cOfPair kOfPair
  have mOfPair := PySem.W.mg_of X G aOfPair
  have GSum := fun_mk (st := sSum) lSum cSum kSum
  have mSum := PySem.W.mg_of X G aSum
  have GHRoom := fun_mk (st := sHeadRoom) lHRoom cHRoom kHRoom
  have mHRoom := PySem.W.mg_of X G aHRoom
  have GGroup := fun_mk (st := sGroup) lGroup cGroup kGroup
  have mGroup := PySem.W.mg_of X G aGroup
  have GStart := fun_mk (st := sStart) lStart cStart kStart
  have mStart := PySem.W.mg_of X G aStart
  have GHead := fun_mk (st := sHead) lHead cHead kHead
  have mHead := PySem.W.mg_of X G aHead
  have GRHead := fun_mk (st := sReadHead) lRHead cRHead kRHead
  have mRHead := PySem.W.mg_of X G aRHead
  have GBlk := fun_mk (st := sBlk) lBlk cBlk kBlk
  have mBlk := PySem.W.mg_of X G aBlk
  have GBlks := fun_mk (st := sBlks) lBlks cBlks kBlks
  have mBlks := PySem.W.mg_of X G aBlks
  have GArm := fun_mk (st := sArm) lArm cArm kArm
  have GAlive := fun_mk (st := sAlive) lAlive cAlive kAlive
  have GStep := fun_mk (st := sStep) lStep cStep kStep
  have GNumber := fun_mk (st := sNumber) lNumber cNumber kNumber
  have GBlock := fun_mk (st := sBlock) lBlock cBlock kBlock
  have GKept := fun_mk (st := sKept) lKept cKept kKept
  have GRead := fun_mk (st := sRead) lRead cRead kRead
  have GWrite := fun_mk (st := sWrite) lWrite cWrite kWrite
  have GFlush := fun_mk (st := sFlush) lFlush cFlush kFlush
  have GRest := fun_mk (st := sRest) lRest cRest kRest
  have GRoom := fun_mk (st := sRoom) lRoom cRoom kRoom
  have GCommit := fun_mk (st := sCommit) lCommit cCommit kCommit
  have GWG := fun_mk (st := sWG) lWG cWG kWG
  have GWH := fun_mk (st := sWH) lWH cWH kWH
  have GPend := fun_mk (st := sPend) lPend cPend kPend
  have GRec := fun_mk (st := sRec) lRec cRec kRec
  have GJI := fun_mk (st := sJInit) lJI cJI kJI
  have GRdB := fun_mk (st := sRdB) lRdB cRdB kRdB
  have GShr := fun_mk (st := sShr) lShr cShr kShr
  have GPut := fun_mk (st := sPut) lPut cPut kPut
  have GBeg := fun_mk (st := sBeg) lBeg cBeg kBeg
  have GEnd := fun_mk (st := sEnd) lEnd cEnd kEnd
  have GUndo := fun_mk (st := sUndo) lUndo cUndo kUndo
  have GSync := fun_mk (st := sSync) lSync cSync kSync
  have GEarl := fun_mk (st := sEarl) lEarl cEarl kEarl
  have GCCom := fun_mk (st := sCCom) lCCom cCCom kCCom
  have bDice := GDice.binds (ps := ["cell"]) fun _ _ _ _ _ _ us hl => match us, hl with | [_], _ => rfl
  have bRoll := GRoll.binds (ps := ["dice", "many"]) fun _ _ _ _ _ _ us hl => match us, hl with | [_, _], _ => rfl
  have bRounds := GRounds.binds (ps := ["script", "most"]) fun _ _ _ _ _ _ us hl => match us, hl with | [_, _], _ => rfl
  have bPair := GPair.binds (ps := ["number"]) fun _ _ _ _ _ _ us hl => match us, hl with | [_], _ => rfl
  have bOfPair := GOfPair.binds (ps := ["data", "place"]) fun _ _ _ _ _ _ us hl => match us, hl with | [_, _], _ => rfl
  have bSum := GSum.binds (ps := ["numbers"]) fun _ _ _ _ _ _ us hl => match us, hl with | [_], _ => rfl
  have bHRoom := GHRoom.binds (ps := ["block_size", "count"]) fun _ _ _ _ _ _ us hl => match us, hl with | [_, _], _ => rfl
  have bGroup := GGroup.binds (ps := ["head", "rows"]) fun _ _ _ _ _ _ us hl => match us, hl with | [_, _], _ => rfl
  have bStart := GStart.binds (ps := ["serial", "numbers"]) fun _ _ _ _ _ _ us hl => match us, hl with | [_, _], _ => rfl
  have bHead := GHead.binds (ps := ["serial", "numbers", "rows", "block_size"]) fun _ _ _ _ _ _ us hl => match us, hl with | [_, _, _, _], _ => rfl
  have bRHead := GRHead.binds (ps := ["data"]) fun _ _ _ _ _ _ us hl => match us, hl with | [_], _ => rfl
  have bBlk := GBlk.binds (ps := ["dice"]) fun _ _ _ _ _ _ us hl => match us, hl with | [_], _ => rfl
  have bBlks := GBlks.binds (ps := ["dice"]) fun _ _ _ _ _ _ us hl => match us, hl with | [_], _ => rfl
  have bArm := GArm.binds (ps := ["self", "steps"]) fun _ _ _ _ _ _ us hl => match us, hl with | [_, _], _ => rfl
  have bAlive := GAlive.binds (ps := ["self"]) fun _ _ _ _ _ _ us hl => match us, hl with | [_], _ => rfl
  have bStep := GStep.binds (ps := ["self"]) fun _ _ _ _ _ _ us hl => match us, hl with | [_], _ => rfl
  have bNumber := GNumber.binds (ps := ["self", "number"]) fun _ _ _ _ _ _ us hl => match us, hl with | [_, _], _ => rfl
  have bBlock := GBlock.binds (ps := ["self", "number", "data"]) fun _ _ _ _ _ _ us hl => match us, hl with | [_, _, _], _ => rfl
  have bKept := GKept.binds (ps := ["self", "number"]) fun _ _ _ _ _ _ us hl => match us, hl with | [_, _], _ => rfl
  have bRead := GRead.binds (ps := ["self", "number"]) fun _ _ _ _ _ _ us hl => match us, hl with | [_, _], _ => rfl
  have bWrite := GWrite.binds (ps := ["self", "number", "data"]) fun _ _ _ _ _ _ us hl => match us, hl with | [_, _, _], _ => rfl
  have bFlush := GFlush.binds (ps := ["self"]) fun _ _ _ _ _ _ us hl => match us, hl with | [_], _ => rfl
  have bRest := GRest.binds (ps := ["self", "choices"]) fun _ _ _ _ _ _ us hl => match us, hl with | [_, _], _ => rfl
  have bRoom := GRoom.binds (ps := ["self"]) fun _ _ _ _ _ _ us hl => match us, hl with | [_], _ => rfl
  have bCommit := GCommit.binds (ps := ["self", "rows"]) fun _ _ _ _ _ _ us hl => match us, hl with | [_, _], _ => rfl
  have bWG := GWG.binds (ps := ["self", "rows"]) fun _ _ _ _ _ _ us hl => match us, hl with | [_, _], _ => rfl
  have bWH := GWH.binds (ps := ["self", "rows"]) fun _ _ _ _ _ _ us hl => match us, hl with | [_, _], _ => rfl
  have bPend := GPend.binds (ps := ["self"]) fun _ _ _ _ _ _ us hl => match us, hl with | [_], _ => rfl
  have bRec := GRec.binds (ps := ["self"]) fun _ _ _ _ _ _ us hl => match us, hl with | [_], _ => rfl
  have bJI := GJI.binds (ps := ["self", "device", "start", "count"]) fun _ _ _ _ _ _ us hl => match us, hl with | [_, _, _, _], _ => rfl
  have bRdB := GRdB.binds (ps := ["self", "number"]) fun _ _ _ _ _ _ us hl => match us, hl with | [_, _], _ => rfl
  have bShr := GShr.binds (ps := ["self"]) fun _ _ _ _ _ _ us hl => match us, hl with | [_], _ => rfl
  have bPut := GPut.binds (ps := ["self", "number", "data"]) fun _ _ _ _ _ _ us hl => match us, hl with | [_, _, _], _ => rfl
  have bBeg := GBeg.binds (ps := ["self"]) fun _ _ _ _ _ _ us hl => match us, hl with | [_], _ => rfl
  have bEnd := GEnd.binds (ps := ["self"]) fun _ _ _ _ _ _ us hl => match us, hl with | [_], _ => rfl
  have bUndo := GUndo.binds (ps := ["self"]) fun _ _ _ _ _ _ us hl => match us, hl with | [_], _ => rfl
  have bSync := GSync.binds (ps := ["self"]) fun _ _ _ _ _ _ us hl => match us, hl with | [_], _ => rfl
  have bEarl := GEarl.binds (ps := ["self"]) fun _ _ _ _ _ _ us hl => match us, hl with | [_], _ => rfl
  have bCCom := GCCom.binds (ps := ["self", "rows", "left"]) fun _ _ _ _ _ _ us hl => match us, hl with | [_, _, _], _ => rfl
  have GI : FDI K fI (PySem.W.fnOf "__init__" "Device.__init__" (defArgs sInit) (defBody sInit) (defScope sInit) (.ref TI) kVI dcI pmI anI cdI ctI) :=
    ⟨⟨ocI, odI, .ref TI, kVI, dcI, pmI, anI, cdI, ctI, slI, rfl, lI, cI, .inr ⟨(fun z => by cases z), TI, oTI, [.none], nTI, rfl, lT, dT, .cons rfl .nil⟩, .inl rfl⟩, kI⟩
  obtain ⟨ds, vds, bI⟩ := GI.binds1 (ps := ["self", "block_size", "count", "blocks"]) 3 0 (fun z => by cases z) rfl (fun _ _ _ _ _ _ _ us its h1 h2 => match us, its, h1, h2 with | [_, _, _], [_], _, _ => ⟨_, rfl, rfl⟩)
  obtain ⟨ds4, vds4, bI4⟩ := GI.binds1 (ps := ["self", "block_size", "count", "blocks"]) 4 1 (fun z => by cases z) rfl (fun _ _ _ _ _ _ _ us its h1 h2 => match us, its, h1, h2 with | [_, _, _, _], [_], _, _ => ⟨_, rfl, rfl⟩)
  cases vds4
  have GCI : FCI K fCI (PySem.W.fnOf "__init__" "Cache.__init__" (defArgs sCInit) (defBody sCInit) (defScope sCInit) (.ref TCI) kVCI dcCI pmCI anCI cdCI ctCI) :=
    ⟨⟨ocCI, odCI, .ref TCI, kVCI, dcCI, pmCI, anCI, cdCI, ctCI, slCI, rfl, lCI, cCI, .inr ⟨(fun z => by cases z), TCI, oTCI, [.int 16 t16], nTCI, rfl, lTC, dTC, .cons ⟨_, rfl⟩ .nil⟩, .inl rfl⟩, kCI⟩
  obtain ⟨dsC, vdsC, bCI⟩ := GCI.binds1 (ps := ["self", "journal", "capacity"]) 3 1 (fun z => by cases z) rfl (fun _ _ _ _ _ _ _ us its h1 h2 => match us, its, h1, h2 with | [_, _, _], [_], _, _ => ⟨_, rfl, rfl⟩)
  cases vdsC
  have bits : ∀ base : Heap, LTxt l.prog w K mg base C CE CJ CJE CC fTold := fun base => by
    have oDice := ok_dice (P := l.prog) (w := w) (mg := mg) (base := base) GDice mA mI
    have oRoll := ok_roll (P := l.prog) (w := w) (mg := mg) (base := base) GRoll mI
    have oRounds := ok_rounds (P := l.prog) (w := w) (mg := mg) (base := base) GRounds oDice mDice kDice bDice
    have oAlive := ok_alive (P := l.prog) (w := w) (base := base) GAlive T
    have oStep := ok_step (P := l.prog) (w := w) (base := base) GStep T oAlive bAlive ⟨aAlive, iAlive, kAlive⟩
    have oNumber := ok_number (P := l.prog) (w := w) (base := base) GNumber T
    have oBlock := ok_block (P := l.prog) (w := w) (base := base) GBlock T oNumber bNumber ⟨aNumber, iNumber, kNumber⟩
    have oKept := ok_kept (P := l.prog) (w := w) (base := base) GKept T
    have oInit := ok_init (P := l.prog) (w := w) (base := base) GI T
    have oArm := ok_arm (P := l.prog) (w := w) (base := base) GArm T
    have oRead := ok_read (P := l.prog) (w := w) (base := base) GRead T oAlive bAlive ⟨aAlive, iAlive, kAlive⟩ oNumber bNumber ⟨aNumber, iNumber, kNumber⟩ oKept bKept ⟨aKept, iKept, kKept⟩
    have oWrite := ok_write (P := l.prog) (w := w) (base := base) GWrite T oBlock bBlock ⟨aBlock, iBlock, kBlock⟩ oStep bStep ⟨aStep, iStep, kStep⟩
    have oFlush := ok_flush (P := l.prog) (w := w) (base := base) GFlush T oStep bStep ⟨aStep, iStep, kStep⟩
    have M : Mk K C fI := ⟨mk, aI, iI, kC⟩
    have oRest := ok_rest (P := l.prog) (w := w) (base := base) GRest T M oInit bI4 oKept bKept ⟨aKept, iKept, kKept⟩
    have oPair := ok_pair (P := l.prog) (w := w) (mg := mg) (base := base) GPair
    have oOfPair := ok_ofpair (P := l.prog) (w := w) (mg := mg) (base := base) GOfPair
    have oSum := ok_sum (P := l.prog) (w := w) (mg := mg) (base := base) GSum JT oPair mPair kPair bPair
    have oHRoom := ok_headroom (P := l.prog) (w := w) (mg := mg) (base := base) GHRoom JT
    have oGroup := ok_group (P := l.prog) (w := w) (mg := mg) (base := base) GGroup JT oSum mSum kSum bSum
    have oStartL := ok_startL (P := l.prog) (w := w) (mg := mg) (base := base) GStart JT oPair mPair kPair bPair
    have oStartT := ok_startT (P := l.prog) (w := w) (mg := mg) (base := base) GStart JT oPair mPair kPair bPair
    have oHead := ok_head (P := l.prog) (w := w) (mg := mg) (base := base) GHead JT oStartL mStart kStart bStart oGroup mGroup kGroup bGroup
    have oRHead := ok_readhead (P := l.prog) (w := w) (mg := mg) (base := base) GRHead JT oOfPair mOfPair kOfPair bOfPair
    have aInitA := initA oInit
    have aArmA := armA oArm
    have aReadA := readA oRead
    have aWriteA := writeA oWrite
    have aFlushA := flushA oFlush
    have aRestA := restA oRest
    have oJI := ok_jinit (P := l.prog) (w := w) (mg := mg) (base := base) GJI J
    have oRoom := ok_room (P := l.prog) (w := w) (mg := mg) (base := base) GRoom T J oHRoom mHRoom kHRoom bHRoom
    have oWH := ok_wh (P := l.prog) (w := w) (mg := mg) (base := base) GWH T J aWriteA bWrite ⟨aWrite, iWrite, kWrite⟩ aFlushA bFlush ⟨aFlush, iFlush, kFlush⟩
    have oWG := ok_wg (P := l.prog) (w := w) (mg := mg) (base := base) GWG T J aWriteA bWrite ⟨aWrite, iWrite, kWrite⟩ aFlushA bFlush ⟨aFlush, iFlush, kFlush⟩ oHead mHead kHead bHead
    have oPend := ok_pend (P := l.prog) (w := w) (mg := mg) (base := base) GPend T JT J aReadA bRead ⟨aRead, iRead, kRead⟩ oRoom bRoom ⟨aRoom, iRoom, kRoom⟩ oRHead mRHead kRHead bRHead oStartT mStart kStart bStart oGroup mGroup kGroup bGroup
    have oCommit := ok_commit (P := l.prog) (w := w) (mg := mg) (base := base) GCommit T J oBlock bBlock ⟨aBlock, iBlock, kBlock⟩ oRoom bRoom ⟨aRoom, iRoom, kRoom⟩ oWG bWG ⟨aWG, iWG, kWG⟩ oWH bWH ⟨aWH, iWH, kWH⟩
    have oRec := ok_rec (P := l.prog) (w := w) (mg := mg) (base := base) GRec T J oPend bPend ⟨aPend, iPend, kPend⟩ oWH bWH ⟨aWH, iWH, kWH⟩
    have oBlk := ok_blk (P := l.prog) (w := w) (mg := mg) (base := base) GBlk GT oRoll mRoll kRoll bRoll
    have oBlks := ok_blks (P := l.prog) (w := w) (mg := mg) (base := base) GBlks GT oRoll mRoll kRoll bRoll oBlk mBlk kBlk bBlk
    have oShr := ok_shr (P := l.prog) (w := w) (mg := mg) (base := base) GShr T J XC
    have oRdB := ok_rdB (P := l.prog) (w := w) (mg := mg) (base := base) GRdB T J XC aReadA bRead ⟨aRead, iRead, kRead⟩ oShr bShr ⟨aShr, iShr, kShr⟩
    have oPut := ok_put (P := l.prog) (w := w) (mg := mg) (base := base) GPut T J XC oRdB bRdB ⟨aRdB, iRdB, kRdB⟩
    have oBeg := ok_beg (P := l.prog) (w := w) (mg := mg) (base := base) (C := C) GBeg J XC
    have oUndo := ok_undo (P := l.prog) (w := w) (mg := mg) (base := base) GUndo T J XC oShr bShr ⟨aShr, iShr, kShr⟩
    have oEarl := ok_earl (P := l.prog) (w := w) (mg := mg) (base := base) (C := C) (CJ := CJ) GEarl GT XC
    have oCCom := ok_ccom (P := l.prog) (w := w) (mg := mg) (base := base) GCCom T J XC oCommit bCommit ⟨aCommit, iCommit, kCommit⟩ oShr bShr ⟨aShr, iShr, kShr⟩
    have oEnd := ok_end (P := l.prog) (w := w) (mg := mg) (base := base) GEnd T J XC oRoom bRoom ⟨aRoom, iRoom, kRoom⟩ oUndo bUndo ⟨aUndo, iUndo, kUndo⟩ oEarl bEarl ⟨aEarl, iEarl, kEarl⟩ oCCom bCCom ⟨aCCom, iCCom, kCCom⟩
    have oSync := ok_sync (P := l.prog) (w := w) (mg := mg) (base := base) GSync T J XC GT oCCom bCCom ⟨aCCom, iCCom, kCCom⟩
    have oCI := ok_cinit (P := l.prog) (w := w) (mg := mg) (base := base) GCI XC
    exact ⟨⟨mTold, kTold, ⟨_, _, _, _, _, _, _, _, _, lTold, cTold⟩, PySem.W.mg_of X G aE, PySem.W.mg_of X G aJE⟩, exm_to bE isE tE ssE, exm_to bE isE tE sJD, exm_to bJE isJE tJE ssJE, T, J, GT, XC,
      ⟨_, _, oRounds, mRounds, kRounds, bRounds⟩, ⟨_, _, oRoll, mRoll, kRoll, bRoll⟩, ⟨_, _, oBlks, mBlks, kBlks, bBlks⟩, ⟨_, _, oJI, ⟨jmk, aJI, iJI, kCJ⟩, bJI⟩, ⟨_, _, oRec, ⟨aRec, iRec, kRec⟩, bRec⟩, ⟨_, _, aArmA, ⟨aArm, iArm, kArm⟩, bArm⟩, ⟨_, _, aReadA, ⟨aRead, iRead, kRead⟩, bRead⟩,
      ⟨_, _, aRestA, ⟨aRest, iRest, kRest⟩, bRest⟩, ⟨_, _, aInitA, M, ds, vds, bI⟩, ⟨_, _, oCI, ⟨cmk, aCI, iCI, kCC⟩, bCI⟩, ⟨_, _, oRdB, ⟨aRdB, iRdB, kRdB⟩, bRdB⟩, ⟨_, _, oPut, ⟨aPut, iPut, kPut⟩, bPut⟩, ⟨_, _, oBeg, ⟨aBeg, iBeg, kBeg⟩, bBeg⟩,
      ⟨_, _, oEnd, ⟨aEnd, iEnd, kEnd⟩, bEnd⟩, ⟨_, _, oUndo, ⟨aUndo, iUndo, kUndo⟩, bUndo⟩, ⟨_, _, oSync, ⟨aSync, iSync, kSync⟩, bSync⟩⟩
  refine ⟨_, [(cL, PT)], spLaw K PT, fun p hp => ?_, fun p hp => ?_, fun p hp => ?_, fun s u => .of_eq rfl, fun H a ns _ _ hH hS => ⟨a, ns, rfl, hS, fun p hp => ?_, fun _ => rfl⟩, fun base _ _ TB => ok_law lL cL1 (TB _ List.mem_cons_self) (bits base)⟩
  · rw [List.mem_singleton.mp hp]
    exact ht
  · rw [List.mem_singleton.mp hp]
    exact nP
  · rw [List.mem_singleton.mp hp]
    exact hd'
  · rw [List.mem_singleton.mp hp]
    exact LamX.TabS.nil (hH _ List.mem_cons_self)
end K03
open PySem PySem.W PyProof.Rows
set_option maxRecDepth 100000 in
set_option maxHeartbeats 0 in
theorem K03.ends_well : PySem.Challenge.rw_hoststack_k03_blocks_in_memory.Holds := by
  w_on; o_law; k_head; (case hw => w_witness2)
  k_fill
  refine HK.walk_TT (l := PySem.Challenge.rw_hoststack_k03_blocks_in_memory) (n := 63) (k := 11) (x := "script") (CX := fun _ => L2.CX0) rfl (by decide) rfl ⟨rfl, by decide, by decide⟩ (fun w h Y => PySem.W.km_in_of Y) (by rfl) ?F (fun _ _ _ _ _ z => z)
  case F =>
    intro w mg fa h tabs KX G hmg
    refine' K03.all_mk KX G hmg tabs ?aDice ?lDice ?cDice ?kDice ?aRoll ?lRoll ?cRoll ?kRoll ?aRounds ?lRounds ?cRounds ?kRounds ?aTold ?lTold ?cTold ?kTold ?aPair ?lPair ?cPair ?kPair ?aOfPair ?lOfPair ?cOfPair ?kOfPair ?aSum ?lSum ?cSum ?kSum ?aHRoom ?lHRoom ?cHRoom ?kHRoom ?aGroup ?lGroup ?cGroup ?kGroup ?aStart ?lStart ?cStart ?kStart ?aHead ?lHead ?cHead ?kHead ?aRHead ?lRHead ?cRHead ?kRHead ?aBlk ?lBlk ?cBlk ?kBlk ?aBlks ?lBlks ?cBlks ?kBlks ?aArm ?iArm ?lArm ?cArm ?kArm ?aAlive ?iAlive ?lAlive ?cAlive ?kAlive ?aStep ?iStep ?lStep ?cStep ?kStep ?aNumber ?iNumber ?lNumber ?cNumber ?kNumber ?aBlock ?iBlock ?lBlock ?cBlock ?kBlock ?aKept ?iKept ?lKept ?cKept ?kKept ?aRead ?iRead ?lRead ?cRead ?kRead ?aWrite ?iWrite ?lWrite ?cWrite ?kWrite ?aFlush ?iFlush ?lFlush ?cFlush ?kFlush ?aRest ?iRest ?lRest ?cRest ?kRest ?aRoom ?iRoom ?lRoom ?cRoom ?kRoom ?aCommit ?iCommit ?lCommit ?cCommit ?kCommit ?aWG ?iWG ?lWG ?cWG ?kWG ?aWH ?iWH ?lWH ?cWH ?kWH ?aPend ?iPend ?lPend ?cPend ?kPend ?aRec ?iRec ?lRec ?cRec ?kRec ?aJI ?iJI ?lJI ?cJI ?kJI ?aRdB ?iRdB ?lRdB ?cRdB ?kRdB ?aShr ?iShr ?lShr ?cShr ?kShr ?aPut ?iPut ?lPut ?cPut ?kPut ?aBeg ?iBeg ?lBeg ?cBeg ?kBeg ?aEnd ?iEnd ?lEnd ?cEnd ?kEnd ?aUndo ?iUndo ?lUndo ?cUndo ?kUndo ?aSync ?iSync ?lSync ?cSync ?kSync ?aEarl ?iEarl ?lEarl ?cEarl ?kEarl ?aCCom ?iCCom ?lCCom ?cCCom ?kCCom ?aCC ?cpg ?chd ?cpo ?csa ?cmk ?kCC ?cf1 ?cf2 ?cf3 ?cf4 ?cf5 ?cf6 ?aCI ?iCI ?lCI ?cCI ?kCI ?lTC ?dTC ?aCJ ?jpg ?jhd ?jpo ?jsa ?jmk ?kCJ ?j1 ?j2 ?j3 ?j4 ?aJE ?xJE ?kJE ?bJE ?tJE ?isJE ?ssJE ?sJD ?mB ?mHB ?mSS ?aMK ?lMK ?cMK ?dMK ?aI ?iI ?lI ?cI ?kI ?lT ?dT ?aL ?lL ?cL1 ?lcL ?vL ?nP ?aC ?pg ?hd ?po ?sa ?mk ?kC ?n1 ?n2 ?n3 ?n4 ?n5 ?n6 ?n7 ?aE ?xE ?kE ?bE ?tE ?isE ?ssE ?mK ?mH ?z_max ?z_min ?z_any ?z_sorted ?z_len ?z_tuple ?z_int ?z_abs ?z_range ?z_list ?z_dict ?z_enumerate ?z_reversed ?z_zip
    (case aDice => k_is)
    (case aRoll => k_is)
    (case aRounds => k_is)
    (case aTold => k_is)
    (case aPair => k_is)
    (case aOfPair => k_is)
    (case aSum => k_is)
    (case aHRoom => k_is)
    (case aGroup => k_is)
    (case aStart => k_is)
    (case aHead => k_is)
    (case aRHead => k_is)
    (case aBlk => k_is)
    (case aBlks => k_is)
    (case aCC => k_is)
    (case aCJ => k_is)
    (case aJE => k_is)
    (case mB => k_is)
    (case mHB => k_is)
    (case mSS => k_is)
    (case aMK => k_is)
    (case aL => k_is)
    (case aC => k_is)
    (case aE => k_is)
    (case mK => k_is)
    (case mH => k_is)
    (case z_max => k_is)
    (case z_min => k_is)
    (case z_any => k_is)
    (case z_sorted => k_is)
    (case z_len => k_is)
    (case z_tuple => k_is)
    (case z_int => k_is)
    (case z_abs => k_is)
    (case z_range => k_is)
    (case z_list => k_is)
    (case z_dict => k_is)
    (case z_enumerate => k_is)
    (case z_reversed => k_is)
    (case z_zip => k_is)
    (case lDice => k_is)
    (case cDice => k_is)
    (case kDice => k_is)
    (case lRoll => k_is)
    (case cRoll => k_is)
    (case kRoll => k_is)
    (case lRounds => k_is)
    (case cRounds => k_is)
    (case kRounds => k_is)
    (case lTold => k_is)
    (case cTold => k_is)
    (case kTold => k_is)
    (case lPair => k_is)
    (case cPair => k_is)
    (case kPair => k_is)
    (case lOfPair => k_is)
    (case cOfPair => k_is)
    (case kOfPair => k_is)
    (case lSum => k_is)
    (case cSum => k_is)
    (case kSum => k_is)
    (case lHRoom => k_is)
    (case cHRoom => k_is)
    (case kHRoom => k_is)
    (case lGroup => k_is)
    (case cGroup => k_is)
    (case kGroup => k_is)
    (case lStart => k_is)
    (case cStart => k_is)
    (case kStart => k_is)
    (case lHead => k_is)
    (case cHead => k_is)
    (case kHead => k_is)
    (case lRHead => k_is)
    (case cRHead => k_is)
    (case kRHead => k_is)
    (case lBlk => k_is)
    (case cBlk => k_is)
    (case kBlk => k_is)
    (case lBlks => k_is)
    (case cBlks => k_is)
    (case kBlks => k_is)
    (case aArm => k_is)
    (case iArm => k_is)
    (case lArm => k_is)
    (case cArm => k_is)
    (case kArm => k_is)
    (case aAlive => k_is)
    (case iAlive => k_is)
    (case lAlive => k_is)
    (case cAlive => k_is)
    (case kAlive => k_is)
    (case aStep => k_is)
    (case iStep => k_is)
    (case lStep => k_is)
    (case cStep => k_is)
    (case kStep => k_is)
    (case aNumber => k_is)
    (case iNumber => k_is)
    (case lNumber => k_is)
    (case cNumber => k_is)
    (case kNumber => k_is)
    (case aBlock => k_is)
    (case iBlock => k_is)
    (case lBlock => k_is)
    (case cBlock => k_is)
    (case kBlock => k_is)
    (case aKept => k_is)
    (case iKept => k_is)
    (case lKept => k_is)
    (case cKept => k_is)
    (case kKept => k_is)
    (case aRead => k_is)
    (case iRead => k_is)
    (case lRead => k_is)
    (case cRead => k_is)
    (case kRead => k_is)
    (case aWrite => k_is)
    (case iWrite => k_is)
    (case lWrite => k_is)
    (case cWrite => k_is)
    (case kWrite => k_is)
    (case aFlush => k_is)
    (case iFlush => k_is)
    (case lFlush => k_is)
    (case cFlush => k_is)
    (case kFlush => k_is)
    (case aRest => k_is)
    (case iRest => k_is)
    (case lRest => k_is)
    (case cRest => k_is)
    (case kRest => k_is)
    (case aRoom => k_is)
    (case iRoom => k_is)
    (case lRoom => k_is)
    (case cRoom => k_is)
    (case kRoom => k_is)
    (case aCommit => k_is)
    (case iCommit => k_is)
    (case lCommit => k_is)
    (case cCommit => k_is)
    (case kCommit => k_is)
    (case aWG => k_is)
    (case iWG => k_is)
    (case lWG => k_is)
    (case cWG => k_is)
    (case kWG => k_is)
    (case aWH => k_is)
    (case iWH => k_is)
    (case lWH => k_is)
    (case cWH => k_is)
    (case kWH => k_is)
    (case aPend => k_is)
    (case iPend => k_is)
    (case lPend => k_is)
    (case cPend => k_is)
    (case kPend => k_is)
    (case aRec => k_is)
    (case iRec => k_is)
    (case lRec => k_is)
    (case cRec => k_is)
    (case kRec => k_is)
    (case aJI => k_is)
    (case iJI => k_is)
    (case lJI => k_is)
    (case cJI => k_is)
    (case kJI => k_is)
    (case aRdB => k_is)
    (case iRdB => k_is)
    (case lRdB => k_is)
    (case cRdB => k_is)
    (case kRdB => k_is)
    (case aShr => k_is)
    (case iShr => k_is)
    (case lShr => k_is)
    (case cShr => k_is)
    (case kShr => k_is)
    (case aPut => k_is)
    (case iPut => k_is)
    (case lPut => k_is)
    (case cPut => k_is)
    (case kPut => k_is)
    (case aBeg => k_is)
    (case iBeg => k_is)
    (case lBeg => k_is)
    (case cBeg => k_is)
    (case kBeg => k_is)
    (case aEnd => k_is)
    (case iEnd => k_is)
    (case lEnd => k_is)
    (case cEnd => k_is)
    (case kEnd => k_is)
    (case aUndo => k_is)
    (case iUndo => k_is)
    (case lUndo => k_is)
    (case cUndo => k_is)
    (case kUndo => k_is)
    (case aSync => k_is)
    (case iSync => k_is)
    (case lSync => k_is)
    (case cSync => k_is)
    (case kSync => k_is)
    (case aEarl => k_is)
    (case iEarl => k_is)
    (case lEarl => k_is)
    (case cEarl => k_is)
    (case kEarl => k_is)
    (case aCCom => k_is)
    (case iCCom => k_is)
    (case lCCom => k_is)
    (case cCCom => k_is)
    (case kCCom => k_is)
    (case cpg => k_is)
    (case chd => k_is)
    (case cpo => k_is)
    (case csa => k_is)
    (case cmk => k_is)
    (case kCC => k_is)
    (case cf1 => k_is)
    (case cf2 => k_is)
    (case cf3 => k_is)
    (case cf4 => k_is)
    (case cf5 => k_is)
    (case cf6 => k_is)
    (case aCI => k_is)
    (case iCI => k_is)
    (case lCI => k_is)
    (case cCI => k_is)
    (case kCI => k_is)
    (case lTC => k_is)
    (case dTC => rfl)
    (case jpg => k_is)
    (case jhd => k_is)
    (case jpo => k_is)
    (case jsa => k_is)
    (case jmk => k_is)
    (case kCJ => k_is)
    (case j1 => k_is)
    (case j2 => k_is)
    (case j3 => k_is)
    (case j4 => k_is)
    (case xJE => k_exc)
    (case kJE => k_is)
    (case bJE => k_is)
    (case tJE => k_is)
    (case isJE => k_is)
    (case ssJE => first | rfl | k_is)
    (case sJD => first | rfl | k_is)
    (case lMK => k_is)
    (case cMK => rfl)
    (case dMK => rfl)
    (case aI => k_is)
    (case iI => k_is)
    (case lI => k_is)
    (case cI => k_is)
    (case kI => k_is)
    (case lT => k_is)
    (case dT => rfl)
    (case lL => k_is)
    (case cL1 => k_is)
    (case lcL => k_is)
    (case vL => rfl)
    (case nP => kernel_rfl)
    (case pg => k_is)
    (case hd => k_is)
    (case po => k_is)
    (case sa => k_is)
    (case mk => k_is)
    (case kC => k_is)
    (case n1 => k_is)
    (case n2 => k_is)
    (case n3 => k_is)
    (case n4 => k_is)
    (case n5 => k_is)
    (case n6 => k_is)
    (case n7 => k_is)
    (case xE => k_exc)
    (case kE => k_is)
    (case bE => k_is)
    (case tE => k_is)
    (case isE => k_is)
    (case ssE => first | rfl | k_is)
theorem PySem.Challenge.cw_hoststack_k03_blocks_in_memory_holds : PySem.Challenge.rw_hoststack_k03_blocks_in_memory.Holds := by
  exact K03.ends_well
