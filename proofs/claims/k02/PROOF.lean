import PyProof.Rows.All
import Wide.All
import OpenK.AllK
import Wide.FinOn
import HandS.ForMost
import HandS.Iter
import HandS.Codes
import HandS.StrMore
import HandS.ForExc
import HandS.ExcInit
import HandS.Lambda
import HandS.EndTab
import HandS.TupMul
import HandS.TupAny
import HandS.ListItems
import HandS.Walk
import HandS.More
import HandS.Defaults
import HandS.Rev
import HandS.TryMany
import KE.DataAny
import KE.KDictZip
import PyProof.AutoSeq1
import KE.KItemsList
import HandS.Zip
import KE.GoesZip
import KE.GoesMore
import KE.KEqSeq
import PySem.Challenge.RW_hoststack_k02_devices_and_journals
set_option Elab.async false
set_option linter.all false
set_option maxRecDepth 100000
set_option maxHeartbeats 8000000
namespace HK
open PySem PySem.Spec PyProof.Rows L2 PySem.StrLaws TL
/-- the text of codes; of one code -/
def T (l : List Nat) : Str := ⟨l.toArray⟩
theorem T_len (l : List Nat) : (T l).length = l.length := rfl
theorem T_inj {a b : List Nat} (h : T a = T b) : a = b := by
  have z := congrArg (fun x : Str => x.cps.toList) h
  exact z
/-- the codes of the 95 letters -/
def ls : List Nat := 10 :: 32 :: 33 :: 34 :: 35 :: 36 :: (List.range 89).map (· + 38)
theorem ls_len : ls.length = 95 := by decide
theorem ls_nodup : ls.Nodup := by decide +kernel
theorem ls_text : Str.ofString "\n !\"#$&'()*+,-./0123456789:;<=>?@ABCDEFGHIJKLMNOPQRSTUVWXYZ[\\]^_`abcdefghijklmnopqrstuvwxyz{|}~" = T ls := by decide +kernel
/-- the first place of a code -/
def pos (l : List Nat) (c : Nat) : Option Nat := l.findIdx? (· == c)
theorem at_one (l : List Nat) (c i : Nat) : At (T l) (T [c]) (T l).length i ↔ l[i]? = some c := by
  have hc : (T [c]).length = 1 := rfl
  have hl : (T l).length = l.length := rfl
  unfold At
  rw [hc, hl]
  have key : Builtin.Str.subAt (T l) (T [c]) i = ((l.drop i).take 1 == [c]) := by
    have e : (T l).cps.extract i (i + 1) = ((l.drop i).take 1).toArray := by
      apply Array.ext'
      simp [T, List.extract_eq_drop_take]
    show ((T l).cps.extract i (i + 1) == [c].toArray) = _
    rw [e]
    simp
  rw [key]
  constructor
  · rintro ⟨h1, h2⟩
    have h3 : (l.drop i).take 1 = [c] := eq_of_beq h2
    have h4 : ((l.drop i).take 1)[0]? = some c := by rw [h3]; rfl
    simpa using h4
  · intro h
    obtain ⟨hi, e⟩ := List.getElem?_eq_some_iff.mp h
    refine ⟨by omega, ?_⟩
    rw [List.drop_eq_getElem_cons hi, e]
    simp
theorem occ_pos (l : List Nat) (c : Nat) : (pos l c = none ∧ Builtin.Str.occurrences (T l) (T [c]) 0 (T l).length 1 = []) ∨ ∃ k r, pos l c = some k ∧ Builtin.Str.occurrences (T l) (T [c]) 0 (T l).length 1 = k :: r := by
  rcases occ_head (T l) (T [c]) 1 (Nat.le_refl _) with ⟨e, hn⟩ | ⟨i, r, e, hi, hn⟩
  · refine .inl ⟨?_, e⟩
    unfold pos
    rw [List.findIdx?_eq_none_iff]
    intro x hx
    obtain ⟨j, hj⟩ := List.getElem?_of_mem hx
    cases q : (x == c) with
    | false => rfl
    | true =>
      have e2 : x = c := eq_of_beq q
      rw [e2] at hj
      exact absurd ((at_one l c j).mpr hj) (hn j)
  · refine .inr ⟨i, r, ?_, e⟩
    have h1 := (at_one l c i).mp hi
    obtain ⟨hl, e1⟩ := List.getElem?_eq_some_iff.mp h1
    unfold pos
    rw [List.findIdx?_eq_some_iff_getElem]
    refine ⟨hl, by simp [e1], fun j hj => ?_⟩
    have hjl : j < l.length := Nat.lt_trans hj hl
    intro q
    have e2 : l[j] = c := eq_of_beq q
    exact hn j hj ((at_one l c j).mpr (by rw [List.getElem?_eq_getElem hjl, e2]))
theorem index_one (l : List Nat) (c : Nat) : Txt.index0 (T l) (T [c]) = pos l c := by
  unfold Txt.index0
  rcases occ_pos l c with ⟨h, e⟩ | ⟨k, r, h, e⟩ <;> rw [e, h] <;> rfl
theorem find_one (l : List Nat) (c : Nat) : Txt.find (T l) (T [c]) = match pos l c with | some k => (k : Int) | none => -1 := by
  unfold Txt.find
  rcases occ_pos l c with ⟨h, e⟩ | ⟨k, r, h, e⟩ <;> rw [e, h]
theorem pos_some {l : List Nat} {c k : Nat} (h : pos l c = some k) : l[k]? = some c := by
  unfold pos at h
  rw [List.findIdx?_eq_some_iff_getElem] at h
  obtain ⟨hl, e, _⟩ := h
  rw [List.getElem?_eq_getElem hl, eq_of_beq e]
theorem pos_mem {l : List Nat} {c : Nat} (h : c ∈ l) : ∃ k, pos l c = some k := by
  cases q : pos l c with
  | some k => exact ⟨k, rfl⟩
  | none =>
    unfold pos at q
    rw [List.findIdx?_eq_none_iff] at q
    have := q c h
    simp at this
theorem pos_none {l : List Nat} {c : Nat} (h : c ∉ l) : pos l c = none := by
  cases q : pos l c with
  | none => rfl
  | some k => exact absurd (List.mem_of_getElem? (pos_some q)) h
theorem pos_at {l : List Nat} (nd : l.Nodup) {k c : Nat} (h : l[k]? = some c) : pos l c = some k := by
  obtain ⟨j, e⟩ := pos_mem (List.mem_of_getElem? h)
  have h2 := pos_some e
  rw [e, (nd_ix nd h2 h)]
/-- a comprehension over the signs of a text -/
theorem lc_str {l : List Nat} {g : TG} {tt : TT} {te : TE} {vs : List Nat} {σ : L2.St} {H1 : Hp} {D : Addr} {Qd : Hp → Prop} (Pv : Nat → Hp → Prop) (h0 : Pv 0 (upd H1 D (.lst [])))
    (hs : ∀ i c H, l[i]? = some c → Pv i H → g (.str (T [c])) (wipe σ vs) H fun σ2 H2 => wipe σ2 vs = wipe σ vs ∧ tt σ2 H2 fun b H3 =>
      if b = true then te σ2 H3 fun y H4 => ∃ acc, H4 D = some (.lst acc) ∧ acc.length < sizeLine ∧ Pv (i + 1) (upd H4 D (.lst (acc ++ [y]))) else Pv (i + 1) H3) (hd : ∀ H, Pv l.length H → Qd H) :
    ∃ W : Nat → Nat → Hp → Prop, (∃ m, W 0 m (upd H1 D (.lst []))) ∧ ∀ i m H, W i m H →
      ((Its (T l)).stop i H ∧ Qd H) ∨ ((Its (T l)).go i H ∧ ∃ Nx : Hp → Prop, (∀ H', Nx H' → ∃ m', m' < m ∧ W (i + 1) m' H') ∧ ∀ x H', (Its (T l)).yld i H x H' → g x (wipe σ vs) H' fun σ2 H2 => wipe σ2 vs = wipe σ vs ∧ tt σ2 H2 fun b H3 =>
        if b = true then te σ2 H3 fun y H4 => ∃ acc, H4 D = some (.lst acc) ∧ acc.length < sizeLine ∧ Nx (upd H4 D (.lst (acc ++ [y]))) else Nx H3) := by
  have sz : (T l).cps.size = l.length := rfl
  refine ⟨fun i m H => m = l.length - i ∧ i ≤ l.length ∧ Pv i H, ⟨l.length, by simp, Nat.zero_le _, h0⟩, ?_⟩
  rintro i m H ⟨rfl, hi, p⟩
  by_cases hlt : i < l.length
  · refine .inr ⟨hlt, Pv (i + 1), fun H' p' => ⟨l.length - (i + 1), by omega, rfl, hlt, p'⟩, fun x H' y => ?_⟩
    obtain ⟨e, c, hc, ev⟩ := y
    subst e
    subst ev
    exact hs i c _ (by simpa [T] using hc) p
  · have e : i = l.length := by omega
    subst e
    exact .inl ⟨Nat.le_of_eq sz, hd H p⟩
theorem take_map_succ {α β : Type} (f : α → β) {l : List α} {i : Nat} {c : α} (h : l[i]? = some c) : (l.take (i + 1)).map f = (l.take i).map f ++ [f c] := by
  rw [List.take_add_one, h, List.map_append]
  rfl
theorem mem_take_succ {α : Type} {l : List α} {i : Nat} {c : α} {p : α → Prop} (h : l[i]? = some c) (hp : ∀ x ∈ l.take i, p x) (hc : p c) : ∀ x ∈ l.take (i + 1), p x := by
  intro x hx
  rw [List.take_add_one, h] at hx
  rcases List.mem_append.mp hx with z | z
  · exact hp x z
  · have e : x = c := by simpa using z
    rw [e]
    exact hc
theorem sqT_same {K : PySem.W.Frag} {H H' : Hp} {a : Addr} {xs : List V} (e : Same H H') (h : SqT K H a xs) : SqT K H' a xs := by
  rcases h with (h | ⟨o, h⟩) | h
  · exact .inl (.inl (e _ _ h))
  · exact .inl (.inr ⟨o, e _ _ h⟩)
  · exact .inr h
theorem same_upd {H : Hp} {d : Addr} {o : HO} (h : H d = none) : Same H (upd H d o) := fun b u e => by
  rw [upd_ne (ne_of_none e h)]
  exact e
theorem join_len (l : List Nat) : ((l.map fun c => T [c]).map (·.length)).sum = l.length := by
  induction l with
  | nil => rfl
  | cons c r ih => simp only [List.map_cons, List.sum_cons, ih, T_len, List.length_cons, List.length_nil]; omega
theorem join_T (l : List Nat) : PySem.Txt.join (T []) (l.map fun c => T [c]) = T l := by
  rw [join_eq]
  refine ext_tl ?_
  rw [tl_join]
  show joinL [] ((l.map fun c => T [c]).map tl) = l
  rw [List.map_map]
  induction l with
  | nil => rfl
  | cons c r ih =>
    cases r with
    | nil => rfl
    | cons d q =>
      have e : joinL [] (((c :: d :: q).map (tl ∘ fun c => T [c]))) = [c] ++ ([] ++ joinL [] ((d :: q).map (tl ∘ fun c => T [c]))) := rfl
      rw [e, ih]
      rfl
end HK
namespace K02
open PySem L2 HK
def top (i : Nat) : Stmt := PySem.Challenge.pw_hoststack_k02_devices_and_journals.main.body.getD i (.Pass ⟨0, 0, 0, 0⟩)
/-! ### the dice, as plain mathematics -/
structure Dice where
  a : Int
  b : Int
  c : Int
  deriving DecidableEq
def Dice.vs (d : Dice) : List V := [.int d.a, .int d.b, .int d.c]
def mkDice (n : Int) : Dice := if -10 < n ∧ n < 10 then ⟨if n < 0 then -n else n, 0, 2⟩ else ⟨n, 1 + n % 1009, if 10 ^ 18 ≤ n then 1 else 0⟩
def stepA (d : Dice) : Int := (d.a * 48271 + d.b * 69621 + 11) % 2147483647
/-- what a roll tells, and the dice behind it -/
def roll (d : Dice) (m : Int) : Int × Dice :=
  if d.c = 2 ∨ (d.c = 1 ∧ 0 < d.a) then (d.a % m, ⟨d.a / m, d.b, d.c⟩) else ((stepA d / 7) % m, ⟨stepA d, d.b + 1, 0⟩)
theorem roll_range (d : Dice) {m : Int} (h : 0 < m) : 0 ≤ (roll d m).1 ∧ (roll d m).1 < m := by
  unfold roll
  split
  · exact ⟨Int.emod_nonneg _ (by omega), Int.emod_lt_of_pos _ h⟩
  · exact ⟨Int.emod_nonneg _ (by omega), Int.emod_lt_of_pos _ h⟩
abbrev sDice : Stmt := top 24
abbrev sRoll : Stmt := top 25
abbrev sRounds : Stmt := top 26
/-! ### promises -/
def spDice : Sp := fun vs H Q _ => ∃ n : Int, vs = [.int n] ∧ ∀ p, H p = none → Q (.ref p) (upd H p (.lst (mkDice n).vs))
def spRoll : Sp := fun vs H Q _ => ∃ (D : Addr) (d : Dice) (m : Int), vs = [.ref D, .int m] ∧ H D = some (.lst d.vs) ∧ 0 < m ∧ m < 1000000 ∧ Q (.int (roll d m).1) (upd H D (.lst (roll d m).2.vs))
section
variable {P : Program} {w : World} {K : PySem.W.Frag} {mg : Str → Option Value} {base : Heap}
theorem scDice : FnScope ["cell"] ["cell"] (defScope sDice) := ⟨rfl, rfl, rfl, by decide +kernel, rfl, by decide +kernel, by decide +kernel⟩
theorem ok_dice {f : Addr} {fd : FuncData} (F : L2.Fun K "_law_dice" "_law_dice" sDice f fd) (mA : mg "abs" = none) (mI : mg "int" = none) : FnOk P w K mg base L2.CX0 1 f fd ["cell"] spDice := by
  refine F.ok scDice (fun vs H Q E h => ?_) (fun cdv A outer s H vs Q E hr h => ?_)
  · obtain ⟨n, rfl, _⟩ := h
    rfl
  · obtain ⟨n, rfl, k⟩ := h
    refine ⟨_, pss_cons (ps_if (pt_chain op_lt op_lt (pe_op op_sub pe_int pe_int) (pv 0) pe_int) (pss_one (ps_ret (pe_lst (pa_cons (pe_callB call_abs (by rfl) mA (by decide +kernel) (pa_cons (pv 0) pa_nil)) (pa_cons pe_int (pa_cons pe_int pa_nil)))))) pss_nil)
      (pss_one (ps_ret (pe_lst (pa_cons (pv 0) (pa_cons (pe_op op_add pe_int (pe_op op_mod (pe_callTy call_int1 (by rfl) mI PyProof.Rows.Boot.«int» (pa_cons (pv 0) pa_nil)) pe_int))
        (pa_cons (pe_callTy call_int1 (by rfl) mI PyProof.Rows.Boot.«int» (pa_cons (pe_cmpR op_ge (pv 0) (pe_op op_pow pe_int pe_int) (nomark _)) pa_nil)) pa_nil)))))), ?_⟩
    refine ⟨_, _, rfl, rfl, _, rfl, _, _, rfl, rfl, _, rfl, ?_⟩
    refine ite2 (fun c1 => ⟨_, _, rfl, rfl, _, rfl, ite2 (fun c2 => ?A) (fun c2 => ?B)⟩) (fun c1 => ⟨_, rfl, iteF ?C⟩)
    case A =>
      have hn : -10 < n ∧ n < 10 := ⟨by have z := of_decide_eq_true c1; omega, of_decide_eq_true c2⟩
      refine ⟨_, rfl, _, rfl, by show 3 ≤ sizeLine; decide, fun p hp => ?_⟩
      have e := k p hp
      unfold mkDice at e
      rw [if_pos hn] at e
      exact e
    all_goals
      have hn : ¬ (-10 < n ∧ n < 10) := by
        simp only [decide_eq_true_eq] at *
        omega
      refine ⟨_, rfl, _, rfl, .inl ⟨_, rfl, _, _, rfl, rfl, (by show (0 : Int) < 1009; decide), _, _, rfl, rfl, ?_⟩⟩
      refine ⟨_, rfl, _, _, rfl, rfl, (by refine ⟨by decide, by decide, by decide⟩), _, _, rfl, rfl, .inr ⟨_, rfl, by show 3 ≤ sizeLine; decide, fun p hp => ?_⟩⟩
      have e := k p hp
      unfold mkDice at e
      rw [if_neg hn] at e
      have e2 : (if decide ((10 : Int) ^ (18 : Int).toNat ≤ n) = true then (1 : Int) else 0) = (if 10 ^ 18 ≤ n then 1 else 0) := by
        simp only [decide_eq_true_eq]
        rfl
      rw [e2]
      exact e
theorem scRoll : FnScope ["dice", "many", "found"] ["dice", "many"] (defScope sRoll) := ⟨rfl, rfl, rfl, by decide +kernel, rfl, by decide +kernel, by decide +kernel⟩
theorem at0 (x y z : V) : atI [x, y, z] 0 = some x := rfl
theorem at1 (x y z : V) : atI [x, y, z] 1 = some y := rfl
theorem at2 (x y z : V) : atI [x, y, z] 2 = some z := rfl
theorem ix0 (x y z : V) : ixN [x, y, z].length 0 = some 0 := rfl
theorem ix1 (x y z : V) : ixN [x, y, z].length 1 = some 1 := rfl
theorem ix2 (x y z : V) : ixN [x, y, z].length 2 = some 2 := rfl
theorem ok_roll {f : Addr} {fd : FuncData} (F : L2.Fun K "_law_roll" "_law_roll" sRoll f fd) (mI : mg "int" = none) : FnOk P w K mg base L2.CX0 1 f fd ["dice", "many"] spRoll := by
  refine F.ok scRoll (fun vs H Q E h => ?_) (fun cdv A outer s H vs Q E hr h => ?_)
  · obtain ⟨D, d, m, rfl, _⟩ := h
    rfl
  · obtain ⟨D, ⟨a, b, c⟩, m, rfl, hD, m0, m1, k⟩ := h
    have hD : H D = some (.lst [.int a, .int b, .int c]) := hD
    refine ⟨_, pss_cons (ps_if (PW.pt (pw_or (pt_cmpR op_eq (pe_ix ix_list (pv 0) pe_int (fun _ _ => rfl)) pe_int (nomark _)) (pw_or1 (PW.pt (pw_and (pt_cmpR op_eq (pe_ix ix_list (pv 0) pe_int (fun _ _ => rfl)) pe_int (nomark _)) (pw_and1 (pt_cmpR op_gt (pe_ix ix_list (pv 0) pe_int (fun _ _ => rfl)) pe_int (nomark _))))))))
        (pss_cons (ps_set (i := 2) scRoll.nd rfl (Or.inl rfl) (pe_op op_mod (pe_callTy call_int1 (by rfl) mI PyProof.Rows.Boot.«int» (pa_cons (pe_ix ix_list (pv 0) pe_int (fun _ _ => rfl)) pa_nil)) (pv 1)))
        (pss_cons (ps_asg (pe_op op_fdiv (pe_ix ix_list (pv 0) pe_int (fun _ _ => rfl)) (pv 1)) (pg_sub (pv 0) pe_int set_list))
        (pss_one (ps_ret (pv 2))))) pss_nil)
      (pss_cons (ps_asg pe_int (pg_sub (pv 0) pe_int set_list))
      (pss_cons (ps_asg (pe_op op_mod (pe_callTy call_int1 (by rfl) mI PyProof.Rows.Boot.«int» (pa_cons (pe_op op_add (pe_op op_add (pe_op op_mul (pe_ix ix_list (pv 0) pe_int (fun _ _ => rfl)) pe_int) (pe_op op_mul (pe_ix ix_list (pv 0) pe_int (fun _ _ => rfl)) pe_int)) pe_int) pa_nil)) pe_int) (pg_sub (pv 0) pe_int set_list))
      (pss_cons (ps_asg (pe_op op_add (pe_ix ix_list (pv 0) pe_int (fun _ _ => rfl)) pe_int) (pg_sub (pv 0) pe_int set_list))
      (pss_one (ps_ret (pe_op op_mod (pe_callTy call_int1 (by rfl) mI PyProof.Rows.Boot.«int» (pa_cons (pe_op op_fdiv (pe_ix ix_list (pv 0) pe_int (fun _ _ => rfl)) pe_int) pa_nil)) (pv 1))))))), ?_⟩
    refine ⟨_, rfl, D, _, _, _, rfl, rfl, SqL.of hD, at2 _ _ _, rfl, _, rfl, ite2 (fun c1 => iteT ?T) (fun c1 => ⟨_, rfl, D, _, _, _, rfl, rfl, SqL.of hD, at2 _ _ _, rfl, _, rfl,
      ite2 (fun c2 => ⟨_, rfl, D, _, _, _, rfl, rfl, SqL.of hD, at0 _ _ _, _, _, rfl, rfl, _, rfl, ite2 (fun c3 => ?T2) (fun c3 => ?F)⟩) (fun c2 => iteF ?F2)⟩)⟩
    case T | T2 =>
      have hc : c = 2 ∨ (c = 1 ∧ 0 < a) := by
        simp only [decide_eq_true_eq, V.int.injEq] at *
        omega
      have e : roll ⟨a, b, c⟩ m = (a % m, ⟨a / m, b, c⟩) := by
        unfold roll
        rw [if_pos hc]
      rw [e] at k
      refine ⟨_, rfl, D, _, _, _, rfl, rfl, SqL.of hD, at0 _ _ _, .inl ⟨_, rfl, _, rfl, _, _, rfl, rfl, m0, ?_⟩⟩
      exact ⟨_, rfl, D, _, _, _, rfl, rfl, SqL.of hD, at0 _ _ _, _, rfl, _, _, rfl, rfl, ⟨m0, by omega⟩, _, rfl, D, _, _, _, rfl, rfl, hD, ix0 _ _ _, _, rfl, k⟩
    case F | F2 =>
      have hc : ¬ (c = 2 ∨ (c = 1 ∧ 0 < a)) := by
        simp only [decide_eq_true_eq, V.int.injEq] at *
        omega
      have e : roll ⟨a, b, c⟩ m = ((stepA ⟨a, b, c⟩ / 7) % m, ⟨stepA ⟨a, b, c⟩, b + 1, 0⟩) := by
        unfold roll
        rw [if_neg hc]
      rw [e] at k
      refine ⟨_, rfl, D, _, _, _, rfl, rfl, hD, ix2 _ _ _, ?_⟩
      refine ⟨_, rfl, D, _, _, _, rfl, rfl, SqL.of upd_same, at0 _ _ _, _, _, rfl, rfl, .inr ⟨by decide, by decide⟩, _, rfl, D, _, _, _, rfl, rfl, SqL.of upd_same, at1 _ _ _, _, _, rfl, rfl, .inr ⟨by decide, by decide⟩, _, _, rfl, rfl, _, _, rfl, rfl, .inl ⟨_, rfl, _, _, rfl, rfl, (by show (0 : Int) < 2147483647; decide), ?_⟩⟩
      refine ⟨_, rfl, D, _, _, _, rfl, rfl, upd_same, ix0 _ _ _, ?_⟩
      refine ⟨_, rfl, D, _, _, _, rfl, rfl, SqL.of upd_same, at1 _ _ _, _, _, rfl, rfl, _, rfl, D, _, _, _, rfl, rfl, upd_same, ix1 _ _ _, ?_⟩
      refine ⟨_, rfl, D, _, _, _, rfl, rfl, SqL.of upd_same, at0 _ _ _, _, _, rfl, rfl, ⟨by decide, by decide⟩, .inl ⟨_, rfl, _, rfl, _, _, rfl, rfl, m0, ?_⟩⟩
      rw [upd_upd, upd_upd]
      exact k
theorem scRounds : FnScope ["script", "most", "cells", "cell"] ["script", "most"] (defScope sRounds) := ⟨rfl, rfl, rfl, by decide +kernel, rfl, by decide +kernel, by decide +kernel⟩
def cell0 (ns : List Int) : Int := ns.headD 0
/-- the first cell's dice, alone in a list -/
def spRounds (K : PySem.W.Frag) : Sp := fun vs H Q _ => ∃ (a : Addr) (ns : List Int), vs = [.ref a, .int 1] ∧ SqL K H a (ns.map V.int) ∧
  ∀ H' R D, Same H H' → H R = none → H D = none → R ≠ D → H' R = some (.lst [.ref D]) → H' D = some (.lst (mkDice (cell0 ns)).vs) → Q (.ref R) H'
theorem cut1 (ns : List Int) : cutV (ns.map V.int) none (some 1) = (ns.take 1).map V.int := by
  unfold cutV
  show ((ns.map V.int).drop 0).take (HT.sIx (ns.map V.int).length (ns.map V.int).length (some ((1 : Nat) : Int)) - 0) = _
  rw [HT.sIx_nat]
  cases ns with
  | nil => rfl
  | cons n r => simp
theorem ok_rounds {f fD : Addr} {fd fdD : FuncData} (F : L2.Fun K "_law_rounds" "_law_rounds" sRounds f fd)
    (FD : FnOk P w K mg base L2.CX0 1 fD fdD ["cell"] spDice) (mD : mg "_law_dice" = some (.ref fD)) (kD : PySem.W.keepIn K (.ref fD) = true) (bD : Binds K fdD ["cell"] []) :
    FnOk P w K mg base L2.CX0 2 f fd ["script", "most"] (spRounds K) := by
  refine F.ok scRounds (fun vs H Q E h => ?_) (fun cdv A outer s H vs Q E hr h => ?_)
  · obtain ⟨a, ns, rfl, _⟩ := h
    rfl
  · obtain ⟨a, ns, rfl, ha, k⟩ := h
    refine ⟨_, pss_cons (ps_set (i := 2) scRounds.nd rfl (Or.inl rfl) (pe_slice sl_list (pv 0) po_none (po_some (pv 1))))
      (pss_cons (ps_if (pt_cmpR (op_eqD hr.units) (pv 2) (pe_lst pa_nil) (nomark _)) (pss_one (ps_set (i := 2) scRounds.nd rfl (Or.inl rfl) (pe_lst (pa_cons pe_int pa_nil)))) pss_nil)
      (pss_one (ps_ret (pe_lc (own := [("cell", 3)]) (g := gName 3) (by rfl) scRounds.nd (pi_list (pv 2)) (blkOk_by (N := ["script", "most", "cells", "cell"]) (sc := defScope sRounds) (by decide +kernel))
        (fun _ _ _ _ _ => pg_name (i := 3) scRounds.nd rfl (Or.inl rfl)) (fun _ _ _ _ _ => pts_nil) (fun _ _ _ _ _ => pe_call FD hr (by rfl) mD kD bD .nil pass0 (pa_cons (pv 3) pa_nil)))))), ?_⟩
    -- the list of cells
    have tail : ∀ (p : Addr) (n : Int) (H1 : Hp), Same H H1 → H p = none → H1 p = some (.lst [.int n]) → n = cell0 ns → tLc (iList K (tVar 2)) (gName 3) tYes (tCall spDice [] E0 (tCons (tVar 3) tNil)) [3] [some (.ref a), some (.int 1), some (.ref p), none] H1 Q := by
      intro p n H1 s1 np hp en
      refine ⟨_, rfl, p, rfl, ⟨_, SqL.of hp⟩, fun R nR => ?_⟩
      have npR : p ≠ R := ne_of_none hp nR
      refine lc_list (K := K) (a := p) (xs := [.int n]) (fun i H' => (i = 0 → H' = upd H1 R (.lst [])) ∧ (i = 1 → ∃ D, H1 D = none ∧ R ≠ D ∧ H' R = some (.lst [.ref D]) ∧ H' D = some (.lst (mkDice n).vs) ∧ Same H1 H')) ⟨fun _ => rfl, fun z => by cases z⟩ (fun i H' hi q => ?_) (fun i x H' hx q => ?_) (fun H' q => ?_)
      · have hi : i ≤ 1 := hi
        rcases (by omega : i = 0 ∨ i = 1) with rfl | rfl
        · rw [q.1 rfl]
          exact SqL.of (by rw [upd_ne npR]; exact hp)
        · obtain ⟨D, _, _, _, _, z⟩ := q.2 rfl
          exact SqL.of (z _ _ hp)
      · match i, hx with
        | 0, hx =>
          obtain rfl : V.int n = x := Option.some.inj hx
          obtain rfl := q.1 rfl
          refine ⟨rfl, _, rfl, n, rfl, fun D nD => ?_⟩
          have nRD : R ≠ D := ne_of_none upd_same nD
          have nD1 : H1 D = none := by rw [upd_ne (Ne.symm nRD)] at nD; exact nD
          refine ⟨[], by rw [upd_ne nRD, upd_same], by show 0 < sizeLine; decide, fun z => (by cases z), fun _ => ⟨D, nD1, nRD, upd_same, by rw [upd_ne (Ne.symm nRD), upd_same], fun b o e => ?_⟩⟩
          rw [upd_ne (ne_of_none e nR), upd_ne (ne_of_none e nD1), upd_ne (ne_of_none e nR)]
          exact e
      · obtain ⟨D, nD, nRD, h1, h2, s2⟩ := q.2 rfl
        rw [en] at h2
        exact k H' R D (s1.trans s2) (s1.free nR) (s1.free nD) nRD h1 h2
    refine ⟨_, rfl, _, rfl, _, rfl, a, _, rfl, ha, fun p np => ?_⟩
    rw [cut1]
    refine ⟨_, rfl, by show 0 ≤ sizeLine; decide, fun l nl => ?_⟩
    have npl : p ≠ l := ne_of_none upd_same nl
    have np' : (upd (upd H p (.lst ((ns.take 1).map V.int))) l (.lst [])) p = some (.lst ((ns.take 1).map V.int)) := by rw [upd_ne npl, upd_same]
    have nl' : H l = none := by rw [upd_ne (Ne.symm npl)] at nl; exact nl
    have sm : Same H (upd (upd H p (.lst ((ns.take 1).map V.int))) l (.lst [])) := fun b o e => by
      rw [upd_ne (ne_of_none e nl'), upd_ne (ne_of_none e np)]
      exact e
    cases ns with
    | nil =>
      refine ⟨.list [], .list [], Dp.lst (SqL.of np') .nil, Dp.lst (SqL.of upd_same) .nil, rfl, rfl, _, rfl, iteT ?_⟩
      refine ⟨by show 1 ≤ sizeLine; decide, fun c nc => ?_⟩
      refine tail c 0 _ (sm.trans fun b o e => ?_) (sm.free nc) upd_same rfl
      rw [upd_ne (ne_of_none e nc)]
      exact e
    | cons n r =>
      refine ⟨.list [.int n], .list [], Dp.lst (SqL.of np') (.cons (.int n) .nil), Dp.lst (SqL.of upd_same) .nil, ?_, rfl, _, rfl, iteF ?_⟩
      · rfl
      · exact tail p n _ sm np np' rfl
end
end K02
namespace K02
open PySem L2 HK
/-! ### frames of the heap -/
/-- all but those at l is as it was -/
def Off (l : List Addr) (H H' : Hp) : Prop := ∀ b, b ∉ l → H' b = H b
theorem Off.refl (l : List Addr) (H : Hp) : Off l H H := fun _ _ => rfl
theorem Off.upd {l : List Addr} {H H' : Hp} {a : Addr} {o : HO} (x : Off l H H') (h : a ∈ l) : Off l H (upd H' a o) := fun b hb => by
  have hba : b ≠ a := fun e => hb (by rw [e]; exact h)
  rw [upd_ne hba]
  exact x b hb
theorem Off.trans {l m : List Addr} {H H1 H2 : Hp} (x : Off l H H1) (y : Off m H1 H2) : Off (l ++ m) H H2 := fun b hb => by
  rw [y b (fun e => hb (List.mem_append.mpr (.inr e))), x b (fun e => hb (List.mem_append.mpr (.inl e)))]
/-! ### the device as plain data -/
structure Dv where
  sz : Int
  tot : Int
  fz : V
  dead : Bool
  st : Int
def fsD (d : Dv) (B W : Addr) : List (Str × V) := [("block_size", .int d.sz), ("total", .int d.tot), ("blocks", .ref B), ("waiting", .ref W), ("fuse", d.fz), ("dead", .bl d.dead), ("steps", .int d.st)]
def stepped (d : Dv) : Dv := { d with fz := match d.fz with | .int n => .int (n - 1) | v => v, st := d.st + 1 }
/-- a waiting write: the pair's tuple, the block's number, its data -/
abbrev En := Addr × Int × Addr
structure WaitAt (H : Hp) (W : Addr) (es : List En) : Prop where
  lst : H W = some (.lst (es.map fun e => V.ref e.1))
  tup : ∀ e ∈ es, H e.1 = some (.tup [.int e.2.1, .ref e.2.2])
def toKV (es : List En) : List (Key × V) := es.map fun e => (Sum.inl e.2.1, V.ref e.2.2)
/-- the last data that waits for a block -/
def lastOf (es : List En) (n : Int) : Option Addr := (es.reverse.find? fun e => decide (e.2.1 = n)).map (·.2.2)
def zeros (n : Int) : List V := List.replicate n.toNat (.int 0)
/-! ### the text by places -/
abbrev sInit : Stmt := inClass (top 22) 0
abbrev sArm : Stmt := inClass (top 22) 1
abbrev sAlive : Stmt := inClass (top 22) 2
abbrev sStep : Stmt := inClass (top 22) 3
abbrev sNumber : Stmt := inClass (top 22) 4
abbrev sBlock : Stmt := inClass (top 22) 5
abbrev sKept : Stmt := inClass (top 22) 6
abbrev sRead : Stmt := inClass (top 22) 7
abbrev sWrite : Stmt := inClass (top 22) 8
abbrev sFlush : Stmt := inClass (top 22) 9
abbrev sRest : Stmt := inClass (top 22) 10
structure DTxt (K : PySem.W.Frag) (mg : Str → Option Value) (C CE : Addr) : Prop where
  cl : Cls K C
  n1 : NoAttr K C "block_size"
  n2 : NoAttr K C "total"
  n3 : NoAttr K C "blocks"
  n4 : NoAttr K C "waiting"
  n5 : NoAttr K C "fuse"
  n6 : NoAttr K C "dead"
  n7 : NoAttr K C "steps"
  gC : mg "Device" = some (.ref C)
  gE : mg "DeviceError" = some (.ref CE)
  xE : PySem.W.excIn K CE [.type "ValueError", .type "Exception", .type "BaseException", .type "object"] "ValueError.__new__" = true
  kE : PySem.W.keepIn K (.ref CE) = true
  bE : PySem.W.subIn K (.ref CE) (.type "BaseException") = some true
  tE : PySem.W.typeIn K (.ref CE) = some (.type "type")
  len : mg "len" = none
  tup : mg "tuple" = none
  dict : mg "dict" = none
  rev : mg "reversed" = none
  zip : mg "zip" = none
  kept : ∃ t, mg "KEPT" = some (.int 1 t)
  half : ∃ t, mg "HALF_KEPT" = some (.int 2 t)
/-! ### promises -/
def spAlive (C CE : Addr) : Sp := fun vs H Q E => ∃ p dx d B W, vs = [.ref p] ∧ H p = some (.ins C dx (fsD d B W)) ∧ (d.dead = false → Q .non H) ∧ (d.dead = true → E (.ref CE) none H)
def spStep (C CE : Addr) : Sp := fun vs H Q E => ∃ p dx d B W, vs = [.ref p] ∧ H p = some (.ins C dx (fsD d B W)) ∧ (d.fz = .non ∨ ∃ n, d.fz = .int n) ∧
  (d.dead = true → E (.ref CE) none H) ∧ (d.dead = false → d.fz = .int 0 → E (.ref CE) none (upd H p (.ins C dx (fsD { d with dead := true } B W)))) ∧
  (d.dead = false → d.fz ≠ .int 0 → Q .non (upd H p (.ins C dx (fsD (stepped d) B W))))
def spNumber (C CE : Addr) : Sp := fun vs H Q E => ∃ p dx d B W n, vs = [.ref p, .int n] ∧ H p = some (.ins C dx (fsD d B W)) ∧ (0 ≤ n ∧ n < d.tot → Q .non H) ∧ (¬ (0 ≤ n ∧ n < d.tot) → E (.ref CE) none H)
def spBlock (K : PySem.W.Frag) (C CE : Addr) : Sp := fun vs H Q E => ∃ p dx d B W n t xs, vs = [.ref p, .int n, .ref t] ∧ H p = some (.ins C dx (fsD d B W)) ∧ SqT K H t xs ∧
  ((xs.length : Int) = d.sz → 0 ≤ n ∧ n < d.tot → Q .non H) ∧ (¬ ((xs.length : Int) = d.sz ∧ 0 ≤ n ∧ n < d.tot) → E (.ref CE) none H)
def spKept (C : Addr) : Sp := fun vs H Q _ => ∃ p dx d B W n kvs, vs = [.ref p, .int n] ∧ H p = some (.ins C dx (fsD d B W)) ∧ H B = some (.dK kvs) ∧ 2 ≤ d.sz ∧ d.sz ≤ 1000 ∧
  ∀ H' z, Same H H' → H z = none → H' z = some (.tup (zeros d.sz)) → Q ((valV kvs (.inl n)).getD (.ref z)) H'
section
variable {P : Program} {w : World} {K : PySem.W.Frag} {mg : Str → Option Value} {base : Heap} {C CE : Addr}
theorem scAlive : FnScope ["self"] ["self"] (defScope sAlive) := ⟨rfl, rfl, rfl, by decide +kernel, rfl, by decide +kernel, by decide +kernel⟩
theorem ok_alive {f : Addr} {fd : FuncData} (F : L2.Fun K "check_alive" "Device.check_alive" sAlive f fd) (T : DTxt K mg C CE) : FnOk P w K mg base (L2.CX P w) 1 f fd ["self"] (spAlive C CE) := by
  refine F.okX scAlive (fun vs H Q E h => ?_) (fun cdv A outer s H vs Q E hr h => ?_)
  · obtain ⟨p, dx, d, B, W, rfl, _⟩ := h
    rfl
  · obtain ⟨p, dx, d, B, W, rfl, hp, k0, k1⟩ := h
    refine ⟨_, pss_one (ps_if (pt_val (pe_fld (pv 0) rfl)) (pss_one (ps_raise rfl (takes_of rfl rfl rfl rfl) (pmk_own PySem.F.excBase_ValueError T.xE T.gE T.kE (raises_own T.bE T.tE) rfl))) pss_nil), ?_⟩
    refine ⟨_, rfl, p, C, dx, _, _, rfl, hp, T.cl, T.n6, rfl, _, rfl, ite2 (fun c => k1 c) (fun c => k0 (by simpa using c))⟩
theorem scStep : FnScope ["self"] ["self"] (defScope sStep) := ⟨rfl, rfl, rfl, by decide +kernel, rfl, by decide +kernel, by decide +kernel⟩
theorem ok_step {f fA : Addr} {fd fdA : FuncData} (F : L2.Fun K "step" "Device.step" sStep f fd) (T : DTxt K mg C CE) (FA : FnOk P w K mg base (L2.CX P w) 1 fA fdA ["self"] (spAlive C CE)) (bA : Binds K fdA ["self"] []) (mA : Meth K C "check_alive" fA) :
    FnOk P w K mg base (L2.CX P w) 2 f fd ["self"] (spStep C CE) := by
  refine F.okX scStep (fun vs H Q E h => ?_) (fun cdv A outer s H vs Q E hr h => ?_)
  · obtain ⟨p, dx, d, B, W, rfl, _⟩ := h
    rfl
  · obtain ⟨p, dx, d, B, W, rfl, hp, hf, k1, k2, k3⟩ := h
    refine ⟨_, pss_cons (ps_expr (pe_meth0 (pv 0) T.cl mA FA hr bA .nil (passes_call (takes_of rfl rfl rfl rfl) (fun _ _ _ _ h => h))))
      (pss_cons (ps_if (PW.pt (pw_and (pt_cmpR op_notN (pe_fld (pv 0) rfl) pe_non (nomark _)) (pw_and1 (pt_cmpR op_eq (pe_fld (pv 0) rfl) pe_int (nomark _)))))
        (pss_cons (ps_fld (pv 0) pe_bl rfl) (pss_one (ps_raise rfl (takes_of rfl rfl rfl rfl) (pmk_own PySem.F.excBase_ValueError T.xE T.gE T.kE (raises_own T.bE T.tE) rfl)))) pss_nil)
      (pss_cons (ps_if (pt_cmpR op_notN (pe_fld (pv 0) rfl) pe_non (nomark _)) (pss_one (ps_fld (pv 0) (pe_op op_sub (pe_fld (pv 0) rfl) pe_int) rfl)) pss_nil)
      (pss_one (ps_fld (pv 0) (pe_op op_add (pe_fld (pv 0) rfl) pe_int) rfl)))), ?_⟩
    refine ⟨_, rfl, p, dx, _, rfl, hp, rfl, p, dx, d, B, W, rfl, hp, fun c => ?_, k1⟩
    refine ⟨_, rfl, p, C, dx, _, _, rfl, hp, T.cl, T.n5, rfl, rfl, _, rfl, ?_⟩
    obtain ⟨sz, tot, fz, dead, st⟩ := d
    rcases hf with hf | ⟨n, hf⟩
    · have hf : fz = .non := hf
      subst hf
      refine iteF (iteF ⟨_, rfl, p, C, dx, _, _, rfl, hp, T.cl, T.n5, rfl, rfl, _, rfl, iteF ?_⟩)
      exact ⟨_, rfl, p, C, dx, _, _, rfl, hp, T.cl, T.n7, rfl, _, _, rfl, rfl, _, rfl, p, C, dx, _, rfl, hp, T.cl, T.n7, (by show 7 < 1000; decide), k3 c (fun z => by cases z)⟩
    · have hf : fz = .int n := hf
      subst hf
      refine iteT ⟨_, rfl, p, C, dx, _, _, rfl, hp, T.cl, T.n5, rfl, rfl, _, rfl, ite2 (fun c2 => ?_) (fun c2 => ?_)⟩
      · have e0 : n = 0 := by simpa using c2
        exact ⟨_, rfl, p, C, dx, _, rfl, hp, T.cl, T.n6, (by show 7 < 1000; decide), k2 c (by rw [e0])⟩
      · refine ⟨_, rfl, p, C, dx, _, _, rfl, hp, T.cl, T.n5, rfl, rfl, _, rfl, iteT ?_⟩
        refine ⟨_, rfl, p, C, dx, _, _, rfl, hp, T.cl, T.n5, rfl, _, _, rfl, rfl, _, rfl, p, C, dx, _, rfl, hp, T.cl, T.n5, (by show 7 < 1000; decide), ?_⟩
        refine ⟨_, rfl, p, C, dx, _, _, rfl, upd_same, T.cl, T.n7, rfl, _, _, rfl, rfl, _, rfl, p, C, dx, _, rfl, upd_same, T.cl, T.n7, (by show 7 < 1000; decide), ?_⟩
        rw [upd_upd]
        exact k3 c (fun z => c2 (by simpa using z))
theorem scNumber : FnScope ["self", "number"] ["self", "number"] (defScope sNumber) := ⟨rfl, rfl, rfl, by decide +kernel, rfl, by decide +kernel, by decide +kernel⟩
theorem ok_number {f : Addr} {fd : FuncData} (F : L2.Fun K "check_number" "Device.check_number" sNumber f fd) (T : DTxt K mg C CE) : FnOk P w K mg base (L2.CX P w) 1 f fd ["self", "number"] (spNumber C CE) := by
  refine F.okX scNumber (fun vs H Q E h => ?_) (fun cdv A outer s H vs Q E hr h => ?_)
  · obtain ⟨p, dx, d, B, W, n, rfl, _⟩ := h
    rfl
  · obtain ⟨p, dx, d, B, W, n, rfl, hp, k0, k1⟩ := h
    refine ⟨_, pss_one (ps_if (pt_not (pt_chain op_le op_lt pe_int (pv 1) (pe_fld (pv 0) rfl))) (pss_one (ps_raise rfl (takes_of rfl rfl rfl rfl) (pmk_own PySem.F.excBase_ValueError T.xE T.gE T.kE (raises_own T.bE T.tE) rfl))) pss_nil), ?_⟩
    refine ⟨_, rfl, _, _, rfl, rfl, _, rfl, ite2 (fun c1 => ⟨_, rfl, p, C, dx, _, _, rfl, hp, T.cl, T.n2, rfl, _, _, rfl, rfl, _, rfl, ?_⟩) (fun c1 => ⟨_, rfl, ?_⟩)⟩
    · refine ite2 (fun c2 => ?_) (fun c2 => ?_)
      · exact k1 (fun z => by simp [z.2] at c2)
      · exact k0 ⟨by simpa using c1, by simpa using c2⟩
    · exact iteT (k1 (fun z => by simp [z.1] at c1))
theorem scBlock : FnScope ["self", "number", "data"] ["self", "number", "data"] (defScope sBlock) := ⟨rfl, rfl, rfl, by decide +kernel, rfl, by decide +kernel, by decide +kernel⟩
theorem ok_block {f fN : Addr} {fd fdN : FuncData} (F : L2.Fun K "check_block" "Device.check_block" sBlock f fd) (T : DTxt K mg C CE) (FN : FnOk P w K mg base (L2.CX P w) 1 fN fdN ["self", "number"] (spNumber C CE)) (bN : Binds K fdN ["self", "number"] []) (mN : Meth K C "check_number" fN) :
    FnOk P w K mg base (L2.CX P w) 2 f fd ["self", "number", "data"] (spBlock K C CE) := by
  refine F.okX scBlock (fun vs H Q E h => ?_) (fun cdv A outer s H vs Q E hr h => ?_)
  · obtain ⟨p, dx, d, B, W, n, t, xs, rfl, _⟩ := h
    rfl
  · obtain ⟨p, dx, d, B, W, n, t, xs, rfl, hp, ht, k0, k1⟩ := h
    refine ⟨_, pss_cons (ps_if (pt_cmpR op_ne (pe_callB call_len_seq (by rfl) T.len PySem.boot_len (pa_cons (pv 2) pa_nil)) (pe_fld (pv 0) rfl) (nomark _)) (pss_one (ps_raise rfl (takes_of rfl rfl rfl rfl) (pmk_own PySem.F.excBase_ValueError T.xE T.gE T.kE (raises_own T.bE T.tE) rfl))) pss_nil)
      (pss_one (ps_expr (pe_meth (pv 0) T.cl mN FN hr bN .nil (passes_call (takes_of rfl rfl rfl rfl) (fun _ _ _ _ h => h)) (pa_cons (pv 1) pa_nil)))), ?_⟩
    refine ⟨_, rfl, t, xs, rfl, .inr ht, _, rfl, p, C, dx, _, _, rfl, hp, T.cl, T.n1, rfl, rfl, _, rfl, ite2 (fun c => ?_) (fun c => ?_)⟩
    · exact k1 (fun z => by simp [z.1] at c)
    · have c : (xs.length : Int) = d.sz := by simpa using c
      exact ⟨_, rfl, p, dx, _, rfl, hp, rfl, _, rfl, p, dx, d, B, W, n, rfl, hp, k0 c, fun z => k1 (fun y => z y.2)⟩
theorem scKept : FnScope ["self", "number"] ["self", "number"] (defScope sKept) := ⟨rfl, rfl, rfl, by decide +kernel, rfl, by decide +kernel, by decide +kernel⟩
theorem ok_kept {f : Addr} {fd : FuncData} (F : L2.Fun K "kept" "Device.kept" sKept f fd) (T : DTxt K mg C CE) : FnOk P w K mg base L2.CX0 1 f fd ["self", "number"] (spKept C) := by
  refine F.ok scKept (fun vs H Q E h => ?_) (fun cdv A outer s H vs Q E hr h => ?_)
  · obtain ⟨p, dx, d, B, W, n, kvs, rfl, _⟩ := h
    rfl
  · obtain ⟨p, dx, d, B, W, n, kvs, rfl, hp, hB, h2, h1000, k⟩ := h
    refine ⟨_, pss_one (ps_ret (pe_dget2 (hu_of hr) (pe_fld (pv 0) rfl) (pv 1) (pe_op op_repT (pe_tup (pa_cons pe_int pa_nil)) (pe_fld (pv 0) rfl)) ⟨rfl, rfl, rfl, rfl⟩)), ?_⟩
    refine ⟨_, rfl, p, C, dx, _, _, rfl, hp, T.cl, T.n3, rfl, B, rfl, (.inl ⟨kvs, .inl hB⟩), _, rfl, by show 1 ≤ sizeLine; decide, fun t nt => ?_⟩
    have npt : p ≠ t := ne_of_none hp nt
    refine ⟨_, rfl, p, C, dx, _, _, rfl, by rw [upd_ne npt]; exact hp, T.cl, T.n1, rfl, t, d.sz, [.int 0], rfl, rfl, SqT.of upd_same, (fun z => by cases z), h2, h1000, by decide, fun z nz => ?_⟩
    have s1 : Same H (upd H t (.tup [.int 0])) := same_upd nt
    have s2 := s1.trans (same_upd (o := .tup (List.replicate d.sz.toNat [V.int 0]).flatten) nz)
    refine ⟨_, DGet.k (k := Sum.inl n) (s2 _ _ hB), k _ z s2 (s1.free nz) ?_⟩
    rw [upd_same]
    congr 2
    unfold zeros
    induction d.sz.toNat with
    | zero => rfl
    | succ m ih => rw [List.replicate_succ, List.replicate_succ, List.flatten_cons, ih]; rfl
end
end K02
namespace K02
open PySem L2 HK
/-! ### made, armed -/
def DictIn (H : Hp) (v : V) (kvs : List (Key × V)) : Prop := (v = .non ∧ kvs = []) ∨ ∃ b, v = .ref b ∧ H b = some (.dK kvs)
def spInit (C : Addr) : Sp := fun vs H Q _ => ∃ p dx sz tot v kvs, vs = [.ref p, .int sz, .int tot, v] ∧ H p = some (.ins C dx []) ∧ DictIn H v kvs ∧
  ∀ B W H', H B = none → H W = none → B ≠ W → Off [p, B, W] H H' → H' p = some (.ins C dx (fsD ⟨sz, tot, .non, false, 0⟩ B W)) → H' B = some (.dK kvs) → H' W = some (.lst []) → Q .non H'
def spArm (C : Addr) : Sp := fun vs H Q _ => ∃ p dx d B W v, vs = [.ref p, v] ∧ H p = some (.ins C dx (fsD d B W)) ∧ Q .non (upd H p (.ins C dx (fsD { d with fz := v } B W)))
section
variable {P : Program} {w : World} {K : PySem.W.Frag} {mg : Str → Option Value} {base : Heap} {C CE : Addr}
theorem scInit : FnScope ["self", "block_size", "count", "blocks"] ["self", "block_size", "count", "blocks"] (defScope sInit) := ⟨rfl, rfl, rfl, by decide +kernel, rfl, by decide +kernel, by decide +kernel⟩
abbrev FDI (K : PySem.W.Frag) (f : Addr) (fd : FuncData) : Prop := FunD K "__init__" "Device.__init__" (defArgs sInit) (defBody sInit) (defScope sInit) [.non] [] f fd
theorem ok_init {f : Addr} {fd : FuncData} (F : FDI K f fd) (T : DTxt K mg C CE) : FnOk P w K mg base L2.CX0 1 f fd ["self", "block_size", "count", "blocks"] (spInit C) := by
  refine F.ok scInit (fun vs H Q E h => ?_) (fun cdv A outer s H vs Q E hr h => ?_)
  · obtain ⟨p, dx, sz, tot, v, kvs, rfl, _⟩ := h
    rfl
  · suffices hX : ∃ t, PSs (cxOf L2.CX0 P w K mg base ["self", "block_size", "count", "blocks"] "Device.__init__" (defScope sInit) f cdv A outer s H E).nox (defBody sInit) t ∧ t { nx := fun _ H' => Q .non H', rt := Q } (L2.start ["self", "block_size", "count", "blocks"] vs) H by
      obtain ⟨t, h1, h2⟩ := hX
      exact ⟨t, h1.nox, h2⟩
    obtain ⟨p, dx, sz, tot, v, kvs, rfl, hp, hv, k⟩ := h
    refine ⟨_, pss_cons (ps_fld (pv 0) (pv 1) rfl) (pss_cons (ps_fld (pv 0) (pv 2) rfl)
      (pss_cons (ps_fld (pv 0) (pe_ifExp (pt_cmpR op_isN (pv 3) pe_non (nomark _)) pe_dnewK (pe_callTy call_dictD (by rfl) T.dict PyProof.Rows.Boot.«dict» (pa_cons (pv 3) pa_nil))) rfl)
      (pss_cons (ps_fld (pv 0) (pe_lst pa_nil) rfl) (pss_cons (ps_fld (pv 0) pe_non rfl) (pss_cons (ps_fld (pv 0) pe_bl rfl) (pss_one (ps_fld (pv 0) pe_int rfl))))))), ?_⟩
    refine ⟨_, rfl, _, rfl, p, C, dx, _, rfl, hp, T.cl, T.n1, (by show 0 < 1000; decide), ?_⟩
    refine ⟨_, rfl, _, rfl, p, C, dx, _, rfl, upd_same, T.cl, T.n2, (by show 1 < 1000; decide), ?_⟩
    rw [upd_upd]
    refine ⟨_, rfl, rfl, _, rfl, ?_⟩
    suffices hB : ∀ B, H B = none → ∀ H1, H1 = upd (upd H p (.ins C dx (putF "total" (.int tot) (putF "block_size" (.int sz) [])))) B (.dK kvs) →
        sFld K (tVar 0) (tC (.ref B)) "blocks" { nx := fun σ H2 => tSeq (sFld K (tVar 0) (tLst tNil) "waiting") (tSeq (sFld K (tVar 0) (tC .non) "fuse") (tSeq (sFld K (tVar 0) (tC (.bl false)) "dead") (sFld K (tVar 0) (tC (.int 0)) "steps"))) { nx := fun _ H' => Q .non H', rt := Q } σ H2, rt := Q } [some (.ref p), some (.int sz), some (.int tot), some v] H1 by
      rcases hv with ⟨rfl, rfl⟩ | ⟨b, rfl, hb⟩
      · refine iteT fun B nB => ?_
        have npB : p ≠ B := ne_of_none upd_same nB
        exact hB B (by rw [upd_ne npB.symm] at nB; exact nB) _ rfl
      · have hpb : b ≠ p := ne_of hb hp (by intro z; cases z)
        refine iteF ⟨_, rfl, b, kvs, rfl, .inl (by rw [upd_ne hpb]; exact hb), fun B nB => ?_⟩
        have npB : p ≠ B := ne_of_none upd_same nB
        exact hB B (by rw [upd_ne npB.symm] at nB; exact nB) _ rfl
    intro B nB H1 e1
    have npB : p ≠ B := ne_of_none hp nB
    subst e1
    refine ⟨_, rfl, p, C, dx, _, rfl, by rw [upd_ne npB, upd_same], T.cl, T.n3, (by show 2 < 1000; decide), ?_⟩
    refine ⟨by show 0 ≤ sizeLine; decide, fun W nW => ?_⟩
    have npW : p ≠ W := ne_of_none upd_same nW
    have nBW : B ≠ W := fun z => by
      rw [← z, upd_ne npB.symm, upd_same] at nW
      cases nW
    have nW0 : H W = none := by
      rw [upd_ne npW.symm, upd_ne nBW.symm, upd_ne npW.symm] at nW
      exact nW
    refine ⟨_, rfl, p, C, dx, _, rfl, by rw [upd_ne npW, upd_same], T.cl, T.n4, (by show 3 < 1000; decide), ?_⟩
    refine ⟨_, rfl, p, C, dx, _, rfl, upd_same, T.cl, T.n5, (by show 4 < 1000; decide), ?_⟩
    refine ⟨_, rfl, p, C, dx, _, rfl, upd_same, T.cl, T.n6, (by show 5 < 1000; decide), ?_⟩
    refine ⟨_, rfl, p, C, dx, _, rfl, upd_same, T.cl, T.n7, (by show 6 < 1000; decide), ?_⟩
    refine k B W _ nB nW0 nBW ?_ (by rw [upd_same]; rfl) (by simp only [upd_ne npB.symm, upd_ne nBW, upd_same]) (by simp only [upd_ne npW.symm, upd_same])
    repeat (refine Off.upd ?_ (by simp))
    exact Off.refl _ _
theorem scArm : FnScope ["self", "steps"] ["self", "steps"] (defScope sArm) := ⟨rfl, rfl, rfl, by decide +kernel, rfl, by decide +kernel, by decide +kernel⟩
theorem ok_arm {f : Addr} {fd : FuncData} (F : L2.Fun K "arm" "Device.arm" sArm f fd) (T : DTxt K mg C CE) : FnOk P w K mg base L2.CX0 1 f fd ["self", "steps"] (spArm C) := by
  refine F.ok scArm (fun vs H Q E h => ?_) (fun cdv A outer s H vs Q E hr h => ?_)
  · obtain ⟨p, dx, d, B, W, v, rfl, _⟩ := h
    rfl
  · obtain ⟨p, dx, d, B, W, v, rfl, hp, k⟩ := h
    refine ⟨_, pss_one (ps_fld (pv 0) (pv 1) rfl), ?_⟩
    exact ⟨_, rfl, _, rfl, p, C, dx, _, rfl, hp, T.cl, T.n5, (by show 7 < 1000; decide), k⟩
end
/-! ### read -/
def spRead (C CE : Addr) : Sp := fun vs H Q E => ∃ p dx d B W n kvs es, vs = [.ref p, .int n] ∧ H p = some (.ins C dx (fsD d B W)) ∧ H B = some (.dK kvs) ∧ WaitAt H W es ∧ 2 ≤ d.sz ∧ d.sz ≤ 1000 ∧
  (d.dead = true → E (.ref CE) none H) ∧ (¬ (0 ≤ n ∧ n < d.tot) → E (.ref CE) none H) ∧
  (d.dead = false → 0 ≤ n ∧ n < d.tot → (∀ t, lastOf es n = some t → Q (.ref t) H) ∧ (lastOf es n = none → ∀ H' z, Same H H' → H z = none → H' z = some (.tup (zeros d.sz)) → Q ((valV kvs (.inl n)).getD (.ref z)) H'))
theorem rev_take {es : List En} {i : Nat} (h : i < es.length) : ∃ e, es[es.length - 1 - i]? = some e ∧ es.reverse[i]? = some e := by
  have h2 : es.length - 1 - i < es.length := by omega
  refine ⟨es[es.length - 1 - i], List.getElem?_eq_getElem h2, ?_⟩
  rw [List.getElem?_reverse h, List.getElem?_eq_getElem h2]
theorem find_at {α : Type} {p : α → Bool} {l : List α} {i : Nat} {e : α} (h : l[i]? = some e) (no : ∀ x ∈ l.take i, p x = false) (y : p e = true) : l.find? p = some e := by
  rw [List.find?_eq_some_iff_getElem]
  obtain ⟨hi, he⟩ := List.getElem?_eq_some_iff.mp h
  refine ⟨y, i, hi, he, fun j hj => ?_⟩
  have hj2 : j < l.length := Nat.lt_trans hj hi
  have z := no (l[j]) (by rw [List.mem_take_iff_getElem]; exact ⟨j, by omega, rfl⟩)
  rw [z]
  rfl
section
variable {P : Program} {w : World} {K : PySem.W.Frag} {mg : Str → Option Value} {base : Heap} {C CE : Addr}
theorem scRead : FnScope ["self", "number", "other", "data"] ["self", "number"] (defScope sRead) := ⟨rfl, rfl, rfl, by decide +kernel, rfl, by decide +kernel, by decide +kernel⟩
theorem ok_read {f fA fN fK : Addr} {fd fdA fdN fdK : FuncData} (F : L2.Fun K "read" "Device.read" sRead f fd) (T : DTxt K mg C CE)
    (FA : FnOk P w K mg base (L2.CX P w) 1 fA fdA ["self"] (spAlive C CE)) (bA : Binds K fdA ["self"] []) (mA : Meth K C "check_alive" fA)
    (FN : FnOk P w K mg base (L2.CX P w) 1 fN fdN ["self", "number"] (spNumber C CE)) (bN : Binds K fdN ["self", "number"] []) (mN : Meth K C "check_number" fN)
    (FK : FnOk P w K mg base L2.CX0 1 fK fdK ["self", "number"] (spKept C)) (bK : Binds K fdK ["self", "number"] []) (mK : Meth K C "kept" fK) :
    FnOk P w K mg base (L2.CX P w) 2 f fd ["self", "number"] (spRead C CE) := by
  refine F.okX scRead (fun vs H Q E h => ?_) (fun cdv A outer s H vs Q E hr h => ?_)
  · obtain ⟨p, dx, d, B, W, n, kvs, es, rfl, _⟩ := h
    rfl
  · obtain ⟨p, dx, d, B, W, n, kvs, es, rfl, hp, hB, hW, h2, h1000, k1, k2, k3⟩ := h
    refine ⟨_, pss_cons (ps_expr (pe_meth0 (pv 0) T.cl mA FA hr bA .nil (passes_call (takes_of rfl rfl rfl rfl) (fun _ _ _ _ h => h))))
      (pss_cons (ps_expr (pe_meth (pv 0) T.cl mN FN hr bN .nil (passes_call (takes_of rfl rfl rfl rfl) (fun _ _ _ _ h => h)) (pa_cons (pv 1) pa_nil)))
      (pss_cons (ps_for (passes_of rfl) rfl (pi_reversed (by rfl) T.rev (pa_cons (pe_fld (pv 0) rfl) pa_nil)) (pg_tup rfl (pgs_cons (pg_name (i := 2) scRead.nd rfl (Or.inl rfl)) (pgs_cons (pg_name (i := 3) scRead.nd rfl (Or.inl rfl)) pgs_nil)))
        (pss_one (ps_if (pt_cmpR op_eq (pv 2) (pv 1) (nomark _)) (pss_one (ps_ret (pv 3))) pss_nil)))
      (pss_one (ps_ret (pe_meth (pv 0) T.cl mK FK hr bK .nil pass0 (pa_cons (pv 1) pa_nil)))))), ?_⟩
    refine ⟨_, rfl, p, dx, _, rfl, hp, rfl, p, dx, d, B, W, rfl, hp, fun c => ?_, k1⟩
    refine ⟨_, rfl, p, dx, _, rfl, hp, rfl, _, rfl, p, dx, d, B, W, n, rfl, hp, fun c2 => ?_, k2⟩
    obtain ⟨k4, k5⟩ := k3 c c2
    refine ⟨_, rfl, p, C, dx, _, _, rfl, hp, T.cl, T.n4, rfl, W, _, rfl, SqL.of hW.lst, ?_⟩
    refine for_it (walk_rev (K := K) (a := W) (xs := es.map fun e => V.ref e.1)) (fun i σ H' => H' = H ∧ (∃ u v, σ = [some (.ref p), some (.int n), u, v]) ∧ ∀ e ∈ es.reverse.take i, decide (e.2.1 = n) = false) ⟨rfl, ⟨none, none, rfl⟩, by simp⟩ (fun i σ H' hi q => by rw [q.1]; exact SqL.of hW.lst) (fun i x σ H' H'' hi q y => ?_) (fun σ H' q => ?_)
    · obtain ⟨rfl, ⟨u, v, rfl⟩, no⟩ := q
      obtain ⟨rfl, hx⟩ := y
      rw [List.length_map] at hi hx
      obtain ⟨e, he, her⟩ := rev_take hi
      rw [List.getElem?_map, he] at hx
      obtain rfl := Option.some.inj hx
      have hm : e ∈ es := List.mem_of_getElem? he
      refine ⟨e.1, _, rfl, SqT.of (hW.tup e hm), rfl, _, _, rfl, _, _, rfl, rfl, ?_⟩
      refine ⟨_, rfl, _, rfl, rfl, _, rfl, ite2 (fun c3 => ?_) (fun c3 => ?_)⟩
      · have e3 : e.2.1 = n := by simpa using c3
        refine ⟨_, rfl, k4 _ ?_⟩
        unfold lastOf
        rw [find_at her no (by simp [e3])]
        rfl
      · refine ⟨rfl, ⟨_, _, rfl⟩, fun x hx => ?_⟩
        rw [List.take_add_one, her] at hx
        rcases List.mem_append.mp hx with z | z
        · exact no x z
        · have ex : x = e := by simpa using z
          rw [ex]
          simpa using c3
    · obtain ⟨rfl, ⟨u, v, rfl⟩, no⟩ := q
      rw [List.length_map, ← List.length_reverse, List.take_length] at no
      have e0 : lastOf es n = none := by
        unfold lastOf
        rw [List.find?_eq_none.mpr (fun x hx => by rw [no x hx]; decide)]
        rfl
      exact ⟨_, rfl, p, dx, _, rfl, hp, rfl, _, rfl, p, dx, d, B, W, n, kvs, rfl, hp, hB, h2, h1000, k5 e0⟩
end
end K02
namespace K02
open PySem L2 HK
theorem stepped_nf {d : Dv} (h : d.fz = .non ∨ ∃ n, d.fz = .int n) : (stepped d).fz = .non ∨ ∃ n, (stepped d).fz = .int n := by
  obtain ⟨sz, tot, fz, dead, st⟩ := d
  rcases h with h | ⟨n, h⟩
  · have h : fz = .non := h
    subst h
    exact .inl rfl
  · have h : fz = .int n := h
    subst h
    exact .inr ⟨n - 1, rfl⟩
/-! ### write_block -/
structure SpWrite (K : PySem.W.Frag) (C CE : Addr) (vs : List V) (H : Hp) (Q : VK) (E : XK) : Prop where
  h : ∃ p dx d B W n t xs es, vs = [.ref p, .int n, .ref t] ∧ H p = some (.ins C dx (fsD d B W)) ∧ SqT K H t xs ∧ WaitAt H W es ∧ es.length ≤ 1000 ∧ (d.fz = .non ∨ ∃ n, d.fz = .int n) ∧
  (¬ ((xs.length : Int) = d.sz ∧ 0 ≤ n ∧ n < d.tot) → E (.ref CE) none H) ∧ (d.dead = true → E (.ref CE) none H) ∧
  ((xs.length : Int) = d.sz ∧ 0 ≤ n ∧ n < d.tot → d.dead = false → d.fz = .int 0 → E (.ref CE) none (upd H p (.ins C dx (fsD { d with dead := true } B W)))) ∧
  ((xs.length : Int) = d.sz ∧ 0 ≤ n ∧ n < d.tot → d.dead = false → d.fz ≠ .int 0 → ∀ z H', H z = none → Off [p, z, W] H H' → H' p = some (.ins C dx (fsD (stepped d) B W)) → H' z = some (.tup [.int n, .ref t]) → H' W = some (.lst ((es ++ [(z, n, t)]).map fun e => V.ref e.1)) → Q .non H')
def spWrite (K : PySem.W.Frag) (C CE : Addr) : Sp := fun vs H Q E => SpWrite K C CE vs H Q E
section
variable {P : Program} {w : World} {K : PySem.W.Frag} {mg : Str → Option Value} {base : Heap} {C CE : Addr}
theorem scWrite : FnScope ["self", "number", "data"] ["self", "number", "data"] (defScope sWrite) := ⟨rfl, rfl, rfl, by decide +kernel, rfl, by decide +kernel, by decide +kernel⟩
theorem ok_write {f fB fS : Addr} {fd fdB fdS : FuncData} (F : L2.Fun K "write_block" "Device.write_block" sWrite f fd) (T : DTxt K mg C CE)
    (FB : FnOk P w K mg base (L2.CX P w) 2 fB fdB ["self", "number", "data"] (spBlock K C CE)) (bB : Binds K fdB ["self", "number", "data"] []) (mB : Meth K C "check_block" fB)
    (FS : FnOk P w K mg base (L2.CX P w) 2 fS fdS ["self"] (spStep C CE)) (bS : Binds K fdS ["self"] []) (mS : Meth K C "step" fS) :
    FnOk P w K mg base (L2.CX P w) 3 f fd ["self", "number", "data"] (spWrite K C CE) := by
  refine F.okX scWrite (fun vs H Q E h => ?_) (fun cdv A outer s H vs Q E hr h => ?_)
  · obtain ⟨p, dx, d, B, W, n, t, xs, es, rfl, _⟩ := h
    rfl
  · obtain ⟨p, dx, d, B, W, n, t, xs, es, rfl, hp, ht, hW, hl, hf, k1, k2, k3, k4⟩ := h
    refine ⟨_, pss_cons (ps_expr (pe_meth (pv 0) T.cl mB FB hr bB .nil (passes_call (takes_of rfl rfl rfl rfl) (fun _ _ _ _ h => h)) (pa_cons (pv 1) (pa_cons (pv 2) pa_nil))))
      (pss_cons (ps_expr (pe_meth0 (pv 0) T.cl mS FS hr bS .nil (passes_call (takes_of rfl rfl rfl rfl) (fun _ _ _ _ h => h))))
      (pss_one (ps_expr (pe_bm PySem.F.plainAttrs_list PySem.F.slot_list_append PySem.F.type_list_append mt_append (pe_fld (pv 0) rfl)
        (pa_cons (pe_tup (pa_cons (pv 1) (pa_cons (pe_callTy call_tupleT (by rfl) T.tup PyProof.Rows.Boot.«tuple» (pa_cons (pv 2) pa_nil)) pa_nil))) pa_nil))))), ?_⟩
    refine ⟨_, rfl, p, dx, _, rfl, hp, rfl, _, rfl, _, rfl, p, dx, d, B, W, n, t, xs, rfl, hp, ht, fun c1 c2 => ?_, k1⟩
    refine ⟨_, rfl, p, dx, _, rfl, hp, rfl, p, dx, d, B, W, rfl, hp, hf, k2, k3 ⟨c1, c2⟩, fun c3 c4 => ?_⟩
    have npW : W ≠ p := ne_of hW.lst hp (by intro z; cases z)
    refine ⟨_, rfl, p, C, dx, _, _, rfl, upd_same, T.cl, T.n4, rfl, .inl ⟨rfl, _, SqL.of (by rw [upd_ne npW]; exact hW.lst)⟩, _, rfl, _, rfl, t, xs, rfl, ?_, by show 2 ≤ sizeLine; decide, fun z nz => ?_⟩
    · rcases ht with (h | ⟨o, h⟩) | h
      · exact .inl (.inl (by rw [upd_ne (ne_of h hp (by intro z; cases z))]; exact h))
      · exact .inl (.inr ⟨o, by rw [upd_ne (ne_of h hp (by intro z; cases z))]; exact h⟩)
      · exact .inr h
    · have npz : p ≠ z := ne_of_none upd_same nz
      have nz0 : H z = none := by
        rw [upd_ne npz.symm] at nz
        exact nz
      have nWz : W ≠ z := ne_of_none hW.lst nz0
      refine ⟨W, _, _, rfl, rfl, by rw [upd_ne nWz, upd_ne npW]; exact hW.lst, by rw [List.length_map]; exact small1000 hl, ?_⟩
      refine k4 ⟨c1, c2⟩ c3 c4 z _ nz0 ?_ (by simp only [upd_ne npW.symm, upd_ne npz, upd_same]) (by simp only [upd_ne nWz.symm, upd_same]) (by rw [upd_same, List.map_append]; rfl)
      repeat (refine Off.upd ?_ (by simp))
      exact Off.refl _ _
end
/-! ### flush -/
def spFlush (C CE : Addr) : Sp := fun vs H Q E => ∃ p dx d B W kvs es, vs = [.ref p] ∧ H p = some (.ins C dx (fsD d B W)) ∧ H B = some (.dK kvs) ∧ WaitAt H W es ∧ kvs.length ≤ 5000 ∧ es.length ≤ 1000 ∧ (d.fz = .non ∨ ∃ n, d.fz = .int n) ∧
  (d.dead = true → E (.ref CE) none H) ∧ (d.dead = false → d.fz = .int 0 → E (.ref CE) none (upd H p (.ins C dx (fsD { d with dead := true } B W)))) ∧
  (d.dead = false → d.fz ≠ .int 0 → ∀ L H', H L = none → Off [p, B, L] H H' → H' p = some (.ins C dx (fsD (stepped d) B L)) → H' B = some (.dK (mergeK kvs (toKV es))) → H' L = some (.lst []) → Q .non H')
theorem toKV_take {es : List En} {i : Nat} {e : En} (h : es[i]? = some e) (kvs : List (Key × V)) : mergeK kvs (toKV (es.take (i + 1))) = putK (mergeK kvs (toKV (es.take i))) (.inl e.2.1) (.ref e.2.2) := by
  rw [List.take_add_one, h]
  unfold toKV mergeK
  rw [List.map_append, List.foldl_append]
  rfl
section
variable {P : Program} {w : World} {K : PySem.W.Frag} {mg : Str → Option Value} {base : Heap} {C CE : Addr}
theorem scFlush : FnScope ["self", "number", "data"] ["self"] (defScope sFlush) := ⟨rfl, rfl, rfl, by decide +kernel, rfl, by decide +kernel, by decide +kernel⟩
theorem ok_flush {f fS : Addr} {fd fdS : FuncData} (F : L2.Fun K "flush" "Device.flush" sFlush f fd) (T : DTxt K mg C CE)
    (FS : FnOk P w K mg base (L2.CX P w) 2 fS fdS ["self"] (spStep C CE)) (bS : Binds K fdS ["self"] []) (mS : Meth K C "step" fS) :
    FnOk P w K mg base (L2.CX P w) 3 f fd ["self"] (spFlush C CE) := by
  refine F.okX scFlush (fun vs H Q E h => ?_) (fun cdv A outer s H vs Q E hr h => ?_)
  · obtain ⟨p, dx, d, B, W, kvs, es, rfl, _⟩ := h
    rfl
  · obtain ⟨p, dx, d, B, W, kvs, es, rfl, hp, hB, hW, hk, hl, hf, k1, k2, k3⟩ := h
    refine ⟨_, pss_cons (ps_expr (pe_meth0 (pv 0) T.cl mS FS hr bS .nil (passes_call (takes_of rfl rfl rfl rfl) (fun _ _ _ _ h => h))))
      (pss_cons (ps_for (passes_of rfl) rfl (pi_list (pe_fld (pv 0) rfl)) (pg_tup rfl (pgs_cons (pg_name (i := 1) scFlush.nd rfl (Or.inl rfl)) (pgs_cons (pg_name (i := 2) scFlush.nd rfl (Or.inl rfl)) pgs_nil)))
        (pss_one (ps_dput (hu_of hr) (pe_fld (pv 0) rfl) (pv 1) (pv 2) rfl)))
      (pss_one (ps_fld (pv 0) (pe_lst pa_nil) rfl))), ?_⟩
    refine ⟨_, rfl, p, dx, _, rfl, hp, rfl, p, dx, d, B, W, rfl, hp, hf, k1, k2, fun c1 c2 => ?_⟩
    have npW : W ≠ p := ne_of hW.lst hp (by intro z; cases z)
    have npB : B ≠ p := ne_of hB hp (by intro z; cases z)
    have nWB : W ≠ B := ne_of hW.lst hB (by intro z; cases z)
    refine ⟨_, rfl, p, C, dx, _, _, rfl, upd_same, T.cl, T.n4, rfl, W, rfl, ⟨_, SqL.of (by rw [upd_ne npW]; exact hW.lst)⟩, ?_⟩
    refine for_list (K := K) (a := W) (xs := es.map fun e => V.ref e.1) (fun i σ H' => Off [p, B] H H' ∧ H' p = some (.ins C dx (fsD (stepped d) B W)) ∧ H' B = some (.dK (mergeK kvs (toKV (es.take i)))) ∧ ∃ u v, σ = [some (.ref p), u, v])
      ⟨Off.upd (Off.refl _ _) (by simp), upd_same, by rw [upd_ne npB]; exact hB, none, none, rfl⟩ (fun i σ H' hi q => ?_) (fun i x σ H' hx q => ?_) (fun σ H' q => ?_)
    · exact SqL.of (by rw [q.1 W (by simp [npW, nWB])]; exact hW.lst)
    · obtain ⟨o, h1, h2, u, v, rfl⟩ := q
      rw [List.getElem?_map] at hx
      obtain ⟨e, he, rfl⟩ := Option.map_eq_some_iff.mp hx
      have hm := hW.tup e (List.mem_of_getElem? he)
      refine ⟨e.1, _, rfl, SqT.of (by rw [o e.1 (by simp [ne_of hm hp (by intro z; cases z), ne_of hm hB (by intro z; cases z)])]; exact hm), rfl, _, _, rfl, _, _, rfl, rfl, ?_⟩
      have hlen : (mergeK kvs (toKV (es.take i))).length < sizeLine := by
        have z := length_mergeK (toKV (es.take i)) kvs
        have z2 : (toKV (es.take i)).length ≤ 1000 := by unfold toKV; rw [List.length_map, List.length_take]; omega
        rw [sizeLine_eq]
        omega
      refine ⟨_, rfl, _, rfl, p, C, dx, _, _, rfl, h1, T.cl, T.n3, rfl, _, rfl, B, _, rfl, DPut.k (k := Sum.inl e.2.1) h2 hlen, ?_⟩
      exact ⟨o.upd (by simp), by rw [upd_ne npB.symm]; exact h1, by rw [upd_same, toKV_take he], _, _, rfl⟩
    · obtain ⟨o, h1, h2, u, v, rfl⟩ := q
      rw [List.length_map, List.take_length] at h2
      refine ⟨by show 0 ≤ sizeLine; decide, fun L nL => ?_⟩
      have npL : p ≠ L := ne_of_none h1 nL
      have nBL : B ≠ L := ne_of_none h2 nL
      have nL0 : H L = none := by rw [o L (by simp [npL.symm, nBL.symm])] at nL; exact nL
      refine ⟨_, rfl, p, C, dx, _, rfl, by rw [upd_ne npL]; exact h1, T.cl, T.n4, (by show 7 < 1000; decide), ?_⟩
      refine k3 c1 c2 L _ nL0 ?_ (by rw [upd_same]; rfl) (by simp only [upd_ne npB, upd_ne nBL, h2]) (by simp only [upd_ne npL.symm, upd_same])
      refine Off.upd (Off.upd (fun b hb => o b (fun z => hb ?_)) (by simp)) (by simp)
      rcases List.mem_cons.mp z with z | z
      · simp [z]
      · simp only [List.mem_singleton] at z
        simp [z]
end
end K02
namespace K02
open PySem L2 HK
/-! ### contents of blocks -/
/-- tuples stay -/
def Keep (H H' : Hp) : Prop := ∀ d xs, H d = some (.tup xs) → H' d = some (.tup xs)
theorem Keep.refl (H : Hp) : Keep H H := fun _ _ h => h
theorem Keep.trans {H H1 H2 : Hp} (a : Keep H H1) (b : Keep H1 H2) : Keep H H2 := fun d xs h => b d xs (a d xs h)
theorem Keep.of {H H' : Hp} (s : Same H H') : Keep H H' := fun _ _ h => s _ _ h
theorem Keep.upd {H : Hp} {a : Addr} {o : HO} (h : ∀ xs, H a ≠ some (.tup xs)) : Keep H (upd H a o) := fun d xs e => by
  rw [upd_ne (fun z => h xs (by rw [← z]; exact e))]
  exact e
def setF (f : Int → List Int) (n : Int) (x : List Int) : Int → List Int := fun m => if m = n then x else f m
def tupI (x : List Int) : HO := .tup (x.map V.int)
structure Cont (H : Hp) (sz : Nat) (kvs : List (Key × V)) (f : Int → List Int) : Prop where
  len : ∀ n, (f n).length = sz
  val : ∀ n, (valV kvs (.inl n) = none ∧ f n = List.replicate sz 0) ∨ ∃ d, valV kvs (.inl n) = some (.ref d) ∧ H d = some (tupI (f n))
theorem Cont.keep {H H' : Hp} {sz : Nat} {kvs : List (Key × V)} {f : Int → List Int} (c : Cont H sz kvs f) (k : Keep H H') : Cont H' sz kvs f :=
  ⟨c.len, fun n => (c.val n).imp id fun ⟨d, h1, h2⟩ => ⟨d, h1, k d _ h2⟩⟩
theorem Cont.put {H : Hp} {sz : Nat} {kvs : List (Key × V)} {f : Int → List Int} (c : Cont H sz kvs f) {n : Int} {d : Addr} {x : List Int} (hd : H d = some (tupI x)) (hx : x.length = sz) : Cont H sz (putK kvs (.inl n) (.ref d)) (setF f n x) := by
  refine ⟨fun m => ?_, fun m => ?_⟩
  · unfold setF
    split
    · exact hx
    · exact c.len m
  · rw [valV_put]
    unfold setF
    by_cases h : m = n
    · rw [if_pos (by rw [h]), if_pos h]
      exact .inr ⟨d, rfl, hd⟩
    · rw [if_neg (fun z => h (by injection z)), if_neg h]
      exact c.val m
theorem zeros_eq (sz : Nat) : zeros (sz : Int) = (List.replicate sz (0 : Int)).map V.int := by
  unfold zeros
  rw [Int.toNat_natCast, List.map_replicate]
theorem flat_zeros (n : Int) : (List.replicate n.toNat [V.int 0]).flatten = zeros n := by
  unfold zeros
  induction n.toNat with
  | zero => rfl
  | succ m ih => rw [List.replicate_succ, List.replicate_succ, List.flatten_cons, ih]; rfl
theorem Cont.get {H : Hp} {sz : Nat} {kvs : List (Key × V)} {f : Int → List Int} (c : Cont H sz kvs f) {z : Addr} (hz : H z = some (.tup (zeros (sz : Int)))) (n : Int) : ∃ r, (valV kvs (.inl n)).getD (.ref z) = .ref r ∧ H r = some (tupI (f n)) := by
  rcases c.val n with ⟨e, ef⟩ | ⟨d, e, h⟩
  · refine ⟨z, by rw [e]; rfl, ?_⟩
    rw [hz, ef, zeros_eq]
    rfl
  · exact ⟨d, by rw [e]; rfl, h⟩
/-- one write of which a crash leaves what c tells -/
def crash1 (h : Nat) (f : Int → List Int) (n : Int) (x : List Int) (c : Int) : Int → List Int := if c = 1 then setF f n x else if c = 2 then setF f n (x.take h ++ (f n).drop h) else f
def crash (h : Nat) (dat : Addr → List Int) (f : Int → List Int) (l : List (En × Int)) : Int → List Int := l.foldl (fun f p => crash1 h f p.1.2.1 (dat p.1.2.2) p.2) f
theorem crash_snoc (h : Nat) (dat : Addr → List Int) (f : Int → List Int) (l : List (En × Int)) (e : En) (c : Int) : crash h dat f (l ++ [(e, c)]) = crash1 h (crash h dat f l) e.2.1 (dat e.2.2) c := by
  unfold crash
  rw [List.foldl_append]
  rfl
/-! ### the first half of one, the second of another -/
theorem cut_take {x : List Int} {h : Nat} (hl : h ≤ x.length) : cutV (x.map V.int) none (some ((h : Nat) : Int)) = (x.take h).map V.int := by
  unfold cutV
  rw [HT.sIx_none, HT.sIx_nat, List.drop_zero, List.length_map, Nat.min_eq_left hl, Nat.sub_zero, List.map_take]
theorem cut_drop {x : List Int} {h : Nat} (hl : h ≤ x.length) : cutV (x.map V.int) (some ((h : Nat) : Int)) none = (x.drop h).map V.int := by
  unfold cutV
  rw [HT.sIx_none, HT.sIx_nat, List.length_map, Nat.min_eq_left hl, List.map_drop, List.take_of_length_le (by rw [List.length_drop, List.length_map]; omega)]
theorem half_read {K : PySem.W.Frag} {H : Hp} {a : Addr} {x y : List Int} {h : Nat} {i : Int} {Q : VK} (hx : x.length = 2 * h) (hy : y.length = 2 * h) (h1 : 1 ≤ h) (h2 : h ≤ 500) (ei : i = (h : Int)) (ha : H a = some (tupI x))
    (te : TE) (σ : L2.St) (hte : ∀ H1 Q1, Same H H1 → (∀ b H2, Same H1 H2 → H2 b = some (tupI y) → Q1 (.ref b) H2) → te σ H1 Q1)
    (tj : L2.St → Hp → (Option Int → Hp → Prop) → Prop) (htj : ∀ H1 Q1, Q1 (some i) H1 → tj σ H1 Q1)
    (k : ∀ r H', Same H H' → H' r = some (tupI (x.take h ++ y.drop h)) → Q (.ref r) H') :
    rSlT K (.ref a) none (some i) H fun v1 H1 => (te σ H1 fun w H2 => tj σ H2 fun o H3 => rSlT K w o none H3 fun v2 H4 => rCatT K v1 v2 H4 Q) := by
  subst ei
  refine ⟨a, _, rfl, SqT.of ha, ?_, fun p np => ?_⟩
  · rw [HT.sIx_nat, List.length_map, hx]
    rintro ⟨_, z⟩
    have : min h (2 * h) = 2 * h := z
    omega
  · rw [cut_take (by omega)]
    have s1 : Same H (upd H p (.tup ((x.take h).map V.int))) := same_upd np
    refine hte _ _ s1 fun b H2 s2 hb => htj _ _ ⟨b, _, rfl, SqT.of hb, ?_, fun q nq => ?_⟩
    · rw [HT.sIx_nat, List.length_map, hy]
      rintro ⟨z, _⟩
      have : min h (2 * h) = 0 := z
      omega
    · rw [cut_drop (by omega)]
      have hp : H2 p = some (.tup ((x.take h).map V.int)) := s2 _ _ upd_same
      have s3 : Same H2 (upd H2 q (.tup ((y.drop h).map V.int))) := same_upd nq
      refine ⟨p, q, _, _, rfl, rfl, SqT.of (s3 _ _ hp), SqT.of upd_same, ?_, ?_, fun z => ?_, fun _ r nr => ?_⟩
      · intro z
        have := congrArg List.length z
        rw [List.length_map, List.length_take, hx] at this
        simp at this
        omega
      · rw [List.length_map, List.length_map, List.length_take, List.length_drop, hx, hy, sizeLine_eq]
        omega
      · have := congrArg List.length z
        rw [List.length_map, List.length_drop, hy] at this
        simp at this
        omega
      · refine k r _ (((s1.trans s2).trans s3).trans (same_upd nr)) ?_
        rw [upd_same, tupI, List.map_append]
/-! ### restarted -/
def spRest (C : Addr) : Sp := fun vs H Q _ => ∃ p dx d B W Ch h kvs f es dat cs, vs = [.ref p, .ref Ch] ∧ H p = some (.ins C dx (fsD d B W)) ∧ d.sz = ((2 * h : Nat) : Int) ∧ 1 ≤ h ∧ h ≤ 500 ∧ H B = some (.dK kvs) ∧ kvs.length ≤ 5000 ∧ Cont H (2 * h) kvs f ∧
  WaitAt H W es ∧ es.length ≤ 1000 ∧ (∀ e ∈ es, H e.2.2 = some (tupI (dat e.2.2)) ∧ (dat e.2.2).length = 2 * h) ∧ H Ch = some (.lst (cs.map V.int)) ∧
  ∀ x dx' B' W' kvs' H', Same H H' → H x = none → H B' = none → H W' = none → kvs'.length ≤ kvs.length + es.length → H' x = some (.ins C dx' (fsD ⟨d.sz, d.tot, .non, false, 0⟩ B' W')) → H' B' = some (.dK kvs') → H' W' = some (.lst []) → Cont H' (2 * h) kvs' (crash h dat f (es.zip cs)) → Q (.ref x) H'
theorem zip_le {a b : Nat} {es : List En} {cs : List Int} (h : a ≤ b + (es.zip cs).length) : a ≤ b + es.length := by
  rw [List.length_zip] at h
  omega
theorem same_off {H H' : Hp} {l : List Addr} (o : Off l H H') (n : ∀ b ∈ l, H b = none) : Same H H' := fun b u e => by
  rw [o b (fun hb => by rw [n b hb] at e; cases e)]
  exact e
section
variable {P : Program} {w : World} {K : PySem.W.Frag} {mg : Str → Option Value} {base : Heap} {C CE : Addr}
theorem scRest : FnScope ["self", "choices", "found", "half", "number", "data", "choice"] ["self", "choices"] (defScope sRest) := ⟨rfl, rfl, rfl, by decide +kernel, rfl, by decide +kernel, by decide +kernel⟩
theorem ok_rest {f fI fK : Addr} {fd fdI fdK : FuncData} (F : L2.Fun K "restarted" "Device.restarted" sRest f fd) (T : DTxt K mg C CE)
    (M : Mk K C fI) (FI : FnOk P w K mg base L2.CX0 1 fI fdI ["self", "block_size", "count", "blocks"] (spInit C)) (bI : Binds K fdI ["self", "block_size", "count", "blocks"] [])
    (FK : FnOk P w K mg base L2.CX0 1 fK fdK ["self", "number"] (spKept C)) (bK : Binds K fdK ["self", "number"] []) (mK : Meth K C "kept" fK) :
    FnOk P w K mg base L2.CX0 3 f fd ["self", "choices"] (spRest C) := by
  obtain ⟨t1, g1⟩ := T.kept
  obtain ⟨t2, g2⟩ := T.half
  refine F.ok scRest (fun vs H Q E h => ?_) (fun cdv A outer s H vs Q E hr h => ?_)
  · obtain ⟨p, dx, d, B, W, Ch, h, kvs, f, es, dat, cs, rfl, _⟩ := h
    rfl
  · obtain ⟨p, dx, d, B, W, Ch, h, kvs, f, es, dat, cs, rfl, hp, hsz, h1, h500, hB, hk, hc, hW, hl, hdat, hC, k⟩ := h
    refine ⟨_, pss_cons (ps_set (i := 2) scRest.nd rfl (Or.inl rfl) (pe_make M FI hr rfl T.gC bI .nil pass0 (pa_cons (pe_fld (pv 0) rfl) (pa_cons (pe_fld (pv 0) rfl) (pa_cons (pe_fld (pv 0) rfl) pa_nil)))))
      (pss_cons (ps_set (i := 3) scRest.nd rfl (Or.inl rfl) (pe_op op_fdiv (pe_fld (pv 0) rfl) pe_int))
      (pss_cons (ps_for PassesOwn.never rfl (pi_zip (by rfl) T.zip (pa_cons (pe_fld (pv 0) rfl) (pa_cons (pv 1) pa_nil)))
          (pg_tup rfl (pgs_cons (pg_tup rfl (pgs_cons (pg_name (i := 4) scRest.nd rfl (Or.inl rfl)) (pgs_cons (pg_name (i := 5) scRest.nd rfl (Or.inl rfl)) pgs_nil))) (pgs_cons (pg_name (i := 6) scRest.nd rfl (Or.inl rfl)) pgs_nil)))
        (pss_one (ps_if (pt_cmpR op_eq (pv 6) (pe_glob (v := .int 1) rfl g1 ⟨_, rfl⟩) (nomark _)) (pss_one (ps_dput (hu_of hr) (pe_fld (pv 2) rfl) (pv 4) (pv 5) rfl))
          (pss_one (ps_if (pt_cmpR op_eq (pv 6) (pe_glob (v := .int 2) rfl g2 ⟨_, rfl⟩) (nomark _))
            (pss_one (ps_dput (hu_of hr) (pe_fld (pv 2) rfl) (pv 4) (pe_op op_catT (pe_slice sl_tup (pv 5) po_none (po_some (pv 3))) (pe_slice sl_tup (pe_meth (pv 2) T.cl mK FK (hr.mono (by decide)) bK .nil pass0 (pa_cons (pv 4) pa_nil)) (po_some (pv 3)) po_none)) rfl)) pss_nil)))))
      (pss_one (ps_ret (pv 2))))), ?_⟩
    refine ⟨_, rfl, p, C, dx, _, _, rfl, hp, T.cl, T.n1, rfl, _, rfl, p, C, dx, _, _, rfl, hp, T.cl, T.n2, rfl, _, rfl, p, C, dx, _, _, rfl, hp, T.cl, T.n3, rfl, fun x dx' nx ndx nex => ?_⟩
    have nBx : B ≠ x := ne_of_none hB nx
    have nBd : B ≠ dx' := ne_of_none hB ndx
    refine ⟨x, dx', _, _, _, kvs, rfl, upd_same, .inr ⟨B, rfl, by rw [upd_ne nBx, upd_ne nBd]; exact hB⟩, fun B' W' H1 nB' nW' nBW o1 hx1 hB1 hW1 => ⟨rfl, ?_⟩⟩
    have nB0 : H B' = none := by
      by_cases z : B' = x
      · rw [z]; exact nx
      · by_cases z2 : B' = dx'
        · rw [z2]; exact ndx
        · rw [upd_ne z, upd_ne z2] at nB'; exact nB'
    have nW0 : H W' = none := by
      by_cases z : W' = x
      · rw [z]; exact nx
      · by_cases z2 : W' = dx'
        · rw [z2]; exact ndx
        · rw [upd_ne z, upd_ne z2] at nW'; exact nW'
    have s1 : Same H H1 := fun b u e => by
      rw [o1 b (by simp [ne_of_none e nx, ne_of_none e nB0, ne_of_none e nW0]), upd_ne (ne_of_none e nx), upd_ne (ne_of_none e ndx)]
      exact e
    refine ⟨_, rfl, p, C, dx, _, _, rfl, s1 _ _ hp, T.cl, T.n1, rfl, _, _, rfl, rfl, ⟨by decide, by decide⟩, ?_⟩
    have eh : d.sz / 2 = ((h : Nat) : Int) := by rw [hsz]; omega
    refine ⟨_, rfl, p, C, dx, _, _, rfl, s1 _ _ hp, T.cl, T.n4, rfl, _, rfl, W, Ch, es.map (fun e => V.ref e.1), cs.map V.int, rfl, SqL.of (s1 _ _ hW.lst), SqL.of (s1 _ _ hC), ?_⟩
    refine for_it (walk_zip (K := K) (a := W) (b := Ch) (xs := es.map fun e => V.ref e.1) (ys := cs.map V.int) (n := (es.zip cs).length) (by simp [List.length_zip])) (fun i σ H' => Same H H' ∧ H' x = some (.ins C dx' (fsD ⟨d.sz, d.tot, .non, false, 0⟩ B' W')) ∧ H' W' = some (.lst []) ∧
        (∃ kvs', H' B' = some (.dK kvs') ∧ kvs'.length ≤ kvs.length + i ∧ Cont H' (2 * h) kvs' (crash h dat f ((es.zip cs).take i))) ∧ ∃ u v z, σ = [some (.ref p), some (.ref Ch), some (.ref x), some (.int (h : Nat)), u, v, z])
      ⟨s1, hx1, hW1, ⟨kvs, hB1, by omega, hc.keep (Keep.of s1)⟩, none, none, none, by rw [← eh]; rfl⟩ (fun i σ H' hi q => ⟨SqL.of (q.1 _ _ hW.lst), SqL.of (q.1 _ _ hC)⟩) (fun i y σ H' H'' hi q yy => ?_) (fun σ H' q => ?_)
    · obtain ⟨sm, hx', hW', ⟨kvs', hB', hk', hc'⟩, u, v, z, rfl⟩ := q
      obtain ⟨t, y1, y2, rfl, nt, rfl, e1, e2⟩ := yy
      have hz : (es.zip cs)[i]? = some ((es.zip cs)[i]) := List.getElem?_eq_getElem hi
      obtain ⟨e, c, hec⟩ : ∃ e c, (es.zip cs)[i]? = some (e, c) := ⟨_, _, hz⟩
      have h2 := List.getElem?_zip_eq_some.mp hec
      dsimp only at e1 e2 h2
      rw [List.getElem?_map, h2.1] at e1
      rw [List.getElem?_map, h2.2] at e2
      obtain rfl := Option.some.inj e1
      obtain rfl := Option.some.inj e2
      have hm := List.mem_of_getElem? h2.1
      have s2 : Same H' (upd H' t (.tup [.ref e.1, .int c])) := same_upd nt
      have het := s2 _ _ (sm _ _ (hW.tup e hm))
      have hed := s2 _ _ (sm _ _ (hdat e hm).1)
      have hx2 := s2 _ _ hx'
      have hW2 := s2 _ _ hW'
      have hB2 := s2 _ _ hB'
      have hc2 := hc'.keep (Keep.of s2)
      have sm2 := sm.trans s2
      refine ⟨t, _, rfl, SqT.of upd_same, rfl, _, _, rfl, ⟨e.1, _, rfl, SqT.of het, rfl, _, _, rfl, _, _, rfl, rfl, _, _, rfl, rfl, ?_⟩⟩
      generalize upd H' t (.tup [.ref e.1, .int c]) = H2 at s2 het hed hx2 hW2 hB2 hc2 sm2 ⊢
      have etake : (es.zip cs).take (i + 1) = (es.zip cs).take i ++ [(e, c)] := by rw [List.take_add_one, hec]; rfl
      have hi' : i < 1000 := by
        rw [List.length_zip] at hi
        omega
      have hl' : kvs'.length < sizeLine := by rw [sizeLine_eq]; omega
      have nxB : x ≠ B' := ne_of hx2 hB2 (by intro z; cases z)
      have nWB : W' ≠ B' := ne_of hW2 hB2 (by intro z; cases z)
      have nWx : W' ≠ x := ne_of hW2 hx2 (by intro z; cases z)
      have same_put : ∀ {H3 : Hp} {o : HO}, Same H H3 → Same H (upd H3 B' o) := fun {H3 o} sm b u eb => by
        rw [upd_ne (ne_of_none eb nB0)]
        exact sm _ _ eb
      refine ⟨_, rfl, rfl, _, rfl, ite2 (fun c1 => ?_) (fun c1 => ⟨_, rfl, rfl, _, rfl, ite2 (fun c2 => ?_) (fun c2 => ?_)⟩)⟩
      · have ec : c = 1 := by simpa using c1
        refine ⟨_, rfl, _, rfl, x, C, dx', _, _, rfl, hx2, T.cl, T.n3, rfl, _, rfl, B', _, rfl, DPut.k (k := Sum.inl e.2.1) hB2 hl', ?_⟩
        refine ⟨same_put sm2, by rw [upd_ne nxB]; exact hx2, by rw [upd_ne nWB]; exact hW2, ⟨_, upd_same, by have := length_putK kvs' (Sum.inl e.2.1) (.ref e.2.2); omega, ?_⟩, _, _, _, rfl⟩
        rw [etake, crash_snoc, crash1, if_pos ec]
        exact (hc2.put hed (hdat e hm).2).keep (Keep.upd fun xs z => by rw [hB2] at z; cases z)
      · have ec : c = 2 := by simpa using c2
        have ec1 : c ≠ 1 := by omega
        refine ⟨_, rfl, _, rfl, _, rfl, ?_⟩
        refine half_read (K := K) (x := dat e.2.2) (y := crash h dat f ((es.zip cs).take i) e.2.1) (h := h) (hdat e hm).2 (hc2.len _) h1 h500 rfl hed _ _ (fun H3 Q3 s3 q3 => ?_) _ (fun H3 Q3 q3 => ⟨_, rfl, _, rfl, q3⟩) (fun r H3 s3 hr3 => ?_)
        · refine ⟨_, rfl, x, dx', _, rfl, s3 _ _ hx2, rfl, _, rfl, x, dx', _, B', W', e.2.1, kvs', rfl, s3 _ _ hx2, s3 _ _ hB2, (by show 2 ≤ d.sz; omega), (by show d.sz ≤ 1000; omega), fun H4 z s4 nz hz4 => ?_⟩
          have hz4 : H4 z = some (.tup (zeros d.sz)) := hz4
          rw [hsz] at hz4
          obtain ⟨r, er, hr⟩ := ((hc2.keep (Keep.of s3)).keep (Keep.of s4)).get hz4 e.2.1
          rw [er]
          exact q3 r H4 s4 hr
        · have nxB := nxB
          refine ⟨_, rfl, x, C, dx', _, _, rfl, s3 _ _ hx2, T.cl, T.n3, rfl, _, rfl, B', _, rfl, DPut.k (k := Sum.inl e.2.1) (s3 _ _ hB2) hl', ?_⟩
          refine ⟨same_put (sm2.trans s3), by rw [upd_ne nxB]; exact s3 _ _ hx2, by rw [upd_ne nWB]; exact s3 _ _ hW2, ⟨_, upd_same, by have := length_putK kvs' (Sum.inl e.2.1) (.ref r); omega, ?_⟩, _, _, _, rfl⟩
          rw [etake, crash_snoc, crash1, if_neg ec1, if_pos ec]
          refine ((hc2.keep (Keep.of s3)).put hr3 ?_).keep (Keep.upd fun xs z => by rw [s3 _ _ hB2] at z; cases z)
          rw [List.length_append, List.length_take, List.length_drop, (hdat e hm).2, hc2.len]
          omega
      · refine ⟨sm2, hx2, hW2, ⟨kvs', hB2, by omega, ?_⟩, _, _, _, rfl⟩
        rw [etake, crash_snoc, crash1, if_neg (by simpa using c1), if_neg (by simpa using c2)]
        exact hc2
    · obtain ⟨sm, hx', hW', ⟨kvs', hB', hk', hc'⟩, u, v, z, rfl⟩ := q
      rw [List.take_length] at hc'
      exact ⟨_, rfl, k x dx' B' W' kvs' H' sm nx nB0 nW0 (zip_le hk') hx' hB' hW' hc'⟩
end
end K02
namespace K02
open PySem L2 HK
/-! ### the device as what it holds -/
structure AD where
  fz : V
  dead : Bool
  st : Int
  f : Int → List Int
  ws : List (Int × List Int)
def AD.dv (d : AD) : Dv := ⟨64, 16, d.fz, d.dead, d.st⟩
def AD.alive (d : AD) : Prop := d.dead = false ∧ d.fz ≠ .int 0
def AD.killed (d : AD) : AD := { d with dead := true }
def AD.next (d : AD) : AD := { d with fz := match d.fz with | .int n => .int (n - 1) | v => v, st := d.st + 1 }
def AD.wrote (d : AD) (n : Int) (x : List Int) : AD := { d.next with ws := d.ws ++ [(n, x)] }
def setAll (f : Int → List Int) (ws : List (Int × List Int)) : Int → List Int := ws.foldl (fun f q => setF f q.1 q.2) f
def AD.flushed (d : AD) : AD := { d.next with f := setAll d.f d.ws, ws := [] }
/-- the last data that waits for a block, else what is kept -/
def lastA (ws : List (Int × List Int)) (n : Int) : Option (List Int) := (ws.reverse.find? fun q => decide (q.1 = n)).map (·.2)
def AD.rd (d : AD) (n : Int) : List Int := (lastA d.ws n).getD (d.f n)
/-- what a crash leaves -/
def crashA (f : Int → List Int) (l : List ((Int × List Int) × Int)) : Int → List Int := l.foldl (fun f q => crash1 32 f q.1.1 q.1.2 q.2) f
structure DevS (C : Addr) (H : Hp) (p dx B W : Addr) (N : Nat) (d : AD) : Prop where
  ins : H p = some (.ins C dx (fsD d.dv B W))
  nf : d.fz = .non ∨ ∃ n, d.fz = .int n
  ex : ∃ (kvs : List (Key × V)) (es : List (En × List Int)), H B = some (.dK kvs) ∧ Cont H 64 kvs d.f ∧ WaitAt H W (es.map (·.1)) ∧ kvs.length + es.length ≤ N ∧ d.ws = es.map (fun q => (q.1.2.1, q.2)) ∧ ∀ q ∈ es, H q.1.2.2 = some (tupI q.2) ∧ q.2.length = 64
/-- all stands but the device's own parts -/
def Bar (p B W : Addr) (H H' : Hp) : Prop := ∀ b o, H b = some o → b ≠ p → b ≠ B → b ≠ W → H' b = some o
theorem Bar.refl (p B W : Addr) (H : Hp) : Bar p B W H H := fun _ _ h _ _ _ => h
theorem Bar.of_same {p B W : Addr} {H H' : Hp} (s : Same H H') : Bar p B W H H' := fun _ _ h _ _ _ => s _ _ h
/-- the waiting list is the same, or a new one -/
theorem Bar.trans {p B W W1 : Addr} {H H1 H2 : Hp} (x : Bar p B W H H1) (hW : W1 = W ∨ H W1 = none) (y : Bar p B W1 H1 H2) : Bar p B W H H2 := fun b o h n1 n2 n3 => by
  refine y _ _ (x b o h n1 n2 n3) n1 n2 (fun e => ?_)
  rcases hW with z | z
  · exact n3 (e.trans z)
  · rw [← e, h] at z
    cases z
theorem Bar.same {p B W : Addr} {H H1 H2 : Hp} (x : Bar p B W H H1) (s : Same H1 H2) : Bar p B W H H2 := fun b o h n1 n2 n3 => s _ _ (x b o h n1 n2 n3)
theorem Bar.pre {p B W : Addr} {H H1 H2 : Hp} (s : Same H H1) (x : Bar p B W H1 H2) : Bar p B W H H2 := fun b o h n1 n2 n3 => x _ _ (s _ _ h) n1 n2 n3
theorem tupI_inj {x y : List Int} (h : tupI x = tupI y) : x = y := by
  unfold tupI at h
  injection h with h
  induction x generalizing y with
  | nil => cases y with
    | nil => rfl
    | cons b s => cases h
  | cons a r ih => cases y with
    | nil => cases h
    | cons b s =>
      rw [List.map_cons, List.map_cons] at h
      injection h with h1 h2
      injection h1 with h1
      rw [h1, ih h2]
theorem WaitAt.mono' {H H' : Hp} {W : Addr} {es : List En} (w : WaitAt H W es) (e : H' W = H W) (k : Keep H H') : WaitAt H' W es := ⟨by rw [e]; exact w.lst, fun x hx => k _ _ (w.tup x hx)⟩
section
variable {C p dx B W : Addr} {H H' : Hp} {N : Nat} {d : AD}
theorem DevS.same (x : DevS C H p dx B W N d) (s : Same H H') : DevS C H' p dx B W N d := by
  obtain ⟨i, nf, kvs, es, hB, hc, hW, hn, hw, hd⟩ := x
  exact ⟨s _ _ i, nf, kvs, es, s _ _ hB, hc.keep (Keep.of s), ⟨s _ _ hW.lst, fun e he => s _ _ (hW.tup e he)⟩, hn, hw, fun q hq => ⟨s _ _ (hd q hq).1, (hd q hq).2⟩⟩
theorem DevS.mono {M : Nat} (x : DevS C H p dx B W N d) (h : N ≤ M) : DevS C H p dx B W M d := by
  obtain ⟨i, nf, kvs, es, hB, hc, hW, hn, hw, hd⟩ := x
  exact ⟨i, nf, kvs, es, hB, hc, hW, Nat.le_trans hn h, hw, hd⟩
theorem DevS.len (x : DevS C H p dx B W N d) (n : Int) : (d.f n).length = 64 := by
  obtain ⟨i, nf, kvs, es, hB, hc, hW, hn, hw, hd⟩ := x
  exact hc.len n
theorem DevS.neB (x : DevS C H p dx B W N d) : p ≠ B ∧ p ≠ W ∧ B ≠ W := by
  obtain ⟨i, nf, kvs, es, hB, hc, hW, hn, hw, hd⟩ := x
  exact ⟨ne_of i hB (by intro z; cases z), ne_of i hW.lst (by intro z; cases z), ne_of hB hW.lst (by intro z; cases z)⟩
/-- objects of other kinds lie apart from the device's parts -/
theorem DevS.apart (x : DevS C H p dx B W N d) {b : Addr} {o : HO} (h : H b = some o) (n1 : ∀ C dx fs, o ≠ .ins C dx fs) (n2 : ∀ k, o ≠ .dK k) (n3 : ∀ l, o ≠ .lst l) : b ≠ p ∧ b ≠ B ∧ b ≠ W := by
  obtain ⟨i, nf, kvs, es, hB, hc, hW, hn, hw, hd⟩ := x
  exact ⟨ne_of h i (n1 _ _ _), ne_of h hB (n2 _), ne_of h hW.lst (n3 _)⟩
theorem DevS.keep (x : DevS C H p dx B W N d) (b : Bar p B W H H') : Keep H H' := fun t xs h => by
  obtain ⟨a1, a2, a3⟩ := x.apart h (fun _ _ _ z => by cases z) (fun _ z => by cases z) (fun _ z => by cases z)
  exact b _ _ h a1 a2 a3
end
/-! ### the promises by what it holds -/
structure SpReadA (C CE : Addr) (vs : List V) (H : Hp) (Q : VK) (E : XK) : Prop where
  h : ∃ p dx B W N d n, vs = [.ref p, .int n] ∧ DevS C H p dx B W N d ∧ N ≤ 900 ∧ (d.dead = true → E (.ref CE) none H) ∧ (¬ (0 ≤ n ∧ n < 16) → E (.ref CE) none H) ∧
  (d.dead = false → 0 ≤ n ∧ n < 16 → ∀ H' r, Same H H' → H' r = some (tupI (d.rd n)) → Q (.ref r) H')
def spReadA (C CE : Addr) : Sp := fun vs H Q E => SpReadA C CE vs H Q E
structure SpWriteA (C CE : Addr) (vs : List V) (H : Hp) (Q : VK) (E : XK) : Prop where
  h : ∃ p dx B W N d n t x, vs = [.ref p, .int n, .ref t] ∧ DevS C H p dx B W N d ∧ N ≤ 900 ∧ H t = some (tupI x) ∧
  (x.length = 64 ∧ 0 ≤ n ∧ n < 16 → (¬ d.alive → ∀ H', Bar p B W H H' → DevS C H' p dx B W N d.killed → E (.ref CE) none H') ∧ (d.alive → ∀ H', Bar p B W H H' → DevS C H' p dx B W (N + 1) (d.wrote n x) → Q .non H')) ∧
  (¬ (x.length = 64 ∧ 0 ≤ n ∧ n < 16) → E (.ref CE) none H)
def spWriteA (C CE : Addr) : Sp := fun vs H Q E => SpWriteA C CE vs H Q E
structure SpFlushA (C CE : Addr) (vs : List V) (H : Hp) (Q : VK) (E : XK) : Prop where
  h : ∃ p dx B W N d, vs = [.ref p] ∧ DevS C H p dx B W N d ∧ N ≤ 900 ∧
  (¬ d.alive → ∀ H', Bar p B W H H' → DevS C H' p dx B W N d.killed → E (.ref CE) none H') ∧ (d.alive → ∀ H' W', H W' = none → Bar p B W H H' → DevS C H' p dx B W' N d.flushed → Q .non H')
def spFlushA (C CE : Addr) : Sp := fun vs H Q E => SpFlushA C CE vs H Q E
section
variable {P : Program} {w : World} {K : PySem.W.Frag} {mg : Str → Option Value} {base : Heap} {C CE : Addr} {k : Nat} {f : Addr} {fd : FuncData}
theorem cont_merge {H : Hp} : ∀ {es : List (En × List Int)} {kvs : List (Key × V)} {f : Int → List Int}, (∀ q ∈ es, H q.1.2.2 = some (tupI q.2) ∧ q.2.length = 64) → Cont H 64 kvs f → Cont H 64 (mergeK kvs (toKV (es.map (·.1)))) (setAll f (es.map fun q => (q.1.2.1, q.2)))
  | [], _, _, _, c => c
  | q :: r, kvs, f, h, c => by
    have z := h q (by simp)
    exact cont_merge (es := r) (kvs := putK kvs (.inl q.1.2.1) (.ref q.1.2.2)) (f := setF f q.1.2.1 q.2) (fun y hy => h y (by simp [hy])) (c.put z.1 z.2)
theorem lastOf_A (es : List (En × List Int)) (n : Int) : ((lastOf (es.map (·.1)) n = none ∧ lastA (es.map fun q => (q.1.2.1, q.2)) n = none) ∨ ∃ q ∈ es, lastOf (es.map (·.1)) n = some q.1.2.2 ∧ lastA (es.map fun q => (q.1.2.1, q.2)) n = some q.2) := by
  unfold lastOf lastA
  rw [← List.map_reverse, ← List.map_reverse, List.find?_map, List.find?_map]
  have e : ((fun q : Int × List Int => decide (q.1 = n)) ∘ fun q : En × List Int => (q.1.2.1, q.2)) = ((fun e : En => decide (e.2.1 = n)) ∘ fun q : En × List Int => q.1) := rfl
  rw [e]
  cases h : es.reverse.find? ((fun e : En => decide (e.2.1 = n)) ∘ fun q : En × List Int => q.1) with
  | none => exact .inl ⟨rfl, rfl⟩
  | some q => exact .inr ⟨q, List.mem_reverse.mp (List.mem_of_find?_eq_some h), rfl, rfl⟩
theorem readA (F : FnOk P w K mg base (L2.CX P w) k f fd ["self", "number"] (spRead C CE)) : FnOk P w K mg base (L2.CX P w) k f fd ["self", "number"] (spReadA C CE) := by
  refine F.imp fun vs H Q E h => ?_
  obtain ⟨p, dx, B, W, N, d, n, rfl, hD, hN, k1, k2, k3⟩ := h
  obtain ⟨i, nf, kvs, es, hB, hc, hW, hn, hw, hd⟩ := hD
  refine ⟨p, dx, d.dv, B, W, n, kvs, es.map (·.1), rfl, i, hB, hW, (by show (2 : Int) ≤ 64; decide), (by show (64 : Int) ≤ 1000; decide), k1, k2, fun c1 c2 => ⟨fun t ht => ?_, fun ht H' z s nz hz => ?_⟩⟩
  · rcases lastOf_A es n with ⟨e1, e2⟩ | ⟨q, hq, e1, e2⟩
    · rw [e1] at ht; cases ht
    · rw [e1] at ht
      obtain rfl := Option.some.inj ht
      refine k3 c1 c2 H _ (Same.refl H) ?_
      unfold AD.rd
      rw [hw, e2]
      exact (hd q hq).1
  · rcases lastOf_A es n with ⟨e1, e2⟩ | ⟨q, hq, e1, e2⟩
    · obtain ⟨r, er, hr⟩ := (hc.keep (Keep.of s)).get (sz := 64) (z := z) hz n
      rw [er]
      refine k3 c1 c2 H' r s ?_
      unfold AD.rd
      rw [hw, e2]
      exact hr
    · rw [e1] at ht; cases ht
theorem writeA (F : FnOk P w K mg base (L2.CX P w) k f fd ["self", "number", "data"] (spWrite K C CE)) : FnOk P w K mg base (L2.CX P w) k f fd ["self", "number", "data"] (spWriteA C CE) := by
  refine F.imp fun vs H Q E h => ?_
  obtain ⟨p, dx, B, W, N, d, n, t, x, rfl, hD, hN, ht, k1, k2⟩ := h
  have hD0 := hD
  obtain ⟨i, nf, kvs, es, hB, hc, hW, hn, hw, hd⟩ := hD
  have npB : p ≠ B := ne_of i hB (by intro z; cases z)
  have nWB : W ≠ B := ne_of hW.lst hB (by intro z; cases z)
  have npW : p ≠ W := ne_of i hW.lst (by intro z; cases z)
  by_cases ok : x.length = 64 ∧ 0 ≤ n ∧ n < 16
  · obtain ⟨kE, kQ⟩ := k1 ok
    have kill : ¬ d.alive → E (.ref CE) none (upd H p (.ins C dx (fsD { d.dv with dead := true } B W))) := fun na => by
      refine kE na _ (fun b o h n1 n2 n3 => by rw [upd_ne n1]; exact h) ⟨upd_same, nf, kvs, es, by rw [upd_ne npB.symm]; exact hB, hc.keep (Keep.upd fun xs z => by rw [i] at z; cases z), hW.mono' (upd_ne npW.symm) (Keep.upd fun xs z => by rw [i] at z; cases z), hn, hw, fun q hq => ⟨Keep.upd (fun xs z => by rw [i] at z; cases z) _ _ (hd q hq).1, (hd q hq).2⟩⟩
    refine ⟨p, dx, d.dv, B, W, n, t, x.map V.int, es.map (·.1), rfl, i, SqT.of ht, hW, by rw [List.length_map]; omega, nf, fun z => absurd (by rw [List.length_map]; exact ⟨by rw [ok.1]; rfl, ok.2⟩) z, fun c => ?_, fun _ c c2 => kill fun a => a.2 c2, fun _ c c2 z H' nz o h1 h2 h3 => ?_⟩
    · have c : d.dead = true := c
      have e : d.killed = d := by obtain ⟨a, b, c, e, g⟩ := d; simp only at c; unfold AD.killed; simp_all
      exact kE (fun a => by rw [a.1] at c; cases c) H (Bar.refl _ _ _ _) (by rw [e]; exact hD0)
    · have kp : Keep H H' := fun t xs ht => by
        rw [o t (by
          simp only [List.mem_cons, List.not_mem_nil, or_false, not_or]
          exact ⟨ne_of ht i (by intro z; cases z), ne_of_none ht nz, ne_of ht hW.lst (by intro z; cases z)⟩)]
        exact ht
      refine kQ ⟨c, c2⟩ H' (fun b u h n1 n2 n3 => by rw [o b (by simp [n1, n3, ne_of_none h nz])]; exact h) ⟨h1, ?_, kvs, es ++ [((z, n, t), x)], ?_, hc.keep kp, ⟨by rw [h3]; simp, fun e he => ?_⟩, by rw [List.length_append]; show kvs.length + (es.length + 1) ≤ N + 1; omega, ?_, fun q hq => ?_⟩
      · show (stepped d.dv).fz = .non ∨ ∃ n, (stepped d.dv).fz = .int n
        exact stepped_nf nf
      · rw [o B (by simp [npB.symm, nWB.symm, ne_of_none hB nz])]; exact hB
      · rw [List.map_append] at he
        rcases List.mem_append.mp he with y | y
        · exact kp _ _ (hW.tup e y)
        · rw [show e = (z, n, t) by simpa using y]; exact h2
      · show d.ws ++ [(n, x)] = _
        rw [hw, List.map_append]
        rfl
      · rcases List.mem_append.mp hq with y | y
        · exact ⟨kp _ _ (hd q y).1, (hd q y).2⟩
        · rw [List.mem_singleton.mp y]
          exact ⟨kp _ _ ht, ok.1⟩
  · have bad := k2 ok
    have nok : ¬ (((x.map V.int).length : Int) = d.dv.sz ∧ 0 ≤ n ∧ n < d.dv.tot) := fun z => ok ⟨by have z1 := z.1; rw [List.length_map] at z1; exact Int.ofNat_inj.mp z1, z.2⟩
    exact ⟨p, dx, d.dv, B, W, n, t, x.map V.int, es.map (·.1), rfl, i, SqT.of ht, hW, by rw [List.length_map]; omega, nf, fun _ => bad, fun _ => bad, fun z => absurd z nok, fun z => absurd z nok⟩
theorem flushA (F : FnOk P w K mg base (L2.CX P w) k f fd ["self"] (spFlush C CE)) : FnOk P w K mg base (L2.CX P w) k f fd ["self"] (spFlushA C CE) := by
  refine F.imp fun vs H Q E h => ?_
  obtain ⟨p, dx, B, W, N, d, rfl, hD, hN, kE, kQ⟩ := h
  have hD0 := hD
  obtain ⟨i, nf, kvs, es, hB, hc, hW, hn, hw, hd⟩ := hD
  have npB : p ≠ B := ne_of i hB (by intro z; cases z)
  have nWB : W ≠ B := ne_of hW.lst hB (by intro z; cases z)
  have npW : p ≠ W := ne_of i hW.lst (by intro z; cases z)
  have kill : ¬ d.alive → E (.ref CE) none (upd H p (.ins C dx (fsD { d.dv with dead := true } B W))) := fun na => by
    refine kE na _ (fun b o h n1 n2 n3 => by rw [upd_ne n1]; exact h) ⟨upd_same, nf, kvs, es, by rw [upd_ne npB.symm]; exact hB, hc.keep (Keep.upd fun xs z => by rw [i] at z; cases z), hW.mono' (upd_ne npW.symm) (Keep.upd fun xs z => by rw [i] at z; cases z), hn, hw, fun q hq => ⟨Keep.upd (fun xs z => by rw [i] at z; cases z) _ _ (hd q hq).1, (hd q hq).2⟩⟩
  refine ⟨p, dx, d.dv, B, W, kvs, es.map (·.1), rfl, i, hB, hW, by omega, by rw [List.length_map]; omega, nf, fun c => ?_, fun c c2 => kill fun a => a.2 c2, fun c c2 L H' nL o h1 h2 h3 => ?_⟩
  · have c : d.dead = true := c
    have e : d.killed = d := by obtain ⟨a, b, c, e, g⟩ := d; simp only at c; unfold AD.killed; simp_all
    exact kE (fun a => by rw [a.1] at c; cases c) H (Bar.refl _ _ _ _) (by rw [e]; exact hD0)
  · have kp : Keep H H' := fun t xs ht => by
      rw [o t (by
        simp only [List.mem_cons, List.not_mem_nil, or_false, not_or]
        exact ⟨ne_of ht i (by intro z; cases z), ne_of ht hB (by intro z; cases z), ne_of_none ht nL⟩)]
      exact ht
    refine kQ ⟨c, c2⟩ H' L nL (fun b u h n1 n2 n3 => by rw [o b (by simp [n1, n2, ne_of_none h nL])]; exact h) ⟨h1, stepped_nf (d := d.dv) nf, _, [], h2, ?_, ⟨h3, (fun e he => by cases he)⟩, ?_, rfl, (fun q hq => by cases hq)⟩
    · show Cont H' 64 (mergeK kvs (toKV (es.map (·.1)))) (setAll d.f d.ws)
      rw [hw]
      exact cont_merge (fun q hq => ⟨kp _ _ (hd q hq).1, (hd q hq).2⟩) (hc.keep kp)
    · have z := length_mergeK (toKV (es.map (·.1))) kvs
      have z2 : (toKV (es.map (·.1))).length = es.length := by unfold toKV; rw [List.length_map, List.length_map]
      show _ + 0 ≤ N
      omega
end
end K02
/-! Rules that the layer lacks: xs.extend(a tuple), any(a tuple of ints), told by two clauses, list(zip(xs, ys)) -/
namespace HK
open PySem PySem.Spec PyProof.Rows L2
theorem list_extend_tupW (l : Addr) (items : Array Value) (n : Nat) (b : Addr) (items2 : Array Value) (n2 : Nat) (dd : Option Addr) (sl : Array (Option Value)) (hs0 : ¬(!items.isEmpty && Builtin.List.listTooLong (items.size + items2.size)) = true) (hs1 : items.size ≤ sizeLine) (hs2 : items.size + items2.size ≤ sizeLine + 1) :
    Meets (Builtin.«list.extend» ⟨[.ref l, .ref b], []⟩) (fun _ R s => s.heap.get? l = some { cls := .type "list", dict := none, data := .seq items n, slots := #[] } ∧ s.heap.get? b = some { cls := .type "tuple", dict := dd, data := .seq items2 n2, slots := sl } ∧ R (.ok (.ret Value.none)) { s with heap := s.heap.update l (Obj.mapSeq fun x => x ++ items2), toks := s.toks }) :=
  .of_wp fun prog w A R s h => by
    obtain ⟨hp, g, d, tk, os⟩ := s; obtain ⟨hl, hb, h⟩ := h; have f1 := AutoSeq1.idx_int; have f2 := AutoSeq1.sub_tuple_tuple; have f3 := AutoSeq1.sub_list_list; have f4 := AutoSeq1.sub_tuple_list; have f5 := AutoSeq1.sub_list_tuple
    have hz' : (items ++ items2).size ≤ sizeLine + 1 := by rw [Array.size_append]; exact hs2
    wp_walk using (wpAny_updateSeq hl rfl (hz := hs1) (_hz' := hz')), wpAny_loadPart' hl, wpAny_loadPart' hb; exact ⟨_, rfl, h⟩
def rExtendT (K : PySem.W.Frag) : V → List V → Hp → VK → Prop := fun x vs H Q => ∃ l b xs zs, x = .ref l ∧ vs = [.ref b] ∧ H l = some (.lst xs) ∧ SqT K H b zs ∧ xs.length + zs.length ≤ sizeLine ∧ Q .non (upd H l (.lst (xs ++ zs)))
section
variable {X : Cx}
theorem mt_extendT : MtM X "list.extend" (rExtendT X.K) := by
  intro pins s σ H x vs v us Q I rx rv h
  obtain ⟨l, b, xs, zs, rfl, rfl, hH, hB, hz, q⟩ := h
  cases rx
  obtain ⟨u, rfl, ru⟩ := rv.one
  cases ru
  obtain ⟨z, its, n, r, hl, e⟩ := I.lstM hH
  obtain ⟨its2, r2, ⟨⟨cls, dd, data, sl⟩, e2, hc, n2, hd⟩, hz2⟩ := I.tuple hB
  simp only at hc hd
  subst hc hd
  have l2 : its2.length = zs.length := r2.length.symm
  have hsz : its.toArray.size + its2.toArray.size ≤ sizeLine := by rw [List.size_toArray, List.size_toArray]; omega
  have hlong : ¬ (!its.toArray.isEmpty && Builtin.List.listTooLong (its.toArray.size + its2.toArray.size)) = true := by
    rw [notLongL hsz, Bool.and_false]
    exact Bool.false_ne_true
  refine call_meets PySem.F.slot_list_extend ⟨_, e, rfl⟩ PySem.F.entry_list_extend (PySem.F.args_list_extend_2 _ _)
    (list_extend_tupW l its.toArray n b its2.toArray n2 dd sl hlong (by rw [List.size_toArray]; omega) (by omega)) ⟨e, e2, ?_⟩
  refine ⟨.non, _, I.lset (its' := its ++ its2) hH e (by simp) (r.append r2) ?_, rfl, q⟩
  rw [List.length_append]
  omega
theorem dpall_ints {K : PySem.W.Frag} {H : Hp} : ∀ ns : List Int, DpAll K H (ns.map V.int) (ns.map PyData.int)
  | [] => .nil
  | n :: r => .cons (.int n) (dpall_ints r)
theorem plain_ints : ∀ ns : List Int, PyData.plainAll (ns.map PyData.int) = true
  | [] => rfl
  | n :: r => by
    show PyData.plainAll (PyData.int n :: r.map PyData.int) = true
    rw [PyData.plainAll, plain_ints r]
    rfl
/-- any(t), t a tuple of ints -/
theorem call_anyT (hc : X.calm = true) : CallR X (.builtin "any") (fun xs H Q => ∃ (p : Addr) (ns : List Int), xs = [.ref p] ∧ SqT X.K H p (ns.map V.int) ∧ Q (.bl (ns.any fun n => n != 0)) H) := by
  intro pins s σ H xs us Q I r h
  obtain ⟨p, ns, rfl, hT, q⟩ := h
  obtain ⟨u, rfl, rx⟩ := vals1 r
  cases rx
  obtain ⟨its, rt, ht, hz⟩ := I.tuple hT
  obtain ⟨as, hr⟩ := Dp.readsAll I (ns.map PyData.int) (ns.map V.int) its (dpall_ints ns) rt
  refine PySem.W.any_tuple_data (I.ok.hd hc) ht hr (plain_ints ns) (fun x hx => ?_) fun h' tk hk => ?_
  · obtain ⟨n, _, rfl⟩ := List.mem_map.mp hx
    trivial
  · refine ⟨.bl _, H, I.kept hk, ?_, q⟩
    show _ = Value.bool _
    rw [List.any_map]
    rfl
end
/-! ### told by two clauses -/
/-- told: try: return a() / except x: return rx / except y: return ry -/
def TTold2 (K : PySem.W.Frag) (CX CY : Addr) (rx ry : Str) : (XK → Hp → VK → Prop) → Hp → VK → Prop := fun tl H Q =>
  tl (fun cls _ H' => ∃ b, PySem.W.exmOne K cls (.ref CX) = some b ∧ (b = true → Q (.str rx) H') ∧ (b = false → ∃ b2, PySem.W.exmOne K cls (.ref CY) = some b2 ∧ (b2 = true → Q (.str ry) H') ∧ (b2 = false → False))) H Q
open LamX in
theorem told_gives2 {X : Cx} {Ng : List Str} {x a e1 e2 q r1 r2 : Str} {sg : Scope} {g C1 C2 : Addr} {cdg : Value} {j k : Nat} {p1 p2 p3 p4 p5 p6 p7 p8 p9 p10 p11 p12 : Pos} (hge1 : sg.names.lookup e1 = some .globalImplicit) (hme1 : X.mg e1 = some (.ref C1)) (hde1 : (e1 == ("__debug__" : Str)) = false)
    (hge2 : sg.names.lookup e2 = some .globalImplicit) (hme2 : X.mg e2 = some (.ref C2)) (hde2 : (e2 == ("__debug__" : Str)) = false) (h0 : ∀ f : Addr, (L2.start Ng [V.ref f])[0]? = some (some (V.ref f))) :
    GivesTo X Ng x sg g cdg [.Try [.Return (some (.Call (.Name a p1) [] [] p2)) p3] [.ExceptHandler (some (.Name e1 p4)) none [.Return (some (.Constant (.str r1) j p5)) p6] p7, .ExceptHandler (some (.Name e2 p9)) none [.Return (some (.Constant (.str r2) k p10)) p11] p12] [] [] p8] a q (TTold2 X.K C1 C2 r1 r2) := by
  intro f c' s H Q tl act hc h
  have hg1 : Gl (cxOf C8.CX0 X.prog X.w X.K X.mg X.base Ng x sg g cdg X.A X.stack s H C8.E0).nox e1 := hge1
  have hg2 : Gl (cxOf C8.CX0 X.prog X.w X.K X.mg X.base Ng x sg g cdg X.A X.stack s H C8.E0).nox e2 := hge2
  refine ⟨_, pss_one (ps_try_many (X := (cxOf C8.CX0 X.prog X.w X.K X.mg X.base Ng x sg g cdg X.A X.stack s H C8.E0).nox)
      (tb := fun W D σ H => ∃ Ech : XK, (∀ cls d σ' H', Ech cls d H' → W cls d σ' H') ∧ σ[0]? = some (some (.ref f)) ∧ H c' = some (CodeO c' q) ∧ tl Ech H D.rt)
      rfl rfl L2.takes0 (fun W pn xe tk _ => ?_) (HdsOk.cons (c := .ref C1) ⟨hg1, hde1, .inl hme1⟩ (fun a oe cls d pn _ _ => pss_one (ps_ret pe_str)) (HdsOk.cons (c := .ref C2) ⟨hg2, hde2, .inl hme2⟩ (fun a oe cls d pn _ _ => pss_one (ps_ret pe_str)) HdsOk.nil))), ?_⟩
  · refine ⟨fun pins s' σ H' D I h' => ?_⟩
    obtain ⟨Ech, hW, h1, h2, h3⟩ := h'
    have hp := act W pn xe Ech p1 p2 tk hW
    have hq := pss_one (ps_ret (pos := p3) hp)
    exact hq.run pins s' σ H' D I ⟨h1, h2, h3⟩
  · exact ⟨fun cls _ H' => ∃ b, PySem.W.exmOne X.K cls (.ref C1) = some b ∧ (b = true → Q (.str r1) H') ∧ (b = false → ∃ b2, PySem.W.exmOne X.K cls (.ref C2) = some b2 ∧ (b2 = true → Q (.str r2) H') ∧ (b2 = false → False)),
      fun cls d σ' H' ⟨b, e1, e2, e3⟩ => ⟨b, e1, fun hb a _ => e2 hb, fun hb => by obtain ⟨b2, f1, f2, f3⟩ := e3 hb; exact ⟨b2, f1, fun hb2 a _ => f2 hb2, fun hb2 => f3 hb2⟩⟩, h0 f, hc, h⟩
end HK
/-! list(zip(xs, ys)) over two lists -/
namespace HZ
open PySem PySem.Calls PyProof.Rows PyProof.V PySem.Spec PySem.W
section
variable {prog : Program} {w : World} {A : Around} {E : Value → Shared → Prop} {s : Shared}
variable {z TI TO i1 i2 l1 l2 : Addr} {xs ys : Array Value}
/-- the zip after i turns, its tuples kept by the list at S -/
def ZSt (z TI TO i1 i2 l1 l2 : Addr) (xs ys : Array Value) (S : Addr) (i : Nat) (h : Heap) : Prop :=
  IsPair h TI (.ref i1) (.ref i2) ∧ h.IsListIter i1 l1 i ∧ h.IsListIter i2 l2 i ∧ h.IsList l1 xs ∧ h.IsList l2 ys ∧
    ((IsZip h z TI TO .none ∧ ∃ a b, IsPair h TO a b) ∨ ∃ T f oT, IsZipHeld h z TI TO T f ∧ h.get? T = some oT ∧ T ≠ z ∧ T ≠ i1 ∧ T ≠ i2 ∧ T ≠ S)
structure Off7 (z TI TO i1 i2 l1 l2 S : Addr) : Prop where
  z : z ≠ S
  TI : TI ≠ S
  TO : TO ≠ S
  i1 : i1 ≠ S
  i2 : i2 ≠ S
  l1 : l1 ≠ S
  l2 : l2 ≠ S
theorem ZSt.keep {S : Addr} {i : Nat} {h h' : Heap} (x : ZSt z TI TO i1 i2 l1 l2 xs ys S i h) (n : Off7 z TI TO i1 i2 l1 l2 S) (hk : ∀ b o, b ≠ S → h.get? b = some o → h'.get? b = some o) : ZSt z TI TO i1 i2 l1 l2 xs ys S i h' := by
  obtain ⟨hTI, h1, h2, hl1, hl2, hz⟩ := x
  refine ⟨hk _ _ n.TI hTI, h1.at fun o e => hk _ o n.i1 e, h2.at fun o e => hk _ o n.i2 e, hl1.at fun o e => hk _ o n.l1 e, hl2.at fun o e => hk _ o n.l2 e, ?_⟩
  rcases hz with ⟨hz, a, b, hTO⟩ | ⟨T, f, oT, hz, hT, r1, r2, r3, r4⟩
  · exact .inl ⟨hk _ _ n.z hz, a, b, hk _ _ n.TO hTO⟩
  · exact .inr ⟨T, f, oT, hk _ _ n.z hz, hk _ _ r4 hT, r1, r2, r3, r4⟩
abbrev wrZ (z TO i1 i2 : Addr) : List Addr := [z, TO, i1, i2]
theorem z_item (D : ZipApart z TI TO i1 i2 l1 l2) {S : Addr} {i : Nat} {x y : Value} {Q : Option Value → Shared → Prop} (st : ZSt z TI TO i1 i2 l1 l2 xs ys S i s.heap) (hS : S < s.heap.objs.size) (ex : xs[i]? = some x) (ey : ys[i]? = some y)
    (hQ : ∀ h', ZSt z TI TO i1 i2 l1 l2 xs ys S (i + 1) h' → IsPair h' s.heap.objs.size x y → h'.objs.size = s.heap.objs.size + 1 → (∀ b o, b ∉ wrZ z TO i1 i2 → s.heap.get? b = some o → h'.get? b = some o) → Q (some (.ref s.heap.objs.size)) { s with heap := h' }) :
    wpAny (model prog w) A (pyNext (.ref z)) Q E s := by
  obtain ⟨hTI, h1, h2, hl1, hl2, hz⟩ := st
  have lt : ∀ {c o}, s.heap.get? c = some o → s.heap.objs.size ≠ c := fun e => Nat.ne_of_gt (Heap.lt_size e)
  have n1 : s.heap.objs.size ≠ i1 := let ⟨_, e, _⟩ := h1; lt e
  have n2 : s.heap.objs.size ≠ i2 := let ⟨_, e, _⟩ := h2; lt e
  rcases hz with ⟨hz, a, b, hTO⟩ | ⟨T, f, oT, hz, hT, r1, r2, r3, r4⟩
  · refine wpAny_pyNext_zip_item D hz hTI hTO h1 h2 hl1 hl2 ex ey fun h' a1 a2 a3 a4 a5 a6 hk => ?_
    exact hQ h' ⟨hk _ _ D.TIz D.TITO D.TIi1 D.TIi2 hTI, a3, a4, hl1.at fun o e => hk _ o D.l1z D.l1TO D.l1i1 D.l1i2 e, hl2.at fun o e => hk _ o D.l2z D.l2TO D.l2i1 D.l2i2 e,
        .inr ⟨s.heap.objs.size, false, _, a1, a5, lt hz, n1, n2, Nat.ne_of_gt hS⟩⟩ a5 a6
      fun c o hc e => hk c o (fun x => hc (by simp [x])) (fun x => hc (by simp [x])) (fun x => hc (by simp [x])) (fun x => hc (by simp [x])) e
  · refine wpAny_pyNext_zip_item_held D hz hT hTI h1 h2 hl1 hl2 ex ey fun h' a1 a3 a4 a5 a6 hk => ?_
    exact hQ h' ⟨hk _ _ D.TIz D.TIi1 D.TIi2 hTI, a3, a4, hl1.at fun o e => hk _ o D.l1z D.l1i1 D.l1i2 e, hl2.at fun o e => hk _ o D.l2z D.l2i1 D.l2i2 e,
        .inr ⟨T, true, oT, a1, hk _ _ r1 r2 r3 hT, r1, r2, r3, r4⟩⟩ a5 a6
      fun c o hc e => hk c o (fun x => hc (by simp [x])) (fun x => hc (by simp [x])) (fun x => hc (by simp [x])) e
theorem z_done (hA : A.handled = none) (D : ZipApart z TI TO i1 i2 l1 l2) {S : Addr} {i : Nat} {Q : Option Value → Shared → Prop} (st : ZSt z TI TO i1 i2 l1 l2 xs ys S i s.heap) (hend : xs[i]? = none ∨ ys[i]? = none)
    (hQ : ∀ h', (∀ b o, b ∉ wrZ z TO i1 i2 → s.heap.get? b = some o → h'.get? b = some o) → Q none { s with heap := h' }) : wpAny (model prog w) A (pyNext (.ref z)) Q E s := by
  obtain ⟨hTI, h1, h2, hl1, hl2, hz⟩ := st
  rcases hz with ⟨hz, a, b, hTO⟩ | ⟨T, f, oT, hz, hT, r1, r2, r3, r4⟩
  · exact wpAny_pyNext_zip_end hA D hz hTI hTO h1 h2 hl1 hl2 hend fun h' hk => hQ h' fun c o hc e => hk c o (fun x => hc (by simp [x])) (fun x => hc (by simp [x])) (fun x => hc (by simp [x])) (fun x => hc (by simp [x])) e
  · exact wpAny_pyNext_zip_end_held hA D hz hT hTI h1 h2 hl1 hl2 hend fun h' hk => hQ h' fun c o hc e => hk c o (fun x => hc (by simp [x])) (fun x => hc (by simp [x])) (fun x => hc (by simp [x])) e
structure ZG (xs ys : Array Value) (lo : Addr) (h : Heap) (as : List Addr) : Prop where
  rise : as.Pairwise (· < ·)
  above : ∀ a ∈ as, lo < a
  pairs : ∀ (j : Nat) (a : Addr), as[j]? = some a → ∃ x y, xs[j]? = some x ∧ ys[j]? = some y ∧ IsPair h a x y
theorem ZG.there {lo : Addr} {h : Heap} {as : List Addr} (g : ZG xs ys lo h as) {a : Addr} (ha : a ∈ as) : a < h.objs.size := by
  obtain ⟨j, hj⟩ := List.mem_iff_getElem?.mp ha
  obtain ⟨_, _, _, _, e⟩ := g.pairs j a hj
  exact Heap.lt_size e
end
section
variable {prog : Program} {w : World} {A : Around} {s : Shared} {R : Result → Shared → Prop}
variable {z TI TO i1 i2 l1 l2 : Addr} {xs ys : Array Value}
theorem z_loop {S n : Nat} (hh : A.handled = none) (D : ZipApart z TI TO i1 i2 l1 l2) (n7 : Off7 z TI TO i1 i2 l1 l2 S) (hw : ∀ b ∈ wrZ z TO i1 i2, b < S) (hx : xs.size = n) (hy : ys.size = n) (hn : n ≤ sizeLine) (res : Value) {h₁ : Heap}
    (hR : ∀ h' tk acc c as, (∀ b o, b ≠ S → b ∉ wrZ z TO i1 i2 → h₁.get? b = some o → h'.get? b = some o) → h'.get? S = some { cls := .type "list", dict := none, data := .seq acc c, slots := #[] } → as.length = n → ZG xs ys S h' as →
      acc.toList = as.map Value.ref → R (.ok (.ret res)) { s with heap := h', toks := tk }) :
    ∀ (k i : Nat) (h : Heap) (tk c : Nat) (acc : Array Value) (as : List Addr), n - i = k → i ≤ n → ZSt z TI TO i1 i2 l1 l2 xs ys S i h → (∀ b o, b ≠ S → b ∉ wrZ z TO i1 i2 → h₁.get? b = some o → h.get? b = some o) →
      h.get? S = some { cls := .type "list", dict := none, data := .seq acc c, slots := #[] } → acc.toList = as.map Value.ref → as.length = i → ZG xs ys S h as →
      codeAny (model prog w) A (.builtin "list.extend.loop" ⟨[.ref S, .ref z, res], []⟩) R { s with heap := h, toks := tk } := by
  have hSw : S ∉ wrZ z TO i1 i2 := fun hm => Nat.lt_irrefl _ (hw S hm)
  intro k
  induction k with
  | zero =>
    intro i h tk c acc as hk hi hst hkeep hS hacc hal hG
    have hin : i = n := by omega
    refine codeAny_builtin PySem.F.entry_extend_loop ?_
    rw [Around.under_plainId PySem.F.plain_extend_loop _]
    show wpAny _ A.in1 (pyNext (.ref z) >>= _) _ _ _
    refine wpAny_bind (z_done (s := { s with heap := h, toks := tk }) (A := A.in1) hh D hst (.inl (Array.getElem?_eq_none (by omega))) fun h' he => ?_)
    refine wpAny_pure (hR h' tk acc c as (fun b o h1 h2 e => he b o h2 (hkeep b o h1 h2 e)) (he S _ hSw hS) (by omega) ⟨hG.rise, hG.above, fun j a hj => ?_⟩ hacc)
    obtain ⟨x, y, e1, e2, e3⟩ := hG.pairs j a hj
    exact ⟨x, y, e1, e2, he a _ (fun hm => Nat.lt_irrefl _ (Nat.lt_trans (hw a hm) (hG.above a (List.mem_of_getElem? hj)))) e3⟩
  | succ k ih =>
    intro i h tk c acc as hk hi hst hkeep hS hacc hal hG
    have hlt : i < n := by omega
    have ex : xs[i]? = some (xs[i]'(by omega)) := Array.getElem?_eq_getElem (by omega)
    have ey : ys[i]? = some (ys[i]'(by omega)) := Array.getElem?_eq_getElem (by omega)
    generalize xs[i]'(by omega) = x at ex
    generalize ys[i]'(by omega) = y at ey
    have hsz : acc.size = i := by rw [← Array.length_toList, hacc, List.length_map, hal]
    refine codeAny_builtin PySem.F.entry_extend_loop ?_
    rw [Around.under_plainId PySem.F.plain_extend_loop _]
    show wpAny _ A.in1 (pyNext (.ref z) >>= _) _ _ _
    refine wpAny_bind (z_item (s := { s with heap := h, toks := tk }) (S := S) D hst (Heap.lt_size hS) ex ey fun h' hst' ht hz hkp => ?_)
    dsimp only at ht hz hkp ⊢
    have hS' := hkp S _ hSw hS
    have up : ∀ b o, b ≠ S → h'.get? b = some o → (h'.update S (Obj.mapSeq (·.push (Value.ref h.objs.size)))).get? b = some o := fun b o hb e => (Heap.get?_update_other _ _ (Ne.symm hb)).trans e
    have hSl : S < h.objs.size := Heap.lt_size hS
    show wpAny _ A.in1 (updateSeq S (·.push (Value.ref h.objs.size)) >>= _) _ _ _
    refine wpAny_bind ?_
    refine wpAny_updateSeq hS' rfl (wpAny_pure ⟨plainId_quiet PySem.F.plain_extend_loop _, ih (i + 1) _ tk _ (acc.push (Value.ref h.objs.size)) (as ++ [h.objs.size]) (by omega) hlt (hst'.keep n7 up)
      (fun b o h1 h2 e => up b o h1 (hkp b o h2 (hkeep b o h1 h2 e))) (Heap.get?_update_self _ hS' rfl) (by rw [Array.toList_push, hacc, List.map_append]; rfl) (by rw [List.length_append, hal]; rfl) ⟨?_, ?_, ?_⟩⟩) (by rw [hsz]; omega) (by show (acc.push (Value.ref h.objs.size)).size ≤ sizeLine + 1; rw [Array.size_push, hsz]; omega)
    · refine List.pairwise_append.mpr ⟨hG.rise, List.pairwise_singleton _ _, fun a ha b hb => ?_⟩
      rw [List.mem_singleton.mp hb]
      exact hG.there ha
    · intro a ha
      rcases List.mem_append.mp ha with ha | ha
      · exact hG.above a ha
      · rw [List.mem_singleton.mp ha]; exact hSl
    · intro j b hj
      rcases Nat.lt_trichotomy j as.length with h1 | h1 | h1
      · rw [List.getElem?_append_left h1] at hj
        obtain ⟨x', y', e1, e2, e3⟩ := hG.pairs j b hj
        have hb := hG.above b (List.mem_of_getElem? hj)
        exact ⟨x', y', e1, e2, up b _ (Nat.ne_of_gt hb) (hkp b _ (fun hm => Nat.lt_irrefl _ (Nat.lt_trans (hw b hm) hb)) e3)⟩
      · subst h1
        have hb : h.objs.size = b := by simpa using hj
        subst hb
        exact ⟨x, y, by rw [hal]; exact ex, by rw [hal]; exact ey, up _ _ (Nat.ne_of_gt hSl) ht⟩
      · have hnone : (as ++ [h.objs.size])[j]? = none := List.getElem?_eq_none (by rw [List.length_append, List.length_singleton]; omega)
        rw [hnone] at hj; cases hj
end
theorem zip_no_len : typeLookup (.type "zip") "__len__" = pure none := by rw [typeLookup_type, builtinLookup_eq_fast]; kernel_rfl
theorem zip_no_hint : typeLookup (.type "zip") "__length_hint__" = pure none := by rw [typeLookup_type, builtinLookup_eq_fast]; kernel_rfl
section
variable {prog : Program} {w : World} {A : Around} {E : Value → Shared → Prop} {s : Shared}
variable {z TI TO i1 i2 l1 l2 : Addr} {xs ys : Array Value}
theorem z_extend {R : Result → Shared → Prop} {n : Nat} (hh : A.handled = none) (D : ZipApart z TI TO i1 i2 l1 l2) (S : Addr) (n7 : Off7 z TI TO i1 i2 l1 l2 S) (hw : ∀ b ∈ wrZ z TO i1 i2, b < S) (hx : xs.size = n) (hy : ys.size = n) (hn : n ≤ sizeLine) (res : Value) (c₀ : Nat)
    (hz : IsZip s.heap z TI TO .none) (hst : ZSt z TI TO i1 i2 l1 l2 xs ys S 0 s.heap) (hS : s.heap.get? S = some { cls := .type "list", data := .seq #[] c₀ })
    (hR : ∀ h' tk acc c as, (∀ b o, b ≠ S → b ∉ wrZ z TO i1 i2 → s.heap.get? b = some o → h'.get? b = some o) → h'.get? S = some { cls := .type "list", dict := none, data := .seq acc c, slots := #[] } → as.length = n → ZG xs ys S h' as →
      acc.toList = as.map Value.ref → R (.ok (.ret res)) { s with heap := h', toks := tk }) :
    wpAny (model prog w) A.in1 (Builtin.List.listExtendWith (.ref S) (.ref z) res)
      (fun fin s' => match fin with | .done f => R (.ok f) s' | .again c' => c'.quiet = true ∧ codeAny (model prog w) A c' R s') (fun e s' => R (.error e) s') s := by
  have hT : s.TypeIs (.ref z) "zip" := ⟨_, hz, rfl⟩
  unfold Builtin.List.listExtendWith
  refine wpAny_bind (wpAny_typeOf hT ?_)
  have h1 : Builtin.List.listSameRef (.ref S) (.ref z) = false := by simp [Builtin.List.listSameRef, n7.z.symm]
  have h2 : (Value.type "zip" == Value.type "list") = false := by decide
  have h3 : (Value.type "zip" == Value.type "tuple") = false := by decide
  simp only [h1, h2, h3, Bool.or_false, Bool.false_eq_true, if_false]
  refine wpAny_bind (wpAny_pyIter_zip hz ?_)
  refine wpAny_bind (wpAny_holding ?_)
  unfold Builtin.List.listLengthHint
  refine wpAny_bind (wpAny_specialOf hT zip_no_len ?_)
  show wpAny _ A.in1 (specialOf (Value.ref z) (Str.ofString "__length_hint__") >>= _) _ _ _
  refine wpAny_bind (wpAny_specialOf hT zip_no_hint ?_)
  refine wpAny_pure ?_
  show wpAny _ A.in1 (rule "list.extend.makes-room" >>= fun _ => Builtin.List.listTouch (.ref S) >>= fun _ =>
    again (.builtin "list.extend.loop" ⟨[.ref S, .ref z, res], []⟩)) _ _ _
  refine wpAny_bind (wpAny_rule ?_)
  refine wpAny_bind ?_
  show wpAny _ A.in1 (updateSeq S (·.push .none) >>= fun _ => updateSeq S (·.pop)) _ _ _
  refine wpAny_bind (wpAny_updateSeq hS rfl ?_)
  have hS₂ := Heap.get?_update_self (Obj.mapSeq (·.push Value.none)) hS rfl
  refine wpAny_updateSeq (hz := by seq_fits) hS₂ rfl ?_
  have hS₃ := Heap.get?_update_self (Obj.mapSeq (·.pop)) hS₂ rfl
  have oth : ∀ b o, b ≠ S → s.heap.get? b = some o → ((s.heap.update S (Obj.mapSeq (·.push Value.none))).update S (Obj.mapSeq (·.pop))).get? b = some o :=
    fun b o hb e => (Heap.get?_update_other _ _ (Ne.symm hb)).trans ((Heap.get?_update_other _ _ (Ne.symm hb)).trans e)
  refine wpAny_pure ⟨plainId_quiet PySem.F.plain_extend_loop _, ?_⟩
  exact z_loop (s := s) (h₁ := s.heap) hh D n7 hw hx hy hn res hR n 0 _ s.toks _ #[] [] (Nat.sub_zero _) (Nat.zero_le _) (hst.keep n7 oth) (fun b o hb _ e => oth b o hb e) hS₃ rfl rfl ⟨List.Pairwise.nil, (fun _ ha => nomatch ha), (fun j a hj => by simp at hj)⟩
theorem z_init {R : Result → Shared → Prop} {n : Nat} (hh : A.handled = none) (D : ZipApart z TI TO i1 i2 l1 l2) (S : Addr) (n7 : Off7 z TI TO i1 i2 l1 l2 S) (hw : ∀ b ∈ wrZ z TO i1 i2, b < S) (hx : xs.size = n) (hy : ys.size = n) (hn : n ≤ sizeLine)
    (hz : IsZip s.heap z TI TO .none) (hst : ZSt z TI TO i1 i2 l1 l2 xs ys S 0 s.heap) (hS : s.heap.get? S = some { cls := .type "list", data := .seq #[] })
    (hR : ∀ h' tk acc c as, (∀ b o, b ≠ S → b ∉ wrZ z TO i1 i2 → s.heap.get? b = some o → h'.get? b = some o) → h'.get? S = some { cls := .type "list", dict := none, data := .seq acc c, slots := #[] } → as.length = n → ZG xs ys S h' as →
      acc.toList = as.map Value.ref → R (.ok (.ret .none)) { s with heap := h', toks := tk }) :
    wpAny (model prog w) A.in1 (Builtin.«list.__init__» ⟨[.ref S, .ref z], []⟩)
      (fun fin s' => match fin with | .done f => R (.ok f) s' | .again c' => c'.quiet = true ∧ codeAny (model prog w) A c' R s') (fun e s' => R (.error e) s') s := by
  show wpAny _ _ (do let old ← Builtin.List.listItems (.ref S); Builtin.List.listUpdate (.ref S) (fun _ => #[]); letGo old.toList.reverse; Builtin.List.listExtendWith (.ref S) (.ref z) .none) _ _ s
  refine wpAny_bind ?_
  unfold Builtin.List.listItems
  refine wpAny_bind (wpAny_seqItems hS rfl (wpAny_pure ?_))
  show wpAny _ _ (updateSeq S (fun _ => #[]) >>= fun _ => letGo (#[] : Array Value).toList.reverse >>= fun _ => Builtin.List.listExtendWith (.ref S) (.ref z) .none) _ _ s
  refine wpAny_bind (wpAny_updateSeq hS rfl ?_)
  have hS₂ := Heap.get?_update_self (Obj.mapSeq (fun _ => (#[] : Array Value))) hS rfl
  have oth : ∀ b o, b ≠ S → s.heap.get? b = some o → (s.heap.update S (Obj.mapSeq (fun _ => (#[] : Array Value)))).get? b = some o :=
    fun b o hb e => (Heap.get?_update_other _ _ (Ne.symm hb)).trans e
  refine wpAny_bind (wpAny_letGo ?_)
  refine z_extend hh D S n7 hw hx hy hn .none _ (oth _ _ n7.z hz) (hst.keep n7 oth) hS₂ fun h' tk acc c as hk hS' hl hG hacc => ?_
  exact hR h' tk acc c as (fun b o hb h2 e => hk b o hb h2 (oth b o hb e)) hS' hl hG hacc
theorem z_call {n : Nat} {Q : Value → Shared → Prop} (hh : A.handled = none) (D : ZipApart z TI TO i1 i2 l1 l2) (lt : z < s.heap.objs.size ∧ TI < s.heap.objs.size ∧ TO < s.heap.objs.size ∧ i1 < s.heap.objs.size ∧ i2 < s.heap.objs.size ∧ l1 < s.heap.objs.size ∧ l2 < s.heap.objs.size) (hx : xs.size = n) (hy : ys.size = n) (hn : n ≤ sizeLine)
    (hz : IsZip s.heap z TI TO .none) (hst : ∀ S, ZSt z TI TO i1 i2 l1 l2 xs ys S 0 s.heap)
    (hQ : ∀ h' tk acc c as, (∀ b o, b ∉ wrZ z TO i1 i2 → s.heap.get? b = some o → h'.get? b = some o) → h'.get? s.heap.objs.size = some { cls := .type "list", dict := none, data := .seq acc c, slots := #[] } → as.length = n → ZG xs ys s.heap.objs.size h' as →
      acc.toList = as.map Value.ref → Q (.ref s.heap.objs.size) { s with heap := h', toks := tk }) :
    wpAny (model prog w) A (call (.type "list") [.ref z]) Q E s := by
  refine callType_codes (Q₁ := fun obj s₁ => obj = .ref s.heap.objs.size ∧ s₁ = { s with heap := s.heap.push { cls := .type "list", data := .seq #[] } }) PySem.F.called_list (PySem.F.typeCall_list_1 _) PySem.F.entry_list_init
    (code_list_new _ ⟨rfl, rfl⟩) fun obj s₁ h₁ => ?_
  obtain ⟨rfl, rfl⟩ := h₁
  have hS : (s.heap.push { cls := .type "list", data := .seq #[] }).get? s.heap.objs.size = some { cls := .type "list", data := .seq #[] } := Heap.get?_push_size _ rfl
  have ne : ∀ {a : Addr}, a < s.heap.objs.size → a ≠ s.heap.objs.size := fun h => Nat.ne_of_lt h
  have n7 : Off7 z TI TO i1 i2 l1 l2 s.heap.objs.size := ⟨ne lt.1, ne lt.2.1, ne lt.2.2.1, ne lt.2.2.2.1, ne lt.2.2.2.2.1, ne lt.2.2.2.2.2.1, ne lt.2.2.2.2.2.2⟩
  have hw : ∀ b ∈ wrZ z TO i1 i2, b < s.heap.objs.size := fun b hb => by
    simp only [wrZ, List.mem_cons, List.not_mem_nil, or_false] at hb
    rcases hb with e | e | e | e <;> rw [e]
    · exact lt.1
    · exact lt.2.2.1
    · exact lt.2.2.2.1
    · exact lt.2.2.2.2.1
  refine ⟨⟨_, hS, rfl⟩, PySem.F.args_list_init_2 _ _, z_init (A := A.in1) hh D _ n7 hw hx hy hn (Heap.get?_push_of_some _ hz) ((hst _).keep n7 fun b o _ e => Heap.get?_push_of_some _ e) hS (fun h' tk acc c as hk hS' hl hG hacc => ?_)⟩
  exact ⟨rfl, hQ h' tk acc c as (fun b o hb e => hk b o (Nat.ne_of_lt (Heap.lt_size e)) hb (Heap.get?_push_of_some _ e)) hS' hl hG hacc⟩
end
end HZ
namespace HZ
open PySem PySem.Spec PyProof.Rows L2
def put2 : Hp → List Addr → List (V × V) → Hp
  | H, a :: as, p :: l => put2 (upd H a (.tup [p.1, p.2])) as l
  | H, _, _ => H
theorem put2_off {b : Addr} : ∀ (as : List Addr) (l : List (V × V)) (H : Hp), b ∉ as → put2 H as l b = H b
  | [], _, _, _ => rfl
  | _ :: _, [], _, _ => rfl
  | a :: as, p :: l, H, h => by
    show put2 (upd H a (.tup [p.1, p.2])) as l b = H b
    rw [put2_off as l _ (fun z => h (List.mem_cons_of_mem _ z)), upd_ne (fun z => h (by rw [z]; exact List.mem_cons_self))]
theorem put2_at : ∀ (as : List Addr) (l : List (V × V)) (H : Hp), as.length = l.length → as.Nodup → Paired (fun (t : Addr) (p : V × V) => put2 H as l t = some (.tup [p.1, p.2])) as l
  | [], [], _, _, _ => .nil
  | [], _ :: _, _, h, _ => by cases h
  | _ :: _, [], _, h, _ => by cases h
  | a :: as, p :: l, H, h, hn => by
    have hn' := List.nodup_cons.mp hn
    have ih := put2_at as l (upd H a (.tup [p.1, p.2])) (Nat.succ.inj h) hn'.2
    refine .cons ?_ ih
    show put2 (upd H a (.tup [p.1, p.2])) as l a = some (.tup [p.1, p.2])
    rw [put2_off as l _ hn'.1, upd_same]
theorem vals_at : ∀ {xs : List V} {us : List Value}, Vals xs us → ∀ {i : Nat} {x : V} {u : Value}, xs[i]? = some x → us[i]? = some u → RelV x u
  | _, _, .cons h t, 0, x, u, e1, e2 => by
    obtain rfl := Option.some.inj e1
    obtain rfl := Option.some.inj e2
    exact h
  | _, _, .cons h t, i + 1, x, u, e1, e2 => vals_at t e1 e2
  | _, _, .nil, i, x, u, e1, e2 => by cases e1
def tListZip (K : PySem.W.Frag) (ta : TA) : TE := fun σ H Q => ta σ H fun vs H1 => ∃ a b xs ys, vs = [.ref a, .ref b] ∧ SqL K H1 a xs ∧ SqL K H1 b ys ∧ xs.length = ys.length ∧
  ∀ (H' : Hp) (p : Addr) (ts : List Addr), Same H1 H' → H1 p = none → (∀ t ∈ ts, H1 t = none) → p ∉ ts → H' p = some (.lst (ts.map V.ref)) → Paired (fun (t : Addr) (q : V × V) => H' t = some (.tup [q.1, q.2])) ts (xs.zip ys) → Q (.ref p) H'
section
variable {X : Cx} {pins : List (Addr × Obj)} {σ : L2.St} {H : Hp} {s : Shared}
theorem z_laid {h' : Heap} {tk S : Nat} {xs ys : List V} {its its2 : List Value} {acc : Array Value} {c : Nat} {as : List Addr} (I : Inv X pins σ H s) (hz : xs.length ≤ sizeLine) (exy : xs.length = ys.length) (rx : Vals xs its) (ry : Vals ys its2) (hS0 : s.heap.objs.size ≤ S)
    (hk : ∀ b o, s.heap.get? b = some o → h'.get? b = some o) (hS : h'.get? S = some { cls := .type "list", dict := none, data := .seq acc c, slots := #[] }) (hl : as.length = xs.length) (hG : ZG its.toArray its2.toArray S h' as) (hacc : acc.toList = as.map Value.ref) :
    ∃ H' : Hp, Same H H' ∧ H S = none ∧ (∀ t ∈ as, H t = none) ∧ S ∉ as ∧ H' S = some (.lst (as.map V.ref)) ∧ Paired (fun (t : Addr) (q : V × V) => H' t = some (.tup [q.1, q.2])) as (xs.zip ys) ∧ Inv X pins σ H' { s with heap := h', toks := tk } := by
  have hSn : S ∉ as := fun z => Nat.lt_irrefl _ (hG.above _ z)
  have nd : as.Nodup := List.Pairwise.imp (fun {a b} (h : a < b) => Nat.ne_of_lt h) hG.rise
  have low0 : ∀ t ∈ as, s.heap.objs.size ≤ t := fun t ht => Nat.le_of_lt (Nat.lt_of_le_of_lt hS0 (hG.above t ht))
  have new : ∀ t ∈ as, H t = none := fun t ht => I.hok.fresh (low0 t ht)
  have newS : H S = none := I.hok.fresh hS0
  have lz : as.length = (xs.zip ys).length := by rw [List.length_zip]; omega
  have atP := put2_at as (xs.zip ys) (upd H S (.lst (as.map V.ref))) lz nd
  have off : ∀ b, b ∉ as → b ≠ S → put2 (upd H S (.lst (as.map V.ref))) as (xs.zip ys) b = H b := fun b h1 h2 => by rw [put2_off as _ _ h1, upd_ne h2]
  have low : ∀ b o, s.heap.get? b = some o → b ∉ as ∧ b ≠ S := fun b o e => ⟨fun z => absurd (Heap.lt_size e) (Nat.not_lt.mpr (low0 b z)), fun z => absurd (Heap.lt_size e) (Nat.not_lt.mpr (by rw [z]; exact hS0))⟩
  have kp : Same H (put2 (upd H S (.lst (as.map V.ref))) as (xs.zip ys)) := fun b u e => by
    rw [off b (fun z => by rw [new b z] at e; cases e) (fun z => by rw [z, newS] at e; cases e)]
    exact e
  have eS : put2 (upd H S (.lst (as.map V.ref))) as (xs.zip ys) S = some (.lst (as.map V.ref)) := by rw [put2_off as _ _ hSn, upd_same]
  refine ⟨put2 (upd H S (.lst (as.map V.ref))) as (xs.zip ys), kp, newS, new, hSn, eS, atP, ?_⟩
  refine I.call' (ch := []) rfl ⟨fun b o q _ _ _ => hk b o q, fun b o q _ _ _ => ⟨o.slots, hk b o q⟩, fun b o q n _ => ?_, fun b o q _ => ⟨o, hk b o q⟩, fun b xs q => kp b _ q, fun b o u q => kp b _ q, fun b ps q => ⟨#[], by rw [kp b _ q]; simp⟩⟩ (fun b u q => ?_) I.bare fun b z => by simp at z
  · obtain ⟨z1, z2⟩ := low b o q
    rw [off b z1 z2]
    exact n
  · by_cases hb : b ∈ as
    · obtain ⟨j, pk, e1, e2, e3⟩ := LiI.paired_ix atP hb
      rw [e3] at q
      cases q
      obtain ⟨x, y, f1, f2, f3⟩ := hG.pairs j b e1
      have g := List.getElem?_zip_eq_some.mp (show (xs.zip ys)[j]? = some (pk.1, pk.2) from e2)
      have rk : RelV pk.1 x := vals_at rx g.1 (by simpa using f1)
      have rk2 : RelV pk.2 y := vals_at ry g.2 (by simpa using f2)
      exact ⟨by show 2 ≤ sizeLine; decide, [x, y], .cons rk (.cons rk2 .nil), ⟨_, f3, rfl, _, rfl⟩⟩
    · by_cases hb2 : b = S
      · rw [hb2] at q ⊢
        rw [eS] at q
        cases q
        refine ⟨by rw [List.length_map]; omega, acc.toList, c, by rw [hacc]; exact LiI.vals_refs as, ?_⟩
        rw [Array.toArray_toList]
        exact hS
      · rw [off b hb hb2] at q
        exact (I.hok b u q).stay (fun d v _ y => hk d v y) (fun d y => kp d _ y) fun d xs y => kp d _ y
end
section
variable {X : Cx} {e e2 : Expr} {ta : TA} {p p2 cpos pos : Pos}
/-- list(zip(e, e2)), two lists of one length -/
theorem pe_listZip (hc : X.calm = true) (ha : PA X [e, e2] ta) (hg : Gl X "list") (hm : X.mg "list" = none) (hv : bootBuiltins "list" = some (.type "list")) (hgz : Gl X "zip") (hmz : X.mg "zip" = none)
    (hs2 : starEach [e, e2] X.env = (false, eval e X.env) :: starEach [e2] X.env := by rfl) (hpl : (backTo cpos (starEach [e2] X.env)).any (·.1) = false := by rfl)
    (hs : starEach [.Call (.Name "zip" p2) [e, e2] [] cpos] X.env = (false, eval (.Call (.Name "zip" p2) [e, e2] [] cpos) X.env) :: starEach [] X.env := by rfl) :
    PE X (.Call (.Name "list" p) [.Call (.Name "zip" p2) [e, e2] [] cpos] [] pos) (tListZip X.K ta) := by
  refine ⟨fun pins s σ H Q I hq => ?_⟩
  refine wpAny_Call_Name_kw (ld_blt I hg hm hv ?_)
  refine PyProof.Rows.callWith_type1 ?_ hs rfl
  rw [hs]
  show wpAny _ _ (spliced ((false, eval (.Call (.Name "zip" p2) [e, e2] [] cpos) X.env) :: backTo pos (starEach [] X.env))) _ _ s
  refine Calls.spliced_cons ?_
  refine wpAny_Call_Name_kw (ld_blt I hgz hmz PyProof.Rows.boot_zip (PyProof.Rows.callWith_type1 (thn (ha.run cpos pins s σ H _ I hq) fun us s1 ⟨vs, H1, I1, r1, q1⟩ => ?_) hs2 hpl))
  obtain ⟨a, b, xs, ys, ex, hqx, hqy, exy, q⟩ := q1
  subst ex
  cases r1 with
  | cons r rr =>
    cases rr with
    | cons r' rr =>
      cases rr
      cases r
      cases r'
      obtain ⟨its, rv, p1, z1⟩ := I1.list hqx
      obtain ⟨its2, rv2, p2, z2⟩ := I1.list hqy
      have la : a < s1.heap.objs.size := p1.lt
      have lb : b < s1.heap.objs.size := p2.lt
      refine call_zip_2 p1.isList p2.isList fun h' hz hTI hTO h1 h2 hsz hk => ?_
      refine Calls.spliced_nil ?_
      have l1 := rv.length
      have l2 := rv2.length
      have D := PySem.W.ktu_apart s1.heap.objs.size a b la lb
      refine z_call (s := { s1 with heap := h' }) (n := its.toArray.size) (I1.ok.hd hc) D (by show _ < h'.objs.size ∧ _ < h'.objs.size ∧ _ < h'.objs.size ∧ _ < h'.objs.size ∧ _ < h'.objs.size ∧ _ < h'.objs.size ∧ _ < h'.objs.size; rw [hsz]; refine ⟨?_, ?_, ?_, ?_, ?_, ?_, ?_⟩ <;> (first | exact Nat.add_lt_add_left (by decide) _ | exact Nat.lt_add_of_pos_right (by decide) | exact Nat.lt_of_lt_of_le la (Nat.le_add_right _ _) | exact Nat.lt_of_lt_of_le lb (Nat.le_add_right _ _)))
        rfl (by rw [List.size_toArray, List.size_toArray]; omega) (by rw [List.size_toArray]; omega) hz (fun S => ⟨hTI, h1, h2, p1.isList.at fun o e => hk _ o e, p2.isList.at fun o e => hk _ o e, .inl ⟨hz, _, _, hTO⟩⟩) fun h'' tk acc c as hk2 hS hl hG hacc => ?_
      have hk3 : ∀ b o, s1.heap.get? b = some o → h''.get? b = some o := fun b o e => by
        refine hk2 b o (fun hm => ?_) (hk b o e)
        have hb := Heap.lt_size e
        simp only [wrZ, List.mem_cons, List.not_mem_nil, or_false] at hm
        rcases hm with z | z | z | z <;> rw [z] at hb
        · exact Nat.lt_irrefl _ (Nat.lt_of_le_of_lt (Nat.le_add_right _ _) hb)
        · exact Nat.lt_irrefl _ (Nat.lt_of_le_of_lt (Nat.le_add_right _ _) hb)
        · exact Nat.lt_irrefl _ hb
        · exact Nat.lt_irrefl _ (Nat.lt_of_le_of_lt (Nat.le_add_right _ _) hb)
      obtain ⟨H', k1, k2, k3, k4, k5, k6, J⟩ := z_laid (tk := tk) I1 z1 exy rv rv2 (by show s1.heap.objs.size ≤ h'.objs.size; rw [hsz]; exact Nat.le_add_right _ _) hk3 hS (by rw [hl, List.size_toArray]; omega) hG hacc
      exact ⟨.ref _, H', J, rfl, q H' _ as k1 k2 k3 k4 k5 k6⟩
end
end HZ
/-! list(zip(xs, ys)), a tuple and a list -/
namespace HZT
open PySem PySem.Calls PyProof.Rows PyProof.V PySem.Spec PySem.W HZ
section
variable {prog : Program} {w : World} {A : Around} {E : Value → Shared → Prop} {s : Shared}
/-- while an earlier pair is out the zip makes each pair anew -/
theorem held_item {z TI TO T i1 i2 l1 l2 : Addr} {f : Bool} {oT : Obj} {k1 k2 : Nat} {xs ys : Array Value} {x y : Value} {Q : Option Value → Shared → Prop} (D : ZipApart z TI TO i1 i2 l1 l2)
    (hz : IsZipHeld s.heap z TI TO T f) (hT : s.heap.get? T = some oT) (hTI : IsPair s.heap TI (.ref i1) (.ref i2))
    (h1 : s.heap.IsTupleIter i1 l1 k1) (h2 : s.heap.IsListIter i2 l2 k2) (hl1 : s.heap.IsTuple l1 xs) (hl2 : s.heap.IsList l2 ys) (hx : xs[k1]? = some x) (hy : ys[k2]? = some y)
    (hQ : ∀ h', IsZipHeld h' z TI TO T true → h'.IsTupleIter i1 l1 (k1 + 1) → h'.IsListIter i2 l2 (k2 + 1) → IsPair h' s.heap.objs.size x y → h'.objs.size = s.heap.objs.size + 1 →
      (∀ c o, c ≠ z → c ≠ i1 → c ≠ i2 → s.heap.get? c = some o → h'.get? c = some o) → Q (some (.ref s.heap.objs.size)) { s with heap := h' }) :
    wpAny (model prog w) A (pyNext (.ref z)) Q E s := by
  have hTy : s.TypeIs (.ref z) "zip" := ⟨_, hz, rfl⟩
  unfold pyNext
  refine wpAny_bind (wpAny_attempt (wpAny_callSpecial?_slot (name := Str.ofString "__next__") hTy F.slot_zip_next (wpAny_call_entry F.slot_zip_next hTy F.entry_zip_next ?_ (F.args_zip_next_1 _))))
  show wpAny _ _ (field (.ref z) 2 >>= _) _ _ _
  refine wpAny_bind (wpAny_field hz rfl (x := .bool false) rfl ?_)
  show wpAny _ _ (field (.ref z) 3 >>= _) _ _ _
  refine wpAny_bind (wpAny_field hz rfl (x := .ref TI) rfl (wpAny_bind (wpAny_seqItems hTI rfl ?_)))
  show wpAny _ _ (Builtin.SmallTypes.ownedTupleIsFree (.ref z) >>= _) _ _ _
  refine wpAny_bind (wpAny_tupleHeld_zip hz hT fun a za sa => ?_)
  simp only [Bool.false_eq_true, if_false]
  refine wpAny_bind ?_
  rw [← Array.forIn_toList]
  simp only [List.forIn_cons, List.forIn_nil]
  refine wpAny_bind (wpAny_bind (wpAny_holding ?_))
  show wpAny _ _ (Builtin.SmallTypes.nextOf (.ref i1) >>= _) _ _ _
  refine wpAny_bind (RZ.nextOf_tuple_item (s := { s with heap := a }) (h1.at fun o e => sa.extBut _ o D.i1z e) (hl1.at fun o e => sa.extBut _ o D.l1z e) hx fun b ib sb => wpAny_pure (wpAny_pure ?_))
  refine wpAny_bind (wpAny_bind (wpAny_holding ?_))
  show wpAny _ _ (Builtin.SmallTypes.nextOf (.ref i2) >>= _) _ _ _
  refine wpAny_bind (wpAny_nextOf_list_item (s := { s with heap := b }) (h2.at fun o e => sb.extBut _ o D.i12.symm (sa.extBut _ o D.i2z e)) (hl2.at fun o e => sb.extBut _ o D.l2i1 (sa.extBut _ o D.l2z e)) hy fun c ic sc => wpAny_pure (wpAny_pure (wpAny_pure ?_)))
  show wpAny _ _ (newTuple [x, y] >>= _) _ _ _
  refine wpAny_bind (wpAny_newTuple (wpAny_pure ⟨_, rfl, wpAny_pure ?_⟩))
  have ec : c.objs.size = s.heap.objs.size := by rw [sc.1, sb.1, sa.1]
  have keep : ∀ q o, q ≠ z → q ≠ i1 → q ≠ i2 → s.heap.get? q = some o → c.get? q = some o := fun q o c1 c2 c3 e => sc.extBut _ _ c3 (sb.extBut _ _ c2 (sa.extBut _ _ c1 e))
  have zc : IsZipHeld c z TI TO T true := sc.extBut _ _ D.i2z.symm (sb.extBut _ _ D.i1z.symm za)
  have pc : IsPair (c.push { cls := .type "tuple", data := .seq #[x, y] }) c.objs.size x y := Heap.get?_push_size _ rfl
  have nc : (c.push { cls := .type "tuple", data := .seq #[x, y] }).objs.size = c.objs.size + 1 := Heap.size_push ..
  show Q (some (.ref c.objs.size)) _
  rw [ec] at pc nc ⊢
  exact hQ _ (Heap.get?_push_of_some _ zc) ((ib.at fun o e => sc.extBut _ o D.i12 e).at fun o e => Heap.get?_push_of_some _ e) (ic.at fun o e => Heap.get?_push_of_some _ e) pc nc fun q o c1 c2 c3 e => Heap.get?_push_of_some _ (keep q o c1 c2 c3 e)
theorem held_end {z TI TO T i1 i2 l1 l2 : Addr} {f : Bool} {oT : Obj} {k1 : Nat} {xs : Array Value} {Q : Option Value → Shared → Prop} (hh : A.handled = none) (D : ZipApart z TI TO i1 i2 l1 l2)
    (hz : IsZipHeld s.heap z TI TO T f) (hT : s.heap.get? T = some oT) (hTI : IsPair s.heap TI (.ref i1) (.ref i2))
    (h1 : s.heap.IsTupleIter i1 l1 k1) (hl1 : s.heap.IsTuple l1 xs) (hend : xs[k1]? = none)
    (hQ : ∀ h', (∀ c o, c ≠ z → c ≠ i1 → c ≠ i2 → s.heap.get? c = some o → h'.get? c = some o) → Q none { s with heap := h' }) : wpAny (model prog w) A (pyNext (.ref z)) Q E s := by
  have hTy : s.TypeIs (.ref z) "zip" := ⟨_, hz, rfl⟩
  unfold pyNext
  refine wpAny_bind (wpAny_attempt (wpAny_callSpecial?_slot (name := Str.ofString "__next__") hTy F.slot_zip_next (wpAny_call_entry F.slot_zip_next hTy F.entry_zip_next ?_ (F.args_zip_next_1 _))))
  show wpAny _ _ (field (.ref z) 2 >>= _) _ _ _
  refine wpAny_bind (wpAny_field hz rfl (x := .bool false) rfl ?_)
  show wpAny _ _ (field (.ref z) 3 >>= _) _ _ _
  refine wpAny_bind (wpAny_field hz rfl (x := .ref TI) rfl (wpAny_bind (wpAny_seqItems hTI rfl ?_)))
  show wpAny _ _ (Builtin.SmallTypes.ownedTupleIsFree (.ref z) >>= _) _ _ _
  refine wpAny_bind (wpAny_tupleHeld_zip hz hT fun a za sa => ?_)
  simp only [Bool.false_eq_true, if_false]
  refine wpAny_bind ?_
  rw [← Array.forIn_toList]
  simp only [List.forIn_cons, List.forIn_nil]
  refine wpAny_bind (wpAny_bind (wpAny_holding ?_))
  show wpAny _ _ (Builtin.SmallTypes.nextOf (.ref i1) >>= _) _ _ _
  refine wpAny_bind (RZ.nextOf_tuple_end (s := { s with heap := a }) hh (h1.at fun o e => sa.extBut _ o D.i1z e) (hl1.at fun o e => sa.extBut _ o D.l1z e) hend fun b e sb he => ?_)
  obtain ⟨o, ho, hc⟩ := he
  refine wpAny_bind (wpAny_isInstance (T := "StopIteration") (b := true) ⟨o, ho, hc⟩ isSubtype_stop ?_)
  exact wpAny_pure (hQ _ fun c o c1 c2 _ x => sb _ _ c2 (sa.extBut _ _ c1 x))
theorem sep2 {z TI TO i1 i2 l1 l2 : Addr} (D : ZipApart z TI TO i1 i2 l1 l2) : ZipSep2 z TI TO i1 i2 [i1, l1] [i2, l2] where
  TIz := D.TIz
  TOz := D.TOz
  TITO := D.TITO
  TIi1 := D.TIi1
  mem1 := by simp
  zf1 := by simp [D.i1z.symm, D.l1z.symm]
  Tf1 := by simp [D.TOi1, D.l1TO.symm]
  TIi2 := D.TIi2
  mem2 := by simp
  zf2 := by simp [D.i2z.symm, D.l2z.symm]
  Tf2 := by simp [D.TOi2, D.l2TO.symm]
  sep1_2 := by simp [D.i12, D.l2i1.symm]
  sep2_1 := by simp [D.i12.symm, D.l1i2.symm]
/-! ### made -/
abbrev m1 (h : Heap) (l1 : Addr) : Heap := h.push { cls := .type "tuple_iterator", data := .fields #[.ref l1, .int 0 0] }
abbrev m2 (h : Heap) (l1 l2 : Addr) : Heap := (m1 h l1).push { cls := .type "list_iterator", data := .fields #[.ref l2, .int 0 0] }
abbrev m3 (h : Heap) (l1 l2 : Addr) : Heap := (m2 h l1 l2).push { cls := .type "tuple", data := .seq #[.ref h.objs.size, .ref (m1 h l1).objs.size] }
abbrev m4 (h : Heap) (l1 l2 : Addr) : Heap := (m3 h l1 l2).push { cls := .type "tuple", data := .seq #[.none, .none] }
abbrev m5 (h : Heap) (l1 l2 : Addr) : Heap := (m4 h l1 l2).push { cls := .type "zip", data := .fields #[.none, .bool false, .bool false, .ref (m2 h l1 l2).objs.size, .ref (m3 h l1 l2).objs.size] }
theorem meets_new (l1 l2 : Addr) (xs ys : Array Value) :
    Meets (Builtin.«zip.__new__» ⟨[.type "zip", .ref l1, .ref l2], []⟩) (fun _ R s => s.heap.IsTuple l1 xs ∧ s.heap.IsList l2 ys ∧
      R (.ok (.ret (.ref (m4 s.heap l1 l2).objs.size))) { s with heap := m5 s.heap l1 l2 }) :=
  .of_wp fun prog w A R s h => by
    obtain ⟨hp, g, d, tk, os⟩ := s; obtain ⟨hl1, hl2, h⟩ := h
    have hsub := sub_zip
    have hL1 : Heap.IsTuple (Shared.heap ⟨hp, g, d, tk, os⟩) l1 xs := hl1
    have hL2 : Heap.IsList (Shared.heap ⟨hp.push { cls := .type "tuple_iterator", data := .fields #[.ref l1, .int 0 0] }, g, d, tk, os⟩) l2 ys := Heap.IsList.push hl2 _
    wp_walk using wpAny_pyIter_tuple hL1, wpAny_pyIter_list hL2
    exact ⟨_, rfl, h⟩
theorem call_TL {l1 l2 : Addr} {xs ys : Array Value} {Q : Value → Shared → Prop} (hl1 : s.heap.IsTuple l1 xs) (hl2 : s.heap.IsList l2 ys)
    (h : ∀ h', IsZip h' (s.heap.objs.size + 4) (s.heap.objs.size + 2) (s.heap.objs.size + 3) .none → IsPair h' (s.heap.objs.size + 2) (.ref s.heap.objs.size) (.ref (s.heap.objs.size + 1)) →
      IsPair h' (s.heap.objs.size + 3) .none .none → h'.IsTupleIter s.heap.objs.size l1 0 → h'.IsListIter (s.heap.objs.size + 1) l2 0 → h'.objs.size = s.heap.objs.size + 5 →
      (∀ c o, s.heap.get? c = some o → h'.get? c = some o) → Q (.ref (s.heap.objs.size + 4)) { s with heap := h' }) :
    wpAny (model prog w) A (call (.type "zip") [.ref l1, .ref l2]) Q E s := by
  refine callType_new F.called_zip (by decide) (F.typeCall_zip_2 _ _) (F.newCall_zip_2 _ _) (fun obj => F.args_object_init_3 obj _ _) F.entry_zip_new (meets_new l1 l2 xs ys) ⟨hl1, hl2, ?_⟩
  have z1 : (m1 s.heap l1).objs.size = s.heap.objs.size + 1 := Heap.size_push ..
  have z2 : (m2 s.heap l1 l2).objs.size = s.heap.objs.size + 2 := by rw [Heap.size_push, z1]
  have z3 : (m3 s.heap l1 l2).objs.size = s.heap.objs.size + 3 := by rw [Heap.size_push, z2]
  have z4 : (m4 s.heap l1 l2).objs.size = s.heap.objs.size + 4 := by rw [Heap.size_push, z3]
  have z5 : (m5 s.heap l1 l2).objs.size = s.heap.objs.size + 5 := by rw [Heap.size_push, z4]
  have up : ∀ (h : Heap) (o o' : Obj) (c : Addr), h.get? c = some o → (h.push o').get? c = some o := fun h o o' c e => Heap.get?_push_of_some _ e
  have g5 : (m5 s.heap l1 l2).get? (m4 s.heap l1 l2).objs.size = some _ := Heap.get?_push_size _ rfl
  have g4 : (m5 s.heap l1 l2).get? (m3 s.heap l1 l2).objs.size = some _ := up _ _ _ _ (Heap.get?_push_size _ rfl)
  have g3 : (m5 s.heap l1 l2).get? (m2 s.heap l1 l2).objs.size = some _ := up _ _ _ _ (up _ _ _ _ (Heap.get?_push_size _ rfl))
  have g2 : (m5 s.heap l1 l2).get? (m1 s.heap l1).objs.size = some _ := up _ _ _ _ (up _ _ _ _ (up _ _ _ _ (Heap.get?_push_size _ rfl)))
  have g1 : (m5 s.heap l1 l2).get? s.heap.objs.size = some _ := up _ _ _ _ (up _ _ _ _ (up _ _ _ _ (up _ _ _ _ (Heap.get?_push_size _ rfl))))
  show _ ∧ _
  rw [z2, z3, z4] at g5
  rw [z1, z2] at g3
  rw [z3] at g4
  rw [z1] at g2
  rw [z4]
  exact ⟨⟨_, g5, rfl⟩, h _ g5 g3 g4 ⟨_, g1, rfl, rfl⟩ ⟨_, g2, rfl, rfl⟩ z5 fun c o x => up _ _ _ _ (up _ _ _ _ (up _ _ _ _ (up _ _ _ _ (up _ _ _ _ x))))⟩
end
section
variable {prog : Program} {w : World} {A : Around} {E : Value → Shared → Prop} {s : Shared}
variable {z TI TO i1 i2 l1 l2 : Addr} {xs ys : Array Value}
/-- the zip after i turns, its tuples kept by the list at S -/
def ZSt (z TI TO i1 i2 l1 l2 : Addr) (xs ys : Array Value) (S : Addr) (i : Nat) (h : Heap) : Prop :=
  IsPair h TI (.ref i1) (.ref i2) ∧ h.IsTupleIter i1 l1 i ∧ h.IsListIter i2 l2 i ∧ h.IsTuple l1 xs ∧ h.IsList l2 ys ∧
    ((IsZip h z TI TO .none ∧ ∃ a b, IsPair h TO a b) ∨ ∃ T f oT, IsZipHeld h z TI TO T f ∧ h.get? T = some oT ∧ T ≠ z ∧ T ≠ i1 ∧ T ≠ i2 ∧ T ≠ S)
theorem ZSt.keep {S : Addr} {i : Nat} {h h' : Heap} (x : ZSt z TI TO i1 i2 l1 l2 xs ys S i h) (n : Off7 z TI TO i1 i2 l1 l2 S) (hk : ∀ b o, b ≠ S → h.get? b = some o → h'.get? b = some o) : ZSt z TI TO i1 i2 l1 l2 xs ys S i h' := by
  obtain ⟨hTI, h1, h2, hl1, hl2, hz⟩ := x
  refine ⟨hk _ _ n.TI hTI, h1.at fun o e => hk _ o n.i1 e, h2.at fun o e => hk _ o n.i2 e, hl1.at fun o e => hk _ o n.l1 e, hl2.at fun o e => hk _ o n.l2 e, ?_⟩
  rcases hz with ⟨hz, a, b, hTO⟩ | ⟨T, f, oT, hz, hT, r1, r2, r3, r4⟩
  · exact .inl ⟨hk _ _ n.z hz, a, b, hk _ _ n.TO hTO⟩
  · exact .inr ⟨T, f, oT, hk _ _ n.z hz, hk _ _ r4 hT, r1, r2, r3, r4⟩
theorem z_item (hA : A.handled = none) (D : ZipApart z TI TO i1 i2 l1 l2) {S : Addr} {i : Nat} {x y : Value} {Q : Option Value → Shared → Prop} (st : ZSt z TI TO i1 i2 l1 l2 xs ys S i s.heap) (hS : S < s.heap.objs.size) (ex : xs[i]? = some x) (ey : ys[i]? = some y)
    (hQ : ∀ h' tk, ZSt z TI TO i1 i2 l1 l2 xs ys S (i + 1) h' → IsPair h' s.heap.objs.size x y → h'.objs.size = s.heap.objs.size + 1 → (∀ b o, b ∉ wrZ z TO i1 i2 → s.heap.get? b = some o → h'.get? b = some o) → Q (some (.ref s.heap.objs.size)) { s with heap := h', toks := tk }) :
    wpAny (model prog w) A (pyNext (.ref z)) Q E s := by
  obtain ⟨hTI, h1, h2, hl1, hl2, hz⟩ := st
  have lt : ∀ {c o}, s.heap.get? c = some o → s.heap.objs.size ≠ c := fun e => Nat.ne_of_gt (Heap.lt_size e)
  have n1 : s.heap.objs.size ≠ i1 := let ⟨_, e, _⟩ := h1; lt e
  have n2 : s.heap.objs.size ≠ i2 := let ⟨_, e, _⟩ := h2; lt e
  rcases hz with ⟨hz, a, b, hTO⟩ | ⟨T, f, oT, hz, hT, r1, r2, r3, r4⟩
  · refine wpAny_pyNext_zipD2_item (sep2 D) (Draws.tuple (prog := prog) (w := w) (A := A.in1) hA i1 l1 D.l1i1 xs) (Draws.list (prog := prog) (w := w) (A := A.in1) hA i2 l2 D.l2i2 ys) hz hTI hTO ⟨h1, hl1⟩ ⟨h2, hl2⟩ (Array.getElem?_eq_some_iff.mp ex).1 (Array.getElem?_eq_some_iff.mp ey).1 fun x1 x2 h' tk y1 y2 a1 a2 a3 a4 a5 a6 hk => ?_
    rw [ex] at y1
    rw [ey] at y2
    obtain rfl := Option.some.inj y1
    obtain rfl := Option.some.inj y2
    exact hQ h' tk ⟨hk _ _ D.TIz D.TITO D.TIi1 D.TIi2 hTI, a3.1, a4.1, a3.2, a4.2, .inr ⟨s.heap.objs.size, false, _, a1, a5, lt hz, n1, n2, Nat.ne_of_gt hS⟩⟩ a5 a6
      fun c o hc e => hk c o (fun x => hc (by simp [x])) (fun x => hc (by simp [x])) (fun x => hc (by simp [x])) (fun x => hc (by simp [x])) e
  · refine held_item D hz hT hTI h1 h2 hl1 hl2 ex ey fun h' a1 a3 a4 a5 a6 hk => ?_
    exact hQ h' s.toks ⟨hk _ _ D.TIz D.TIi1 D.TIi2 hTI, a3, a4, hl1.at fun o e => hk _ o D.l1z D.l1i1 D.l1i2 e, hl2.at fun o e => hk _ o D.l2z D.l2i1 D.l2i2 e,
        .inr ⟨T, true, oT, a1, hk _ _ r1 r2 r3 hT, r1, r2, r3, r4⟩⟩ a5 a6
      fun c o hc e => hk c o (fun x => hc (by simp [x])) (fun x => hc (by simp [x])) (fun x => hc (by simp [x])) e
theorem z_done (hA : A.handled = none) (D : ZipApart z TI TO i1 i2 l1 l2) {S : Addr} {i : Nat} {Q : Option Value → Shared → Prop} (st : ZSt z TI TO i1 i2 l1 l2 xs ys S i s.heap) (hx : i = xs.size) (hy : i = ys.size)
    (hQ : ∀ h' tk, (∀ b o, b ∉ wrZ z TO i1 i2 → s.heap.get? b = some o → h'.get? b = some o) → Q none { s with heap := h', toks := tk }) : wpAny (model prog w) A (pyNext (.ref z)) Q E s := by
  obtain ⟨hTI, h1, h2, hl1, hl2, hz⟩ := st
  rcases hz with ⟨hz, a, b, hTO⟩ | ⟨T, f, oT, hz, hT, r1, r2, r3, r4⟩
  · exact wpAny_pyNext_zipD2_end (sep2 D) (Draws.tuple (prog := prog) (w := w) (A := A.in1) hA i1 l1 D.l1i1 xs) (Draws.list (prog := prog) (w := w) (A := A.in1) hA i2 l2 D.l2i2 ys) hz hTI hTO ⟨h1, hl1⟩ ⟨h2, hl2⟩ (by omega) (by omega) (.inl hx) fun h' tk hk => hQ h' tk fun c o hc e => hk c o (fun x => hc (by simp [x])) (fun x => hc (by simp [x])) (fun x => hc (by simp [x])) (fun x => hc (by simp [x])) e
  · exact held_end hA D hz hT hTI h1 hl1 (Array.getElem?_eq_none (by omega)) fun h' hk => hQ h' s.toks fun c o hc e => hk c o (fun x => hc (by simp [x])) (fun x => hc (by simp [x])) (fun x => hc (by simp [x])) e
end
section
variable {prog : Program} {w : World} {A : Around} {s : Shared} {R : Result → Shared → Prop}
variable {z TI TO i1 i2 l1 l2 : Addr} {xs ys : Array Value}
theorem z_loop {S n : Nat} (hh : A.handled = none) (D : ZipApart z TI TO i1 i2 l1 l2) (n7 : Off7 z TI TO i1 i2 l1 l2 S) (hw : ∀ b ∈ wrZ z TO i1 i2, b < S) (hx : xs.size = n) (hy : ys.size = n) (hn : n ≤ sizeLine) (res : Value) {h₁ : Heap}
    (hR : ∀ h' tk acc c as, (∀ b o, b ≠ S → b ∉ wrZ z TO i1 i2 → h₁.get? b = some o → h'.get? b = some o) → h'.get? S = some { cls := .type "list", dict := none, data := .seq acc c, slots := #[] } → as.length = n → ZG xs ys S h' as →
      acc.toList = as.map Value.ref → R (.ok (.ret res)) { s with heap := h', toks := tk }) :
    ∀ (k i : Nat) (h : Heap) (tk c : Nat) (acc : Array Value) (as : List Addr), n - i = k → i ≤ n → ZSt z TI TO i1 i2 l1 l2 xs ys S i h → (∀ b o, b ≠ S → b ∉ wrZ z TO i1 i2 → h₁.get? b = some o → h.get? b = some o) →
      h.get? S = some { cls := .type "list", dict := none, data := .seq acc c, slots := #[] } → acc.toList = as.map Value.ref → as.length = i → ZG xs ys S h as →
      codeAny (model prog w) A (.builtin "list.extend.loop" ⟨[.ref S, .ref z, res], []⟩) R { s with heap := h, toks := tk } := by
  have hSw : S ∉ wrZ z TO i1 i2 := fun hm => Nat.lt_irrefl _ (hw S hm)
  intro k
  induction k with
  | zero =>
    intro i h tk c acc as hk hi hst hkeep hS hacc hal hG
    have hin : i = n := by omega
    refine codeAny_builtin PySem.F.entry_extend_loop ?_
    rw [Around.under_plainId PySem.F.plain_extend_loop _]
    show wpAny _ A.in1 (pyNext (.ref z) >>= _) _ _ _
    refine wpAny_bind (z_done (s := { s with heap := h, toks := tk }) (A := A.in1) hh D hst (by omega) (by omega) fun h' tk2 he => ?_)
    refine wpAny_pure (hR h' tk2 acc c as (fun b o h1 h2 e => he b o h2 (hkeep b o h1 h2 e)) (he S _ hSw hS) (by omega) ⟨hG.rise, hG.above, fun j a hj => ?_⟩ hacc)
    obtain ⟨x, y, e1, e2, e3⟩ := hG.pairs j a hj
    exact ⟨x, y, e1, e2, he a _ (fun hm => Nat.lt_irrefl _ (Nat.lt_trans (hw a hm) (hG.above a (List.mem_of_getElem? hj)))) e3⟩
  | succ k ih =>
    intro i h tk c acc as hk hi hst hkeep hS hacc hal hG
    have hlt : i < n := by omega
    have ex : xs[i]? = some (xs[i]'(by omega)) := Array.getElem?_eq_getElem (by omega)
    have ey : ys[i]? = some (ys[i]'(by omega)) := Array.getElem?_eq_getElem (by omega)
    generalize xs[i]'(by omega) = x at ex
    generalize ys[i]'(by omega) = y at ey
    have hsz : acc.size = i := by rw [← Array.length_toList, hacc, List.length_map, hal]
    refine codeAny_builtin PySem.F.entry_extend_loop ?_
    rw [Around.under_plainId PySem.F.plain_extend_loop _]
    show wpAny _ A.in1 (pyNext (.ref z) >>= _) _ _ _
    refine wpAny_bind (z_item (s := { s with heap := h, toks := tk }) (A := A.in1) (S := S) hh D hst (Heap.lt_size hS) ex ey fun h' tk2 hst' ht hz hkp => ?_)
    dsimp only at ht hz hkp ⊢
    have hS' := hkp S _ hSw hS
    have up : ∀ b o, b ≠ S → h'.get? b = some o → (h'.update S (Obj.mapSeq (·.push (Value.ref h.objs.size)))).get? b = some o := fun b o hb e => (Heap.get?_update_other _ _ (Ne.symm hb)).trans e
    have hSl : S < h.objs.size := Heap.lt_size hS
    show wpAny _ A.in1 (updateSeq S (·.push (Value.ref h.objs.size)) >>= _) _ _ _
    refine wpAny_bind ?_
    refine wpAny_updateSeq hS' rfl (wpAny_pure ⟨plainId_quiet PySem.F.plain_extend_loop _, ih (i + 1) _ tk2 _ (acc.push (Value.ref h.objs.size)) (as ++ [h.objs.size]) (by omega) hlt (hst'.keep n7 up)
      (fun b o h1 h2 e => up b o h1 (hkp b o h2 (hkeep b o h1 h2 e))) (Heap.get?_update_self _ hS' rfl) (by rw [Array.toList_push, hacc, List.map_append]; rfl) (by rw [List.length_append, hal]; rfl) ⟨?_, ?_, ?_⟩⟩) (by rw [hsz]; omega) (by show (acc.push (Value.ref h.objs.size)).size ≤ sizeLine + 1; rw [Array.size_push, hsz]; omega)
    · refine List.pairwise_append.mpr ⟨hG.rise, List.pairwise_singleton _ _, fun a ha b hb => ?_⟩
      rw [List.mem_singleton.mp hb]
      exact hG.there ha
    · intro a ha
      rcases List.mem_append.mp ha with ha | ha
      · exact hG.above a ha
      · rw [List.mem_singleton.mp ha]; exact hSl
    · intro j b hj
      rcases Nat.lt_trichotomy j as.length with h1 | h1 | h1
      · rw [List.getElem?_append_left h1] at hj
        obtain ⟨x', y', e1, e2, e3⟩ := hG.pairs j b hj
        have hb := hG.above b (List.mem_of_getElem? hj)
        exact ⟨x', y', e1, e2, up b _ (Nat.ne_of_gt hb) (hkp b _ (fun hm => Nat.lt_irrefl _ (Nat.lt_trans (hw b hm) hb)) e3)⟩
      · subst h1
        have hb : h.objs.size = b := by simpa using hj
        subst hb
        exact ⟨x, y, by rw [hal]; exact ex, by rw [hal]; exact ey, up _ _ (Nat.ne_of_gt hSl) ht⟩
      · have hnone : (as ++ [h.objs.size])[j]? = none := List.getElem?_eq_none (by rw [List.length_append, List.length_singleton]; omega)
        rw [hnone] at hj; cases hj
end
section
variable {prog : Program} {w : World} {A : Around} {E : Value → Shared → Prop} {s : Shared}
variable {z TI TO i1 i2 l1 l2 : Addr} {xs ys : Array Value}
theorem z_extend {R : Result → Shared → Prop} {n : Nat} (hh : A.handled = none) (D : ZipApart z TI TO i1 i2 l1 l2) (S : Addr) (n7 : Off7 z TI TO i1 i2 l1 l2 S) (hw : ∀ b ∈ wrZ z TO i1 i2, b < S) (hx : xs.size = n) (hy : ys.size = n) (hn : n ≤ sizeLine) (res : Value) (c₀ : Nat)
    (hz : IsZip s.heap z TI TO .none) (hst : ZSt z TI TO i1 i2 l1 l2 xs ys S 0 s.heap) (hS : s.heap.get? S = some { cls := .type "list", data := .seq #[] c₀ })
    (hR : ∀ h' tk acc c as, (∀ b o, b ≠ S → b ∉ wrZ z TO i1 i2 → s.heap.get? b = some o → h'.get? b = some o) → h'.get? S = some { cls := .type "list", dict := none, data := .seq acc c, slots := #[] } → as.length = n → ZG xs ys S h' as →
      acc.toList = as.map Value.ref → R (.ok (.ret res)) { s with heap := h', toks := tk }) :
    wpAny (model prog w) A.in1 (Builtin.List.listExtendWith (.ref S) (.ref z) res)
      (fun fin s' => match fin with | .done f => R (.ok f) s' | .again c' => c'.quiet = true ∧ codeAny (model prog w) A c' R s') (fun e s' => R (.error e) s') s := by
  have hT : s.TypeIs (.ref z) "zip" := ⟨_, hz, rfl⟩
  unfold Builtin.List.listExtendWith
  refine wpAny_bind (wpAny_typeOf hT ?_)
  have h1 : Builtin.List.listSameRef (.ref S) (.ref z) = false := by simp [Builtin.List.listSameRef, n7.z.symm]
  have h2 : (Value.type "zip" == Value.type "list") = false := by decide
  have h3 : (Value.type "zip" == Value.type "tuple") = false := by decide
  simp only [h1, h2, h3, Bool.or_false, Bool.false_eq_true, if_false]
  refine wpAny_bind (wpAny_pyIter_zip hz ?_)
  refine wpAny_bind (wpAny_holding ?_)
  unfold Builtin.List.listLengthHint
  refine wpAny_bind (wpAny_specialOf hT zip_no_len ?_)
  show wpAny _ A.in1 (specialOf (Value.ref z) (Str.ofString "__length_hint__") >>= _) _ _ _
  refine wpAny_bind (wpAny_specialOf hT zip_no_hint ?_)
  refine wpAny_pure ?_
  show wpAny _ A.in1 (rule "list.extend.makes-room" >>= fun _ => Builtin.List.listTouch (.ref S) >>= fun _ =>
    again (.builtin "list.extend.loop" ⟨[.ref S, .ref z, res], []⟩)) _ _ _
  refine wpAny_bind (wpAny_rule ?_)
  refine wpAny_bind ?_
  show wpAny _ A.in1 (updateSeq S (·.push .none) >>= fun _ => updateSeq S (·.pop)) _ _ _
  refine wpAny_bind (wpAny_updateSeq hS rfl ?_)
  have hS₂ := Heap.get?_update_self (Obj.mapSeq (·.push Value.none)) hS rfl
  refine wpAny_updateSeq (hz := by seq_fits) hS₂ rfl ?_
  have hS₃ := Heap.get?_update_self (Obj.mapSeq (·.pop)) hS₂ rfl
  have oth : ∀ b o, b ≠ S → s.heap.get? b = some o → ((s.heap.update S (Obj.mapSeq (·.push Value.none))).update S (Obj.mapSeq (·.pop))).get? b = some o :=
    fun b o hb e => (Heap.get?_update_other _ _ (Ne.symm hb)).trans ((Heap.get?_update_other _ _ (Ne.symm hb)).trans e)
  refine wpAny_pure ⟨plainId_quiet PySem.F.plain_extend_loop _, ?_⟩
  exact z_loop (s := s) (h₁ := s.heap) hh D n7 hw hx hy hn res hR n 0 _ s.toks _ #[] [] (Nat.sub_zero _) (Nat.zero_le _) (hst.keep n7 oth) (fun b o hb _ e => oth b o hb e) hS₃ rfl rfl ⟨List.Pairwise.nil, (fun _ ha => nomatch ha), (fun j a hj => by simp at hj)⟩
theorem z_init {R : Result → Shared → Prop} {n : Nat} (hh : A.handled = none) (D : ZipApart z TI TO i1 i2 l1 l2) (S : Addr) (n7 : Off7 z TI TO i1 i2 l1 l2 S) (hw : ∀ b ∈ wrZ z TO i1 i2, b < S) (hx : xs.size = n) (hy : ys.size = n) (hn : n ≤ sizeLine)
    (hz : IsZip s.heap z TI TO .none) (hst : ZSt z TI TO i1 i2 l1 l2 xs ys S 0 s.heap) (hS : s.heap.get? S = some { cls := .type "list", data := .seq #[] })
    (hR : ∀ h' tk acc c as, (∀ b o, b ≠ S → b ∉ wrZ z TO i1 i2 → s.heap.get? b = some o → h'.get? b = some o) → h'.get? S = some { cls := .type "list", dict := none, data := .seq acc c, slots := #[] } → as.length = n → ZG xs ys S h' as →
      acc.toList = as.map Value.ref → R (.ok (.ret .none)) { s with heap := h', toks := tk }) :
    wpAny (model prog w) A.in1 (Builtin.«list.__init__» ⟨[.ref S, .ref z], []⟩)
      (fun fin s' => match fin with | .done f => R (.ok f) s' | .again c' => c'.quiet = true ∧ codeAny (model prog w) A c' R s') (fun e s' => R (.error e) s') s := by
  show wpAny _ _ (do let old ← Builtin.List.listItems (.ref S); Builtin.List.listUpdate (.ref S) (fun _ => #[]); letGo old.toList.reverse; Builtin.List.listExtendWith (.ref S) (.ref z) .none) _ _ s
  refine wpAny_bind ?_
  unfold Builtin.List.listItems
  refine wpAny_bind (wpAny_seqItems hS rfl (wpAny_pure ?_))
  show wpAny _ _ (updateSeq S (fun _ => #[]) >>= fun _ => letGo (#[] : Array Value).toList.reverse >>= fun _ => Builtin.List.listExtendWith (.ref S) (.ref z) .none) _ _ s
  refine wpAny_bind (wpAny_updateSeq hS rfl ?_)
  have hS₂ := Heap.get?_update_self (Obj.mapSeq (fun _ => (#[] : Array Value))) hS rfl
  have oth : ∀ b o, b ≠ S → s.heap.get? b = some o → (s.heap.update S (Obj.mapSeq (fun _ => (#[] : Array Value)))).get? b = some o :=
    fun b o hb e => (Heap.get?_update_other _ _ (Ne.symm hb)).trans e
  refine wpAny_bind (wpAny_letGo ?_)
  refine z_extend hh D S n7 hw hx hy hn .none _ (oth _ _ n7.z hz) (hst.keep n7 oth) hS₂ fun h' tk acc c as hk hS' hl hG hacc => ?_
  exact hR h' tk acc c as (fun b o hb h2 e => hk b o hb h2 (oth b o hb e)) hS' hl hG hacc
theorem z_call {n : Nat} {Q : Value → Shared → Prop} (hh : A.handled = none) (D : ZipApart z TI TO i1 i2 l1 l2) (lt : z < s.heap.objs.size ∧ TI < s.heap.objs.size ∧ TO < s.heap.objs.size ∧ i1 < s.heap.objs.size ∧ i2 < s.heap.objs.size ∧ l1 < s.heap.objs.size ∧ l2 < s.heap.objs.size) (hx : xs.size = n) (hy : ys.size = n) (hn : n ≤ sizeLine)
    (hz : IsZip s.heap z TI TO .none) (hst : ∀ S, ZSt z TI TO i1 i2 l1 l2 xs ys S 0 s.heap)
    (hQ : ∀ h' tk acc c as, (∀ b o, b ∉ wrZ z TO i1 i2 → s.heap.get? b = some o → h'.get? b = some o) → h'.get? s.heap.objs.size = some { cls := .type "list", dict := none, data := .seq acc c, slots := #[] } → as.length = n → ZG xs ys s.heap.objs.size h' as →
      acc.toList = as.map Value.ref → Q (.ref s.heap.objs.size) { s with heap := h', toks := tk }) :
    wpAny (model prog w) A (call (.type "list") [.ref z]) Q E s := by
  refine callType_codes (Q₁ := fun obj s₁ => obj = .ref s.heap.objs.size ∧ s₁ = { s with heap := s.heap.push { cls := .type "list", data := .seq #[] } }) PySem.F.called_list (PySem.F.typeCall_list_1 _) PySem.F.entry_list_init
    (code_list_new _ ⟨rfl, rfl⟩) fun obj s₁ h₁ => ?_
  obtain ⟨rfl, rfl⟩ := h₁
  have hS : (s.heap.push { cls := .type "list", data := .seq #[] }).get? s.heap.objs.size = some { cls := .type "list", data := .seq #[] } := Heap.get?_push_size _ rfl
  have ne : ∀ {a : Addr}, a < s.heap.objs.size → a ≠ s.heap.objs.size := fun h => Nat.ne_of_lt h
  have n7 : Off7 z TI TO i1 i2 l1 l2 s.heap.objs.size := ⟨ne lt.1, ne lt.2.1, ne lt.2.2.1, ne lt.2.2.2.1, ne lt.2.2.2.2.1, ne lt.2.2.2.2.2.1, ne lt.2.2.2.2.2.2⟩
  have hw : ∀ b ∈ wrZ z TO i1 i2, b < s.heap.objs.size := fun b hb => by
    simp only [wrZ, List.mem_cons, List.not_mem_nil, or_false] at hb
    rcases hb with e | e | e | e <;> rw [e]
    · exact lt.1
    · exact lt.2.2.1
    · exact lt.2.2.2.1
    · exact lt.2.2.2.2.1
  refine ⟨⟨_, hS, rfl⟩, PySem.F.args_list_init_2 _ _, z_init (A := A.in1) hh D _ n7 hw hx hy hn (Heap.get?_push_of_some _ hz) ((hst _).keep n7 fun b o _ e => Heap.get?_push_of_some _ e) hS (fun h' tk acc c as hk hS' hl hG hacc => ?_)⟩
  exact ⟨rfl, hQ h' tk acc c as (fun b o hb e => hk b o (Nat.ne_of_lt (Heap.lt_size e)) hb (Heap.get?_push_of_some _ e)) hS' hl hG hacc⟩
end
open L2 HK
def tListZipTL (K : PySem.W.Frag) (ta : TA) : TE := fun σ H Q => ta σ H fun vs H1 => ∃ a b xs ys, vs = [.ref a, .ref b] ∧ SqT K H1 a xs ∧ SqL K H1 b ys ∧ xs.length = ys.length ∧
  ∀ (H' : Hp) (p : Addr) (ts : List Addr), Same H1 H' → H1 p = none → (∀ t ∈ ts, H1 t = none) → p ∉ ts → H' p = some (.lst (ts.map V.ref)) → Paired (fun (t : Addr) (q : V × V) => H' t = some (.tup [q.1, q.2])) ts (xs.zip ys) → Q (.ref p) H'
section
variable {X : Cx} {e e2 : Expr} {ta : TA} {p p2 cpos pos : Pos}
/-- list(zip(e, e2)), a tuple and a list of one length -/
theorem pe_listZipTL (hc : X.calm = true) (ha : PA X [e, e2] ta) (hg : Gl X "list") (hm : X.mg "list" = none) (hv : bootBuiltins "list" = some (.type "list")) (hgz : Gl X "zip") (hmz : X.mg "zip" = none)
    (hs2 : starEach [e, e2] X.env = (false, eval e X.env) :: starEach [e2] X.env := by rfl) (hpl : (backTo cpos (starEach [e2] X.env)).any (·.1) = false := by rfl)
    (hs : starEach [.Call (.Name "zip" p2) [e, e2] [] cpos] X.env = (false, eval (.Call (.Name "zip" p2) [e, e2] [] cpos) X.env) :: starEach [] X.env := by rfl) :
    PE X (.Call (.Name "list" p) [.Call (.Name "zip" p2) [e, e2] [] cpos] [] pos) (tListZipTL X.K ta) := by
  refine ⟨fun pins s σ H Q I hq => ?_⟩
  refine wpAny_Call_Name_kw (ld_blt I hg hm hv ?_)
  refine PyProof.Rows.callWith_type1 ?_ hs rfl
  rw [hs]
  show wpAny _ _ (spliced ((false, eval (.Call (.Name "zip" p2) [e, e2] [] cpos) X.env) :: backTo pos (starEach [] X.env))) _ _ s
  refine Calls.spliced_cons ?_
  refine wpAny_Call_Name_kw (ld_blt I hgz hmz PyProof.Rows.boot_zip (PyProof.Rows.callWith_type1 (thn (ha.run cpos pins s σ H _ I hq) fun us s1 ⟨vs, H1, I1, r1, q1⟩ => ?_) hs2 hpl))
  obtain ⟨a, b, xs, ys, ex, hqx, hqy, exy, q⟩ := q1
  subst ex
  cases r1 with
  | cons r rr =>
    cases rr with
    | cons r' rr =>
      cases rr
      cases r
      cases r'
      obtain ⟨its, rv, p1, z1⟩ := I1.tuple hqx
      obtain ⟨its2, rv2, p2, z2⟩ := I1.list hqy
      have la : a < s1.heap.objs.size := p1.lt
      have lb : b < s1.heap.objs.size := p2.lt
      refine call_TL (show s1.heap.IsTuple a its.toArray from p1) p2.isList fun h' hz hTI hTO h1 h2 hsz hk => ?_
      refine Calls.spliced_nil ?_
      have l1 := rv.length
      have l2 := rv2.length
      have D := PySem.W.ktu_apart s1.heap.objs.size a b la lb
      refine z_call (s := { s1 with heap := h' }) (n := its.toArray.size) (I1.ok.hd hc) D (by show _ < h'.objs.size ∧ _ < h'.objs.size ∧ _ < h'.objs.size ∧ _ < h'.objs.size ∧ _ < h'.objs.size ∧ _ < h'.objs.size ∧ _ < h'.objs.size; rw [hsz]; refine ⟨?_, ?_, ?_, ?_, ?_, ?_, ?_⟩ <;> (first | exact Nat.add_lt_add_left (by decide) _ | exact Nat.lt_add_of_pos_right (by decide) | exact Nat.lt_of_lt_of_le la (Nat.le_add_right _ _) | exact Nat.lt_of_lt_of_le lb (Nat.le_add_right _ _)))
        rfl (by rw [List.size_toArray, List.size_toArray]; omega) (by rw [List.size_toArray]; omega) hz (fun S => ⟨hTI, h1, h2, Heap.IsTuple.at (show s1.heap.IsTuple a its.toArray from p1) fun o e => hk _ o e, p2.isList.at fun o e => hk _ o e, .inl ⟨hz, _, _, hTO⟩⟩) fun h'' tk acc c as hk2 hS hl hG hacc => ?_
      have hk3 : ∀ b o, s1.heap.get? b = some o → h''.get? b = some o := fun b o e => by
        refine hk2 b o (fun hm => ?_) (hk b o e)
        have hb := Heap.lt_size e
        simp only [wrZ, List.mem_cons, List.not_mem_nil, or_false] at hm
        rcases hm with z | z | z | z <;> rw [z] at hb
        · exact Nat.lt_irrefl _ (Nat.lt_of_le_of_lt (Nat.le_add_right _ _) hb)
        · exact Nat.lt_irrefl _ (Nat.lt_of_le_of_lt (Nat.le_add_right _ _) hb)
        · exact Nat.lt_irrefl _ hb
        · exact Nat.lt_irrefl _ (Nat.lt_of_le_of_lt (Nat.le_add_right _ _) hb)
      obtain ⟨H', k1, k2, k3, k4, k5, k6, J⟩ := z_laid (tk := tk) I1 z1 exy rv rv2 (by show s1.heap.objs.size ≤ h'.objs.size; rw [hsz]; exact Nat.le_add_right _ _) hk3 hS (by rw [hl, List.size_toArray]; omega) hG hacc
      exact ⟨.ref _, H', J, rfl, q H' _ as k1 k2 k3 k4 k5 k6⟩
end
end HZT
namespace K02
open PySem L2 HK
/-! ### tuples of ints compared -/
theorem eqv_ints : ∀ xs ys : List Int, PyData.eqvAll (xs.map PyData.int) (ys.map PyData.int) = decide (xs = ys)
  | [], [] => by simp [PyData.eqvAll]
  | [], _ :: _ => by simp [PyData.eqvAll]
  | _ :: _, [] => by simp [PyData.eqvAll]
  | x :: r, y :: s => by
    rw [List.map_cons, List.map_cons, PyData.eqvAll, eqv_ints r s, PyData.eqv]
    by_cases h : x = y
    · by_cases h2 : r = s
      · simp [h, h2]
      · simp [h, h2]
    · simp [h]
theorem shaped_ints (ns : List Int) : SeqAt.shaped (.tuple (ns.map PyData.int)) = true := PySem.W.ke_shaped_ints ns
theorem ne_tupI {K : PySem.W.Frag} {H : Hp} {a b : Addr} {xs ys : List Int} {Q : VK} (ha : SqT K H a (xs.map V.int)) (hb : SqT K H b (ys.map V.int)) (q : Q (.bl (!decide (xs = ys))) H) : rNeD K (.ref a) (.ref b) H Q := by
  refine ⟨_, _, Dp.tup ha (dpall_ints xs), Dp.tup hb (dpall_ints ys), shaped_ints xs, shaped_ints ys, ?_⟩
  rw [PyData.eqv, eqv_ints]
  exact q
theorem add_read {i j k : Int} {H : Hp} {Q : VK} (e : i + j = k) (q : Q (.int k) H) : rI0 (fun i j => V.int (i + j)) (.int i) (.int j) H Q := ⟨i, j, rfl, rfl, by subst e; exact q⟩
theorem mul_read {i j k : Int} {H : Hp} {Q : VK} (l : -(2 ^ 64) < i ∧ i < 2 ^ 64) (e : i * j = k) (q : Q (.int k) H) : rI CMul (fun i j => V.int (i * j)) (.int i) (.int j) H Q := ⟨i, j, rfl, rfl, .inl l, by subst e; exact q⟩
theorem iteD {c A B : Prop} [Decidable c] (hc : c) (h : A) : if decide c = true then A else B := by
  rw [decide_eq_true hc]
  exact iteT h
theorem iteDN {c A B : Prop} [Decidable c] (hc : ¬ c) (h : B) : if decide c = true then A else B := by
  rw [decide_eq_false hc]
  exact iteF h
/-! ### the mathematics of heads -/
def pairI (n : Int) : List Int := [n / 256 % 256, n % 256]
def sums (p : Int × Int) : List Int → Int × Int
  | [] => p
  | n :: r => sums ((p.1 + n) % 65521, (p.2 + (p.1 + n) % 65521) % 65521) r
theorem sums_snoc (l : List Int) (n : Int) : ∀ p, sums p (l ++ [n]) = (((sums p l).1 + n) % 65521, ((sums p l).2 + ((sums p l).1 + n) % 65521) % 65521) := by
  induction l with
  | nil => intro p; rfl
  | cons a r ih => intro p; exact ih _
def sumI (l : List Int) : List Int := pairI (sums (1, 0) l).2 ++ pairI (sums (1, 0) l).1
def startI (s : Int) (ns : List Int) : List Int := [74, 82] ++ pairI s ++ pairI ns.length ++ ns.flatMap pairI
def headI (s : Int) (ns : List Int) (sm : List Int) : List Int := startI s ns ++ sm ++ List.replicate (54 - 2 * ns.length) 0
theorem startI_len (s : Int) (ns : List Int) : (startI s ns).length = 6 + 2 * ns.length := by
  unfold startI
  have e : (ns.flatMap pairI).length = 2 * ns.length := by
    induction ns with
    | nil => rfl
    | cons n r ih => rw [List.flatMap_cons, List.length_append, ih]; show 2 + 2 * r.length = 2 * (r.length + 1); omega
  simp only [List.length_append, e]
  show 2 + 2 + 2 + _ = _
  rfl
theorem headI_len {s : Int} {ns sm : List Int} (h : sm.length = 4) (hn : ns.length ≤ 27) : (headI s ns sm).length = 64 := by
  unfold headI
  rw [List.length_append, List.length_append, startI_len, h, List.length_replicate]
  omega
/-! ### the text -/
abbrev sPair : Stmt := top 6
abbrev sOfPair : Stmt := top 7
abbrev sSum : Stmt := top 8
abbrev sHeadRoom : Stmt := top 13
abbrev sGroup : Stmt := top 14
abbrev sStart : Stmt := top 15
abbrev sHead : Stmt := top 16
abbrev sReadHead : Stmt := top 17
structure JTxt (K : PySem.W.Frag) (mg : Str → Option Value) : Prop where
  base : ∃ t, mg "SUM_BASE" = some (.int 65521 t)
  mark : ∃ a, mg "HEAD_MARK" = some (.ref a) ∧ ∀ H, SqT K H a [.int 74, .int 82]
  hbase : ∃ t, mg "HEAD_BASE" = some (.int 6 t)
  ssize : ∃ t, mg "SUM_SIZE" = some (.int 4 t)
  len : mg "len" = none
  tup : mg "tuple" = none
  list : mg "list" = none
  max : mg "max" = none
  min : mg "min" = none
  any : mg "any" = none
  range : mg "range" = none
def spPair : Sp := fun vs H Q _ => ∃ n : Int, vs = [.int n] ∧ ∀ p, H p = none → Q (.ref p) (upd H p (tupI (pairI n)))
def spOfPair (K : PySem.W.Frag) : Sp := fun vs H Q _ => ∃ (a : Addr) (xs : List Int) (k : Nat) (x y : Int), vs = [.ref a, .int (k : Nat)] ∧ SqT K H a (xs.map V.int) ∧ xs[k]? = some x ∧ xs[k + 1]? = some y ∧ -(2 ^ 64) < x ∧ x < 2 ^ 64 ∧ Q (.int (x * 256 + y)) H
def spSum (K : PySem.W.Frag) : Sp := fun vs H Q _ => ∃ (a : Addr) (l : List Int), vs = [.ref a] ∧ SqL K H a (l.map V.int) ∧ ∀ H' p, Same H H' → H p = none → H' p = some (tupI (sumI l)) → Q (.ref p) H'
def spHeadRoom : Sp := fun vs H Q _ => (vs = [.int 64, .int 6] ∧ Q (.int 5) H) ∨ (vs = [.int 64, .int 100] ∧ Q (.int 11) H)
def rowsOk (H : Hp) (ps : List (Addr × List Int)) : Prop := ∀ q ∈ ps, H q.1 = some (tupI q.2)
def flat (ps : List (Addr × List Int)) : List Int := ps.flatMap (·.2)
def spGroup (K : PySem.W.Frag) : Sp := fun vs H Q _ => ∃ (a r : Addr) (l : List Int) (ps : List (Addr × List Int)), vs = [.ref a, .ref r] ∧ SqT K H a (l.map V.int) ∧ H r = some (.lst (ps.map fun q => V.ref q.1)) ∧ rowsOk H ps ∧ l.length + (flat ps).length ≤ 10000 ∧
  ∀ H' p, Same H H' → H p = none → H' p = some (tupI (sumI (l ++ flat ps))) → Q (.ref p) H'
def spStartL : Sp := fun vs H Q _ => ∃ (s : Int) (a : Addr) (ns : List Int), vs = [.int s, .ref a] ∧ H a = some (.lst (ns.map V.int)) ∧ ns.length ≤ 100 ∧ ∀ H' p, Same H H' → H p = none → H' p = some (tupI (startI s ns)) → Q (.ref p) H'
def spStartT (K : PySem.W.Frag) : Sp := fun vs H Q _ => ∃ (s : Int) (a : Addr) (ns : List Int), vs = [.int s, .ref a] ∧ SqT K H a (ns.map V.int) ∧ ns.length ≤ 100 ∧ ∀ H' p, Same H H' → H p = none → H' p = some (tupI (startI s ns)) → Q (.ref p) H'
def spHead : Sp := fun vs H Q _ => ∃ (s : Int) (a r : Addr) (ns : List Int) (ps : List (Addr × List Int)), vs = [.int s, .ref a, .ref r, .int 64] ∧ H a = some (.lst (ns.map V.int)) ∧ ns.length ≤ 11 ∧ H r = some (.lst (ps.map fun q => V.ref q.1)) ∧ rowsOk H ps ∧ (flat ps).length ≤ 5000 ∧
  ∀ H' p, Same H H' → H p = none → H' p = some (tupI (headI s ns (sumI (startI s ns ++ flat ps)))) → Q (.ref p) H'
def spReadHead (K : PySem.W.Frag) : Sp := fun vs H Q _ => ∃ (a : Addr) (xs : List Int), vs = [.ref a] ∧ SqT K H a (xs.map V.int) ∧
  ((xs = List.replicate 64 0 ∧ ∀ H', Same H H' → Q .non H') ∨ ∃ (s : Int) (ns sm : List Int), xs = headI s ns sm ∧ sm.length = 4 ∧ ns.length ≤ 11 ∧ 0 ≤ s ∧ s < 65536 ∧ (∀ n ∈ ns, 0 ≤ n ∧ n < 65536) ∧
    ∀ H' p a1 a2, Same H H' → H p = none → H' p = some (.tup [.int s, .ref a1, .ref a2]) → H' a1 = some (tupI ns) → H' a2 = some (tupI sm) → Q (.ref p) H')
section
variable {P : Program} {w : World} {K : PySem.W.Frag} {mg : Str → Option Value} {base : Heap}
theorem scPair : FnScope ["number"] ["number"] (defScope sPair) := ⟨rfl, rfl, rfl, by decide +kernel, rfl, by decide +kernel, by decide +kernel⟩
theorem ok_pair {f : Addr} {fd : FuncData} (F : L2.Fun K "pair" "pair" sPair f fd) : FnOk P w K mg base L2.CX0 1 f fd ["number"] spPair := by
  refine F.ok scPair (fun vs H Q E h => ?_) (fun cdv A outer s H vs Q E hr h => ?_)
  · obtain ⟨n, rfl, _⟩ := h
    rfl
  · obtain ⟨n, rfl, k⟩ := h
    refine ⟨_, pss_one (ps_ret (pe_tup (pa_cons (pe_op op_mod (pe_op op_fdiv (pv 0) pe_int) pe_int) (pa_cons (pe_op op_mod (pv 0) pe_int) pa_nil)))), ?_⟩
    exact ⟨_, rfl, _, _, rfl, rfl, ⟨by decide, by decide⟩, _, _, rfl, rfl, (by show (0 : Int) < 256; decide), _, rfl, _, _, rfl, rfl, (by show (0 : Int) < 256; decide), by show 2 ≤ sizeLine; decide, fun p hp => k p hp⟩
theorem scOfPair : FnScope ["data", "place"] ["data", "place"] (defScope sOfPair) := ⟨rfl, rfl, rfl, by decide +kernel, rfl, by decide +kernel, by decide +kernel⟩
theorem at_map {xs : List Int} {k : Nat} {x : Int} (h : xs[k]? = some x) : atI (xs.map V.int) ((k : Nat) : Int) = some (.int x) := atI_nat (by rw [List.getElem?_map, h]; rfl)
theorem ok_ofpair {f : Addr} {fd : FuncData} (F : L2.Fun K "number_of_pair" "number_of_pair" sOfPair f fd) : FnOk P w K mg base L2.CX0 1 f fd ["data", "place"] (spOfPair K) := by
  refine F.ok scOfPair (fun vs H Q E h => ?_) (fun cdv A outer s H vs Q E hr h => ?_)
  · obtain ⟨a, xs, k, x, y, rfl, _⟩ := h
    rfl
  · obtain ⟨a, xs, k, x, y, rfl, ha, hx, hy, b1, b2, q⟩ := h
    refine ⟨_, pss_one (ps_ret (pe_op op_add (pe_op op_mul (pe_ix ix_tup (pv 0) (pv 1) (fun _ _ => rfl)) pe_int) (pe_ix ix_tup (pv 0) (pe_op op_add (pv 1) pe_int) (fun _ _ => rfl)))), ?_⟩
    have hy2 : atI (xs.map V.int) (((k : Nat) : Int) + 1) = some (.int y) := by
      have e : ((k : Nat) : Int) + 1 = ((k + 1 : Nat) : Int) := by omega
      rw [e]
      exact at_map hy
    exact ⟨_, rfl, _, rfl, a, _, _, _, rfl, rfl, ha, at_map hx, _, _, rfl, rfl, .inl ⟨b1, b2⟩, _, rfl, _, rfl, _, _, rfl, rfl, a, _, _, _, rfl, rfl, ha, hy2, _, _, rfl, rfl, q⟩
theorem scSum : FnScope ["numbers", "first", "second", "number"] ["numbers"] (defScope sSum) := ⟨rfl, rfl, rfl, by decide +kernel, rfl, by decide +kernel, by decide +kernel⟩
theorem ok_sum {f fP : Addr} {fd fdP : FuncData} (F : L2.Fun K "word_sum" "word_sum" sSum f fd) (T : JTxt K mg)
    (FP : FnOk P w K mg base L2.CX0 1 fP fdP ["number"] spPair) (mP : mg "pair" = some (.ref fP)) (kP : PySem.W.keepIn K (.ref fP) = true) (bP : Binds K fdP ["number"] []) :
    FnOk P w K mg base L2.CX0 2 f fd ["numbers"] (spSum K) := by
  obtain ⟨tb, mB⟩ := T.base
  refine F.ok scSum (fun vs H Q E h => ?_) (fun cdv A outer s H vs Q E hr h => ?_)
  · obtain ⟨a, l, rfl, _⟩ := h
    rfl
  · obtain ⟨a, l, rfl, ha, k⟩ := h
    refine ⟨_, pss_cons (ps_set (i := 1) scSum.nd rfl (Or.inl rfl) pe_int) (pss_cons (ps_set (i := 2) scSum.nd rfl (Or.inl rfl) pe_int)
      (pss_cons (ps_for PassesOwn.never rfl (pi_list (pv 0)) (pg_name (i := 3) scSum.nd rfl (Or.inl rfl))
        (pss_cons (ps_set (i := 1) scSum.nd rfl (Or.inl rfl) (pe_op op_mod (pe_op op_add (pv 1) (pv 3)) (pe_glob (v := .int 65521) rfl mB ⟨_, rfl⟩)))
        (pss_one (ps_set (i := 2) scSum.nd rfl (Or.inl rfl) (pe_op op_mod (pe_op op_add (pv 2) (pv 1)) (pe_glob (v := .int 65521) rfl mB ⟨_, rfl⟩))))))
      (pss_one (ps_ret (pe_op op_catT (pe_call FP hr (by rfl) mP kP bP .nil pass0 (pa_cons (pv 2) pa_nil)) (pe_call FP hr (by rfl) mP kP bP .nil pass0 (pa_cons (pv 1) pa_nil))))))), ?_⟩
    refine ⟨_, rfl, a, rfl, ⟨_, ha⟩, ?_⟩
    refine for_list (K := K) (a := a) (xs := l.map V.int) (fun i σ H' => H' = H ∧ ∃ v, σ = [some (.ref a), some (.int (sums (1, 0) (l.take i)).1), some (.int (sums (1, 0) (l.take i)).2), v]) ⟨rfl, _, rfl⟩ (fun i σ H' hi q => ?_) (fun i x σ H' hx q => ?_) (fun σ H' q => ?_)
    · obtain ⟨rfl, _⟩ := q
      exact ha
    · obtain ⟨rfl, v, rfl⟩ := q
      rw [List.getElem?_map] at hx
      obtain ⟨n, hn, rfl⟩ := Option.map_eq_some_iff.mp hx
      refine ⟨_, rfl, _, rfl, _, _, rfl, rfl, _, _, rfl, rfl, (by show (0 : Int) < 65521; decide), _, rfl, _, rfl, _, _, rfl, rfl, _, _, rfl, rfl, (by show (0 : Int) < 65521; decide), rfl, some (.int n), ?_⟩
      have e : l.take (i + 1) = l.take i ++ [n] := by rw [List.take_add_one, hn]; rfl
      rw [e, sums_snoc]
      rfl
    · obtain ⟨rfl, v, rfl⟩ := q
      rw [List.length_map, List.take_length]
      refine ⟨_, rfl, _, rfl, fun p hp => ⟨_, rfl, _, rfl, fun p2 hp2 => ?_⟩⟩
      have np : p ≠ p2 := ne_of_none upd_same hp2
      refine ⟨p, p2, _, _, rfl, rfl, SqT.of (by rw [upd_ne np]; exact upd_same), SqT.of upd_same, (fun z => by cases z), by show 4 ≤ sizeLine; decide, (fun z => by cases z), fun _ p3 hp3 => ?_⟩
      have s2 := (same_upd (o := tupI (pairI (sums (1, 0) l).2)) hp).trans (same_upd (o := tupI (pairI (sums (1, 0) l).1)) hp2)
      refine k _ p3 (s2.trans (same_upd hp3)) (s2.free hp3) ?_
      rw [upd_same]
      rfl
theorem scHeadRoom : FnScope ["block_size", "count"] ["block_size", "count"] (defScope sHeadRoom) := ⟨rfl, rfl, rfl, by decide +kernel, rfl, by decide +kernel, by decide +kernel⟩
theorem ok_headroom {f : Addr} {fd : FuncData} (F : L2.Fun K "head_room" "head_room" sHeadRoom f fd) (T : JTxt K mg) : FnOk P w K mg base L2.CX0 1 f fd ["block_size", "count"] spHeadRoom := by
  obtain ⟨t1, g1⟩ := T.hbase
  obtain ⟨t2, g2⟩ := T.ssize
  refine F.ok scHeadRoom (fun vs H Q E h => ?_) (fun cdv A outer s H vs Q E hr h => ?_)
  · rcases h with ⟨rfl, _⟩ | ⟨rfl, _⟩ <;> rfl
  · refine ⟨_, pss_one (ps_ret (pe_callB (call_max2 rfl) (by rfl) T.max (by decide +kernel) (pa_cons pe_int (pa_cons (pe_callB (call_min2 rfl) (by rfl) T.min (by decide +kernel) (pa_cons (pe_op op_sub (pv 1) pe_int)
      (pa_cons (pe_op op_fdiv (pe_op op_sub (pe_op op_sub (pe_op op_fdiv (pv 0) pe_int) (pe_glob (v := .int 6) rfl g1 ⟨_, rfl⟩)) (pe_glob (v := .int 4) rfl g2 ⟨_, rfl⟩)) pe_int) pa_nil))) pa_nil)))), ?_⟩
    rcases h with ⟨rfl, q⟩ | ⟨rfl, q⟩
    all_goals exact ⟨_, rfl, _, _, rfl, rfl, _, rfl, _, _, rfl, rfl, ⟨by decide, by decide⟩, _, _, rfl, rfl, _, _, rfl, rfl, _, _, rfl, rfl, ⟨by decide, by decide⟩, _, _, rfl, _, _, rfl, q⟩
theorem scGroup : FnScope ["head", "rows", "data", "row"] ["head", "rows"] (defScope sGroup) := ⟨rfl, rfl, rfl, by decide +kernel, rfl, by decide +kernel, by decide +kernel⟩
theorem flat_take {ps : List (Addr × List Int)} {i : Nat} {q : Addr × List Int} (h : ps[i]? = some q) : flat (ps.take (i + 1)) = flat (ps.take i) ++ q.2 := by
  unfold flat
  rw [List.take_add_one, h, List.flatMap_append]
  simp
theorem flat_take_le (ps : List (Addr × List Int)) (i : Nat) : (flat (ps.take i)).length ≤ (flat ps).length := by
  conv => rhs; rw [← List.take_append_drop i ps]
  unfold flat
  rw [List.flatMap_append, List.length_append]
  omega
theorem ok_group {f fS : Addr} {fd fdS : FuncData} (F : L2.Fun K "group_sum" "group_sum" sGroup f fd) (T : JTxt K mg)
    (FS : FnOk P w K mg base L2.CX0 2 fS fdS ["numbers"] (spSum K)) (mS : mg "word_sum" = some (.ref fS)) (kS : PySem.W.keepIn K (.ref fS) = true) (bS : Binds K fdS ["numbers"] []) :
    FnOk P w K mg base L2.CX0 3 f fd ["head", "rows"] (spGroup K) := by
  refine F.ok scGroup (fun vs H Q E h => ?_) (fun cdv A outer s H vs Q E hr h => ?_)
  · obtain ⟨a, r, l, ps, rfl, _⟩ := h
    rfl
  · obtain ⟨a, r, l, ps, rfl, ha, hr', hps, hl, k⟩ := h
    refine ⟨_, pss_cons (ps_set (i := 2) scGroup.nd rfl (Or.inl rfl) (pe_callTy call_list_of (by rfl) T.list PyProof.Rows.Boot.«list» (pa_cons (pv 0) pa_nil)))
      (pss_cons (ps_for PassesOwn.never rfl (pi_list (pv 1)) (pg_name (i := 3) scGroup.nd rfl (Or.inl rfl))
        (pss_one (ps_expr (pe_bm PySem.F.plainAttrs_list PySem.F.slot_list_extend PySem.F.type_list_extend mt_extendT (pv 2) (pa_cons (pv 3) pa_nil)))))
      (pss_one (ps_ret (pe_call FS hr (by rfl) mS kS bS .nil pass0 (pa_cons (pv 2) pa_nil))))), ?_⟩
    refine ⟨_, rfl, a, _, rfl, .inr ha, fun D nD => ?_⟩
    have sD : Same H (upd H D (.lst (l.map V.int))) := same_upd nD
    have nrD : r ≠ D := ne_of_none hr' nD
    refine ⟨_, rfl, r, rfl, ⟨_, SqL.of (sD _ _ hr')⟩, ?_⟩
    refine for_list (K := K) (a := r) (xs := ps.map fun q => V.ref q.1) (fun i σ H' => H' = upd H D (.lst ((l ++ flat (ps.take i)).map V.int)) ∧ ∃ v, σ = [some (.ref a), some (.ref r), some (.ref D), v])
      ⟨by simp [flat], none, rfl⟩ (fun i σ H' hi q => ?_) (fun i x σ H' hx q => ?_) (fun σ H' q => ?_)
    · obtain ⟨rfl, _⟩ := q
      exact SqL.of (by rw [upd_ne nrD]; exact hr')
    · obtain ⟨rfl, v, rfl⟩ := q
      rw [List.getElem?_map] at hx
      obtain ⟨q, hq, rfl⟩ := Option.map_eq_some_iff.mp hx
      have hm := hps q (List.mem_of_getElem? hq)
      have nqD : q.1 ≠ D := ne_of_none hm nD
      have l1 := flat_take_le ps (i + 1)
      rw [flat_take hq, List.length_append] at l1
      refine ⟨_, rfl, .inl ⟨rfl, _, SqL.of upd_same⟩, _, rfl, D, q.1, _, q.2.map V.int, rfl, rfl, upd_same, SqT.of (by rw [upd_ne nqD]; exact hm), ?_, ?_⟩
      · rw [List.length_map, List.length_map, List.length_append, sizeLine_eq]
        omega
      · refine ⟨?_, _, rfl⟩
        rw [upd_upd, flat_take hq, ← List.append_assoc, List.map_append (l₁ := l ++ flat (ps.take i))]
    · obtain ⟨rfl, v, rfl⟩ := q
      rw [List.length_map, List.take_length]
      have sD2 : Same H (upd H D (.lst ((l ++ flat ps).map V.int))) := same_upd nD
      exact ⟨_, rfl, D, l ++ flat ps, rfl, SqL.of upd_same, fun H' p s np hp => k H' p (sD2.trans s) (sD2.free np) hp⟩
end
end K02
namespace K02
open PySem L2 HK
section
variable {P : Program} {w : World} {K : PySem.W.Frag} {mg : Str → Option Value} {base : Heap}
theorem scStart : FnScope ["serial", "numbers", "head", "number"] ["serial", "numbers"] (defScope sStart) := ⟨rfl, rfl, rfl, by decide +kernel, rfl, by decide +kernel, by decide +kernel⟩
theorem flatp_take {ns : List Int} {i : Nat} {n : Int} (h : ns[i]? = some n) : (ns.take (i + 1)).flatMap pairI = (ns.take i).flatMap pairI ++ pairI n := by
  rw [List.take_add_one, h, List.flatMap_append]
  simp
theorem flatp_len (ns : List Int) : (ns.flatMap pairI).length = 2 * ns.length := by
  induction ns with
  | nil => rfl
  | cons n r ih => rw [List.flatMap_cons, List.length_append, ih]; show 2 + 2 * r.length = 2 * (r.length + 1); omega
theorem ok_startL {f fP : Addr} {fd fdP : FuncData} (F : L2.Fun K "head_start" "head_start" sStart f fd) (T : JTxt K mg)
    (FP : FnOk P w K mg base L2.CX0 1 fP fdP ["number"] spPair) (mP : mg "pair" = some (.ref fP)) (kP : PySem.W.keepIn K (.ref fP) = true) (bP : Binds K fdP ["number"] []) :
    FnOk P w K mg base L2.CX0 2 f fd ["serial", "numbers"] spStartL := by
  obtain ⟨a0, g0, h0⟩ := T.mark
  refine F.ok scStart (fun vs H Q E h => ?_) (fun cdv A outer st H vs Q E hr h => ?_)
  · obtain ⟨s, a, ns, rfl, _⟩ := h
    rfl
  · obtain ⟨s, a, ns, rfl, ha, hl, k⟩ := h
    refine ⟨_, pss_cons (ps_set (i := 2) scStart.nd rfl (Or.inl rfl) (pe_callTy call_list_of (by rfl) T.list PyProof.Rows.Boot.«list» (pa_cons (pe_op op_catT (pe_op op_catT (pe_glob (v := .ref a0) rfl g0 rfl) (pe_call FP hr (by rfl) mP kP bP .nil pass0 (pa_cons (pv 0) pa_nil)))
        (pe_call FP hr (by rfl) mP kP bP .nil pass0 (pa_cons (pe_callB call_len_seq (by rfl) T.len PySem.boot_len (pa_cons (pv 1) pa_nil)) pa_nil))) pa_nil)))
      (pss_cons (ps_for PassesOwn.never rfl (pi_list (pv 1)) (pg_name (i := 3) scStart.nd rfl (Or.inl rfl))
        (pss_one (ps_expr (pe_bm PySem.F.plainAttrs_list PySem.F.slot_list_extend PySem.F.type_list_extend mt_extendT (pv 2) (pa_cons (pe_call FP hr (by rfl) mP kP bP .nil pass0 (pa_cons (pv 3) pa_nil)) pa_nil)))))
      (pss_one (ps_ret (pe_callTy call_tuple_of (by rfl) T.tup PyProof.Rows.Boot.«tuple» (pa_cons (pv 2) pa_nil))))), ?_⟩
    refine ⟨_, rfl, s, rfl, fun p1 n1 => ?_⟩
    have s1 : Same H (upd H p1 (tupI (pairI s))) := same_upd n1
    refine ⟨a0, p1, _, _, rfl, rfl, h0 _, SqT.of upd_same, (fun z => by cases z), by show 4 ≤ sizeLine; decide, (fun z => by cases z), fun _ p3 n3 => ?_⟩
    have s3 := s1.trans (same_upd (o := .tup ([.int 74, .int 82] ++ (pairI s).map V.int)) n3)
    refine ⟨_, rfl, a, _, rfl, .inl (SqL.of (s3 _ _ ha)), ((ns.length : Nat) : Int), by rw [List.length_map]; rfl, fun p2 n2 => ?_⟩
    have n32 : p3 ≠ p2 := ne_of_none upd_same n2
    have s4 := s3.trans (same_upd (o := tupI (pairI (ns.length : Nat))) n2)
    refine ⟨p3, p2, _, _, rfl, rfl, SqT.of (by rw [upd_ne n32]; exact upd_same), SqT.of upd_same, (fun z => by cases z), by show 6 ≤ sizeLine; decide, (fun z => by cases z), fun _ p4 n4 => ⟨p4, _, rfl, .inr (SqT.of upd_same), fun D nD => ?_⟩⟩
    have s5 := s4.trans (same_upd (o := .tup ([.int 74, .int 82] ++ (pairI s).map V.int ++ (pairI (ns.length : Nat)).map V.int)) n4)
    have hD : (upd (upd (upd (upd (upd H p1 (tupI (pairI s))) p3 (.tup ([.int 74, .int 82] ++ (pairI s).map V.int))) p2 (tupI (pairI (ns.length : Nat)))) p4 (.tup ([.int 74, .int 82] ++ (pairI s).map V.int ++ (pairI (ns.length : Nat)).map V.int))) D (.lst ([.int 74, .int 82] ++ (pairI s).map V.int ++ (pairI (ns.length : Nat)).map V.int))) D = some (.lst (([74, 82] ++ pairI s ++ pairI (ns.length : Nat)).map V.int)) := by
      rw [upd_same, List.map_append, List.map_append]
      rfl
    have nD0 : H D = none := s5.free nD
    have s6 := s5.trans (same_upd (o := .lst ([.int 74, .int 82] ++ (pairI s).map V.int ++ (pairI (ns.length : Nat)).map V.int)) nD)
    generalize upd (upd (upd (upd (upd H p1 (tupI (pairI s))) p3 (.tup ([.int 74, .int 82] ++ (pairI s).map V.int))) p2 (tupI (pairI (ns.length : Nat)))) p4 (.tup ([.int 74, .int 82] ++ (pairI s).map V.int ++ (pairI (ns.length : Nat)).map V.int))) D (.lst ([.int 74, .int 82] ++ (pairI s).map V.int ++ (pairI (ns.length : Nat)).map V.int)) = H6 at hD s6 ⊢
    refine ⟨_, rfl, a, rfl, ⟨_, SqL.of (s6 _ _ ha)⟩, ?_⟩
    refine for_list (K := K) (a := a) (xs := ns.map V.int) (fun i σ H' => Same H H' ∧ H' D = some (.lst (([74, 82] ++ pairI s ++ pairI (ns.length : Nat) ++ (ns.take i).flatMap pairI).map V.int)) ∧ ∃ v, σ = [some (.int s), some (.ref a), some (.ref D), v])
      ⟨s6, by rw [hD]; simp, none, rfl⟩ (fun i σ H' hi q => SqL.of (q.1 _ _ ha)) (fun i x σ H' hx q => ?_) (fun σ H' q => ?_)
    · obtain ⟨sm, hD', v, rfl⟩ := q
      rw [List.getElem?_map] at hx
      obtain ⟨n, hn, rfl⟩ := Option.map_eq_some_iff.mp hx
      refine ⟨_, rfl, .inl ⟨rfl, _, SqL.of hD'⟩, _, rfl, n, rfl, fun q nq => ?_⟩
      have nDq : D ≠ q := ne_of_none hD' nq
      have hlt : i < ns.length := (List.getElem?_eq_some_iff.mp hn).1
      refine ⟨D, q, _, (pairI n).map V.int, rfl, rfl, by rw [upd_ne nDq]; exact hD', SqT.of upd_same, ?_, ?_⟩
      · have z := flatp_len (ns.take i)
        rw [List.length_take] at z
        simp only [List.length_map, List.length_append, z]
        show 2 + 2 + 2 + _ + 2 ≤ sizeLine
        rw [sizeLine_eq]
        omega
      · refine ⟨fun b o e => ?_, ?_, _, rfl⟩
        · have e2 := sm b o e
          rw [upd_ne (ne_of_none e nD0), upd_ne (ne_of_none e2 nq)]
          exact e2
        · rw [upd_same, flatp_take hn, ← List.append_assoc, List.map_append (l₂ := pairI n)]
    · obtain ⟨sm, hD', v, rfl⟩ := q
      rw [List.length_map, List.take_length] at hD'
      refine ⟨_, rfl, D, _, rfl, .inl ⟨SqL.of hD', fun q nq => ?_⟩⟩
      refine k _ q (sm.trans (same_upd nq)) (sm.free nq) ?_
      rw [upd_same]
      rfl
theorem ok_startT {f fP : Addr} {fd fdP : FuncData} (F : L2.Fun K "head_start" "head_start" sStart f fd) (T : JTxt K mg)
    (FP : FnOk P w K mg base L2.CX0 1 fP fdP ["number"] spPair) (mP : mg "pair" = some (.ref fP)) (kP : PySem.W.keepIn K (.ref fP) = true) (bP : Binds K fdP ["number"] []) :
    FnOk P w K mg base L2.CX0 2 f fd ["serial", "numbers"] (spStartT K) := by
  obtain ⟨a0, g0, h0⟩ := T.mark
  refine F.ok scStart (fun vs H Q E h => ?_) (fun cdv A outer st H vs Q E hr h => ?_)
  · obtain ⟨s, a, ns, rfl, _⟩ := h
    rfl
  · obtain ⟨s, a, ns, rfl, ha, hl, k⟩ := h
    refine ⟨_, pss_cons (ps_set (i := 2) scStart.nd rfl (Or.inl rfl) (pe_callTy call_list_of (by rfl) T.list PyProof.Rows.Boot.«list» (pa_cons (pe_op op_catT (pe_op op_catT (pe_glob (v := .ref a0) rfl g0 rfl) (pe_call FP hr (by rfl) mP kP bP .nil pass0 (pa_cons (pv 0) pa_nil)))
        (pe_call FP hr (by rfl) mP kP bP .nil pass0 (pa_cons (pe_callB call_len_seq (by rfl) T.len PySem.boot_len (pa_cons (pv 1) pa_nil)) pa_nil))) pa_nil)))
      (pss_cons (ps_for PassesOwn.never rfl (pi_tup (pv 1)) (pg_name (i := 3) scStart.nd rfl (Or.inl rfl))
        (pss_one (ps_expr (pe_bm PySem.F.plainAttrs_list PySem.F.slot_list_extend PySem.F.type_list_extend mt_extendT (pv 2) (pa_cons (pe_call FP hr (by rfl) mP kP bP .nil pass0 (pa_cons (pv 3) pa_nil)) pa_nil)))))
      (pss_one (ps_ret (pe_callTy call_tuple_of (by rfl) T.tup PyProof.Rows.Boot.«tuple» (pa_cons (pv 2) pa_nil))))), ?_⟩
    refine ⟨_, rfl, s, rfl, fun p1 n1 => ?_⟩
    have s1 : Same H (upd H p1 (tupI (pairI s))) := same_upd n1
    refine ⟨a0, p1, _, _, rfl, rfl, h0 _, SqT.of upd_same, (fun z => by cases z), by show 4 ≤ sizeLine; decide, (fun z => by cases z), fun _ p3 n3 => ?_⟩
    have s3 := s1.trans (same_upd (o := .tup ([.int 74, .int 82] ++ (pairI s).map V.int)) n3)
    refine ⟨_, rfl, a, _, rfl, .inr (sqT_same s3 ha), ((ns.length : Nat) : Int), by rw [List.length_map]; rfl, fun p2 n2 => ?_⟩
    have n32 : p3 ≠ p2 := ne_of_none upd_same n2
    have s4 := s3.trans (same_upd (o := tupI (pairI (ns.length : Nat))) n2)
    refine ⟨p3, p2, _, _, rfl, rfl, SqT.of (by rw [upd_ne n32]; exact upd_same), SqT.of upd_same, (fun z => by cases z), by show 6 ≤ sizeLine; decide, (fun z => by cases z), fun _ p4 n4 => ⟨p4, _, rfl, .inr (SqT.of upd_same), fun D nD => ?_⟩⟩
    have s5 := s4.trans (same_upd (o := .tup ([.int 74, .int 82] ++ (pairI s).map V.int ++ (pairI (ns.length : Nat)).map V.int)) n4)
    have hD : (upd (upd (upd (upd (upd H p1 (tupI (pairI s))) p3 (.tup ([.int 74, .int 82] ++ (pairI s).map V.int))) p2 (tupI (pairI (ns.length : Nat)))) p4 (.tup ([.int 74, .int 82] ++ (pairI s).map V.int ++ (pairI (ns.length : Nat)).map V.int))) D (.lst ([.int 74, .int 82] ++ (pairI s).map V.int ++ (pairI (ns.length : Nat)).map V.int))) D = some (.lst (([74, 82] ++ pairI s ++ pairI (ns.length : Nat)).map V.int)) := by
      rw [upd_same, List.map_append, List.map_append]
      rfl
    have nD0 : H D = none := s5.free nD
    have s6 := s5.trans (same_upd (o := .lst ([.int 74, .int 82] ++ (pairI s).map V.int ++ (pairI (ns.length : Nat)).map V.int)) nD)
    generalize upd (upd (upd (upd (upd H p1 (tupI (pairI s))) p3 (.tup ([.int 74, .int 82] ++ (pairI s).map V.int))) p2 (tupI (pairI (ns.length : Nat)))) p4 (.tup ([.int 74, .int 82] ++ (pairI s).map V.int ++ (pairI (ns.length : Nat)).map V.int))) D (.lst ([.int 74, .int 82] ++ (pairI s).map V.int ++ (pairI (ns.length : Nat)).map V.int)) = H6 at hD s6 ⊢
    refine ⟨_, rfl, a, rfl, ⟨_, sqT_same s6 ha⟩, ?_⟩
    refine for_tup (K := K) (a := a) (xs := ns.map V.int) (fun i σ H' => Same H H' ∧ H' D = some (.lst (([74, 82] ++ pairI s ++ pairI (ns.length : Nat) ++ (ns.take i).flatMap pairI).map V.int)) ∧ ∃ v, σ = [some (.int s), some (.ref a), some (.ref D), v])
      ⟨s6, by rw [hD]; simp, none, rfl⟩ (fun i σ H' hi q => sqT_same q.1 ha) (fun i x σ H' hx q => ?_) (fun σ H' q => ?_)
    · obtain ⟨sm, hD', v, rfl⟩ := q
      rw [List.getElem?_map] at hx
      obtain ⟨n, hn, rfl⟩ := Option.map_eq_some_iff.mp hx
      refine ⟨_, rfl, .inl ⟨rfl, _, SqL.of hD'⟩, _, rfl, n, rfl, fun q nq => ?_⟩
      have nDq : D ≠ q := ne_of_none hD' nq
      have hlt : i < ns.length := (List.getElem?_eq_some_iff.mp hn).1
      refine ⟨D, q, _, (pairI n).map V.int, rfl, rfl, by rw [upd_ne nDq]; exact hD', SqT.of upd_same, ?_, ?_⟩
      · have z := flatp_len (ns.take i)
        rw [List.length_take] at z
        simp only [List.length_map, List.length_append, z]
        show 2 + 2 + 2 + _ + 2 ≤ sizeLine
        rw [sizeLine_eq]
        omega
      · refine ⟨fun b o e => ?_, ?_, _, rfl⟩
        · have e2 := sm b o e
          rw [upd_ne (ne_of_none e nD0), upd_ne (ne_of_none e2 nq)]
          exact e2
        · rw [upd_same, flatp_take hn, ← List.append_assoc, List.map_append (l₂ := pairI n)]
    · obtain ⟨sm, hD', v, rfl⟩ := q
      rw [List.length_map, List.take_length] at hD'
      refine ⟨_, rfl, D, _, rfl, .inl ⟨SqL.of hD', fun q nq => ?_⟩⟩
      refine k _ q (sm.trans (same_upd nq)) (sm.free nq) ?_
      rw [upd_same]
      rfl
theorem scHead : FnScope ["serial", "numbers", "rows", "block_size", "start", "head"] ["serial", "numbers", "rows", "block_size"] (defScope sHead) := ⟨rfl, rfl, rfl, by decide +kernel, rfl, by decide +kernel, by decide +kernel⟩
theorem sumI_len (l : List Int) : (sumI l).length = 4 := rfl
theorem ok_head {f fS fG : Addr} {fd fdS fdG : FuncData} (F : L2.Fun K "head_of" "head_of" sHead f fd) (T : JTxt K mg)
    (FS : FnOk P w K mg base L2.CX0 2 fS fdS ["serial", "numbers"] spStartL) (mS : mg "head_start" = some (.ref fS)) (kS : PySem.W.keepIn K (.ref fS) = true) (bS : Binds K fdS ["serial", "numbers"] [])
    (FG : FnOk P w K mg base L2.CX0 3 fG fdG ["head", "rows"] (spGroup K)) (mG : mg "group_sum" = some (.ref fG)) (kG : PySem.W.keepIn K (.ref fG) = true) (bG : Binds K fdG ["head", "rows"] []) :
    FnOk P w K mg base L2.CX0 4 f fd ["serial", "numbers", "rows", "block_size"] spHead := by
  refine F.ok scHead (fun vs H Q E h => ?_) (fun cdv A outer st H vs Q E hr h => ?_)
  · obtain ⟨s, a, r, ns, ps, rfl, _⟩ := h
    rfl
  · obtain ⟨s, a, r, ns, ps, rfl, ha, hn, hr', hps, hl, k⟩ := h
    refine ⟨_, pss_cons (ps_set (i := 4) scHead.nd rfl (Or.inl rfl) (pe_call FS (hr.mono (by decide)) (by rfl) mS kS bS .nil pass0 (pa_cons (pv 0) (pa_cons (pv 1) pa_nil))))
      (pss_cons (ps_set (i := 5) scHead.nd rfl (Or.inl rfl) (pe_op op_catT (pv 4) (pe_call FG hr (by rfl) mG kG bG .nil pass0 (pa_cons (pv 4) (pa_cons (pv 2) pa_nil)))))
      (pss_one (ps_ret (pe_op op_catT (pv 5) (pe_op op_repT (pe_tup (pa_cons pe_int pa_nil)) (pe_op op_sub (pv 3) (pe_callB call_len_seq (by rfl) T.len PySem.boot_len (pa_cons (pv 5) pa_nil)))))))), ?_⟩
    refine ⟨_, rfl, _, rfl, s, a, ns, rfl, ha, by omega, fun H1 p1 s1 n1 h1 => ?_⟩
    have l1 := startI_len s ns
    refine ⟨_, rfl, _, rfl, _, rfl, p1, r, startI s ns, ps, rfl, SqT.of h1, s1 _ _ hr', fun q hq => s1 _ _ (hps q hq), by omega, fun H2 p2 s2 n2 h2 => ?_⟩
    have ne1 : (startI s ns).map V.int ≠ [] := fun z => by cases z
    refine ⟨p1, p2, _, _, rfl, rfl, SqT.of (s2 _ _ h1), SqT.of h2, ne1, by rw [List.length_map, List.length_map, sumI_len, sizeLine_eq]; omega, (fun z => by cases z), fun _ p3 n3 => ?_⟩
    have s3 : Same H2 (upd H2 p3 (.tup ((startI s ns).map V.int ++ (sumI (startI s ns ++ flat ps)).map V.int))) := same_upd n3
    have h3 : (upd H2 p3 (.tup ((startI s ns).map V.int ++ (sumI (startI s ns ++ flat ps)).map V.int))) p3 = some (.tup ((startI s ns).map V.int ++ (sumI (startI s ns ++ flat ps)).map V.int)) := upd_same
    generalize upd H2 p3 (.tup ((startI s ns).map V.int ++ (sumI (startI s ns ++ flat ps)).map V.int)) = H3 at s3 h3 ⊢
    refine ⟨_, rfl, by show 1 ≤ sizeLine; decide, fun t nt => ?_⟩
    have s4 : Same H3 (upd H3 t (.tup [.int 0])) := same_upd nt
    have e10 : ((startI s ns).map V.int ++ (sumI (startI s ns ++ flat ps)).map V.int).length = 10 + 2 * ns.length := by rw [List.length_append, List.length_map, List.length_map, sumI_len]; omega
    refine ⟨_, rfl, _, rfl, p3, _, rfl, .inr (SqT.of (s4 _ _ h3)), _, _, rfl, rfl, t, _, [.int 0], rfl, rfl, SqT.of upd_same, (fun z => by cases z), by rw [e10]; omega, by rw [e10]; omega, by decide, fun z nz => ?_⟩
    have s5 := s4.trans (same_upd (o := .tup (List.replicate ((64 : Int) - ((((startI s ns).map V.int ++ (sumI (startI s ns ++ flat ps)).map V.int).length : Nat) : Int)).toNat [V.int 0]).flatten) nz)
    refine ⟨p3, z, _, _, rfl, rfl, SqT.of (s5 _ _ h3), SqT.of upd_same, (fun z => by rw [List.append_eq_nil_iff] at z; exact ne1 z.1), ?_, fun z => ?_, fun _ p5 n5 => ?_⟩
    · have e := flat_zeros ((64 : Int) - ((((startI s ns).map V.int ++ (sumI (startI s ns ++ flat ps)).map V.int).length : Nat) : Int))
      rw [e, e10]
      unfold zeros
      rw [List.length_replicate, sizeLine_eq]
      omega
    · exfalso
      have e := flat_zeros ((64 : Int) - ((((startI s ns).map V.int ++ (sumI (startI s ns ++ flat ps)).map V.int).length : Nat) : Int))
      rw [e, e10] at z
      have := congrArg List.length z
      unfold zeros at this
      rw [List.length_replicate] at this
      simp at this
      omega
    · refine k _ p5 ((((s1.trans s2).trans s3).trans s5).trans (same_upd n5)) ((((s1.trans s2).trans s3).trans s5).free n5) ?_
      rw [upd_same, flat_zeros, e10]
      unfold headI tupI zeros
      rw [List.map_append, List.map_append, List.map_replicate]
      have en : ((64 : Int) - ((10 + 2 * ns.length : Nat) : Int)).toNat = 54 - 2 * ns.length := by omega
      rw [en]
end
end K02
namespace K02
open PySem L2 HK
theorem rg2 : ∀ k : Fin 12, RgC 6 (6 + 2 * (k.val : Int)) 2 k.val := by
  unfold RgC
  decide +kernel
theorem flatp_at : ∀ {ns : List Int} {i : Nat} {n : Int}, ns[i]? = some n → (ns.flatMap pairI)[2 * i]? = some (n / 256 % 256) ∧ (ns.flatMap pairI)[2 * i + 1]? = some (n % 256)
  | [], i, n, h => by cases h
  | m :: r, 0, n, h => by
    obtain rfl := Option.some.inj h
    exact ⟨rfl, rfl⟩
  | m :: r, i + 1, n, h => by
    have z := flatp_at (ns := r) (i := i) (n := n) h
    rw [List.flatMap_cons]
    constructor
    · rw [List.getElem?_append_right (by show 2 ≤ 2 * (i + 1); omega), show 2 * (i + 1) - (pairI m).length = 2 * i by show 2 * (i + 1) - 2 = 2 * i; omega]
      exact z.1
    · rw [List.getElem?_append_right (by show 2 ≤ 2 * (i + 1) + 1; omega), show 2 * (i + 1) + 1 - (pairI m).length = 2 * i + 1 by show 2 * (i + 1) + 1 - 2 = 2 * i + 1; omega]
      exact z.2
theorem headI_at {s : Int} {ns sm : List Int} {i : Nat} {n : Int} (h : ns[i]? = some n) : (headI s ns sm)[6 + 2 * i]? = some (n / 256 % 256) ∧ (headI s ns sm)[6 + 2 * i + 1]? = some (n % 256) := by
  have hi : i < ns.length := (List.getElem?_eq_some_iff.mp h).1
  obtain ⟨h1, h2⟩ := flatp_at h
  have l := flatp_len ns
  have ls := startI_len s ns
  have six : ([74, 82] ++ pairI s ++ pairI (ns.length : Nat)).length = 6 := rfl
  unfold headI
  constructor
  · rw [List.append_assoc, List.getElem?_append_left (by omega)]
    unfold startI
    rw [List.getElem?_append_right (by rw [six]; omega), six, show 6 + 2 * i - 6 = 2 * i by omega]
    exact h1
  · rw [List.append_assoc, List.getElem?_append_left (by omega)]
    unfold startI
    rw [List.getElem?_append_right (by rw [six]; omega), six, show 6 + 2 * i + 1 - 6 = 2 * i + 1 by omega]
    exact h2
theorem headI_rest {s : Int} {ns sm : List Int} (h : sm.length = 4) : (headI s ns sm).drop (10 + 2 * ns.length) = List.replicate (54 - 2 * ns.length) 0 := by
  unfold headI
  rw [List.drop_left' (by rw [List.length_append, startI_len, h]; omega)]
theorem headI_sum {s : Int} {ns sm : List Int} (h : sm.length = 4) : ((headI s ns sm).drop (6 + 2 * ns.length)).take 4 = sm := by
  unfold headI
  rw [List.append_assoc, List.drop_left' (startI_len s ns), List.take_left' h]
theorem pair_back {n : Int} (h0 : 0 ≤ n) (h1 : n < 65536) : n / 256 % 256 * 256 + n % 256 = n := by omega
section
variable {P : Program} {w : World} {K : PySem.W.Frag} {mg : Str → Option Value} {base : Heap}
theorem tC_mk {v : V} {σ : L2.St} {H : Hp} {Q : VK} (h : Q v H) : tC v σ H Q := h
theorem addC {i j k : Int} {σ : L2.St} {H : Hp} {Q : VK} (e : i + j = k) (q : Q (.int k) H) : tC (.int j) σ H (fun y H2 => rI0 (fun i j => V.int (i + j)) (.int i) y H2 Q) := add_read e q
theorem scReadHead : FnScope ["data", "place", "numbers", "at"] ["data"] (defScope sReadHead) := ⟨rfl, rfl, rfl, by decide +kernel, rfl, by decide +kernel, by decide +kernel⟩
theorem ok_readhead {f fO : Addr} {fd fdO : FuncData} (F : L2.Fun K "read_head" "read_head" sReadHead f fd) (T : JTxt K mg)
    (FO : FnOk P w K mg base L2.CX0 1 fO fdO ["data", "place"] (spOfPair K)) (mO : mg "number_of_pair" = some (.ref fO)) (kO : PySem.W.keepIn K (.ref fO) = true) (bO : Binds K fdO ["data", "place"] []) :
    FnOk P w K mg base L2.CX0 2 f fd ["data"] (spReadHead K) := by
  obtain ⟨a0, g0, h0⟩ := T.mark
  obtain ⟨t1, g1⟩ := T.hbase
  obtain ⟨t2, g2⟩ := T.ssize
  refine F.ok scReadHead (fun vs H Q E h => ?_) (fun cdv A outer st H vs Q E hr h => ?_)
  · obtain ⟨a, xs, rfl, _⟩ := h
    rfl
  · obtain ⟨a, xs, rfl, ha, h⟩ := h
    refine ⟨_, pss_cons (ps_if (PW.pt (pw_or (pt_cmpR (op_neD hr.units) (pe_callTy call_tuple_of (by rfl) T.tup PyProof.Rows.Boot.«tuple» (pa_cons (pe_slice sl_tup (pv 0) po_none (po_some pe_int)) pa_nil)) (pe_glob (v := .ref a0) rfl g0 rfl) (nomark _))
        (pw_or1 (pt_cmpR op_lt (pe_callB call_len_seq (by rfl) T.len PySem.boot_len (pa_cons (pv 0) pa_nil)) (pe_op op_add (pe_glob (v := .int 6) rfl g1 ⟨_, rfl⟩) (pe_glob (v := .int 4) rfl g2 ⟨_, rfl⟩)) (nomark _))))) (pss_one (ps_ret pe_non)) pss_nil)
      (pss_cons (ps_set (i := 1) scReadHead.nd rfl (Or.inl rfl) (pe_op op_add (pe_glob (v := .int 6) rfl g1 ⟨_, rfl⟩) (pe_op op_mul pe_int (pe_call FO hr (by rfl) mO kO bO .nil pass0 (pa_cons (pv 0) (pa_cons pe_int pa_nil))))))
      (pss_cons (ps_if (PW.pt (pw_or (pt_cmpR op_gt (pe_op op_add (pv 1) (pe_glob (v := .int 4) rfl g2 ⟨_, rfl⟩)) (pe_callB call_len_seq (by rfl) T.len PySem.boot_len (pa_cons (pv 0) pa_nil)) (nomark _))
        (pw_or1 (pt_val (pe_callB (call_anyT rfl) (by rfl) T.any (by decide +kernel) (pa_cons (pe_slice sl_tup (pv 0) (po_some (pe_op op_add (pv 1) (pe_glob (v := .int 4) rfl g2 ⟨_, rfl⟩))) po_none) pa_nil)))))) (pss_one (ps_ret pe_non)) pss_nil)
      (pss_cons (ps_set (i := 2) scReadHead.nd rfl (Or.inl rfl) (pe_callTy call_tuple_of (by rfl) T.tup PyProof.Rows.Boot.«tuple» (pa_cons (pe_lc (own := [("at", 3)]) (g := gName 3) (by rfl) scReadHead.nd (pi_range3 (by rfl) T.range (pa_cons (pe_glob (v := .int 6) rfl g1 ⟨_, rfl⟩) (pa_cons (pv 1) (pa_cons pe_int pa_nil))))
          (blkOk_by (N := ["data", "place", "numbers", "at"]) (sc := defScope sReadHead) (by decide +kernel)) (fun _ _ _ _ _ => pg_name (i := 3) scReadHead.nd rfl (Or.inl rfl)) (fun _ _ _ _ _ => pts_nil)
          (fun _ _ _ _ _ => pe_call FO hr (by rfl) mO kO bO .nil pass0 (pa_cons (pv 0) (pa_cons (pv 3) pa_nil)))) pa_nil)))
      (pss_one (ps_ret (pe_tup (pa_cons (pe_call FO hr (by rfl) mO kO bO .nil pass0 (pa_cons (pv 0) (pa_cons pe_int pa_nil))) (pa_cons (pv 2) (pa_cons (pe_callTy call_tuple_of (by rfl) T.tup PyProof.Rows.Boot.«tuple»
          (pa_cons (pe_slice sl_tup (pv 0) (po_some (pv 1)) (po_some (pe_op op_add (pv 1) (pe_glob (v := .int 4) rfl g2 ⟨_, rfl⟩)))) pa_nil)) pa_nil))))))))), ?_⟩
    rcases h with ⟨rfl, k⟩ | ⟨s, ns, sm, rfl, hsm, hns, s0, s1, hn, k⟩
    · refine ⟨_, rfl, _, rfl, a, _, rfl, ha, by decide, fun p1 n1 => ?_⟩
      refine ⟨p1, _, rfl, .inr ⟨SqT.of upd_same, ?_⟩⟩
      have e1 : cutV ((List.replicate 64 (0 : Int)).map V.int) none (some 2) = [0, 0].map V.int := by decide
      refine tC_mk ?_
      refine ne_tupI (xs := [0, 0]) (ys := [74, 82]) (SqT.of (by rw [upd_same]; exact congrArg (fun l => some (HO.tup l)) e1)) (h0 _) ⟨_, rfl, iteT (iteT (k _ (same_upd n1)))⟩
    · have hlen := headI_len (s := s) hsm (show ns.length ≤ 27 by omega)
      have lm : ((headI s ns sm).map V.int).length = 64 := by rw [List.length_map, hlen]
      refine ⟨_, rfl, _, rfl, a, _, rfl, ha, ?_, fun p1 n1 => ?_⟩
      · rw [lm]
        decide
      have e1 : cutV ((headI s ns sm).map V.int) none (some 2) = [74, 82].map V.int := by
        have z := cut_take (x := headI s ns sm) (h := 2) (by omega)
        exact z
      rw [e1]
      have sm1 : Same H (upd H p1 (.tup ([74, 82].map V.int))) := same_upd n1
      refine ⟨p1, _, rfl, .inr ⟨SqT.of upd_same, ?_⟩⟩
      refine tC_mk ?_
      refine ne_tupI (xs := [74, 82]) (ys := [74, 82]) (SqT.of upd_same) (h0 _) ⟨_, rfl, iteF ?_⟩
      have ha1 := sqT_same sm1 ha
      refine ⟨_, rfl, a, _, rfl, .inr ha1, _, _, rfl, rfl, _, _, rfl, rfl, _, rfl, iteDN (by rw [lm]; decide) ?_⟩
      -- place
      have x4 : (headI s ns sm)[4]? = some (((ns.length : Nat) : Int) / 256 % 256) := rfl
      have x5 : (headI s ns sm)[4 + 1]? = some (((ns.length : Nat) : Int) % 256) := rfl
      refine ⟨_, rfl, a, headI s ns sm, 4, _, _, rfl, ha1, x4, x5, by omega, by omega, ?_⟩
      rw [pair_back (n := ((ns.length : Nat) : Int)) (by omega) (by omega)]
      refine mul_read (k := ((2 * ns.length : Nat) : Int)) ⟨by decide, by decide⟩ (by omega) (add_read (k := ((6 + 2 * ns.length : Nat) : Int)) (by omega) ?_)
      -- the rest is zeros
      refine ⟨_, rfl, addC (k := ((10 + 2 * ns.length : Nat) : Int)) (by omega) ⟨_, rfl, a, _, rfl, .inr ha1, _, _, rfl, rfl, _, rfl, iteDN (by rw [lm]; omega) ?_⟩⟩
      refine ⟨_, rfl, _, rfl, addC (k := ((10 + 2 * ns.length : Nat) : Int)) (by omega) ⟨_, rfl, a, _, rfl, ha1, ?_, fun p2 n2 => ?_⟩⟩
      · rw [HT.sIx_nat, lm]
        rintro ⟨z, _⟩
        have : min (10 + 2 * ns.length) 64 = 0 := z
        omega
      rw [cut_drop (x := headI s ns sm) (h := 10 + 2 * ns.length) (by omega), headI_rest hsm]
      have sm2 := sm1.trans (same_upd (o := .tup ((List.replicate (54 - 2 * ns.length) (0 : Int)).map V.int)) n2)
      refine ⟨p2, List.replicate (54 - 2 * ns.length) 0, rfl, SqT.of upd_same, _, rfl, ?_⟩
      have ean : (List.replicate (54 - 2 * ns.length) (0 : Int)).any (fun n => n != 0) = false := by
        rw [List.any_eq_false]
        intro x hx
        rw [(List.mem_replicate.mp hx).2]
        decide
      rw [ean]
      refine iteF ?_
      -- numbers
      generalize upd (upd H p1 (.tup ([74, 82].map V.int))) p2 (.tup ((List.replicate (54 - 2 * ns.length) (0 : Int)).map V.int)) = H2 at sm2 ⊢
      have ha2 := sqT_same sm2 ha
      refine ⟨_, rfl, 6, ((6 + 2 * ns.length : Nat) : Int), 2, ns.length, rfl, ?_, fun D nD => ?_⟩
      · have z := rg2 ⟨ns.length, by omega⟩
        have e : ((6 + 2 * ns.length : Nat) : Int) = 6 + 2 * (((⟨ns.length, by omega⟩ : Fin 12).val : Nat) : Int) := by
          show ((6 + 2 * ns.length : Nat) : Int) = 6 + 2 * ((ns.length : Nat) : Int)
          omega
        rw [e]
        exact z
      refine lc_it (walk_rangeC (lo := 6) (c := 2) (n := ns.length)) (fun i H' => H' = upd H2 D (.lst ((ns.take i).map V.int))) rfl (fun _ _ _ _ => trivial) (fun i x H' H'' hi q y => ?_) (fun H' q => ?_)
      · subst q
        obtain ⟨rfl, rfl⟩ := y
        obtain ⟨n, hni⟩ : ∃ n, ns[i]? = some n := ⟨_, List.getElem?_eq_getElem hi⟩
        obtain ⟨h6, h7⟩ := headI_at (s := s) (sm := sm) hni
        have hn' := hn n (List.mem_of_getElem? hni)
        have sD : Same H2 (upd H2 D (.lst ((ns.take i).map V.int))) := same_upd nD
        refine ⟨rfl, _, rfl, _, rfl, a, headI s ns sm, 6 + 2 * i, _, _, ?_, sqT_same sD ha2, h6, h7, by omega, by omega, ?_⟩
        · rw [show ((6 + 2 * i : Nat) : Int) = 6 + (i : Int) * 2 by omega]
          rfl
        · rw [pair_back hn'.1 hn'.2]
          refine ⟨_, upd_same, by rw [List.length_map, List.length_take]; exact small1000 (by omega), ?_⟩
          rw [upd_upd, take_map_succ _ hni]
      · subst q
        rw [List.take_length]
        refine ⟨D, _, rfl, .inl ⟨SqL.of upd_same, fun a1 n1' => ?_⟩⟩
        have sm3 := (sm2.trans (same_upd (o := .lst (ns.map V.int)) nD)).trans (same_upd (o := .tup (ns.map V.int)) n1')
        have ha3 := sqT_same sm3 ha
        have h1 : (upd (upd H2 D (.lst (ns.map V.int))) a1 (.tup (ns.map V.int))) a1 = some (tupI ns) := upd_same
        generalize upd (upd H2 D (.lst (ns.map V.int))) a1 (.tup (ns.map V.int)) = H3 at sm3 ha3 h1 ⊢
        have x2 : (headI s ns sm)[2]? = some (s / 256 % 256) := rfl
        have x3 : (headI s ns sm)[2 + 1]? = some (s % 256) := rfl
        refine ⟨_, rfl, a, headI s ns sm, 2, _, _, rfl, ha3, x2, x3, by omega, by omega, ?_⟩
        rw [pair_back s0 s1]
        refine ⟨_, rfl, _, rfl, _, rfl, _, rfl, _, rfl, addC (k := ((10 + 2 * ns.length : Nat) : Int)) (by omega) ⟨_, rfl, a, _, rfl, ha3, ?_, fun p4 n4 => ?_⟩⟩
        · rw [HT.sIx_nat, lm]
          rintro ⟨z, _⟩
          have : min (6 + 2 * ns.length) 64 = 0 := z
          omega
        have ec : cutV ((headI s ns sm).map V.int) (some ((6 + 2 * ns.length : Nat) : Int)) (some ((10 + 2 * ns.length : Nat) : Int)) = sm.map V.int := by
          unfold cutV
          rw [HT.sIx_nat, HT.sIx_nat, lm, Nat.min_eq_left (by omega), Nat.min_eq_left (by omega), ← List.map_drop, ← List.map_take, show 10 + 2 * ns.length - (6 + 2 * ns.length) = 4 by omega, headI_sum hsm]
        rw [ec]
        have sm4 : Same H3 (upd H3 p4 (.tup (sm.map V.int))) := same_upd n4
        refine ⟨p4, _, rfl, .inr ⟨SqT.of upd_same, by show 3 ≤ sizeLine; decide, fun p5 n5 => ?_⟩⟩
        have sm5 := sm4.trans (same_upd (o := .tup [.int s, .ref a1, .ref p4]) n5)
        exact k _ p5 a1 p4 (sm3.trans sm5) ((sm3.trans sm4).free n5) upd_same (sm5 _ _ h1) ((same_upd (o := .tup [.int s, .ref a1, .ref p4]) n5) _ _ upd_same)
end
end K02
namespace K02
open PySem L2 HK
/-! ### made, armed, found again -/
def AD.new : AD := ⟨.non, false, 0, fun _ => List.replicate 64 0, []⟩
def AD.armed (d : AD) (v : V) : AD := { d with fz := v }
def AD.found (d : AD) (cs : List Int) : AD := ⟨.non, false, 0, crashA d.f (d.ws.zip cs), []⟩
def spInitA (C : Addr) : Sp := fun vs H Q _ => ∃ p dx, vs = [.ref p, .int 64, .int 16, .non] ∧ H p = some (.ins C dx []) ∧
  ∀ B W H', H B = none → H W = none → Off [p, B, W] H H' → DevS C H' p dx B W 0 AD.new → Q .non H'
def spArmA (C : Addr) : Sp := fun vs H Q _ => ∃ p dx B W N d v, vs = [.ref p, v] ∧ (v = .non ∨ ∃ n, v = .int n) ∧ DevS C H p dx B W N d ∧
  ∀ H', Bar p B W H H' → DevS C H' p dx B W N (d.armed v) → Q .non H'
def spRestA (C : Addr) : Sp := fun vs H Q _ => ∃ p dx B W N d Ch cs, vs = [.ref p, .ref Ch] ∧ DevS C H p dx B W N d ∧ N ≤ 900 ∧ H Ch = some (.lst (cs.map V.int)) ∧
  ∀ x dx' B' W' H', Same H H' → H x = none → H B' = none → H W' = none → DevS C H' x dx' B' W' N (d.found cs) → Q (.ref x) H'
def unI : V → Int
  | .int n => n
  | _ => 0
def datOf (H : Hp) (a : Addr) : List Int := match H a with
  | some (.tup xs) => xs.map unI
  | _ => []
theorem datOf_eq {H : Hp} {a : Addr} {x : List Int} (h : H a = some (tupI x)) : datOf H a = x := by
  unfold datOf
  rw [h]
  show (x.map V.int).map unI = x
  rw [List.map_map]
  exact (List.map_congr_left (fun n _ => rfl)).trans (List.map_id x)
theorem crash_abs {dat : Addr → List Int} : ∀ (es : List (En × List Int)) (cs : List Int) (f : Int → List Int), (∀ q ∈ es, dat q.1.2.2 = q.2) → crash 32 dat f ((es.map (·.1)).zip cs) = crashA f ((es.map fun q => (q.1.2.1, q.2)).zip cs)
  | [], cs, f, _ => rfl
  | q :: r, [], f, _ => rfl
  | q :: r, c :: cs, f, h => by
    have ih := crash_abs r cs (crash1 32 f q.1.2.1 q.2 c) fun y hy => h y (by simp [hy])
    unfold crash crashA at ih ⊢
    rw [List.map_cons, List.map_cons, List.zip_cons_cons, List.zip_cons_cons, List.foldl_cons, List.foldl_cons, h q (by simp)]
    exact ih
section
variable {P : Program} {w : World} {K : PySem.W.Frag} {mg : Str → Option Value} {base : Heap} {C CE : Addr} {k : Nat} {f : Addr} {fd : FuncData}
theorem restA (F : FnOk P w K mg base L2.CX0 k f fd ["self", "choices"] (spRest C)) : FnOk P w K mg base L2.CX0 k f fd ["self", "choices"] (spRestA C) := by
  refine F.imp fun vs H Q E h => ?_
  obtain ⟨p, dx, B, W, N, d, Ch, cs, rfl, hD, hN, hCh, k⟩ := h
  obtain ⟨i, nf, kvs, es, hB, hc, hW, hn, hw, hd⟩ := hD
  refine ⟨p, dx, d.dv, B, W, Ch, 32, kvs, d.f, es.map (·.1), datOf H, cs, rfl, i, rfl, by decide, by decide, hB, by omega, hc, hW, by rw [List.length_map]; omega, fun e he => ?_, hCh, fun x dx' B' W' kvs' H' s nx nB nW hl h1 h2 h3 h4 => ?_⟩
  · obtain ⟨q, hq, rfl⟩ := List.mem_map.mp he
    rw [datOf_eq (hd q hq).1]
    exact hd q hq
  · rw [List.length_map] at hl
    refine k x dx' B' W' H' s nx nB nW ⟨h1, .inl rfl, kvs', [], h2, ?_, ⟨h3, fun e he => by cases he⟩, by show kvs'.length + 0 ≤ N; omega, rfl, fun q hq => by cases hq⟩
    have e := crash_abs (dat := datOf H) es cs d.f fun q hq => datOf_eq (hd q hq).1
    show Cont H' 64 kvs' (crashA d.f (d.ws.zip cs))
    rw [hw, ← e]
    exact h4
theorem initA (F : FnOk P w K mg base L2.CX0 k f fd ["self", "block_size", "count", "blocks"] (spInit C)) : FnOk P w K mg base L2.CX0 k f fd ["self", "block_size", "count", "blocks"] (spInitA C) := by
  refine F.imp fun vs H Q E h => ?_
  obtain ⟨p, dx, rfl, hp, k⟩ := h
  refine ⟨p, dx, 64, 16, .non, [], rfl, hp, .inl ⟨rfl, rfl⟩, fun B W H' nB nW _ o h1 h2 h3 => ?_⟩
  exact k B W H' nB nW o ⟨h1, .inl rfl, [], [], h2, ⟨fun n => List.length_replicate .., fun n => .inl ⟨rfl, rfl⟩⟩, ⟨h3, fun e he => by cases he⟩, Nat.le_refl 0, rfl, fun q hq => by cases hq⟩
theorem armA (F : FnOk P w K mg base L2.CX0 k f fd ["self", "steps"] (spArm C)) : FnOk P w K mg base L2.CX0 k f fd ["self", "steps"] (spArmA C) := by
  refine F.imp fun vs H Q E h => ?_
  obtain ⟨p, dx, B, W, N, d, v, rfl, hv, hD, k⟩ := h
  obtain ⟨npB, npW, nBW⟩ := hD.neB
  obtain ⟨i, nf, kvs, es, hB, hc, hW, hn, hw, hd⟩ := hD
  refine ⟨p, dx, d.dv, B, W, v, rfl, i, k _ (fun b o h n1 n2 n3 => by rw [upd_ne n1]; exact h) ?_⟩
  have kp : Keep H (upd H p (.ins C dx (fsD { d.dv with fz := v } B W))) := Keep.upd fun xs z => by rw [i] at z; cases z
  exact ⟨upd_same, hv, kvs, es, by rw [upd_ne npB.symm]; exact hB, hc.keep kp, hW.mono' (upd_ne npW.symm) kp, hn, hw, fun q hq => ⟨kp _ _ (hd q hq).1, (hd q hq).2⟩⟩
end
/-! ### rows of blocks -/
abbrev Rw := En × List Int
def Rw.n (q : Rw) : Int := q.1.2.1
structure RowsAt (H : Hp) (r : Addr) (gs : List Rw) : Prop where
  lst : H r = some (.lst (gs.map fun q => V.ref q.1.1))
  tup : ∀ q ∈ gs, H q.1.1 = some (.tup [.int q.1.2.1, .ref q.1.2.2])
  dat : ∀ q ∈ gs, H q.1.2.2 = some (tupI q.2)
theorem RowsAt.same {H H' : Hp} {r : Addr} {gs : List Rw} (x : RowsAt H r gs) (s : Same H H') : RowsAt H' r gs := ⟨s _ _ x.lst, fun q hq => s _ _ (x.tup q hq), fun q hq => s _ _ (x.dat q hq)⟩
theorem RowsAt.bar {C p dx B W : Addr} {N : Nat} {d : AD} {H H' : Hp} {r : Addr} {gs : List Rw} (x : RowsAt H r gs) (D : DevS C H p dx B W N d) (b : Bar p B W H H') (n : r ≠ W) : RowsAt H' r gs := by
  have kp := D.keep b
  obtain ⟨i, nf, kvs, es, hB, hc, hW, hn, hw, hd⟩ := D
  exact ⟨b _ _ x.lst (ne_of x.lst i (by intro z; cases z)) (ne_of x.lst hB (by intro z; cases z)) n, fun q hq => kp _ _ (x.tup q hq), fun q hq => kp _ _ (x.dat q hq)⟩
def dRow (q : Rw) : PyData := .tuple [.int q.1.2.1, .tuple (q.2.map PyData.int)]
theorem RowsAt.dp {K : PySem.W.Frag} {H : Hp} {r : Addr} {gs : List Rw} (x : RowsAt H r gs) : Dp K H (.ref r) (.list (gs.map dRow)) := by
  refine Dp.lst (SqL.of x.lst) ?_
  have z : ∀ l : List Rw, (∀ q ∈ l, q ∈ gs) → DpAll K H (l.map fun q => V.ref q.1.1) (l.map dRow) := fun l => by
    induction l with
    | nil => intro _; exact .nil
    | cons q l ih =>
      intro h
      exact .cons (.tup (SqT.of (x.tup q (h q (by simp)))) (.cons (.int _) (.cons (.tup (SqT.of (x.dat q (h q (by simp)))) (dpall_ints _)) .nil))) (ih fun y hy => h y (by simp [hy]))
  exact z gs fun _ h => h
theorem dRow_lay (q : Rw) : (dRow q).canLay0 = true ∧ (dRow q).depth = 2 := by
  unfold dRow
  simp [PyData.canLay0, PyData.canLayAll0, PyData.depth, PyData.depthAll, PySem.W.ke_canLayAll0, PySem.W.ke_depthAll]
theorem shaped_rows (gs : List Rw) : SeqAt.shaped (.list (gs.map dRow)) = true := by
  have z : ∀ l : List Rw, PyData.canLayAll0 (l.map dRow) = true ∧ PyData.depthAll (l.map dRow) ≤ 2 := fun l => by
    induction l with
    | nil => exact ⟨rfl, Nat.zero_le _⟩
    | cons q l ih =>
      rw [List.map_cons, PyData.canLayAll0, PyData.depthAll, (dRow_lay q).1, (dRow_lay q).2, ih.1]
      exact ⟨rfl, by have := ih.2; omega⟩
  obtain ⟨h1, h2⟩ := z gs
  unfold SeqAt.shaped
  rw [PyData.canLay0, PyData.depth, h1, Bool.true_and, decide_eq_true_eq]
  omega
theorem eqv_rows : ∀ gs hs : List Rw, PyData.eqvAll (gs.map dRow) (hs.map dRow) = decide ((gs.map fun q => (q.1.2.1, q.2)) = hs.map fun q => (q.1.2.1, q.2))
  | [], [] => by simp [PyData.eqvAll]
  | [], _ :: _ => by simp [PyData.eqvAll]
  | _ :: _, [] => by simp [PyData.eqvAll]
  | q :: r, y :: s => by
    rw [List.map_cons, List.map_cons, PyData.eqvAll, eqv_rows r s]
    unfold dRow
    rw [PyData.eqv, PyData.eqvAll, PyData.eqvAll, PyData.eqv, PyData.eqv, eqv_ints]
    simp only [List.map_cons, List.cons.injEq, Prod.mk.injEq]
    by_cases h1 : q.1.2.1 = y.1.2.1 <;> by_cases h2 : q.2 = y.2 <;> by_cases h3 : (r.map fun q => (q.1.2.1, q.2)) = s.map fun q => (q.1.2.1, q.2) <;> simp [h1, h2, h3, PyData.eqvAll]
theorem ne_rows {K : PySem.W.Frag} {H : Hp} {a b : Addr} {gs hs : List Rw} {Q : VK} (ha : RowsAt H a gs) (hb : RowsAt H b hs) (q : Q (.bl (!decide ((gs.map fun q => (q.1.2.1, q.2)) = hs.map fun q => (q.1.2.1, q.2)))) H) : rNeD K (.ref a) (.ref b) H Q := by
  refine ⟨_, _, ha.dp, hb.dp, shaped_rows gs, shaped_rows hs, ?_⟩
  rw [PyData.eqv, eqv_rows]
  exact q
/-! ### a device under a row of writes (some) and flushes (none) -/
abbrev Op := Option (Int × List Int)
def AD.did (d : AD) : Op → AD
  | some (n, x) => d.wrote n x
  | none => d.flushed
noncomputable def runA (d : AD) : List Op → AD × Bool
  | [] => (d, true)
  | o :: r => open Classical in if d.alive then runA (d.did o) r else (d.killed, false)
theorem runA_cons_alive {d : AD} {o : Op} {r : List Op} (h : d.alive) : runA d (o :: r) = runA (d.did o) r := by
  rw [runA, if_pos h]
theorem runA_cons_dead {d : AD} {o : Op} {r : List Op} (h : ¬ d.alive) : runA d (o :: r) = (d.killed, false) := by
  rw [runA, if_neg h]
theorem runA_app : ∀ (l m : List Op) (d : AD), runA d (l ++ m) = if (runA d l).2 = true then runA (runA d l).1 m else runA d l
  | [], m, d => by rw [List.nil_append, runA, if_pos rfl]
  | o :: r, m, d => by
    rw [List.cons_append]
    by_cases h : d.alive
    · rw [runA_cons_alive h, runA_cons_alive h]
      exact runA_app r m _
    · rw [runA_cons_dead h, runA_cons_dead h, if_neg (by intro z; cases z)]
/-- what a method that does a row of operations comes to -/
def Runs (C CE : Addr) (H : Hp) (p dx B W : Addr) (N : Nat) (d : AD) (ops : List Op) (Q : Hp → Prop) (E : XK) : Prop :=
  ((runA d ops).2 = true → ∀ H' W', (W' = W ∨ H W' = none) → Bar p B W H H' → DevS C H' p dx B W' (N + ops.length) (runA d ops).1 → Q H') ∧
  ((runA d ops).2 = false → ∀ H' W', (W' = W ∨ H W' = none) → Bar p B W H H' → DevS C H' p dx B W' (N + ops.length) (runA d ops).1 → E (.ref CE) none H')
end K02
namespace K02
open PySem L2 HK
/-! ### operations one by one -/
section
variable {C CE p dx B W : Addr} {H H1 : Hp} {N : Nat} {d : AD} {Q : Hp → Prop} {E : XK} {o : Op} {r : List Op}
theorem Runs.nil (x : Runs C CE H p dx B W N d [] Q E) (D : DevS C H p dx B W N d) : Q H := x.1 rfl H W (.inl rfl) (Bar.refl _ _ _ _) D
theorem Runs.kill (x : Runs C CE H p dx B W N d (o :: r) Q E) (h : ¬ d.alive) : ∀ H', Bar p B W H H' → DevS C H' p dx B W N d.killed → E (.ref CE) none H' := fun H' b D => by
  refine x.2 (by rw [runA_cons_dead h]) H' W (.inl rfl) b ?_
  rw [runA_cons_dead h]
  exact D.mono (by omega)
theorem fresh_back {M : Nat} {d1 : AD} {W1 W' : Addr} (D1 : DevS C H1 p dx B W1 M d1) (hW : W1 = W ∨ H W1 = none) (b : Bar p B W H H1) (z : W' = W1 ∨ H1 W' = none) : W' = W ∨ H W' = none := by
  rcases z with rfl | z
  · exact hW
  · by_cases e : W' = W
    · exact .inl e
    · refine .inr ?_
      cases q : H W' with
      | none => rfl
      | some u =>
        exfalso
        by_cases e1 : W' = p
        · rw [e1, D1.ins] at z; cases z
        · by_cases e2 : W' = B
          · obtain ⟨i, nf, kvs, es, hB, _⟩ := D1
            rw [e2, hB] at z; cases z
          · rw [b _ _ q e1 e2 e] at z; cases z
theorem Runs.step {M : Nat} {d1 : AD} {W1 : Addr} (x : Runs C CE H p dx B W N d (o :: r) Q E) (h : d.alive) (D1 : DevS C H1 p dx B W1 M d1) (hW : W1 = W ∨ H W1 = none) (b : Bar p B W H H1) : Runs C CE H1 p dx B W1 (N + 1) (d.did o) r Q E := by
  obtain ⟨x1, x2⟩ := x
  rw [runA_cons_alive h] at x1 x2
  have en : N + 1 + r.length = N + (o :: r).length := by rw [List.length_cons]; omega
  rw [← en] at x1 x2
  exact ⟨fun c H' W' z y D => x1 c H' W' (fresh_back D1 hW b z) (b.trans hW y) D, fun c H' W' z y D => x2 c H' W' (fresh_back D1 hW b z) (b.trans hW y) D⟩
theorem Runs.same {l : List Op} (x : Runs C CE H p dx B W N d l Q E) (s : Same H H1) : Runs C CE H1 p dx B W N d l Q E :=
  ⟨fun c H' W' z y D => x.1 c H' W' (z.imp id fun z => by
      cases q : H W' with
      | none => rfl
      | some u => rw [s _ _ q] at z; cases z) (Bar.pre s y) D, fun c H' W' z y D => x.2 c H' W' (z.imp id fun z => by
      cases q : H W' with
      | none => rfl
      | some u => rw [s _ _ q] at z; cases z) (Bar.pre s y) D⟩
end
/-! ### the journal's text -/
abbrev sJInit : Stmt := inClass (top 18) 0
abbrev sRoom : Stmt := inClass (top 18) 1
abbrev sCommit : Stmt := inClass (top 18) 2
abbrev sWG : Stmt := inClass (top 18) 3
abbrev sWH : Stmt := inClass (top 18) 4
abbrev sPend : Stmt := inClass (top 18) 5
abbrev sRec : Stmt := inClass (top 18) 6
structure JCls (K : PySem.W.Frag) (mg : Str → Option Value) (CJ CJE : Addr) : Prop where
  cl : Cls K CJ
  n1 : NoAttr K CJ "device"
  n2 : NoAttr K CJ "start"
  n3 : NoAttr K CJ "blocks"
  n4 : NoAttr K CJ "serial"
  gC : mg "Journal" = some (.ref CJ)
  gE : mg "JournalError" = some (.ref CJE)
  xE : PySem.W.excIn K CJE [.type "ValueError", .type "Exception", .type "BaseException", .type "object"] "ValueError.__new__" = true
  kE : PySem.W.keepIn K (.ref CJE) = true
  bE : PySem.W.subIn K (.ref CJE) (.type "BaseException") = some true
  tE : PySem.W.typeIn K (.ref CJE) = some (.type "type")
  enum : mg "enumerate" = none
  range : mg "range" = none
  zip : mg "zip" = none
  list : mg "list" = none
def fsJ (p : Addr) (sr : Int) : List (Str × V) := [("device", .ref p), ("start", .int 1), ("blocks", .int 6), ("serial", .int sr)]
def JAt (CJ : Addr) (H : Hp) (j jx p : Addr) (sr : Int) : Prop := H j = some (.ins CJ jx (fsJ p sr))
def spJInit (CJ : Addr) : Sp := fun vs H Q _ => ∃ j jx p, vs = [.ref j, .ref p, .int 1, .int 6] ∧ H j = some (.ins CJ jx []) ∧ Q .non (upd H j (.ins CJ jx (fsJ p 0)))
def spRoom (CJ C : Addr) : Sp := fun vs H Q _ => ∃ j jx p dx sr N d B W, vs = [.ref j] ∧ JAt CJ H j jx p sr ∧ DevS C H p dx B W N d ∧ Q (.int 5) H
def rowNs (gs : List Rw) : List Int := gs.map fun q => q.1.2.1
def rowDs (gs : List Rw) : List Int := gs.flatMap (·.2)
def okRows (gs : List Rw) : Prop := ∀ q ∈ gs, q.2.length = 64 ∧ 0 ≤ q.1.2.1 ∧ q.1.2.1 < 16
def zero64 : List Int := List.replicate 64 0
def opsG (sr : Int) (gs : List Rw) : List Op := (gs.mapIdx fun i q => some (((2 + i : Nat) : Int), q.2)) ++ [none, some (1, headI (sr + 1) (rowNs gs) (sumI (startI (sr + 1) (rowNs gs) ++ rowDs gs))), none]
def opsH (gs : List Rw) : List Op := (gs.map fun q => some (q.1.2.1, q.2)) ++ [none, some (1, zero64), none]
def spWG (CJ C CE : Addr) : Sp := fun vs H Q E => ∃ j jx p dx sr N d B W r gs, vs = [.ref j, .ref r] ∧ JAt CJ H j jx p sr ∧ j ≠ p ∧ DevS C H p dx B W N d ∧ N ≤ 800 ∧ RowsAt H r gs ∧ r ≠ W ∧ gs.length ≤ 5 ∧ okRows gs ∧ Runs C CE H p dx B W N d (opsG sr gs) (Q .non) E
def spWH (CJ C CE : Addr) : Sp := fun vs H Q E => ∃ j jx p dx sr N d B W r gs, vs = [.ref j, .ref r] ∧ JAt CJ H j jx p sr ∧ j ≠ p ∧ DevS C H p dx B W N d ∧ N ≤ 800 ∧ RowsAt H r gs ∧ r ≠ W ∧ gs.length ≤ 5 ∧ okRows gs ∧ Runs C CE H p dx B W N d (opsH gs) (Q .non) E
section
variable {P : Program} {w : World} {K : PySem.W.Frag} {mg : Str → Option Value} {base : Heap} {C CE CJ CJE : Addr}
theorem scJInit : FnScope ["self", "device", "start", "count"] ["self", "device", "start", "count"] (defScope sJInit) := ⟨rfl, rfl, rfl, by decide +kernel, rfl, by decide +kernel, by decide +kernel⟩
theorem ok_jinit {f : Addr} {fd : FuncData} (F : L2.Fun K "__init__" "Journal.__init__" sJInit f fd) (J : JCls K mg CJ CJE) : FnOk P w K mg base L2.CX0 1 f fd ["self", "device", "start", "count"] (spJInit CJ) := by
  refine F.ok scJInit (fun vs H Q E h => ?_) (fun cdv A outer s H vs Q E hr h => ?_)
  · obtain ⟨j, jx, p, rfl, _⟩ := h
    rfl
  · obtain ⟨j, jx, p, rfl, hj, k⟩ := h
    refine ⟨_, pss_cons (ps_fld (pv 0) (pv 1) rfl) (pss_cons (ps_fld (pv 0) (pv 2) rfl) (pss_cons (ps_fld (pv 0) (pv 3) rfl) (pss_one (ps_fld (pv 0) pe_int rfl)))), ?_⟩
    refine ⟨_, rfl, _, rfl, j, CJ, jx, _, rfl, hj, J.cl, J.n1, (by show 0 < 1000; decide), ?_⟩
    refine ⟨_, rfl, _, rfl, j, CJ, jx, _, rfl, upd_same, J.cl, J.n2, (by show 1 < 1000; decide), ?_⟩
    refine ⟨_, rfl, _, rfl, j, CJ, jx, _, rfl, upd_same, J.cl, J.n3, (by show 2 < 1000; decide), ?_⟩
    refine ⟨_, rfl, j, CJ, jx, _, rfl, upd_same, J.cl, J.n4, (by show 3 < 1000; decide), ?_⟩
    rw [upd_upd, upd_upd, upd_upd]
    exact k
theorem scRoom : FnScope ["self"] ["self"] (defScope sRoom) := ⟨rfl, rfl, rfl, by decide +kernel, rfl, by decide +kernel, by decide +kernel⟩
theorem ok_room {f fR : Addr} {fd fdR : FuncData} (F : L2.Fun K "room" "Journal.room" sRoom f fd) (T : DTxt K mg C CE) (J : JCls K mg CJ CJE)
    (FR : FnOk P w K mg base L2.CX0 1 fR fdR ["block_size", "count"] spHeadRoom) (mR : mg "head_room" = some (.ref fR)) (kR : PySem.W.keepIn K (.ref fR) = true) (bR : Binds K fdR ["block_size", "count"] []) :
    FnOk P w K mg base L2.CX0 2 f fd ["self"] (spRoom CJ C) := by
  refine F.ok scRoom (fun vs H Q E h => ?_) (fun cdv A outer s H vs Q E hr h => ?_)
  · obtain ⟨j, jx, p, dx, sr, N, d, B, W, rfl, _⟩ := h
    rfl
  · obtain ⟨j, jx, p, dx, sr, N, d, B, W, rfl, hj, hD, k⟩ := h
    refine ⟨_, pss_one (ps_ret (pe_call FR hr (by rfl) mR kR bR .nil pass0 (pa_cons (pe_fld (pe_fld (pv 0) rfl) rfl) (pa_cons (pe_fld (pv 0) rfl) pa_nil)))), ?_⟩
    exact ⟨_, rfl, j, CJ, jx, _, _, rfl, hj, J.cl, J.n1, rfl, p, C, dx, _, _, rfl, hD.ins, T.cl, T.n1, rfl, _, rfl, j, CJ, jx, _, _, rfl, hj, J.cl, J.n3, rfl, .inl ⟨rfl, k⟩⟩
end
end K02
namespace K02
open PySem L2 HK
section
variable {C CE p dx B W t : Addr} {H : Hp} {N : Nat} {d : AD} {Q : Hp → Prop} {E : XK} {l : List Op} {G : VK} {n : Int} {x : List Int}
theorem spW_of (D : DevS C H p dx B W N d) (hN : N ≤ 900) (R : Runs C CE H p dx B W N d (some (n, x) :: l) Q E) (ht : H t = some (tupI x)) (ok : x.length = 64 ∧ 0 ≤ n ∧ n < 16)
    (k : ∀ H' d', Bar p B W H H' → DevS C H' p dx B W (N + 1) d' → Runs C CE H' p dx B W (N + 1) d' l Q E → G .non H') : spWriteA C CE [.ref p, .int n, .ref t] H G E :=
  ⟨p, dx, B, W, N, d, n, t, x, rfl, D, hN, ht, fun _ => ⟨fun na => R.kill na, fun al H' b D' => k H' _ b D' (R.step al D' (.inl rfl) b)⟩, fun z => absurd ok z⟩
theorem spF_of (D : DevS C H p dx B W N d) (hN : N ≤ 900) (R : Runs C CE H p dx B W N d (none :: l) Q E)
    (k : ∀ H' W' d', H W' = none → Bar p B W H H' → DevS C H' p dx B W' (N + 1) d' → Runs C CE H' p dx B W' (N + 1) d' l Q E → G .non H') : spFlushA C CE [.ref p] H G E :=
  ⟨p, dx, B, W, N, d, rfl, D, hN, fun na => R.kill na, fun al H' W' n b D' => k H' W' _ n b (D'.mono (by omega)) (R.step al D' (.inr n) b)⟩
theorem JAt.bar {CJ j jx : Addr} {sr : Int} {H' : Hp} (h : JAt CJ H j jx p sr) (D : DevS C H p dx B W N d) (n : j ≠ p) (b : Bar p B W H H') : JAt CJ H' j jx p sr := by
  obtain ⟨i, nf, kvs, es, hB, hc, hW, hn, hw, hd⟩ := D
  exact b _ _ h n (ne_of h hB (by intro z; cases z)) (ne_of h hW.lst (by intro z; cases z))
theorem DevS.fresh_ne {r : Addr} {u : HO} {W' : Addr} (h : H r = some u) (n : H W' = none) : r ≠ W' := ne_of_none h n
end
section
variable {P : Program} {w : World} {K : PySem.W.Frag} {mg : Str → Option Value} {base : Heap} {C CE CJ CJE : Addr}
theorem scWH : FnScope ["self", "rows", "number", "data"] ["self", "rows"] (defScope sWH) := ⟨rfl, rfl, rfl, by decide +kernel, rfl, by decide +kernel, by decide +kernel⟩
theorem ok_wh {f fW fF : Addr} {fd fdW fdF : FuncData} (F : L2.Fun K "write_home" "Journal.write_home" sWH f fd) (T : DTxt K mg C CE) (J : JCls K mg CJ CJE)
    (FW : FnOk P w K mg base (L2.CX P w) 3 fW fdW ["self", "number", "data"] (spWriteA C CE)) (bW : Binds K fdW ["self", "number", "data"] []) (mW : Meth K C "write_block" fW)
    (FF : FnOk P w K mg base (L2.CX P w) 3 fF fdF ["self"] (spFlushA C CE)) (bF : Binds K fdF ["self"] []) (mF : Meth K C "flush" fF) :
    FnOk P w K mg base (L2.CX P w) 4 f fd ["self", "rows"] (spWH CJ C CE) := by
  refine F.okX scWH (fun vs H Q E h => ?_) (fun cdv A outer s H vs Q E hr h => ?_)
  · obtain ⟨j, jx, p, dx, sr, N, d, B, W, r, gs, rfl, _⟩ := h
    rfl
  · obtain ⟨j, jx, p, dx, sr, N, d, B, W, r, gs, rfl, hj, njp, hD, hN, hR, nrW, h5, hok, R⟩ := h
    refine ⟨_, pss_cons (ps_for (passes_of rfl) rfl (pi_list (pv 1)) (pg_tup rfl (pgs_cons (pg_name (i := 2) scWH.nd rfl (Or.inl rfl)) (pgs_cons (pg_name (i := 3) scWH.nd rfl (Or.inl rfl)) pgs_nil)))
        (pss_one (ps_expr (pe_meth (pe_fld (pv 0) rfl) T.cl mW FW hr bW .nil (passes_call (takes_of rfl rfl rfl rfl) (fun _ _ _ _ h => h)) (pa_cons (pv 2) (pa_cons (pv 3) pa_nil))))))
      (pss_cons (ps_expr (pe_meth0 (pe_fld (pv 0) rfl) T.cl mF FF hr bF .nil (passes_call (takes_of rfl rfl rfl rfl) (fun _ _ _ _ h => h))))
      (pss_cons (ps_expr (pe_meth (pe_fld (pv 0) rfl) T.cl mW FW hr bW .nil (passes_call (takes_of rfl rfl rfl rfl) (fun _ _ _ _ h => h)) (pa_cons (pe_fld (pv 0) rfl) (pa_cons (pe_op op_repT (pe_tup (pa_cons pe_int pa_nil)) (pe_fld (pe_fld (pv 0) rfl) rfl)) pa_nil))))
      (pss_one (ps_expr (pe_meth0 (pe_fld (pv 0) rfl) T.cl mF FF hr bF .nil (passes_call (takes_of rfl rfl rfl rfl) (fun _ _ _ _ h => h))))))), ?_⟩
    refine ⟨_, rfl, r, rfl, ⟨_, SqL.of hR.lst⟩, ?_⟩
    refine for_list (K := K) (a := r) (xs := gs.map fun q => V.ref q.1.1) (fun i σ H' => ∃ W' d' u v, σ = [some (.ref j), some (.ref r), u, v] ∧ JAt CJ H' j jx p sr ∧ RowsAt H' r gs ∧ r ≠ W' ∧ DevS C H' p dx B W' (N + i) d' ∧ Runs C CE H' p dx B W' (N + i) d' ((opsH gs).drop i) (Q .non) E)
      ⟨W, d, none, none, rfl, hj, hR, nrW, hD, R⟩ (fun i σ H' hi q => ?_) (fun i x σ H' hx q => ?_) (fun σ H' q => ?_)
    · obtain ⟨W', d', u, v, rfl, hj', hR', _⟩ := q
      exact SqL.of hR'.lst
    · obtain ⟨W', d', u, v, rfl, hj', hR', nr', hD', R'⟩ := q
      rw [List.getElem?_map] at hx
      obtain ⟨q, hq, rfl⟩ := Option.map_eq_some_iff.mp hx
      have hm := List.mem_of_getElem? hq
      have hi := (List.getElem?_eq_some_iff.mp hq).1
      have ed : (opsH gs).drop i = some (q.1.2.1, q.2) :: (opsH gs).drop (i + 1) := by
        have e1 : (opsH gs)[i]? = some (some (q.1.2.1, q.2)) := by
          unfold opsH
          rw [List.getElem?_append_left (by rw [List.length_map]; exact hi), List.getElem?_map, hq]
          rfl
        obtain ⟨h1, h2⟩ := List.getElem?_eq_some_iff.mp e1
        rw [List.drop_eq_getElem_cons h1, h2]
      rw [ed] at R'
      refine ⟨q.1.1, _, rfl, SqT.of (hR'.tup q hm), rfl, _, _, rfl, _, _, rfl, rfl, ?_⟩
      refine ⟨_, rfl, j, CJ, jx, _, _, rfl, hj', J.cl, J.n1, rfl, p, dx, _, rfl, hD'.ins, rfl, _, rfl, _, rfl, ?_⟩
      refine spW_of hD' (by omega) R' (hR'.dat q hm) (hok q hm) fun H2 d2 b2 D2 R2 => ?_
      exact ⟨W', d2, _, _, rfl, hj'.bar hD' njp b2, hR'.bar hD' b2 nr', nr', D2, R2⟩
    · obtain ⟨W', d', u, v, rfl, hj', hR', nr', hD', R'⟩ := q
      rw [List.length_map] at hD' R'
      have ed : (opsH gs).drop gs.length = [none, some (1, zero64), none] := by
        unfold opsH
        rw [List.drop_left' (by rw [List.length_map])]
      rw [ed] at R'
      refine ⟨_, rfl, j, CJ, jx, _, _, rfl, hj', J.cl, J.n1, rfl, p, dx, _, rfl, hD'.ins, rfl, ?_⟩
      refine spF_of hD' (by omega) R' fun H2 W2 d2 n2 b2 D2 R2 => ?_
      have hj2 := hj'.bar hD' njp b2
      refine ⟨_, rfl, j, CJ, jx, _, _, rfl, hj2, J.cl, J.n1, rfl, p, dx, _, rfl, D2.ins, rfl, _, rfl, j, CJ, jx, _, _, rfl, hj2, J.cl, J.n2, rfl, by show 1 ≤ sizeLine; decide, fun t nt => ?_⟩
      have s3 : Same H2 (upd H2 t (.tup [.int 0])) := same_upd nt
      refine ⟨_, rfl, j, CJ, jx, _, _, rfl, s3 _ _ hj2, J.cl, J.n1, rfl, p, C, dx, _, _, rfl, (D2.same s3).ins, T.cl, T.n1, rfl, t, _, [.int 0], rfl, rfl, SqT.of upd_same, (fun z => by cases z), by show (2 : Int) ≤ 64; decide, by show (64 : Int) ≤ 1000; decide, by decide, fun z nz => ?_⟩
      have s4 := s3.trans (same_upd (o := .tup (List.replicate (64 : Int).toNat [V.int 0]).flatten) nz)
      have hz : (upd (upd H2 t (.tup [.int 0])) z (.tup (List.replicate (64 : Int).toNat [V.int 0]).flatten)) z = some (tupI zero64) := by
        rw [upd_same, flat_zeros]
        rfl
      refine spW_of (D2.same s4) (by omega) (R2.same s4) hz ⟨rfl, by decide, by decide⟩ fun H3 d3 b3 D3 R3 => ?_
      have hj3 := JAt.bar (s4 _ _ hj2) (D2.same s4) njp b3
      refine ⟨_, rfl, j, CJ, jx, _, _, rfl, hj3, J.cl, J.n1, rfl, p, dx, _, rfl, D3.ins, rfl, ?_⟩
      exact spF_of D3 (by omega) R3 fun H4 W4 d4 n4 b4 D4 R4 => R4.nil D4
end
end K02
namespace K02
open PySem L2 HK
theorem lst_bar {C p dx B W a : Addr} {H H' : Hp} {N : Nat} {d : AD} {xs : List V} (h : H a = some (.lst xs)) (D : DevS C H p dx B W N d) (n : a ≠ W) (b : Bar p B W H H') : H' a = some (.lst xs) := by
  obtain ⟨i, nf, kvs, es, hB, hc, hW, hn, hw, hd⟩ := D
  exact b _ _ h (ne_of h i (by intro z; cases z)) (ne_of h hB (by intro z; cases z)) n
theorem DevS.W_some {C p dx B W : Addr} {H : Hp} {N : Nat} {d : AD} (D : DevS C H p dx B W N d) : ∃ u, H W = some u := by
  obtain ⟨i, nf, kvs, es, hB, hc, hW, hn, hw, hd⟩ := D
  exact ⟨_, hW.lst⟩
theorem DevS.new_ne {C p dx B W a : Addr} {H : Hp} {N : Nat} {d : AD} (D : DevS C H p dx B W N d) (n : H a = none) : a ≠ W := by
  obtain ⟨u, h⟩ := D.W_some
  exact (ne_of_none h n).symm
def psOf (gs : List Rw) : List (Addr × List Int) := gs.map fun q => (q.1.2.2, q.2)
theorem psOf_flat (gs : List Rw) : flat (psOf gs) = rowDs gs := by
  unfold flat psOf rowDs
  rw [List.flatMap_map]
theorem psOf_refs (gs : List Rw) : (psOf gs).map (fun q => V.ref q.1) = gs.map fun q => V.ref q.1.2.2 := by
  unfold psOf
  rw [List.map_map]
  rfl
theorem rowDs_len {gs : List Rw} (h : okRows gs) : (rowDs gs).length = 64 * gs.length := by
  unfold rowDs
  induction gs with
  | nil => rfl
  | cons q r ih =>
    rw [List.flatMap_cons, List.length_append, ih (fun y hy => h y (by simp [hy])), (h q (by simp)).1, List.length_cons]
    omega
section
variable {P : Program} {w : World} {K : PySem.W.Frag} {mg : Str → Option Value} {base : Heap} {C CE CJ CJE : Addr}
abbrev NWG : List Str := ["self", "rows", "numbers", "datas", "place", "data", "number"]
theorem scWG : FnScope NWG ["self", "rows"] (defScope sWG) := ⟨rfl, rfl, rfl, by decide +kernel, rfl, by decide +kernel, by decide +kernel⟩
theorem ok_wg {f fW fF fH : Addr} {fd fdW fdF fdH : FuncData} (F : L2.Fun K "write_group" "Journal.write_group" sWG f fd) (T : DTxt K mg C CE) (J : JCls K mg CJ CJE)
    (FW : FnOk P w K mg base (L2.CX P w) 3 fW fdW ["self", "number", "data"] (spWriteA C CE)) (bW : Binds K fdW ["self", "number", "data"] []) (mW : Meth K C "write_block" fW)
    (FF : FnOk P w K mg base (L2.CX P w) 3 fF fdF ["self"] (spFlushA C CE)) (bF : Binds K fdF ["self"] []) (mF : Meth K C "flush" fF)
    (FH : FnOk P w K mg base L2.CX0 4 fH fdH ["serial", "numbers", "rows", "block_size"] spHead) (mH : mg "head_of" = some (.ref fH)) (kH : PySem.W.keepIn K (.ref fH) = true) (bH : Binds K fdH ["serial", "numbers", "rows", "block_size"] []) :
    FnOk P w K mg base (L2.CX P w) 5 f fd ["self", "rows"] (spWG CJ C CE) := by
  refine F.okX scWG (fun vs H Q E h => ?_) (fun cdv A outer s H vs Q E hr h => ?_)
  · obtain ⟨j, jx, p, dx, sr, N, d, B, W, r, gs, rfl, _⟩ := h
    rfl
  · obtain ⟨j, jx, p, dx, sr, N, d, B, W, r, gs, rfl, hj, njp, hD, hN, hR, nrW, h5, hok, R⟩ := h
    have rW := FW.mono (show 3 ≤ 4 by decide)
    have rF := FF.mono (show 3 ≤ 4 by decide)
    refine ⟨_, pss_cons (ps_setLc (i := 2) (own := [("number", 6), ("data", 5)]) (g := gTup K 2 (gCons (gName 6) (gCons (gName 5) gNil))) (by rfl) scWG.nd rfl rfl (sw_true rfl rfl rfl (by decide +kernel)) (pi_list (pv 1))
          (blkOk_by (N := NWG) (sc := defScope sWG) (by decide +kernel)) (fun _ _ _ _ _ => pg_tup rfl (pgs_cons (pg_name (i := 6) scWG.nd rfl (Or.inl rfl)) (pgs_cons (pg_name (i := 5) scWG.nd rfl (Or.inl rfl)) pgs_nil))) (fun _ _ _ _ _ => pts_nil) (fun _ _ _ _ _ => pv 6))
      (pss_cons (ps_setLc (i := 3) (own := [("number", 6), ("data", 5)]) (g := gTup K 2 (gCons (gName 6) (gCons (gName 5) gNil))) (by rfl) scWG.nd rfl rfl (sw_true rfl rfl rfl (by decide +kernel)) (pi_list (pv 1))
          (blkOk_by (N := NWG) (sc := defScope sWG) (by decide +kernel)) (fun _ _ _ _ _ => pg_tup rfl (pgs_cons (pg_name (i := 6) scWG.nd rfl (Or.inl rfl)) (pgs_cons (pg_name (i := 5) scWG.nd rfl (Or.inl rfl)) pgs_nil))) (fun _ _ _ _ _ => pts_nil) (fun _ _ _ _ _ => pv 5))
      (pss_cons (ps_for (passes_of rfl) rfl (pi_enum (by rfl) J.enum (pa_cons (pv 3) pa_nil)) (pg_tup rfl (pgs_cons (pg_name (i := 4) scWG.nd rfl (Or.inl rfl)) (pgs_cons (pg_name (i := 5) scWG.nd rfl (Or.inl rfl)) pgs_nil)))
        (pss_one (ps_expr (pe_meth (pe_fld (pv 0) rfl) T.cl mW rW hr bW .nil (passes_call (takes_of rfl rfl rfl rfl) (fun _ _ _ _ h => h)) (pa_cons (pe_op op_add (pe_op op_add (pe_fld (pv 0) rfl) pe_int) (pv 4)) (pa_cons (pv 5) pa_nil))))))
      (pss_cons (ps_expr (pe_meth0 (pe_fld (pv 0) rfl) T.cl mF rF hr bF .nil (passes_call (takes_of rfl rfl rfl rfl) (fun _ _ _ _ h => h))))
      (pss_cons (ps_expr (pe_meth (pe_fld (pv 0) rfl) T.cl mW rW hr bW .nil (passes_call (takes_of rfl rfl rfl rfl) (fun _ _ _ _ h => h)) (pa_cons (pe_fld (pv 0) rfl)
          (pa_cons (pe_call FH hr (by rfl) mH kH bH .nil pass0 (pa_cons (pe_op op_add (pe_fld (pv 0) rfl) pe_int) (pa_cons (pv 2) (pa_cons (pv 3) (pa_cons (pe_fld (pe_fld (pv 0) rfl) rfl) pa_nil))))) pa_nil))))
      (pss_one (ps_expr (pe_meth0 (pe_fld (pv 0) rfl) T.cl mF rF hr bF .nil (passes_call (takes_of rfl rfl rfl rfl) (fun _ _ _ _ h => h))))))))), ?_⟩
    -- numbers
    refine ⟨_, rfl, r, rfl, ⟨_, SqL.of hR.lst⟩, fun D1 nD1 => ?_⟩
    refine lc_list (K := K) (a := r) (xs := gs.map fun q => V.ref q.1.1) (fun i H' => H' = upd H D1 (.lst ((rowNs (gs.take i)).map V.int))) rfl (fun i H' hi q => ?_) (fun i x H' hx q => ?_) (fun H' q => ?_)
    · subst q
      exact SqL.of (same_upd nD1 _ _ hR.lst)
    · subst q
      rw [List.getElem?_map] at hx
      obtain ⟨q, hq, rfl⟩ := Option.map_eq_some_iff.mp hx
      have hm := List.mem_of_getElem? hq
      have hi := (List.getElem?_eq_some_iff.mp hq).1
      have s1 : Same H (upd H D1 (.lst ((rowNs (gs.take i)).map V.int))) := same_upd nD1
      refine ⟨q.1.1, _, rfl, SqT.of (s1 _ _ (hR.tup q hm)), rfl, _, _, rfl, _, _, rfl, rfl, rfl, _, rfl, _, upd_same, ?_, ?_⟩
      · rw [List.length_map]
        unfold rowNs
        rw [List.length_map, List.length_take]
        exact small1000 (by omega)
      · rw [upd_upd, List.take_add_one, hq]
        unfold rowNs
        simp
    subst q
    rw [List.length_map, List.take_length]
    have s1 : Same H (upd H D1 (.lst ((rowNs gs).map V.int))) := same_upd nD1
    have hD1 := hD.same s1
    have hR1 := hR.same s1
    have hj1 : JAt CJ _ j jx p sr := s1 _ _ hj
    have R1 := R.same s1
    have l1 : (upd H D1 (.lst ((rowNs gs).map V.int))) D1 = some (.lst ((rowNs gs).map V.int)) := upd_same
    have n1 : D1 ≠ W := hD.new_ne nD1
    generalize upd H D1 (.lst ((rowNs gs).map V.int)) = H1 at s1 hD1 hR1 hj1 R1 l1 ⊢
    -- datas
    refine ⟨_, rfl, r, rfl, ⟨_, SqL.of hR1.lst⟩, fun D2 nD2 => ?_⟩
    refine lc_list (K := K) (a := r) (xs := gs.map fun q => V.ref q.1.1) (fun i H' => H' = upd H1 D2 (.lst ((gs.take i).map fun q => V.ref q.1.2.2))) rfl (fun i H' hi q => ?_) (fun i x H' hx q => ?_) (fun H' q => ?_)
    · subst q
      exact SqL.of (same_upd nD2 _ _ hR1.lst)
    · subst q
      rw [List.getElem?_map] at hx
      obtain ⟨q, hq, rfl⟩ := Option.map_eq_some_iff.mp hx
      have hm := List.mem_of_getElem? hq
      have hi := (List.getElem?_eq_some_iff.mp hq).1
      have s2 : Same H1 (upd H1 D2 (.lst ((gs.take i).map fun q => V.ref q.1.2.2))) := same_upd nD2
      refine ⟨q.1.1, _, rfl, SqT.of (s2 _ _ (hR1.tup q hm)), rfl, _, _, rfl, _, _, rfl, rfl, rfl, _, rfl, _, upd_same, ?_, ?_⟩
      · rw [List.length_map, List.length_take]
        exact small1000 (by omega)
      · rw [upd_upd, List.take_add_one, hq]
        simp
    subst q
    rw [List.length_map, List.take_length]
    have s2 : Same H1 (upd H1 D2 (.lst (gs.map fun q => V.ref q.1.2.2))) := same_upd nD2
    have hD2 := hD1.same s2
    have hR2 := hR1.same s2
    have hj2 : JAt CJ _ j jx p sr := s2 _ _ hj1
    have R2 := R1.same s2
    have l2 := s2 _ _ l1
    have m2 : (upd H1 D2 (.lst (gs.map fun q => V.ref q.1.2.2))) D2 = some (.lst (gs.map fun q => V.ref q.1.2.2)) := upd_same
    have n2 : D2 ≠ W := hD1.new_ne nD2
    generalize upd H1 D2 (.lst (gs.map fun q => V.ref q.1.2.2)) = H2 at s2 hD2 hR2 hj2 R2 l2 m2 ⊢
    -- data
    refine ⟨_, rfl, D2, _, rfl, SqL.of m2, ?_⟩
    refine for_it (walk_enum (K := K) (a := D2) (xs := gs.map fun q => V.ref q.1.2.2)) (fun i σ H' => ∃ W' d' u v z, σ = [some (.ref j), some (.ref r), some (.ref D1), some (.ref D2), u, v, z] ∧ JAt CJ H' j jx p sr ∧ RowsAt H' r gs ∧ r ≠ W' ∧ D1 ≠ W' ∧ D2 ≠ W' ∧ H' D1 = some (.lst ((rowNs gs).map V.int)) ∧ H' D2 = some (.lst (gs.map fun q => V.ref q.1.2.2)) ∧ DevS C H' p dx B W' (N + i) d' ∧ Runs C CE H' p dx B W' (N + i) d' ((opsG sr gs).drop i) (Q .non) E)
      ⟨W, d, none, none, none, rfl, hj2, hR2, nrW, n1, n2, l2, m2, hD2, R2⟩ (fun i σ H' hi q => ?_) (fun i x σ H' H'' hi q yy => ?_) (fun σ H' q => ?_)
    · obtain ⟨W', d', u, v, z, rfl, hj', hR', nr', k1, k2, l', m', _⟩ := q
      exact SqL.of m'
    · obtain ⟨W', d', u, v, z, rfl, hj', hR', nr', k1, k2, l', m', hD', R'⟩ := q
      obtain ⟨t, y1, y2, rfl, nt, rfl, e1, e2⟩ := yy
      dsimp only at e1 e2
      obtain rfl := Option.some.inj e1
      rw [List.getElem?_map] at e2
      obtain ⟨q, hq, rfl⟩ := Option.map_eq_some_iff.mp e2
      have hm := List.mem_of_getElem? hq
      have hi := (List.getElem?_eq_some_iff.mp hq).1
      have st : Same H' (upd H' t (.tup [.int (i : Nat), .ref q.1.2.2])) := same_upd nt
      have ed : (opsG sr gs).drop i = some (((2 + i : Nat) : Int), q.2) :: (opsG sr gs).drop (i + 1) := by
        have e1 : (opsG sr gs)[i]? = some (some (((2 + i : Nat) : Int), q.2)) := by
          unfold opsG
          rw [List.getElem?_append_left (by rw [List.length_mapIdx]; exact hi), List.getElem?_mapIdx, hq]
          rfl
        obtain ⟨h1, h2⟩ := List.getElem?_eq_some_iff.mp e1
        rw [List.drop_eq_getElem_cons h1, h2]
      rw [ed] at R'
      refine ⟨t, _, rfl, SqT.of upd_same, rfl, _, _, rfl, _, _, rfl, rfl, ?_⟩
      generalize upd H' t (.tup [.int (i : Nat), .ref q.1.2.2]) = H3 at st ⊢
      have hj3 := st _ _ hj'
      have D3 := hD'.same st
      refine ⟨_, rfl, j, CJ, jx, _, _, rfl, hj3, J.cl, J.n1, rfl, p, dx, _, rfl, D3.ins, rfl, _, rfl, j, CJ, jx, _, _, rfl, hj3, J.cl, J.n2, rfl, _, _, rfl, rfl, _, rfl, add_read (k := ((2 + i : Nat) : Int)) (by omega) ⟨_, rfl, ?_⟩⟩
      refine spW_of D3 (by omega) (R'.same st) ((hR'.same st).dat q hm) ⟨(hok q hm).1, by omega, by omega⟩ fun H4 d4 b4 D4 R4 => ?_
      exact ⟨W', d4, _, _, _, rfl, JAt.bar hj3 D3 njp b4, (hR'.same st).bar D3 b4 nr', nr', k1, k2, lst_bar (st _ _ l') D3 k1 b4, lst_bar (st _ _ m') D3 k2 b4, D4, R4⟩
    · obtain ⟨W', d', u, v, z, rfl, hj', hR', nr', k1, k2, l', m', hD', R'⟩ := q
      rw [List.length_map] at hD' R'
      have ed : (opsG sr gs).drop gs.length = [none, some (1, headI (sr + 1) (rowNs gs) (sumI (startI (sr + 1) (rowNs gs) ++ rowDs gs))), none] := by
        unfold opsG
        rw [List.drop_left' (by rw [List.length_mapIdx])]
      rw [ed] at R'
      refine ⟨_, rfl, j, CJ, jx, _, _, rfl, hj', J.cl, J.n1, rfl, p, dx, _, rfl, hD'.ins, rfl, ?_⟩
      refine spF_of hD' (by omega) R' fun H2 W2 d2 n2 b2 D2' R2 => ?_
      have hj2 := JAt.bar hj' hD' njp b2
      have l2 := lst_bar l' hD' k1 b2
      have m2 := lst_bar m' hD' k2 b2
      have hR2 := hR'.bar hD' b2 nr'
      refine ⟨_, rfl, j, CJ, jx, _, _, rfl, hj2, J.cl, J.n1, rfl, p, dx, _, rfl, D2'.ins, rfl, _, rfl, j, CJ, jx, _, _, rfl, hj2, J.cl, J.n2, rfl, ?_⟩
      refine ⟨_, rfl, j, CJ, jx, _, _, rfl, hj2, J.cl, J.n4, rfl, _, _, rfl, rfl, _, rfl, _, rfl, _, rfl, j, CJ, jx, _, _, rfl, hj2, J.cl, J.n1, rfl, p, C, dx, _, _, rfl, D2'.ins, T.cl, T.n1, rfl, ?_⟩
      refine ⟨sr + 1, D1, D2, rowNs gs, psOf gs, rfl, l2, by unfold rowNs; rw [List.length_map]; omega, by rw [psOf_refs]; exact m2, fun q hq => ?_, by rw [psOf_flat, rowDs_len hok]; omega, fun H3 hd s3 nh hh => ?_⟩
      · obtain ⟨q', hq', rfl⟩ := List.mem_map.mp hq
        exact hR2.dat q' hq'
      · rw [psOf_flat] at hh
        refine spW_of (D2'.same s3) (by omega) (R2.same s3) hh ⟨headI_len (sumI_len _) (by unfold rowNs; rw [List.length_map]; omega), by decide, by decide⟩ fun H4 d4 b4 D4 R4 => ?_
        have hj4 := JAt.bar (s3 _ _ hj2) (D2'.same s3) njp b4
        refine ⟨_, rfl, j, CJ, jx, _, _, rfl, hj4, J.cl, J.n1, rfl, p, dx, _, rfl, D4.ins, rfl, ?_⟩
        exact spF_of D4 (by omega) R4 fun H5 W5 d5 n5 b5 D5 R5 => R5.nil D5
end
end K02
namespace K02
open PySem L2 HK
def datL (d : AD) (k : Nat) : List (List Int) := (List.range k).map fun i => d.rd (((2 + i : Nat) : Int))
def pairs (gs : List Rw) : List (Int × List Int) := gs.map fun q => (q.1.2.1, q.2)
def EmptyList (H : Hp) (Q : VK) : Prop := ∀ H' L, Same H H' → H L = none → RowsAt H' L [] → Q (.ref L) H'
def spPend (CJ C CE : Addr) : Sp := fun vs H Q E => ∃ j jx p dx sr N d B W, vs = [.ref j] ∧ JAt CJ H j jx p sr ∧ DevS C H p dx B W N d ∧ N ≤ 900 ∧ (d.dead = true → E (.ref CE) none H) ∧
  (d.dead = false → (d.rd 1 = zero64 ∧ EmptyList H Q) ∨ ∃ s ns sm, d.rd 1 = headI s ns sm ∧ sm.length = 4 ∧ ns.length ≤ 5 ∧ 0 ≤ s ∧ s < 65536 ∧ (∀ n ∈ ns, 0 ≤ n ∧ n < 65536) ∧
    (sumI (startI s ns ++ (datL d ns.length).flatten) ≠ sm → EmptyList H Q) ∧
    (sumI (startI s ns ++ (datL d ns.length).flatten) = sm → ∀ H' L gs, Same H H' → H L = none → RowsAt H' L gs → pairs gs = ns.zip (datL d ns.length) → Q (.ref L) H'))
theorem rows_of {H : Hp} : ∀ (ts : List Addr) (ns : List Int) (as : List (Addr × List Int)), Paired (fun (t : Addr) (q : V × V) => H t = some (.tup [q.1, q.2])) ts ((ns.map V.int).zip (as.map fun a => V.ref a.1)) → rowsOk H as → ns.length = as.length →
    ∃ gs : List Rw, gs.map (fun q => V.ref q.1.1) = ts.map V.ref ∧ (∀ q ∈ gs, H q.1.1 = some (.tup [.int q.1.2.1, .ref q.1.2.2])) ∧ (∀ q ∈ gs, H q.1.2.2 = some (tupI q.2)) ∧ pairs gs = ns.zip (as.map (·.2))
  | ts, [], [], h, _, _ => by
    cases h
    exact ⟨[], rfl, (fun q hq => by cases hq), (fun q hq => by cases hq), rfl⟩
  | ts, n :: ns, a :: as, h, hr, hl => by
    rw [List.map_cons, List.map_cons, List.zip_cons_cons] at h
    cases h with
    | cons h1 h2 =>
      rename_i t ts
      obtain ⟨gs, g1, g2, g3, g4⟩ := rows_of ts ns as h2 (fun q hq => hr q (by simp [hq])) (by simpa using hl)
      refine ⟨((t, n, a.1), a.2) :: gs, by rw [List.map_cons, List.map_cons, g1], fun q hq => ?_, fun q hq => ?_, by unfold pairs at g4 ⊢; rw [List.map_cons, g4]; rfl⟩
      · rcases List.mem_cons.mp hq with rfl | hq
        · exact h1
        · exact g2 q hq
      · rcases List.mem_cons.mp hq with rfl | hq
        · exact hr a (by simp)
        · exact g3 q hq
  | ts, [], _ :: _, _, _, hl => by cases hl
  | ts, _ :: _, [], _, _, hl => by cases hl
theorem spR_of {C CE p dx B W : Addr} {H : Hp} {N : Nat} {d : AD} {E : XK} {G : VK} {n : Int} (D : DevS C H p dx B W N d) (hN : N ≤ 900) (al : d.dead = false) (ok : 0 ≤ n ∧ n < 16) (k : ∀ H' r, Same H H' → H' r = some (tupI (d.rd n)) → G (.ref r) H') : spReadA C CE [.ref p, .int n] H G E :=
  ⟨p, dx, B, W, N, d, n, rfl, D, hN, (fun z => by rw [al] at z; cases z), fun z => absurd ok z, fun _ _ => k⟩
theorem spR_dead {C CE p dx B W : Addr} {H : Hp} {N : Nat} {d : AD} {E : XK} {G : VK} {n : Int} (D : DevS C H p dx B W N d) (hN : N ≤ 900) (al : d.dead = true) (ok : 0 ≤ n ∧ n < 16) (k : E (.ref CE) none H) : spReadA C CE [.ref p, .int n] H G E :=
  ⟨p, dx, B, W, N, d, n, rfl, D, hN, fun _ => k, fun z => absurd ok z, fun z => by rw [al] at z; cases z⟩
theorem empty_of {H H' : Hp} {L : Addr} {Q : VK} (e : EmptyList H Q) (s : Same H H') (n : H L = none) (h : H' L = some (.lst [])) : Q (.ref L) H' := e H' L s n ⟨h, (fun q hq => by cases hq), (fun q hq => by cases hq)⟩
theorem EmptyList.same {H H' : Hp} {Q : VK} (e : EmptyList H Q) (s : Same H H') : EmptyList H' Q := fun H2 L s2 n r => e H2 L (s.trans s2) (s.free n) r
theorem datL_len (d : AD) (k : Nat) : (datL d k).length = k := by unfold datL; rw [List.length_map, List.length_range]
theorem datL_succ (d : AD) (k : Nat) : datL d (k + 1) = datL d k ++ [d.rd (((2 + k : Nat) : Int))] := by unfold datL; rw [List.range_succ, List.map_append]; rfl
theorem lastA_mem {ws : List (Int × List Int)} {n : Int} {x : List Int} (h : lastA ws n = some x) : (n, x) ∈ ws := by
  unfold lastA at h
  obtain ⟨q, hq, rfl⟩ := Option.map_eq_some_iff.mp h
  have z := List.find?_some hq
  have e : q.1 = n := of_decide_eq_true z
  rw [← e]
  exact List.mem_reverse.mp (List.mem_of_find?_eq_some hq)
theorem DevS.rd_len {C p dx B W : Addr} {H : Hp} {N : Nat} {d : AD} (D : DevS C H p dx B W N d) (n : Int) : (d.rd n).length = 64 := by
  have hf := D.len n
  obtain ⟨i, nf, kvs, es, hB, hc, hW, hn, hw, hd⟩ := D
  unfold AD.rd
  cases q : lastA d.ws n with
  | none => exact hf
  | some x =>
    have m := lastA_mem q
    rw [hw] at m
    obtain ⟨y, hy, e⟩ := List.mem_map.mp m
    injection e with e1 e2
    show x.length = 64
    rw [← e2]
    exact (hd y hy).2
theorem flat_len64 : ∀ l : List (List Int), (∀ x ∈ l, x.length = 64) → l.flatten.length = 64 * l.length
  | [], _ => rfl
  | x :: r, h => by
    rw [List.flatten_cons, List.length_append, h x (by simp), flat_len64 r (fun y hy => h y (by simp [hy])), List.length_cons]
    omega
theorem flat_map (as : List (Addr × List Int)) : flat as = (as.map (·.2)).flatten := by
  unfold flat
  rw [List.flatMap_def]
section
variable {P : Program} {w : World} {K : PySem.W.Frag} {mg : Str → Option Value} {base : Heap} {C CE CJ CJE : Addr}
abbrev NP : List Str := ["self", "found", "serial", "numbers", "checksum", "datas", "place"]
theorem scPend : FnScope NP ["self"] (defScope sPend) := ⟨rfl, rfl, rfl, by decide +kernel, rfl, by decide +kernel, by decide +kernel⟩
theorem ok_pend {f fR fM fH fG fS : Addr} {fd fdR fdM fdH fdG fdS : FuncData} (F : L2.Fun K "pending" "Journal.pending" sPend f fd) (T : DTxt K mg C CE) (JT : JTxt K mg) (J : JCls K mg CJ CJE)
    (FR : FnOk P w K mg base (L2.CX P w) 2 fR fdR ["self", "number"] (spReadA C CE)) (bR : Binds K fdR ["self", "number"] []) (mR : Meth K C "read" fR)
    (FM : FnOk P w K mg base L2.CX0 2 fM fdM ["self"] (spRoom CJ C)) (bM : Binds K fdM ["self"] []) (mM : Meth K CJ "room" fM)
    (FH : FnOk P w K mg base L2.CX0 2 fH fdH ["data"] (spReadHead K)) (mH : mg "read_head" = some (.ref fH)) (kH : PySem.W.keepIn K (.ref fH) = true) (bH : Binds K fdH ["data"] [])
    (FS : FnOk P w K mg base L2.CX0 2 fS fdS ["serial", "numbers"] (spStartT K)) (mS : mg "head_start" = some (.ref fS)) (kS : PySem.W.keepIn K (.ref fS) = true) (bS : Binds K fdS ["serial", "numbers"] [])
    (FG : FnOk P w K mg base L2.CX0 3 fG fdG ["head", "rows"] (spGroup K)) (mG : mg "group_sum" = some (.ref fG)) (kG : PySem.W.keepIn K (.ref fG) = true) (bG : Binds K fdG ["head", "rows"] []) :
    FnOk P w K mg base (L2.CX P w) 4 f fd ["self"] (spPend CJ C CE) := by
  refine F.okX scPend (fun vs H Q E h => ?_) (fun cdv A outer s H vs Q E hr h => ?_)
  · obtain ⟨j, jx, p, dx, sr, N, d, B, W, rfl, _⟩ := h
    rfl
  · obtain ⟨j, jx, p, dx, sr, N, d, B, W, rfl, hj, hD, hN, kd, ka⟩ := h
    have rR := FR.mono (show 2 ≤ 3 by decide)
    have rM := FM.mono (show 2 ≤ 3 by decide)
    have rH := FH.mono (show 2 ≤ 3 by decide)
    have rS := FS.mono (show 2 ≤ 3 by decide)
    refine ⟨_, pss_cons (ps_set (i := 1) scPend.nd rfl (Or.inl rfl) (pe_call rH hr (by rfl) mH kH bH .nil pass0 (pa_cons (pe_meth (pe_fld (pv 0) rfl) T.cl mR rR hr bR .nil (passes_call (takes_of rfl rfl rfl rfl) (fun _ _ _ _ h => h)) (pa_cons (pe_fld (pv 0) rfl) pa_nil)) pa_nil)))
      (pss_cons (ps_if (pt_cmpR op_isN (pv 1) pe_non (nomark _)) (pss_one (ps_ret (pe_lst pa_nil))) pss_nil)
      (pss_cons (ps_asg (pv 1) (pg_tup rfl (pgs_cons (pg_name (i := 2) scPend.nd rfl (Or.inl rfl)) (pgs_cons (pg_name (i := 3) scPend.nd rfl (Or.inl rfl)) (pgs_cons (pg_name (i := 4) scPend.nd rfl (Or.inl rfl)) pgs_nil)))))
      (pss_cons (ps_if (pt_cmpR op_gt (pe_callB call_len_seq (by rfl) T.len PySem.boot_len (pa_cons (pv 3) pa_nil)) (pe_meth0 (pv 0) J.cl mM rM hr bM .nil pass0) (nomark _)) (pss_one (ps_ret (pe_lst pa_nil))) pss_nil)
      (pss_cons (ps_setLc (i := 5) (own := [("place", 6)]) (g := gName 6) (te := tMeth C "read" (spReadA C CE) [] E0 (tFld K (tVar 0) "device") (tCons (tOp (rI0 fun i j => V.int (i + j)) (tOp (rI0 fun i j => V.int (i + j)) (tFld K (tVar 0) "start") (tC (.int 1))) (tVar 6)) tNil)) (by rfl) scPend.nd rfl rfl (sw_true rfl rfl rfl (by decide +kernel)) (pi_range1 (by rfl) J.range (pa_cons (pe_callB call_len_seq (by rfl) T.len PySem.boot_len (pa_cons (pv 3) pa_nil)) pa_nil))
          (blkOk_by (N := NP) (sc := defScope sPend) (by decide +kernel)) (fun _ _ _ _ _ => pg_name (i := 6) scPend.nd rfl (Or.inl rfl)) (fun _ _ _ _ _ => pts_nil)
          (fun _ _ _ _ _ => by refine pe_meth ?_ T.cl mR rR hr bR .nil passL (pa_cons ?_ pa_nil); exact pe_fld (pv 0) rfl; exact pe_op op_add (pe_op op_add (pe_fld (pv 0) rfl) pe_int) (pv 6)))
      (pss_cons (ps_if (pt_cmpR (op_neD hr.units) (pe_call FG hr (by rfl) mG kG bG .nil pass0 (pa_cons (pe_call rS hr (by rfl) mS kS bS .nil pass0 (pa_cons (pv 2) (pa_cons (pv 3) pa_nil))) (pa_cons (pv 5) pa_nil))) (pv 4) (nomark _)) (pss_one (ps_ret (pe_lst pa_nil))) pss_nil)
      (pss_one (ps_ret (HZT.pe_listZipTL (by rfl) (pa_cons (pv 3) (pa_cons (pv 5) pa_nil)) (by rfl) J.list PyProof.Rows.Boot.«list» (by rfl) J.zip)))))))), ?_⟩
    refine ⟨_, rfl, j, CJ, jx, _, _, rfl, hj, J.cl, J.n1, rfl, p, dx, _, rfl, hD.ins, rfl, _, rfl, j, CJ, jx, _, _, rfl, hj, J.cl, J.n2, rfl, ?_⟩
    cases hdead : d.dead with
    | true => exact spR_dead hD hN hdead ⟨by decide, by decide⟩ (kd hdead)
    | false =>
      refine spR_of hD hN hdead ⟨by decide, by decide⟩ fun H1 r s1 hr1 => ?_
      rcases ka hdead with ⟨e0, kE⟩ | ⟨sn, ns, sm, eh, hsm, hns, s0, s1', hn, kbad, kgood⟩
      · rw [e0] at hr1
        refine ⟨r, zero64, rfl, SqT.of hr1, .inl ⟨rfl, fun H2 s2 => ?_⟩⟩
        refine ⟨_, rfl, rfl, _, rfl, iteT ⟨by show 0 ≤ sizeLine; decide, fun L nL => ?_⟩⟩
        exact empty_of kE ((s1.trans s2).trans (same_upd nL)) ((s1.trans s2).free nL) upd_same
      · rw [eh] at hr1
        refine ⟨r, _, rfl, SqT.of hr1, .inr ⟨sn, ns, sm, rfl, hsm, by omega, s0, s1', hn, fun H2 q a1 a2 s2 nq hq h1 h2 => ?_⟩⟩
        have s12 := s1.trans s2
        refine ⟨_, rfl, rfl, _, rfl, iteF ?_⟩
        refine ⟨_, rfl, q, _, rfl, SqT.of hq, rfl, _, _, rfl, _, _, rfl, _, _, rfl, rfl, ?_⟩
        have hj2 := s12 _ _ hj
        have hD2 := hD.same s12
        refine ⟨_, rfl, a1, _, rfl, .inr (SqT.of h1), _, rfl, j, jx, _, rfl, hj2, rfl, j, jx, p, dx, sr, N, d, B, W, rfl, hj2, hD2, _, _, rfl, rfl, _, rfl, iteDN (by rw [List.length_map]; omega) ?_⟩
        -- datas
        refine ⟨_, rfl, a1, _, rfl, .inr (SqT.of h1), ((ns.length : Nat) : Int), by rw [List.length_map], by omega, by omega, fun D nD => ?_⟩
        refine lc_it (walk_range (n := ns.length)) (fun i H' => Same H2 H' ∧ ∃ as : List (Addr × List Int), as.map (·.2) = datL d i ∧ H' D = some (.lst (as.map fun a => V.ref a.1)) ∧ rowsOk H' as) ⟨same_upd nD, [], rfl, upd_same, fun q hq => by cases hq⟩ (fun _ _ _ _ => trivial) (fun i x H' H'' hi q y => ?_) (fun H' q => ?_)
        · obtain ⟨rfl, rfl⟩ := y
          obtain ⟨sx, as, e1, e2, e3⟩ := q
          have hj3 := sx _ _ hj2
          have hD3 := hD2.same sx
          refine ⟨rfl, _, rfl, j, CJ, jx, _, _, rfl, hj3, J.cl, J.n1, rfl, p, dx, _, rfl, hD3.ins, rfl, _, rfl, j, CJ, jx, _, _, rfl, hj3, J.cl, J.n2, rfl, _, _, rfl, rfl, _, rfl, add_read (k := ((2 + i : Nat) : Int)) (by omega) ?_⟩
          refine spR_of hD3 hN hdead ⟨by omega, by omega⟩ fun H4 r4 s4 h4 => ?_
          have la : as.length = i := by rw [← List.length_map (f := fun x : Addr × List Int => x.2), e1, datL_len]
          refine ⟨_, s4 _ _ e2, by rw [List.length_map]; exact small1000 (by omega), ?_, as ++ [(r4, d.rd (((2 + i : Nat) : Int)))], by rw [List.map_append, e1, datL_succ]; rfl, by rw [upd_same, List.map_append]; rfl, fun q hq => ?_⟩
          · exact fun b o hb => by
              rw [upd_ne (ne_of_none hb nD)]
              exact s4 _ _ (sx _ _ hb)
          · rcases List.mem_append.mp hq with z | z
            · have z2 := s4 _ _ (e3 q z)
              rw [upd_ne (ne_of z2 (s4 _ _ e2) (by intro z; cases z))]
              exact z2
            · rw [List.mem_singleton.mp z, upd_ne (ne_of h4 (s4 _ _ e2) (by intro z; cases z))]
              exact h4
        · obtain ⟨sx, as, e1, e2, e3⟩ := q
          have la : as.length = ns.length := by rw [← List.length_map (f := fun x : Addr × List Int => x.2), e1, datL_len]
          have sx2 := s12.trans sx
          have lf : (flat as).length = 64 * ns.length := by
            rw [flat_map, flat_len64 _ (fun x hx => ?_), e1, datL_len]
            rw [e1] at hx
            unfold datL at hx
            obtain ⟨i, _, rfl⟩ := List.mem_map.mp hx
            exact hD.rd_len _
          -- the sum
          refine ⟨_, rfl, _, rfl, sn, a1, ns, rfl, SqT.of (sx _ _ h1), by omega, fun H3 p3 s3 n3 h3 => ?_⟩
          have l3 := startI_len sn ns
          refine ⟨_, rfl, p3, D, startI sn ns, as, rfl, SqT.of h3, s3 _ _ e2, fun q hq => s3 _ _ (e3 q hq), by omega, fun H4 p4 s4 n4 h4 => ?_⟩
          have sx4 := (sx.trans s3).trans s4
          refine ⟨_, rfl, ne_tupI (SqT.of h4) (SqT.of (sx4 _ _ h2)) ⟨_, rfl, ?_⟩⟩
          rw [flat_map, e1]
          by_cases hsum : sumI (startI sn ns ++ (datL d ns.length).flatten) = sm
          · rw [decide_eq_true hsum]
            refine iteF ?_
            refine ⟨_, rfl, _, rfl, a1, D, ns.map V.int, as.map fun a => V.ref a.1, rfl, SqT.of (sx4 _ _ h1), SqL.of ((s3.trans s4) _ _ e2), by rw [List.length_map, List.length_map, la], fun H5 L ts s5 nL nts _ hL hP => ?_⟩
            obtain ⟨gs, g1, g2, g3, g4⟩ := rows_of ts ns as hP (fun q hq => s5 _ _ ((s3.trans s4) _ _ (e3 q hq))) la.symm
            have st := (s12.trans sx4).trans s5
            exact kgood hsum H5 L gs st ((s12.trans sx4).free nL) ⟨by rw [g1]; exact hL, g2, g3⟩ (by rw [g4, e1])
          · rw [decide_eq_false hsum]
            refine iteT ⟨by show 0 ≤ sizeLine; decide, fun L nL => ?_⟩
            exact empty_of (kbad hsum) ((s12.trans sx4).trans (same_upd nL)) ((s12.trans sx4).free nL) upd_same
end
end K02
namespace K02
open PySem L2 HK
theorem Runs.split {C CE p dx B W : Addr} {H : Hp} {N : Nat} {d : AD} {Q G : Hp → Prop} {E : XK} {l m : List Op} (x : Runs C CE H p dx B W N d (l ++ m) Q E)
    (k : ∀ H' W', (W' = W ∨ H W' = none) → Bar p B W H H' → DevS C H' p dx B W' (N + l.length) (runA d l).1 → Runs C CE H' p dx B W' (N + l.length) (runA d l).1 m Q E → G H') : Runs C CE H p dx B W N d l G E := by
  obtain ⟨x1, x2⟩ := x
  rw [runA_app, List.length_append] at x1 x2
  refine ⟨fun c H' W' hW b D => ?_, fun c H' W' hW b D => ?_⟩
  · rw [if_pos c] at x1 x2
    refine k H' W' hW b D ⟨fun c2 H2 W2 hW2 b2 D2 => ?_, fun c2 H2 W2 hW2 b2 D2 => ?_⟩
    · rw [Nat.add_assoc] at D2
      exact x1 c2 H2 W2 (fresh_back D hW b hW2) (b.trans hW b2) D2
    · rw [Nat.add_assoc] at D2
      exact x2 c2 H2 W2 (fresh_back D hW b hW2) (b.trans hW b2) D2
  · rw [if_neg (by rw [c]; intro z; cases z)] at x2
    exact x2 c H' W' hW b (D.mono (by omega))
def opsP (ps : List (Int × List Int)) : List Op := ps.map some ++ [none, some (1, zero64), none]
theorem opsH_P (gs : List Rw) : opsH gs = opsP (pairs gs) := by
  unfold opsH opsP pairs
  rw [List.map_map]
  rfl
def opsR (ps : List (Int × List Int)) : List Op := if ps = [] then [] else opsP ps
structure SpRec (CJ C CE : Addr) (vs : List V) (H : Hp) (Q : VK) (E : XK) : Prop where
  h : ∃ j jx p dx sr N d B W, vs = [.ref j] ∧ JAt CJ H j jx p sr ∧ j ≠ p ∧ DevS C H p dx B W N d ∧ N ≤ 800 ∧ (d.dead = true → E (.ref CE) none H) ∧
  (d.dead = false → (d.rd 1 = zero64 ∧ ∀ H' t, Same H H' → H' t = some (tupI []) → Q (.ref t) H') ∨ ∃ s ns sm, d.rd 1 = headI s ns sm ∧ sm.length = 4 ∧ ns.length ≤ 5 ∧ 0 ≤ s ∧ s < 65536 ∧ (∀ n ∈ ns, 0 ≤ n ∧ n < 16) ∧
    sumI (startI s ns ++ (datL d ns.length).flatten) = sm ∧ Runs C CE H p dx B W N d (opsR (ns.zip (datL d ns.length))) (fun H' => ∀ H2 t, Same H' H2 → H2 t = some (tupI ns) → Q (.ref t) H2) E)
def spRec (CJ C CE : Addr) : Sp := fun vs H Q E => SpRec CJ C CE vs H Q E
def spCommit (CJ C CE CJE : Addr) : Sp := fun vs H Q E => ∃ j jx p dx sr N d B W r gs, vs = [.ref j, .ref r] ∧ JAt CJ H j jx p sr ∧ j ≠ p ∧ DevS C H p dx B W N d ∧ N ≤ 700 ∧ RowsAt H r gs ∧ r ≠ W ∧ okRows gs ∧ (5 < gs.length → E (.ref CJE) none H) ∧
  (gs.length ≤ 5 → Runs C CE H p dx B W N d (opsG sr gs ++ opsH gs) (fun H' => Q .non (upd H' j (.ins CJ jx (fsJ p (sr + 1))))) E)
section
variable {P : Program} {w : World} {K : PySem.W.Frag} {mg : Str → Option Value} {base : Heap} {C CE CJ CJE : Addr}
theorem scCommit : FnScope ["self", "rows", "number", "data"] ["self", "rows"] (defScope sCommit) := ⟨rfl, rfl, rfl, by decide +kernel, rfl, by decide +kernel, by decide +kernel⟩
theorem ok_commit {f fB fG fH fM : Addr} {fd fdB fdG fdH fdM : FuncData} (F : L2.Fun K "commit" "Journal.commit" sCommit f fd) (T : DTxt K mg C CE) (J : JCls K mg CJ CJE)
    (FB : FnOk P w K mg base (L2.CX P w) 2 fB fdB ["self", "number", "data"] (spBlock K C CE)) (bB : Binds K fdB ["self", "number", "data"] []) (mB : Meth K C "check_block" fB)
    (FM : FnOk P w K mg base L2.CX0 2 fM fdM ["self"] (spRoom CJ C)) (bM : Binds K fdM ["self"] []) (mM : Meth K CJ "room" fM)
    (FG : FnOk P w K mg base (L2.CX P w) 5 fG fdG ["self", "rows"] (spWG CJ C CE)) (bG : Binds K fdG ["self", "rows"] []) (mG : Meth K CJ "write_group" fG)
    (FH : FnOk P w K mg base (L2.CX P w) 4 fH fdH ["self", "rows"] (spWH CJ C CE)) (bH : Binds K fdH ["self", "rows"] []) (mH : Meth K CJ "write_home" fH) :
    FnOk P w K mg base (L2.CX P w) 6 f fd ["self", "rows"] (spCommit CJ C CE CJE) := by
  refine F.okX scCommit (fun vs H Q E h => ?_) (fun cdv A outer s H vs Q E hr h => ?_)
  · obtain ⟨j, jx, p, dx, sr, N, d, B, W, r, gs, rfl, _⟩ := h
    rfl
  · obtain ⟨j, jx, p, dx, sr, N, d, B, W, r, gs, rfl, hj, njp, hD, hN, hR, nrW, hok, k1, k2⟩ := h
    have rB := FB.mono (show 2 ≤ 5 by decide)
    have rM := FM.mono (show 2 ≤ 5 by decide)
    have rH := FH.mono (show 4 ≤ 5 by decide)
    refine ⟨_, pss_cons (ps_if (pt_cmpR op_gt (pe_callB call_len_seq (by rfl) T.len PySem.boot_len (pa_cons (pv 1) pa_nil)) (pe_meth0 (pv 0) J.cl mM rM hr bM .nil pass0) (nomark _)) (pss_one (ps_raise rfl (takes_of rfl rfl rfl rfl) (pmk_own PySem.F.excBase_ValueError J.xE J.gE J.kE (raises_own J.bE J.tE) rfl))) pss_nil)
      (pss_cons (ps_for (passes_of rfl) rfl (pi_list (pv 1)) (pg_tup rfl (pgs_cons (pg_name (i := 2) scCommit.nd rfl (Or.inl rfl)) (pgs_cons (pg_name (i := 3) scCommit.nd rfl (Or.inl rfl)) pgs_nil)))
        (pss_one (ps_expr (pe_meth (pe_fld (pv 0) rfl) T.cl mB rB hr bB .nil (passes_call (takes_of rfl rfl rfl rfl) (fun _ _ _ _ h => h)) (pa_cons (pv 2) (pa_cons (pv 3) pa_nil))))))
      (pss_cons (ps_expr (pe_meth (pv 0) J.cl mG FG hr bG .nil (passes_call (takes_of rfl rfl rfl rfl) (fun _ _ _ _ h => h)) (pa_cons (pv 1) pa_nil)))
      (pss_cons (ps_expr (pe_meth (pv 0) J.cl mH rH hr bH .nil (passes_call (takes_of rfl rfl rfl rfl) (fun _ _ _ _ h => h)) (pa_cons (pv 1) pa_nil)))
      (pss_one (ps_fld (pv 0) (pe_op op_add (pe_fld (pv 0) rfl) pe_int) rfl))))), ?_⟩
    refine ⟨_, rfl, r, _, rfl, .inl (SqL.of hR.lst), _, rfl, j, jx, _, rfl, hj, rfl, j, jx, p, dx, sr, N, d, B, W, rfl, hj, hD, _, _, rfl, rfl, _, rfl, ?_⟩
    by_cases h5 : 5 < gs.length
    · exact iteD (by rw [List.length_map]; omega) (k1 h5)
    · refine iteDN (by rw [List.length_map]; omega) ?_
      have R := k2 (by omega)
      refine ⟨_, rfl, r, rfl, ⟨_, SqL.of hR.lst⟩, ?_⟩
      refine for_list (K := K) (a := r) (xs := gs.map fun q => V.ref q.1.1) (fun i σ H' => H' = H ∧ ∃ u v, σ = [some (.ref j), some (.ref r), u, v]) ⟨rfl, none, none, rfl⟩ (fun i σ H' hi q => by rw [q.1]; exact SqL.of hR.lst) (fun i x σ H' hx q => ?_) (fun σ H' q => ?_)
      · obtain ⟨rfl, u, v, rfl⟩ := q
        rw [List.getElem?_map] at hx
        obtain ⟨q, hq, rfl⟩ := Option.map_eq_some_iff.mp hx
        have hm := List.mem_of_getElem? hq
        refine ⟨q.1.1, _, rfl, SqT.of (hR.tup q hm), rfl, _, _, rfl, _, _, rfl, rfl, ?_⟩
        refine ⟨_, rfl, j, CJ, jx, _, _, rfl, hj, J.cl, J.n1, rfl, p, dx, _, rfl, hD.ins, rfl, _, rfl, _, rfl, p, dx, d.dv, B, W, q.1.2.1, q.1.2.2, _, rfl, hD.ins, SqT.of (hR.dat q hm), fun _ _ => ⟨rfl, _, _, rfl⟩, fun z => absurd ⟨by rw [List.length_map, (hok q hm).1]; rfl, (hok q hm).2⟩ z⟩
      · obtain ⟨rfl, u, v, rfl⟩ := q
        refine ⟨_, rfl, j, jx, _, rfl, hj, rfl, _, rfl, j, jx, p, dx, sr, N, d, B, W, r, gs, rfl, hj, njp, hD, by omega, hR, nrW, by omega, hok, ?_⟩
        refine R.split fun H1 W1 hW1 b1 D1 R1 => ?_
        have hl : (opsG sr gs).length ≤ 8 := by unfold opsG; rw [List.length_append, List.length_mapIdx]; show gs.length + 3 ≤ 8; omega
        have hj1 := JAt.bar hj hD njp b1
        have hR1 := hR.bar hD b1 nrW
        have nr1 : r ≠ W1 := by
          rcases hW1 with z | z
          · rw [z]; exact nrW
          · exact ne_of_none hR.lst z
        refine ⟨_, rfl, j, jx, _, rfl, hj1, rfl, _, rfl, j, jx, p, dx, sr, _, _, B, W1, r, gs, rfl, hj1, njp, D1, by omega, hR1, nr1, by omega, hok, ?_⟩
        have R1' : Runs C CE H1 p dx B W1 (N + (opsG sr gs).length) (runA d (opsG sr gs)).1 (opsH gs ++ []) (fun H' => Q .non (upd H' j (.ins CJ jx (fsJ p (sr + 1))))) E := by rw [List.append_nil]; exact R1
        refine R1'.split fun H2 W2 hW2 b2 D2 R2 => ?_
        have hj2 := JAt.bar hj1 D1 njp b2
        exact ⟨_, rfl, j, CJ, jx, _, _, rfl, hj2, J.cl, J.n4, rfl, _, _, rfl, rfl, _, rfl, j, CJ, jx, _, rfl, hj2, J.cl, J.n4, (by show 4 < 1000; decide), R2.nil D2⟩
abbrev NR : List Str := ["self", "rows", "number", "data"]
theorem scRec : FnScope NR ["self"] (defScope sRec) := ⟨rfl, rfl, rfl, by decide +kernel, rfl, by decide +kernel, by decide +kernel⟩
theorem ok_rec {f fP fH : Addr} {fd fdP fdH : FuncData} (F : L2.Fun K "recover" "Journal.recover" sRec f fd) (T : DTxt K mg C CE) (J : JCls K mg CJ CJE)
    (FP : FnOk P w K mg base (L2.CX P w) 4 fP fdP ["self"] (spPend CJ C CE)) (bP : Binds K fdP ["self"] []) (mP : Meth K CJ "pending" fP)
    (FH : FnOk P w K mg base (L2.CX P w) 4 fH fdH ["self", "rows"] (spWH CJ C CE)) (bH : Binds K fdH ["self", "rows"] []) (mH : Meth K CJ "write_home" fH) :
    FnOk P w K mg base (L2.CX P w) 5 f fd ["self"] (spRec CJ C CE) := by
  refine F.okX scRec (fun vs H Q E h => ?_) (fun cdv A outer s H vs Q E hr h => ?_)
  · obtain ⟨j, jx, p, dx, sr, N, d, B, W, rfl, _⟩ := h
    rfl
  · obtain ⟨j, jx, p, dx, sr, N, d, B, W, rfl, hj, njp, hD, hN, kd, ka⟩ := h
    refine ⟨_, pss_cons (ps_set (i := 1) scRec.nd rfl (Or.inl rfl) (pe_meth0 (pv 0) J.cl mP FP hr bP .nil (passes_call (takes_of rfl rfl rfl rfl) (fun _ _ _ _ h => h))))
      (pss_cons (ps_if (pt_cmpR (op_neD hr.units) (pv 1) (pe_lst pa_nil) (nomark _)) (pss_one (ps_expr (pe_meth (pv 0) J.cl mH FH hr bH .nil (passes_call (takes_of rfl rfl rfl rfl) (fun _ _ _ _ h => h)) (pa_cons (pv 1) pa_nil)))) pss_nil)
      (pss_one (ps_ret (pe_callTy call_tuple_of (by rfl) T.tup PyProof.Rows.Boot.«tuple» (pa_cons (pe_lc (own := [("number", 2), ("data", 3)]) (g := gTup K 2 (gCons (gName 2) (gCons (gName 3) gNil))) (by rfl) scRec.nd (pi_list (pv 1))
          (blkOk_by (N := NR) (sc := defScope sRec) (by decide +kernel)) (fun _ _ _ _ _ => pg_tup rfl (pgs_cons (pg_name (i := 2) scRec.nd rfl (Or.inl rfl)) (pgs_cons (pg_name (i := 3) scRec.nd rfl (Or.inl rfl)) pgs_nil))) (fun _ _ _ _ _ => pts_nil) (fun _ _ _ _ _ => pv 2)) pa_nil))))), ?_⟩
    -- what stands behind the comparison
    have fin : ∀ (H1 : Hp) (L : Addr) (gs : List Rw), RowsAt H1 L gs → gs.length ≤ 5 → (∀ H2 t, Same H1 H2 → H2 t = some (tupI (rowNs gs)) → Q (.ref t) H2) →
        tRet (tCB (fun xs H_1 Q => ∃ p ys, xs = [V.ref p] ∧ (SqL K H_1 p ys ∧ (∀ l, H_1 l = none → Q (.ref l) (upd H_1 l (.tup ys))) ∨ SqT K H_1 p ys ∧ Q (.ref p) H_1)) (tCons (tLc (iList K (tVar 1)) (gTup K 2 (gCons (gName 2) (gCons (gName 3) gNil))) tYes (tVar 2) [2, 3]) tNil))
          { nx := fun _ H' => Q .non H', rt := Q } [some (.ref j), some (.ref L), none, none] H1 := fun H1 L gs hR h5 k => by
      refine ⟨_, rfl, L, rfl, ⟨_, SqL.of hR.lst⟩, fun D nD => ?_⟩
      refine lc_list (K := K) (a := L) (xs := gs.map fun q => V.ref q.1.1) (fun i H' => H' = upd H1 D (.lst ((rowNs (gs.take i)).map V.int))) rfl (fun i H' hi q => ?_) (fun i x H' hx q => ?_) (fun H' q => ?_)
      · subst q
        exact SqL.of (same_upd nD _ _ hR.lst)
      · subst q
        rw [List.getElem?_map] at hx
        obtain ⟨q, hq, rfl⟩ := Option.map_eq_some_iff.mp hx
        have hm := List.mem_of_getElem? hq
        have hi := (List.getElem?_eq_some_iff.mp hq).1
        have s1 : Same H1 (upd H1 D (.lst ((rowNs (gs.take i)).map V.int))) := same_upd nD
        refine ⟨q.1.1, _, rfl, SqT.of (s1 _ _ (hR.tup q hm)), rfl, _, _, rfl, _, _, rfl, rfl, rfl, _, rfl, _, upd_same, ?_, ?_⟩
        · rw [List.length_map]
          unfold rowNs
          rw [List.length_map, List.length_take]
          exact small1000 (by omega)
        · rw [upd_upd, List.take_add_one, hq]
          unfold rowNs
          simp
      · subst q
        rw [List.length_map, List.take_length]
        refine ⟨D, _, rfl, .inl ⟨SqL.of upd_same, fun t nt => ?_⟩⟩
        exact k _ t ((same_upd (o := .lst ((rowNs gs).map V.int)) nD).trans (same_upd nt)) upd_same
    refine ⟨_, rfl, j, jx, _, rfl, hj, rfl, j, jx, p, dx, sr, N, d, B, W, rfl, hj, hD, by omega, kd, fun al => ?_⟩
    rcases ka al with ⟨e0, kQ⟩ | ⟨sn, ns, sm, eh, hsm, hns, s0, s1, hn, hsum, R⟩
    · refine .inl ⟨e0, fun H1 L sl nL hL => ?_⟩
      refine ⟨_, rfl, by show 0 ≤ sizeLine; decide, fun L2 nL2 => ?_⟩
      have s2 : Same H1 (upd H1 L2 (.lst [])) := same_upd nL2
      have r2 : RowsAt (upd H1 L2 (.lst [])) L2 [] := ⟨upd_same, (fun q hq => by cases hq), (fun q hq => by cases hq)⟩
      refine ne_rows (hL.same s2) r2 ⟨_, rfl, iteF ?_⟩
      exact fin _ L [] (hL.same s2) (by decide) fun H2 t st ht => kQ H2 t ((sl.trans s2).trans st) ht
    · refine .inr ⟨sn, ns, sm, eh, hsm, hns, s0, s1, fun n hn' => ⟨(hn n hn').1, by have := (hn n hn').2; omega⟩, fun z => absurd hsum z, fun _ H1 L gs sl nL hL hp => ?_⟩
      have lgs : gs.length = ns.length := by
        have := congrArg List.length hp
        unfold pairs at this
        rw [List.length_map, List.length_zip, datL_len, Nat.min_self] at this
        exact this
      have ens : rowNs gs = ns := by
        have e : rowNs gs = (pairs gs).map (·.1) := by unfold rowNs pairs; rw [List.map_map]; rfl
        rw [e, hp, List.map_fst_zip (by rw [datL_len]; omega)]
      have oks : okRows gs := fun q hq => by
        have m : (q.1.2.1, q.2) ∈ pairs gs := List.mem_map.mpr ⟨q, hq, rfl⟩
        rw [hp] at m
        obtain ⟨m1, m2⟩ := List.of_mem_zip m
        unfold datL at m2
        obtain ⟨i, _, e⟩ := List.mem_map.mp m2
        exact ⟨by show (q.1.2.1, q.2).2.length = 64; rw [← e]; exact hD.rd_len _, hn _ m1⟩
      refine ⟨_, rfl, by show 0 ≤ sizeLine; decide, fun L2 nL2 => ?_⟩
      have s2 : Same H1 (upd H1 L2 (.lst [])) := same_upd nL2
      have r2 : RowsAt (upd H1 L2 (.lst [])) L2 [] := ⟨upd_same, (fun q hq => by cases hq), (fun q hq => by cases hq)⟩
      have hL2 := hL.same s2
      refine ne_rows hL2 r2 ⟨_, rfl, ?_⟩
      have st := sl.trans s2
      have R2 := R.same st
      rw [← hp] at R2
      unfold opsR at R2
      by_cases e : pairs gs = []
      · rw [if_pos e] at R2
        have e' : (gs.map fun q => (q.1.2.1, q.2)) = (([] : List Rw).map fun q => (q.1.2.1, q.2)) := e
        rw [decide_eq_true e']
        refine iteF ?_
        exact fin _ L gs hL2 (by omega) fun H3 t s3 ht => R2.nil (hD.same st) H3 t s3 (by rw [ens] at ht; exact ht)
      · rw [if_neg e, ← opsH_P] at R2
        have e' : ¬ (gs.map fun q => (q.1.2.1, q.2)) = (([] : List Rw).map fun q => (q.1.2.1, q.2)) := e
        rw [decide_eq_false e']
        refine iteT ?_
        have hj2 := st _ _ hj
        have nLW : L ≠ W := hD.new_ne nL
        refine ⟨_, rfl, j, jx, _, rfl, hj2, rfl, _, rfl, j, jx, p, dx, sr, N, d, B, W, L, gs, rfl, hj2, njp, hD.same st, by omega, hL2, nLW, by omega, oks, ?_⟩
        rw [← List.append_nil (opsH gs)] at R2
        refine R2.split fun H4 W4 hW4 b4 D4 R4 => ?_
        have hL4 := hL2.bar (hD.same st) b4 nLW
        exact fin _ L gs hL4 (by omega) fun H5 t s5 ht => R4.nil D4 H5 t s5 (by rw [ens] at ht; exact ht)
end
end K02
namespace K02
open PySem L2 HK
/-! ### what a crash leaves: mathematics alone -/
abbrev Fn := Int → List Int
abbrev Ps := List (Int × List Int)
def HomeIs (f g : Fn) : Prop := ∀ n, 8 ≤ n → n < 15 → f n = g n
def All64 (f : Fn) : Prop := ∀ n, (f n).length = 64
theorem setAll_cons (f : Fn) (q : Int × List Int) (r : Ps) : setAll f (q :: r) = setAll (setF f q.1 q.2) r := rfl
theorem setAll_app (f : Fn) (l r : Ps) : setAll f (l ++ r) = setAll (setAll f l) r := by unfold setAll; rw [List.foldl_append]
theorem setAll_off : ∀ (ps : Ps) (f : Fn) (m : Int), m ∉ ps.map (·.1) → setAll f ps m = f m
  | [], _, _, _ => rfl
  | q :: r, f, m, h => by
    rw [setAll_cons, setAll_off r _ m (fun z => h (by simp [z]))]
    unfold setF
    rw [if_neg (fun z => h (by simp [z]))]
theorem setAll_congr : ∀ (ps : Ps) (f g : Fn) (m : Int), (m ∉ ps.map (·.1) → f m = g m) → setAll f ps m = setAll g ps m
  | [], _, _, _, h => h (by simp)
  | q :: r, f, g, m, h => by
    rw [setAll_cons, setAll_cons]
    refine setAll_congr r _ _ m fun hm => ?_
    unfold setF
    by_cases e : m = q.1
    · rw [if_pos e, if_pos e]
    · rw [if_neg e, if_neg e]
      exact h (by simp [e]; simpa using hm)
theorem setAll_len : ∀ (ps : Ps) (f : Fn), All64 f → (∀ q ∈ ps, q.2.length = 64) → All64 (setAll f ps)
  | [], _, h, _ => h
  | q :: r, f, h, hq => by
    rw [setAll_cons]
    refine setAll_len r _ (fun n => ?_) fun y hy => hq y (by simp [hy])
    unfold setF
    split
    · exact hq q (by simp)
    · exact h n
theorem HomeIs.set {f g : Fn} (h : HomeIs f g) (ps : Ps) : HomeIs (setAll f ps) (setAll g ps) := fun n a b => setAll_congr ps f g n fun _ => h n a b
theorem setF_len {f : Fn} {n : Int} {x : List Int} (h : All64 f) (hx : x.length = 64) : All64 (setF f n x) := fun m => by
  unfold setF
  split
  · exact hx
  · exact h m
theorem setF_at {f : Fn} {n : Int} {x : List Int} : setF f n x n = x := by unfold setF; rw [if_pos rfl]
theorem setF_off {f : Fn} {n m : Int} {x : List Int} (h : m ≠ n) : setF f n x m = f m := by unfold setF; rw [if_neg h]
theorem crash1_cases {f : Fn} {n : Int} {x : List Int} {c : Int} {R : Fn → Prop} (h0 : R f) (h1 : R (setF f n x)) (h2 : R (setF f n (x.take 32 ++ (f n).drop 32))) : R (crash1 32 f n x c) := by
  unfold crash1
  split
  · exact h1
  · split
    · exact h2
    · exact h0
theorem crash1_off {f : Fn} {n m : Int} {x : List Int} {c : Int} (h : m ≠ n) : crash1 32 f n x c m = f m := crash1_cases (R := fun g => g m = f m) rfl (setF_off h) (setF_off h)
theorem crash1_len {f : Fn} {n : Int} {x : List Int} {c : Int} (h : All64 f) (hx : x.length = 64) : All64 (crash1 32 f n x c) :=
  crash1_cases h (setF_len h hx) (setF_len h (by rw [List.length_append, List.length_take, List.length_drop, hx, h]; rfl))
theorem crashA_off : ∀ (l : Ps) (cs : List Int) (f : Fn) (m : Int), m ∉ l.map (·.1) → crashA f (l.zip cs) m = f m
  | [], _, _, _, _ => rfl
  | _ :: _, [], _, _, _ => rfl
  | q :: r, c :: cs, f, m, h => by
    have ih := crashA_off r cs (crash1 32 f q.1 q.2 c) m (fun z => h (by simp [z]))
    have e : crashA f ((q :: r).zip (c :: cs)) = crashA (crash1 32 f q.1 q.2 c) (r.zip cs) := rfl
    rw [e, ih, crash1_off (fun z => h (by simp [z]))]
theorem crashA_len : ∀ (l : Ps) (cs : List Int) (f : Fn), All64 f → (∀ q ∈ l, q.2.length = 64) → All64 (crashA f (l.zip cs))
  | [], _, _, h, _ => h
  | _ :: _, [], _, h, _ => h
  | q :: r, c :: cs, f, h, hq => crashA_len r cs (crash1 32 f q.1 q.2 c) (crash1_len h (hq q (by simp))) fun y hy => hq y (by simp [hy])
def hd (s : Int) (ns : List Int) (ds : List (List Int)) : List Int := headI s ns (sumI (startI s ns ++ ds.flatten))
theorem hd_drop {s : Int} {ns : List Int} {ds : List (List Int)} (h : ns.length ≤ 5) : (hd s ns ds).drop 32 = List.replicate 32 0 := by
  unfold hd headI
  have l : (startI s ns ++ sumI (startI s ns ++ ds.flatten)).length = 10 + 2 * ns.length := by
    rw [List.length_append, startI_len, sumI_len]
    omega
  rw [List.drop_append, l, List.drop_of_length_le (by omega), List.nil_append, List.drop_replicate]
  congr 1
  omega
theorem zero_drop : zero64.drop 32 = List.replicate 32 0 := by decide
theorem half_hd {s : Int} {ns : List Int} {ds : List (List Int)} (h : ns.length ≤ 5) : (hd s ns ds).take 32 ++ zero64.drop 32 = hd s ns ds := by
  rw [zero_drop, ← hd_drop (s := s) (ds := ds) h, List.take_append_drop]
theorem half_zero {s : Int} {ns : List Int} {ds : List (List Int)} (h : ns.length ≤ 5) : zero64.take 32 ++ (hd s ns ds).drop 32 = zero64 := by
  rw [hd_drop h, ← zero_drop, List.take_append_drop]
theorem hd_len {s : Int} {ns : List Int} {ds : List (List Int)} (h : ns.length ≤ 5) : (hd s ns ds).length = 64 := headI_len (sumI_len _) (by omega)
/-- the journal holds a group whose rows lead to g -/
structure Held (g f : Fn) (s : Int) (ns : List Int) (ds : List (List Int)) : Prop where
  head : f 1 = hd s ns ds
  len : ns.length = ds.length
  le : ns.length ≤ 5
  s0 : 0 ≤ s
  s1 : s < 65536
  num : ∀ n ∈ ns, 8 ≤ n ∧ n < 15
  dat : ∀ i x, ds[i]? = some x → f (((2 + i : Nat) : Int)) = x
  home : HomeIs (setAll f (ns.zip ds)) g
/-- what is found after a crash -/
def SS (g0 g1 f : Fn) : Prop := All64 f ∧ ((f 1 = zero64 ∧ (HomeIs f g0 ∨ HomeIs f g1)) ∨ ∃ s ns ds, Held g1 f s ns ds)
def CrashOk (g0 g1 : Fn) (d : AD) : Prop := ∀ cs, SS g0 g1 (crashA d.f (d.ws.zip cs))
theorem zip_fst {ns : List Int} {ds : List (List Int)} (h : ns.length = ds.length) : (ns.zip ds).map (·.1) = ns := List.map_fst_zip (by omega)
/-- blocks of rows that the journal holds may stand as they like -/
theorem Held.over {g f f' : Fn} {s : Int} {ns : List Int} {ds : List (List Int)} (h : Held g f s ns ds) (o : ∀ m, m ∉ ns → f' m = f m) : Held g f' s ns ds where
  head := by rw [o 1 (fun z => by have := (h.num 1 z).1; omega)]; exact h.head
  len := h.len
  le := h.le
  s0 := h.s0
  s1 := h.s1
  num := h.num
  dat := fun i x hx => by
    have hi := (List.getElem?_eq_some_iff.mp hx).1
    have := h.len
    have := h.le
    rw [o _ (fun z => by have := (h.num _ z).1; omega)]
    exact h.dat i x hx
  home := fun n a b => by
    rw [setAll_congr _ f' f n (fun hm => o n (by rw [zip_fst h.len] at hm; exact hm))]
    exact h.home n a b
/-! ### a segment: writes, then a flush -/
theorem seg : ∀ (l : Ps) (d : AD) (rest : List Op), d.dead = false →
    (∃ l1 l2 d', l = l1 ++ l2 ∧ runA d (l.map some ++ none :: rest) = (d', false) ∧ d'.dead = true ∧ d'.f = d.f ∧ d'.ws = d.ws ++ l1) ∨
    ∃ d', runA d (l.map some ++ none :: rest) = runA d' rest ∧ d'.dead = false ∧ d'.f = setAll d.f (d.ws ++ l) ∧ d'.ws = []
  | [], d, rest, h => by
    by_cases al : d.alive
    · refine .inr ⟨d.flushed, runA_cons_alive al, h, ?_, rfl⟩
      show setAll d.f d.ws = _
      rw [List.append_nil]
    · exact .inl ⟨[], [], d.killed, rfl, runA_cons_dead al, rfl, rfl, (List.append_nil _).symm⟩
  | q :: r, d, rest, h => by
    by_cases al : d.alive
    · have e : runA d ((q :: r).map some ++ none :: rest) = runA (d.wrote q.1 q.2) (r.map some ++ none :: rest) := runA_cons_alive (o := some q) al
      rcases seg r (d.wrote q.1 q.2) rest h with ⟨l1, l2, d', e1, e2, e3, e4, e5⟩ | ⟨d', e2, e3, e4, e5⟩
      · refine .inl ⟨q :: l1, l2, d', by rw [e1]; rfl, by rw [e]; exact e2, e3, e4, ?_⟩
        rw [e5]
        show d.ws ++ [(q.1, q.2)] ++ l1 = _
        rw [List.append_assoc]
        rfl
      · refine .inr ⟨d', by rw [e]; exact e2, e3, ?_, e5⟩
        rw [e4]
        show setAll d.f (d.ws ++ [(q.1, q.2)] ++ r) = _
        rw [List.append_assoc]
        rfl
    · exact .inl ⟨[], q :: r, d.killed, rfl, runA_cons_dead al, rfl, rfl, (List.append_nil _).symm⟩
theorem sub_map {l1 l2 : Ps} {m : Int} (h : m ∉ (l1 ++ l2).map (·.1)) : m ∉ l1.map (·.1) := fun z => h (by rw [List.map_append]; exact List.mem_append_left _ z)
theorem prefix1 {l1 l2 : Ps} {q : Int × List Int} (h : [q] = l1 ++ l2) : l1 = [] ∨ l1 = [q] := by
  cases l1 with
  | nil => exact .inl rfl
  | cons a r =>
    injection h with h1 h2
    rw [(List.append_eq_nil_iff.mp h2.symm).1, h1]
    exact .inr rfl
theorem crash_one {f : Fn} {n : Int} {x : List Int} {cs : List Int} {R : Fn → Prop} (h0 : R f) (h : ∀ c, R (crash1 32 f n x c)) : R (crashA f ([(n, x)].zip cs)) := by
  cases cs with
  | nil => exact h0
  | cons c cs => exact h c
/-- home and clear: from a journal that holds the group -/
theorem home_run {g0 g1 : Fn} {s : Int} {ns : List Int} {ds : List (List Int)} {d : AD} (hd0 : d.dead = false) (hw : d.ws = []) (h64 : All64 d.f) (hds : ∀ x ∈ ds, x.length = 64) (h : Held g1 d.f s ns ds) :
    ((runA d (opsP (ns.zip ds))).2 = false → (runA d (opsP (ns.zip ds))).1.dead = true ∧ CrashOk g0 g1 (runA d (opsP (ns.zip ds))).1) ∧
    ((runA d (opsP (ns.zip ds))).2 = true → (runA d (opsP (ns.zip ds))).1.dead = false ∧ (runA d (opsP (ns.zip ds))).1.ws = [] ∧ (runA d (opsP (ns.zip ds))).1.f 1 = zero64 ∧ All64 (runA d (opsP (ns.zip ds))).1.f ∧ HomeIs (runA d (opsP (ns.zip ds))).1.f g1) := by
  have pl : ∀ q ∈ ns.zip ds, q.2.length = 64 := fun q hq => hds _ (List.of_mem_zip (show (q.1, q.2) ∈ ns.zip ds from hq)).2
  unfold opsP
  rcases seg (ns.zip ds) d [some (1, zero64), none] hd0 with ⟨l1, l2, d', e1, e2, e3, e4, e5⟩ | ⟨d1, e2, e3, e4, e5⟩
  · rw [e2]
    refine ⟨fun _ => ⟨e3, fun cs => ?_⟩, (fun z => by cases z)⟩
    show SS g0 g1 (crashA d'.f (d'.ws.zip cs))
    rw [e4, e5, hw, List.nil_append]
    refine ⟨crashA_len l1 cs _ h64 (fun q hq => pl q (by rw [e1]; exact List.mem_append_left _ hq)), .inr ⟨s, ns, ds, h.over fun m hm => crashA_off l1 cs _ m (sub_map (l2 := l2) (by rw [← e1, zip_fst h.len]; exact hm))⟩⟩
  · rw [e2]
    rw [hw, List.nil_append] at e4
    have h1 : Held g1 d1.f s ns ds := h.over fun m hm => by rw [e4]; exact setAll_off _ _ _ (by rw [zip_fst h.len]; exact hm)
    have l1 : All64 d1.f := by rw [e4]; exact setAll_len _ _ h64 pl
    have hm1 : HomeIs d1.f g1 := by rw [e4]; exact h.home
    rcases seg [(1, zero64)] d1 [] e3 with ⟨m1, m2, d', f1, f2, f3, f4, f5⟩ | ⟨d2, f2, f3, f4, f5⟩
    · have f2' : runA d1 [some (1, zero64), none] = (d', false) := f2
      rw [f2']
      refine ⟨fun _ => ⟨f3, fun cs => ?_⟩, (fun z => by cases z)⟩
      show SS g0 g1 (crashA d'.f (d'.ws.zip cs))
      rw [f4, f5, e5, List.nil_append]
      have s0 : SS g0 g1 d1.f := ⟨l1, .inr ⟨s, ns, ds, h1⟩⟩
      have sz : SS g0 g1 (setF d1.f 1 zero64) := ⟨setF_len l1 rfl, .inl ⟨setF_at, .inr fun n a b => by rw [setF_off (by omega)]; exact hm1 n a b⟩⟩
      rcases prefix1 f1 with z | z
      · rw [z]; exact s0
      · rw [z]
        refine crash_one s0 fun c => crash1_cases s0 sz ?_
        rw [h1.head, half_zero h.le]
        exact sz
    · have f2' : runA d1 [some (1, zero64), none] = runA d2 [] := f2
      rw [f2', runA]
      rw [e5, List.nil_append] at f4
      have ef : d2.f = setF d1.f 1 zero64 := f4
      refine ⟨(fun z => by cases z), fun _ => ⟨f3, f5, ?_, ?_, fun n a b => ?_⟩⟩
      · show d2.f 1 = zero64
        rw [ef]; exact setF_at
      · show All64 d2.f
        rw [ef]; exact setF_len l1 rfl
      · show d2.f n = g1 n
        rw [ef, setF_off (by omega)]
        exact hm1 n a b
end K02
namespace K02
open PySem L2 HK
def dwk : Nat → List Rw → Ps
  | _, [] => []
  | k, q :: r => (((k : Nat) : Int), q.2) :: dwk (k + 1) r
theorem dwk_eq : ∀ (gs : List Rw) (k : Nat), (gs.mapIdx fun i q => (some (((k + i : Nat) : Int), q.2) : Op)) = (dwk k gs).map some
  | [], _ => rfl
  | q :: r, k => by
    rw [List.mapIdx_cons, dwk, List.map_cons, ← dwk_eq r (k + 1)]
    congr 1
    congr 1
    funext i q
    congr 3
    omega
theorem dwk_keys : ∀ (gs : List Rw) (k : Nat) (m : Int), m ∈ (dwk k gs).map (·.1) → (k : Int) ≤ m ∧ m < (k : Int) + gs.length
  | [], _, _, h => by cases h
  | q :: r, k, m, h => by
    rw [dwk, List.map_cons] at h
    rcases List.mem_cons.mp h with z | z
    · rw [z, List.length_cons]
      show (k : Int) ≤ (k : Int) ∧ (k : Int) < _
      omega
    · have := dwk_keys r (k + 1) m z
      rw [List.length_cons]
      omega
theorem dwk_at : ∀ (gs : List Rw) (k i : Nat) (f : Fn) (x : List Int), (gs.map (·.2))[i]? = some x → setAll f (dwk k gs) (((k + i : Nat) : Int)) = x
  | [], _, _, _, _, h => by cases h
  | q :: r, k, 0, f, x, h => by
    obtain rfl := Option.some.inj h
    rw [dwk, setAll_cons, setAll_off _ _ _ (fun z => by have := (dwk_keys r (k + 1) _ z).1; omega)]
    exact setF_at
  | q :: r, k, i + 1, f, x, h => by
    have ih := dwk_at r (k + 1) i (setF f ((k : Nat) : Int) q.2) x h
    rw [dwk, setAll_cons, show k + (i + 1) = k + 1 + i by omega]
    exact ih
theorem dwk_len : ∀ (gs : List Rw) (k : Nat), (∀ q ∈ gs, q.2.length = 64) → ∀ q ∈ dwk k gs, q.2.length = 64
  | [], _, _, q, h => by cases h
  | a :: r, k, h0, q, h => by
    rw [dwk] at h
    rcases List.mem_cons.mp h with z | z
    · rw [z]
      exact h0 a (by simp)
    · exact dwk_len r (k + 1) (fun y hy => h0 y (by simp [hy])) q z
def dss (gs : List Rw) : List (List Int) := gs.map (·.2)
theorem dss_flat (gs : List Rw) : (dss gs).flatten = rowDs gs := by
  unfold dss rowDs
  rw [List.flatMap_def]
theorem pairs_zip (gs : List Rw) : pairs gs = (rowNs gs).zip (dss gs) := by
  unfold pairs rowNs dss
  induction gs with
  | nil => rfl
  | cons q r ih => rw [List.map_cons, List.map_cons, List.map_cons, List.zip_cons_cons, ih]
theorem ops_split (sr : Int) (gs : List Rw) : opsG sr gs ++ opsH gs = (dwk 2 gs).map some ++ none :: ([((1 : Int), hd (sr + 1) (rowNs gs) (dss gs))].map some ++ none :: opsP (pairs gs)) := by
  rw [opsH_P]
  unfold opsG hd
  rw [dwk_eq gs 2, dss_flat, List.append_assoc]
  rfl
theorem commit_run {g0 : Fn} {sr : Int} {gs : List Rw} {d : AD} (hd0 : d.dead = false) (hw : d.ws = []) (h64 : All64 d.f) (ok : ∀ q ∈ gs, q.2.length = 64 ∧ 8 ≤ q.1.2.1 ∧ q.1.2.1 < 15) (h5 : gs.length ≤ 5) (s0 : 0 ≤ sr + 1) (s1 : sr + 1 < 65536) (hz : d.f 1 = zero64) (hm : HomeIs d.f g0) :
    ((runA d (opsG sr gs ++ opsH gs)).2 = false → (runA d (opsG sr gs ++ opsH gs)).1.dead = true ∧ CrashOk g0 (setAll g0 (pairs gs)) (runA d (opsG sr gs ++ opsH gs)).1) ∧
    ((runA d (opsG sr gs ++ opsH gs)).2 = true → (runA d (opsG sr gs ++ opsH gs)).1.dead = false ∧ (runA d (opsG sr gs ++ opsH gs)).1.ws = [] ∧ (runA d (opsG sr gs ++ opsH gs)).1.f 1 = zero64 ∧ All64 (runA d (opsG sr gs ++ opsH gs)).1.f ∧ HomeIs (runA d (opsG sr gs ++ opsH gs)).1.f (setAll g0 (pairs gs))) := by
  rw [ops_split]
  have l64 : ∀ q ∈ gs, q.2.length = 64 := fun q hq => (ok q hq).1
  have kn : ∀ m : Int, (m < 2 ∨ 7 ≤ m) → m ∉ (dwk 2 gs).map (·.1) := fun m h z => by
    have := dwk_keys gs 2 m z
    omega
  rcases seg (dwk 2 gs) d ([((1 : Int), hd (sr + 1) (rowNs gs) (dss gs))].map some ++ none :: opsP (pairs gs)) hd0 with ⟨l1, l2, d', e1, e2, e3, e4, e5⟩ | ⟨d1, e2, e3, e4, e5⟩
  · rw [e2]
    refine ⟨fun _ => ⟨e3, fun cs => ?_⟩, (fun z => by cases z)⟩
    show SS _ _ (crashA d'.f (d'.ws.zip cs))
    rw [e4, e5, hw, List.nil_append]
    have kn1 : ∀ m : Int, (m < 2 ∨ 7 ≤ m) → m ∉ l1.map (·.1) := fun m h => sub_map (l2 := l2) (by rw [← e1]; exact kn m h)
    refine ⟨crashA_len l1 cs _ h64 (fun q hq => dwk_len gs 2 l64 q (by rw [e1]; exact List.mem_append_left _ hq)), .inl ⟨?_, .inl fun n a b => ?_⟩⟩
    · rw [crashA_off l1 cs _ 1 (kn1 1 (by omega))]
      exact hz
    · rw [crashA_off l1 cs _ n (kn1 n (by omega))]
      exact hm n a b
  · rw [e2]
    rw [hw, List.nil_append] at e4
    have l1 : All64 d1.f := by rw [e4]; exact setAll_len _ _ h64 (dwk_len gs 2 l64)
    have hz1 : d1.f 1 = zero64 := by rw [e4, setAll_off _ _ _ (kn 1 (by omega))]; exact hz
    have hm1 : HomeIs d1.f g0 := fun n a b => by rw [e4, setAll_off _ _ _ (kn n (by omega))]; exact hm n a b
    have lr : (rowNs gs).length ≤ 5 := by unfold rowNs; rw [List.length_map]; exact h5
    have held : ∀ f : Fn, f 1 = hd (sr + 1) (rowNs gs) (dss gs) → (∀ m, m ≠ 1 → f m = d1.f m) → Held (setAll g0 (pairs gs)) f (sr + 1) (rowNs gs) (dss gs) := fun f f1 fo =>
      { head := f1
        len := by unfold rowNs dss; rw [List.length_map, List.length_map]
        le := lr
        s0 := s0
        s1 := s1
        num := fun n hn => by
          unfold rowNs at hn
          obtain ⟨q, hq, rfl⟩ := List.mem_map.mp hn
          exact (ok q hq).2
        dat := fun i x hx => by
          rw [fo _ (by omega), e4]
          exact dwk_at gs 2 i _ x hx
        home := by
          rw [← pairs_zip]
          exact HomeIs.set (fun n a b => by rw [fo n (by omega)]; exact hm1 n a b) _ }
    have s0' : SS g0 (setAll g0 (pairs gs)) d1.f := ⟨l1, .inl ⟨hz1, .inl hm1⟩⟩
    have sh : SS g0 (setAll g0 (pairs gs)) (setF d1.f 1 (hd (sr + 1) (rowNs gs) (dss gs))) := ⟨setF_len l1 (hd_len lr), .inr ⟨_, _, _, held _ setF_at fun m h => setF_off h⟩⟩
    rcases seg [((1 : Int), hd (sr + 1) (rowNs gs) (dss gs))] d1 (opsP (pairs gs)) e3 with ⟨m1, m2, d', f1, f2, f3, f4, f5⟩ | ⟨d2, f2, f3, f4, f5⟩
    · rw [f2]
      refine ⟨fun _ => ⟨f3, fun cs => ?_⟩, (fun z => by cases z)⟩
      show SS _ _ (crashA d'.f (d'.ws.zip cs))
      rw [f4, f5, e5, List.nil_append]
      rcases prefix1 f1 with z | z
      · rw [z]; exact s0'
      · rw [z]
        refine crash_one s0' fun c => crash1_cases s0' sh ?_
        rw [hz1, half_hd lr]
        exact sh
    · rw [f2]
      rw [e5, List.nil_append] at f4
      have ef : d2.f = setF d1.f 1 (hd (sr + 1) (rowNs gs) (dss gs)) := f4
      rw [pairs_zip]
      refine home_run (g0 := g0) f3 f5 (by rw [ef]; exact setF_len l1 (hd_len lr)) (fun x hx => ?_) (by rw [← pairs_zip]; exact held _ (by rw [ef]; exact setF_at) fun m h => by rw [ef]; exact setF_off h)
      unfold dss at hx
      obtain ⟨q, hq, rfl⟩ := List.mem_map.mp hx
      exact l64 q hq
/-! ### recovery -/
theorem rd_of {d : AD} (h : d.ws = []) (n : Int) : d.rd n = d.f n := by
  unfold AD.rd
  rw [h]
  rfl
theorem datL_of {g : Fn} {d : AD} {s : Int} {ns : List Int} {ds : List (List Int)} (h : d.ws = []) (x : Held g d.f s ns ds) : datL d ns.length = ds := by
  refine List.ext_getElem? fun i => ?_
  unfold datL
  rw [List.getElem?_map]
  by_cases hi : i < ns.length
  · rw [List.getElem?_range hi]
    have hi2 : i < ds.length := by rw [← x.len]; exact hi
    rw [List.getElem?_eq_getElem hi2]
    show some (d.rd _) = _
    rw [rd_of h, x.dat i _ (List.getElem?_eq_getElem hi2)]
  · rw [List.getElem?_eq_none (by rw [List.length_range]; omega), List.getElem?_eq_none (by rw [← x.len]; omega)]
    rfl
def Rested (g0 g1 f : Fn) : Prop := (f 1 = zero64 ∧ (HomeIs f g0 ∨ HomeIs f g1)) ∨ ∃ s, Held g1 f s [] []
theorem Rested.ss {g0 g1 f : Fn} (h : Rested g0 g1 f) (l : All64 f) : SS g0 g1 f := ⟨l, h.imp id fun ⟨s, x⟩ => ⟨s, [], [], x⟩⟩
theorem Rested.home {g0 g1 f : Fn} (h : Rested g0 g1 f) : HomeIs f g0 ∨ HomeIs f g1 := by
  rcases h with h | ⟨s, x⟩
  · exact h.2
  · exact .inr x.home
theorem rec_run {g0 g1 : Fn} {s : Int} {ns : List Int} {ds : List (List Int)} {d : AD} (hd0 : d.dead = false) (hw : d.ws = []) (h64 : All64 d.f) (h : Held g1 d.f s ns ds) :
    ((runA d (opsR (ns.zip ds))).2 = false → (runA d (opsR (ns.zip ds))).1.dead = true ∧ CrashOk g0 g1 (runA d (opsR (ns.zip ds))).1) ∧
    ((runA d (opsR (ns.zip ds))).2 = true → (runA d (opsR (ns.zip ds))).1.dead = false ∧ (runA d (opsR (ns.zip ds))).1.ws = [] ∧ All64 (runA d (opsR (ns.zip ds))).1.f ∧ Rested g0 g1 (runA d (opsR (ns.zip ds))).1.f) := by
  unfold opsR
  by_cases e : ns.zip ds = []
  · rw [if_pos e, runA]
    refine ⟨(fun z => by cases z), fun _ => ⟨hd0, hw, h64, .inr ⟨s, ?_⟩⟩⟩
    have e1 : ns = [] := by
      have := congrArg List.length e
      rw [List.length_zip, h.len, Nat.min_self] at this
      have l := h.len
      exact List.eq_nil_of_length_eq_zero (by simp at this; rw [l, this]; rfl)
    subst e1
    have e2 : ds = [] := List.eq_nil_of_length_eq_zero h.len.symm
    subst e2
    exact h
  · rw [if_neg e]
    obtain ⟨h1, h2⟩ := home_run (g0 := g0) hd0 hw h64 (fun x hx => by
      obtain ⟨i, hi⟩ := List.mem_iff_getElem?.mp hx
      rw [← h.dat i x hi]
      exact h64 _) h
    exact ⟨h1, fun z => ⟨(h2 z).1, (h2 z).2.1, (h2 z).2.2.2.1, .inl ⟨(h2 z).2.2.1, .inr (h2 z).2.2.2.2⟩⟩⟩
theorem run_never : ∀ (ops : List Op) (d : AD), d.dead = false → d.fz = .non → (runA d ops).2 = true ∧ (runA d ops).1.fz = .non
  | [], d, _, h => ⟨rfl, h⟩
  | o :: r, d, h0, h => by
    rw [runA_cons_alive ⟨h0, by rw [h]; intro z; cases z⟩]
    refine run_never r _ ?_ ?_
    · cases o <;> exact h0
    · cases o <;> (show (match d.fz with | .int n => V.int (n - 1) | v => v) = V.non) <;> rw [h]
end K02
namespace K02
open PySem L2 HK
/-- all stands but D -/
def SameX (D : Addr) (H H' : Hp) : Prop := ∀ b o, b ≠ D → H b = some o → H' b = some o
theorem SameX.refl (D : Addr) (H : Hp) : SameX D H H := fun _ _ _ h => h
theorem SameX.trans {D : Addr} {H H1 H2 : Hp} (a : SameX D H H1) (b : SameX D H1 H2) : SameX D H H2 := fun c o n h => b c o n (a c o n h)
theorem SameX.of {D : Addr} {H H' : Hp} (s : Same H H') : SameX D H H' := fun _ _ _ h => s _ _ h
theorem SameX.upd {D : Addr} {H : Hp} {o : HO} : SameX D H (upd H D o) := fun _ _ n h => by rw [upd_ne n]; exact h
/-- nothing that was there is gone -/
theorem SameX.free {D : Addr} {H H' : Hp} (s : SameX D H H') {a : Addr} (n : a ≠ D) (h : H' a = none) : H a = none := by
  cases q : H a with
  | none => rfl
  | some u => rw [s a u n q] at h; cases h
theorem RowsAt.dice {D : Addr} {H H' : Hp} {r : Addr} {gs : List Rw} {xs : List V} (x : RowsAt H r gs) (hD : H D = some (.lst xs)) (n : r ≠ D) (s : SameX D H H') : RowsAt H' r gs :=
  ⟨s _ _ n x.lst, fun q hq => s _ _ (ne_of (x.tup q hq) hD (by intro z; cases z)) (x.tup q hq), fun q hq => s _ _ (ne_of (x.dat q hq) hD (by intro z; cases z)) (x.dat q hq)⟩
theorem SameX.keep {D : Addr} {H H' : Hp} {xs : List V} (s : SameX D H H') (hD : H D = some (.lst xs)) : Keep H H' := fun t ys h => s _ _ (ne_of h hD (by intro z; cases z)) h
theorem DevS.dice {C p dx B W D : Addr} {H H' : Hp} {N : Nat} {d : AD} {xs : List V} (x : DevS C H p dx B W N d) (hD : H D = some (.lst xs)) (n : D ≠ W) (s : SameX D H H') : DevS C H' p dx B W N d := by
  have kp := s.keep hD
  obtain ⟨i, nf, kvs, es, hB, hc, hW, hn, hw, hd⟩ := x
  exact ⟨s _ _ (ne_of i hD (by intro z; cases z)) i, nf, kvs, es, s _ _ (ne_of hB hD (by intro z; cases z)) hB, hc.keep kp, ⟨s _ _ n.symm hW.lst, fun e he => kp _ _ (hW.tup e he)⟩, hn, hw, fun q hq => ⟨kp _ _ (hd q hq).1, (hd q hq).2⟩⟩
/-! ### the law's helpers -/
abbrev sBlk : Stmt := top 28
abbrev sGrp : Stmt := top 29
abbrev sSame : Stmt := top 30
abbrev sAgain : Stmt := top 31
def Byte64 (x : List Int) : Prop := ∃ v : Int, 0 ≤ v ∧ v < 256 ∧ x = List.replicate 64 v
theorem Byte64.len {x : List Int} (h : Byte64 x) : x.length = 64 := by
  obtain ⟨v, _, _, rfl⟩ := h
  exact List.length_replicate
def spBlk : Sp := fun vs H Q _ => ∃ D dc, vs = [.ref D] ∧ H D = some (.lst (Dice.vs dc)) ∧ ∀ H' t x dc', SameX D H H' → H' D = some (.lst (Dice.vs dc')) → H t = none → H' t = some (tupI x) → Byte64 x → Q (.ref t) H'
def okGrp (gs : List Rw) : Prop := ∀ q ∈ gs, Byte64 q.2 ∧ 8 ≤ q.1.2.1 ∧ q.1.2.1 < 15
def spGrp : Sp := fun vs H Q _ => ∃ D dc, vs = [.ref D] ∧ H D = some (.lst (Dice.vs dc)) ∧ ∀ H' L gs dc', SameX D H H' → H' D = some (.lst (Dice.vs dc')) → H L = none → L ≠ D → RowsAt H' L gs → okGrp gs → gs.length ≤ 60 → Q (.ref L) H'
def spSame (C : Addr) : Sp := fun vs H Q _ => ∃ p dx B W N d b kvs g, vs = [.ref p, .ref b] ∧ DevS C H p dx B W N d ∧ N ≤ 900 ∧ d.dead = false ∧ H b = some (.dK kvs) ∧ Cont H 64 kvs g ∧
  ∀ H' c, Same H H' → (c = true ↔ HomeIs d.rd g) → Q (.bl c) H'
def spAgain (C : Addr) : Sp := fun vs H Q _ => ∃ p dx B W N d D dc, vs = [.ref D, .ref p] ∧ DevS C H p dx B W N d ∧ N ≤ 900 ∧ H D = some (.lst (Dice.vs dc)) ∧ D ≠ W ∧
  ∀ H' x dx' B' W' cs dc', SameX D H H' → H' D = some (.lst (Dice.vs dc')) → H x = none → H B' = none → H W' = none → DevS C H' x dx' B' W' N (d.found cs) → Q (.ref x) H'
structure GTxt (mg : Str → Option Value) : Prop where
  tup : mg "tuple" = none
  range : mg "range" = none
  sorted : mg "sorted" = none
theorem flat_rep (n : Nat) (v : V) : (List.replicate n [v]).flatten = List.replicate n v := by
  induction n with
  | zero => rfl
  | succ m ih => rw [List.replicate_succ, List.replicate_succ, List.flatten_cons, ih]; rfl
section
variable {P : Program} {w : World} {K : PySem.W.Frag} {mg : Str → Option Value} {base : Heap} {C CE CJ CJE : Addr}
theorem scBlk : FnScope ["dice"] ["dice"] (defScope sBlk) := ⟨rfl, rfl, rfl, by decide +kernel, rfl, by decide +kernel, by decide +kernel⟩
theorem ok_blk {f fR : Addr} {fd fdR : FuncData} (F : L2.Fun K "_law_block" "_law_block" sBlk f fd) (T : GTxt mg)
    (FR : FnOk P w K mg base L2.CX0 1 fR fdR ["dice", "many"] spRoll) (mR : mg "_law_roll" = some (.ref fR)) (kR : PySem.W.keepIn K (.ref fR) = true) (bR : Binds K fdR ["dice", "many"] []) :
    FnOk P w K mg base L2.CX0 2 f fd ["dice"] spBlk := by
  refine F.ok scBlk (fun vs H Q E h => ?_) (fun cdv A outer s H vs Q E hr h => ?_)
  · obtain ⟨D, dc, rfl, _⟩ := h
    rfl
  · obtain ⟨D, dc, rfl, hD, k⟩ := h
    refine ⟨_, pss_one (ps_ret (pe_callTy call_tuple_of (by rfl) T.tup PyProof.Rows.Boot.«tuple» (pa_cons (pe_op op_rep (pe_lst (pa_cons (pe_call FR hr (by rfl) mR kR bR .nil pass0 (pa_cons (pv 0) (pa_cons pe_int pa_nil))) pa_nil)) pe_int) pa_nil))), ?_⟩
    refine ⟨_, rfl, D, dc, 256, rfl, hD, by decide, by decide, ?_⟩
    obtain ⟨r0, r1⟩ := roll_range dc (m := 256) (by decide)
    have h1 : (upd H D (.lst (roll dc 256).2.vs)) D = some (.lst (roll dc 256).2.vs) := upd_same
    have s1 : SameX D H (upd H D (.lst (roll dc 256).2.vs)) := SameX.upd
    generalize upd H D (.lst (roll dc 256).2.vs) = H1 at h1 s1 ⊢
    refine ⟨by show 1 ≤ sizeLine; decide, fun a na => ?_⟩
    have s2 : Same H1 (upd H1 a (.lst [.int (roll dc 256).1])) := same_upd na
    refine ⟨a, 64, [.int (roll dc 256).1], rfl, rfl, upd_same, by decide, by decide, by show 1 * 64 ≤ sizeLine; decide, fun b nb => ?_⟩
    have s3 := s2.trans (same_upd (o := .lst (List.replicate (64 : Int).toNat [V.int (roll dc 256).1]).flatten) nb)
    refine ⟨b, _, rfl, .inl ⟨SqL.of upd_same, fun t nt => ?_⟩⟩
    have s4 := s3.trans (same_upd (o := .tup (List.replicate (64 : Int).toNat [V.int (roll dc 256).1]).flatten) nt)
    refine k _ t (List.replicate 64 (roll dc 256).1) _ (s1.trans (SameX.of s4)) (s4 _ _ h1) (s1.free (fun e => ?_) (s3.free nt)) ?_ ⟨_, r0, r1, rfl⟩
    · rw [e] at nt
      rw [s3 _ _ h1] at nt
      cases nt
    · rw [upd_same, flat_rep]
      unfold tupI
      rw [List.map_replicate]
      rfl
/-- a table of rows -/
def Tab (H : Hp) (kvs : List (Key × V)) : Prop := ∀ kv ∈ kvs, ∃ (n : Int) (t : Addr) (x : List Int), kv = (.inl n, .ref t) ∧ 8 ≤ n ∧ n < 15 ∧ H t = some (tupI x) ∧ Byte64 x
theorem mem_putK {kvs : List (Key × V)} {k : Key} {v : V} {kv : Key × V} (h : kv ∈ putK kvs k v) : kv = (k, v) ∨ kv ∈ kvs := by
  unfold putK at h
  split at h
  · obtain ⟨y, hy, e⟩ := List.mem_map.mp h
    by_cases c : y.1 = k
    · rw [if_pos c] at e
      rw [← e, c]
      exact .inl rfl
    · rw [if_neg c] at e
      rw [← e]
      exact .inr hy
  · rcases List.mem_append.mp h with z | z
    · exact .inr z
    · exact .inl (by simpa using z)
theorem Tab.keep {H H' : Hp} {kvs : List (Key × V)} (x : Tab H kvs) (k : Keep H H') : Tab H' kvs := fun kv hkv => by
  obtain ⟨n, t, y, e, a, b, c, d⟩ := x kv hkv
  exact ⟨n, t, y, e, a, b, k _ _ c, d⟩
theorem Tab.put {H : Hp} {kvs : List (Key × V)} (x : Tab H kvs) {n : Int} {t : Addr} {y : List Int} (a : 8 ≤ n) (b : n < 15) (c : H t = some (tupI y)) (d : Byte64 y) : Tab H (putK kvs (.inl n) (.ref t)) := fun kv hkv => by
  rcases mem_putK hkv with z | z
  · exact ⟨n, t, y, z, a, b, c, d⟩
  · exact x kv z
theorem valV_mem {kvs : List (Key × V)} {k : Key} {v : V} (h : valV kvs k = some v) : (k, v) ∈ kvs := by
  unfold valV at h
  obtain ⟨q, hq, rfl⟩ := Option.map_eq_some_iff.mp h
  have z := List.find?_some hq
  have e : q.1 = k := of_decide_eq_true z
  rw [← e]
  exact List.mem_of_find?_eq_some hq
theorem Tab.keys {H : Hp} : ∀ {kvs : List (Key × V)}, Tab H kvs → ∃ ks : List Int, kvs.map (·.1) = ks.map Sum.inl
  | [], _ => ⟨[], rfl⟩
  | kv :: r, x => by
    obtain ⟨ks, e⟩ := Tab.keys (kvs := r) fun y hy => x y (by simp [hy])
    obtain ⟨n, t, y, e2, _⟩ := x kv (by simp)
    exact ⟨n :: ks, by rw [List.map_cons, List.map_cons, e, e2]⟩
abbrev NG : List Str := ["dice", "table", "turn", "number"]
theorem scGrp : FnScope NG ["dice"] (defScope sGrp) := ⟨rfl, rfl, rfl, by decide +kernel, rfl, by decide +kernel, by decide +kernel⟩
theorem ok_grp {f fR fB : Addr} {fd fdR fdB : FuncData} (F : L2.Fun K "_law_group" "_law_group" sGrp f fd) (T : GTxt mg)
    (FR : FnOk P w K mg base L2.CX0 1 fR fdR ["dice", "many"] spRoll) (mR : mg "_law_roll" = some (.ref fR)) (kR : PySem.W.keepIn K (.ref fR) = true) (bR : Binds K fdR ["dice", "many"] [])
    (FB : FnOk P w K mg base L2.CX0 2 fB fdB ["dice"] spBlk) (mB : mg "_law_block" = some (.ref fB)) (kB : PySem.W.keepIn K (.ref fB) = true) (bB : Binds K fdB ["dice"] []) :
    FnOk P w K mg base L2.CX0 3 f fd ["dice"] spGrp := by
  refine F.ok scGrp (fun vs H Q E h => ?_) (fun cdv A outer s H vs Q E hr h => ?_)
  · obtain ⟨D, dc, rfl, _⟩ := h
    rfl
  · obtain ⟨D, dc, rfl, hD, k⟩ := h
    have rR := FR.mono (show 1 ≤ 2 by decide)
    refine ⟨_, pss_cons (ps_set (i := 1) scGrp.nd rfl (Or.inr rfl) pe_dnewK)
      (pss_cons (ps_for PassesOwn.never rfl (pi_range1 (by rfl) T.range (pa_cons (pe_call rR hr (by rfl) mR kR bR .nil pass0 (pa_cons (pv 0) (pa_cons pe_int pa_nil))) pa_nil)) (pg_name (i := 2) scGrp.nd rfl (Or.inl rfl))
        (pss_one (ps_dput (hu_of hr) (pv 1) (pe_op op_add pe_int (pe_call rR hr (by rfl) mR kR bR .nil pass0 (pa_cons (pv 0) (pa_cons pe_int pa_nil)))) (pe_call FB hr (by rfl) mB kB bB .nil pass0 (pa_cons (pv 0) pa_nil)) rfl)))
      (pss_one (ps_ret (pe_lc (own := [("number", 3)]) (g := gName 3) (te := tTup (tCons (tVar 3) (tCons (tDGet (tVar 1) (tVar 3)) tNil))) (by rfl) scGrp.nd (pi_list (pe_callB (call_sortedDI (by rfl)) (by rfl) T.sorted PyProof.Rows.boot_sorted (pa_cons (pv 1) pa_nil)))
          (blkOk_by (N := NG) (sc := defScope sGrp) (by decide +kernel)) (fun _ _ _ _ _ => pg_name (i := 3) scGrp.nd rfl (Or.inl rfl)) (fun _ _ _ _ _ => pts_nil)
          (fun _ _ _ _ _ => pe_tup (pa_cons (pv 3) (pa_cons (pe_dget (by exact hu_of hr) (pv 1) (pv 3) (fun _ _ => rfl)) pa_nil))))))), ?_⟩
    intro TB nTB
    have s0 : Same H (upd H TB (.dK [])) := same_upd nTB
    have nTD : TB ≠ D := fun e => by rw [e, hD] at nTB; cases nTB
    refine ⟨_, rfl, D, dc, 7, rfl, s0 _ _ hD, by decide, by decide, ?_⟩
    obtain ⟨r0, r1⟩ := roll_range dc (m := 7) (by decide)
    refine ⟨_, rfl, by omega, by omega, ?_⟩
    refine for_it (walk_range (lo := 0) (n := (roll dc 7).1.toNat)) (fun i σ H' => ∃ dc' kvs u v, σ = [some (.ref D), some (.ref TB), u, v] ∧ SameX D H H' ∧ H' D = some (.lst (Dice.vs dc')) ∧ H' TB = some (.dK kvs) ∧ kvs.length ≤ i ∧ Tab H' kvs)
      ⟨_, [], none, none, rfl, (SameX.of s0).trans SameX.upd, upd_same, by rw [upd_ne nTD]; exact upd_same, Nat.le_refl _, fun _ z => by cases z⟩ (fun _ _ _ _ _ => trivial) (fun i x σ H' H'' hi q y => ?_) (fun σ H' q => ?_)
    · obtain ⟨dc', kvs, u, v, rfl, sx, hd', ht, hl, tb⟩ := q
      obtain ⟨rfl, rfl⟩ := y
      refine ⟨_, rfl, D, dc', rfl, hd', fun H3 t y dc3 s3 hd3 nt hy by64 => ?_⟩
      obtain ⟨q0, q1⟩ := roll_range dc3 (m := 7) (by decide)
      refine ⟨_, rfl, _, rfl, D, dc3, 7, rfl, hd3, by decide, by decide, ?_⟩
      have s4 : SameX D H3 (upd H3 D (.lst (roll dc3 7).2.vs)) := SameX.upd
      have hd4 : (upd H3 D (.lst (roll dc3 7).2.vs)) D = some (.lst (roll dc3 7).2.vs) := upd_same
      have kp := (s3.keep hd').trans (s4.keep hd3)
      have ht4 := s4 _ _ nTD (s3 _ _ nTD ht)
      have hy4 := s4.keep hd3 _ _ hy
      generalize upd H3 D (.lst (roll dc3 7).2.vs) = H4 at s4 hd4 kp ht4 hy4 ⊢
      refine ⟨_, _, rfl, rfl, TB, _, rfl, DPut.k (k := Sum.inl (8 + (roll dc3 7).1)) ht4 (by rw [sizeLine_eq]; omega), ?_⟩
      have kpt : Keep H4 (upd H4 TB (.dK (putK kvs (Sum.inl (8 + (roll dc3 7).1)) (.ref t)))) := Keep.upd fun xs z => by rw [ht4] at z; cases z
      refine ⟨_, _, _, _, rfl, fun b o n hb => ?_, by rw [upd_ne nTD.symm]; exact hd4, upd_same, by have := length_putK kvs (Sum.inl (8 + (roll dc3 7).1)) (.ref t); omega, ((tb.keep kp).put (by omega) (by omega) hy4 by64).keep kpt⟩
      rw [upd_ne (ne_of_none hb nTB)]
      exact s4 _ _ n (s3 _ _ n (sx _ _ n hb))
    · obtain ⟨dc', kvs, u, v, rfl, sx, hd', ht, hl, tb⟩ := q
      obtain ⟨ks, hks⟩ := tb.keys
      have lk : ks.length = kvs.length := by rw [← List.length_map (f := fun x : Key × V => x.1), hks, List.length_map]
      have hl6 : kvs.length ≤ 6 := by omega
      refine ⟨_, rfl, TB, kvs, ks, rfl, .inl ht, hks, by omega, fun ys L0 perm _ nL0 => ?_⟩
      have s1 : Same H' (upd H' L0 (.lst (ys.map V.int))) := same_upd nL0
      have hL0 : (upd H' L0 (.lst (ys.map V.int))) L0 = some (.lst (ys.map V.int)) := upd_same
      generalize upd H' L0 (.lst (ys.map V.int)) = H1 at s1 hL0 ⊢
      have ly : ys.length ≤ 6 := by rw [perm.length_eq]; omega
      refine ⟨L0, rfl, ⟨_, SqL.of hL0⟩, fun L nL => ?_⟩
      have tb1 := tb.keep (Keep.of s1)
      have ht1 := s1 _ _ ht
      have hd1 := s1 _ _ hd'
      refine lc_list (K := K) (a := L0) (xs := ys.map V.int) (fun i H2 => Same H1 H2 ∧ ∃ gs : List Rw, gs.length = i ∧ H2 L = some (.lst (gs.map fun q => V.ref q.1.1)) ∧ (∀ q ∈ gs, H2 q.1.1 = some (.tup [.int q.1.2.1, .ref q.1.2.2])) ∧ (∀ q ∈ gs, H2 q.1.2.2 = some (tupI q.2)) ∧ okGrp gs) ⟨same_upd nL, [], rfl, upd_same, (fun _ z => by cases z), (fun _ z => by cases z), (fun _ z => by cases z)⟩ (fun i H2 hi q => ?_) (fun i x H2 hx q => ?_) (fun H2 q => ?_)
      · exact SqL.of (q.1 _ _ hL0)
      · obtain ⟨s2, gs, hg, hL, g1, g2, g3⟩ := q
        rw [List.getElem?_map] at hx
        obtain ⟨n, hn, rfl⟩ := Option.map_eq_some_iff.mp hx
        have hi := (List.getElem?_eq_some_iff.mp hn).1
        have mk : n ∈ ks := perm.mem_iff.mp (List.mem_of_getElem? hn)
        obtain ⟨vv, hv⟩ : ∃ vv, valV kvs (Sum.inl n) = some vv := by
          rw [← Option.isSome_iff_exists, ← valV_any, List.any_eq_true]
          have : (Sum.inl n : Key) ∈ kvs.map (·.1) := by rw [hks]; exact List.mem_map.mpr ⟨n, mk, rfl⟩
          obtain ⟨kv, hkv, e⟩ := List.mem_map.mp this
          exact ⟨kv, hkv, decide_eq_true e⟩
        obtain ⟨n2, t, y, e, b1, b2, b3, b4⟩ := tb1 _ (valV_mem hv)
        injection e with e1 e2
        injection e1 with e1
        subst e1
        subst e2
        have b3' := s2 _ _ b3
        refine ⟨rfl, _, rfl, _, rfl, _, rfl, TB, .ref t, rfl, by rw [← hv]; exact DGet.k (k := Sum.inl n) (s2 _ _ ht1), by show 2 ≤ sizeLine; decide, fun tt ntt => ?_⟩
        have s3 : Same H2 (upd H2 tt (.tup [.int n, .ref t])) := same_upd ntt
        have htt : (upd H2 tt (.tup [.int n, .ref t])) tt = some (.tup [.int n, .ref t]) := upd_same
        generalize upd H2 tt (.tup [.int n, .ref t]) = H3 at s3 htt ⊢
        have hL3 := s3 _ _ hL
        have kpL : ∀ xs, Keep H3 (upd H3 L (.lst xs)) := fun xs => Keep.upd fun ys z => by rw [hL3] at z; cases z
        refine ⟨_, hL3, by rw [List.length_map]; exact small1000 (by omega), fun b o hb => ?_, gs ++ [((tt, n, t), y)], by rw [List.length_append, hg]; rfl, by rw [upd_same, List.map_append]; rfl, fun q hq => kpL _ _ _ ?_, fun q hq => kpL _ _ _ ?_, fun q hq => ?_⟩
        · rw [upd_ne (ne_of_none hb nL)]
          exact s3 _ _ (s2 _ _ hb)
        · rcases List.mem_append.mp hq with z | z
          · exact s3 _ _ (g1 q z)
          · rw [List.mem_singleton.mp z]; exact htt
        · rcases List.mem_append.mp hq with z | z
          · exact s3 _ _ (g2 q z)
          · rw [List.mem_singleton.mp z]; exact s3 _ _ b3'
        · rcases List.mem_append.mp hq with z | z
          · exact g3 q z
          · rw [List.mem_singleton.mp z]; exact ⟨b4, b1, b2⟩
      · obtain ⟨s2, gs, hg, hL, g1, g2, g3⟩ := q
        rw [List.length_map] at hg
        have nLD : L ≠ D := fun e => by rw [e, hd1] at nL; cases nL
        refine k H2 L gs dc' ((sx.trans (SameX.of s1)).trans (SameX.of s2)) (s2 _ _ hd1) ((sx.trans (SameX.of s1)).free nLD nL) nLD ⟨hL, g1, g2⟩ g3 (by omega)
end
end K02
namespace K02
open PySem L2 HK
theorem eq_ints {K : PySem.W.Frag} {H : Hp} {a b : Addr} {xs ys : List Int} {Q : VK} (ha : SqL K H a (xs.map V.int)) (hb : SqL K H b (ys.map V.int)) (q : Q (.bl (decide (xs = ys))) H) : rEqD K (.ref a) (.ref b) H Q := by
  refine ⟨_, _, Dp.lst ha (dpall_ints xs), Dp.lst hb (dpall_ints ys), PySem.W.ke_shaped_ints xs, PySem.W.ke_shaped_ints ys, ?_⟩
  rw [PyData.eqv, eqv_ints]
  exact q
theorem ne_intsL {K : PySem.W.Frag} {H : Hp} {a b : Addr} {xs ys : List Int} {Q : VK} (ha : SqL K H a (xs.map V.int)) (hb : SqL K H b (ys.map V.int)) (q : Q (.bl (!decide (xs = ys))) H) : rNeD K (.ref a) (.ref b) H Q := by
  refine ⟨_, _, Dp.lst ha (dpall_ints xs), Dp.lst hb (dpall_ints ys), PySem.W.ke_shaped_ints xs, PySem.W.ke_shaped_ints ys, ?_⟩
  rw [PyData.eqv, eqv_ints]
  exact q
def bads (f g : Fn) (i : Nat) : List Int := ((List.range i).map fun k => (8 : Int) + (k : Nat)).filter fun n => !decide (f n = g n)
theorem bads_succ (f g : Fn) (i : Nat) : bads f g (i + 1) = bads f g i ++ (if f (8 + (i : Nat)) = g (8 + (i : Nat)) then [] else [8 + ((i : Nat) : Int)]) := by
  unfold bads
  rw [List.range_succ, List.map_append, List.filter_append]
  congr 1
  by_cases h : f (8 + (i : Nat)) = g (8 + (i : Nat))
  · rw [if_pos h]
    simp [h]
  · rw [if_neg h]
    simp [h]
theorem bads_len (f g : Fn) (i : Nat) : (bads f g i).length ≤ i := by
  unfold bads
  refine Nat.le_trans (List.length_filter_le _ _) ?_
  rw [List.length_map, List.length_range]
  exact Nat.le_refl _
theorem bads_nil (f g : Fn) : bads f g 7 = [] ↔ HomeIs f g := by
  unfold bads
  rw [List.filter_eq_nil_iff]
  constructor
  · intro h n a b
    have z := h n (List.mem_map.mpr ⟨(n - 8).toNat, List.mem_range.mpr (by omega), by omega⟩)
    simpa using z
  · intro h n hn
    obtain ⟨k, hk, rfl⟩ := List.mem_map.mp hn
    have := List.mem_range.mp hk
    rw [h _ (by omega) (by omega)]
    simp
section
variable {P : Program} {w : World} {K : PySem.W.Frag} {mg : Str → Option Value} {base : Heap} {C CE CJ CJE : Addr}
abbrev NS : List Str := ["device", "blocks", "number"]
theorem scSame : FnScope NS ["device", "blocks"] (defScope sSame) := ⟨rfl, rfl, rfl, by decide +kernel, rfl, by decide +kernel, by decide +kernel⟩
theorem ok_same {f fR : Addr} {fd fdR : FuncData} (F : L2.Fun K "_law_same" "_law_same" sSame f fd) (T : DTxt K mg C CE) (G : GTxt mg)
    (FR : FnOk P w K mg base (L2.CX P w) 2 fR fdR ["self", "number"] (spReadA C CE)) (bR : Binds K fdR ["self", "number"] []) (mR : Meth K C "read" fR) :
    FnOk P w K mg base L2.CX0 3 f fd ["device", "blocks"] (spSame C) := by
  refine F.ok scSame (fun vs H Q E h => ?_) (fun cdv A outer s H vs Q E hr h => ?_)
  · obtain ⟨p, dx, B, W, N, d, b, kvs, g, rfl, _⟩ := h
    rfl
  · obtain ⟨p, dx, B, W, N, d, b, kvs, g, rfl, hD, hN, al, hb, hc, k⟩ := h
    refine ⟨_, pss_one (ps_ret (pe_cmpR (op_eqD hr.units) (pe_lc (own := [("number", 2)]) (g := gName 2) (by rfl) scSame.nd (pi_range2 (by rfl) G.range (pa_cons pe_int (pa_cons pe_int pa_nil)))
        (blkOk_by (N := NS) (sc := defScope sSame) (by decide +kernel)) (fun _ _ _ _ _ => pg_name (i := 2) scSame.nd rfl (Or.inl rfl))
        (fun _ _ _ _ _ => pts_one (pt_cmpR (r := rNeD K) (op_neD (by exact hr.units)) (pe_meth (pv 0) T.cl mR FR hr bR .nil passL (pa_cons (pv 2) pa_nil))
          (pe_dget2 (by exact hu_of hr) (pv 1) (pv 2) (pe_op (r := rRepT K) (by exact op_repT) (pe_tup (pa_cons pe_int pa_nil)) pe_int) ⟨rfl, rfl, rfl, rfl⟩) (nomark _)))
        (fun _ _ _ _ _ => pv 2)) (pe_lst pa_nil) (nomark _))), ?_⟩
    refine ⟨8, 15, rfl, ⟨by decide, by decide, by decide, by decide⟩, fun D nD => ?_⟩
    refine lc_it (walk_range (lo := 8) (n := 7)) (fun i H' => Same H H' ∧ H' D = some (.lst ((bads d.rd g i).map V.int))) ⟨same_upd nD, upd_same⟩ (fun _ _ _ _ => trivial) (fun i x H' H'' hi q y => ?_) (fun H' q => ?_)
    · obtain ⟨rfl, rfl⟩ := y
      obtain ⟨sx, hl⟩ := q
      refine ⟨rfl, _, rfl, p, dx, _, rfl, sx _ _ hD.ins, rfl, _, rfl, ?_⟩
      refine spR_of (hD.same sx) hN al ⟨by omega, by omega⟩ fun H1 r s1 hr1 => ?_
      have sx1 := sx.trans s1
      refine ⟨_, rfl, b, rfl, .inl ⟨kvs, .inl (sx1 _ _ hb)⟩, _, rfl, by show 1 ≤ sizeLine; decide, fun t nt => ?_⟩
      have s2 : Same H1 (upd H1 t (.tup [.int 0])) := same_upd nt
      refine ⟨t, 64, [.int 0], rfl, rfl, SqT.of upd_same, (fun z => by cases z), by decide, by decide, by decide, fun z nz => ?_⟩
      have s3 := s2.trans (same_upd (o := .tup (List.replicate (64 : Int).toNat [V.int 0]).flatten) nz)
      have hz : (upd (upd H1 t (.tup [.int 0])) z (.tup (List.replicate (64 : Int).toNat [V.int 0]).flatten)) z = some (.tup (zeros ((64 : Nat) : Int))) := by
        rw [upd_same, flat_zeros]
        rfl
      have sx3 := sx1.trans s3
      obtain ⟨r2, er, hr2⟩ := (hc.keep (Keep.of sx3)).get hz (8 + (i : Nat))
      refine ⟨_, DGet.k (k := Sum.inl ((8 : Int) + (i : Nat))) (sx3 _ _ hb), ?_⟩
      rw [er]
      have hl3 := s3 _ _ (s1 _ _ hl)
      refine ne_tupI (SqT.of (s3 _ _ hr1)) (SqT.of hr2) ⟨_, rfl, ?_⟩
      by_cases e : d.rd (8 + ((i : Nat) : Int)) = g (8 + ((i : Nat) : Int))
      · rw [decide_eq_true e]
        refine iteF ⟨sx3, ?_⟩
        rw [bads_succ, if_pos e, List.append_nil]
        exact hl3
      · rw [decide_eq_false e]
        refine iteT ⟨_, rfl, _, hl3, by rw [List.length_map]; have := bads_len d.rd g i; exact small1000 (by omega), ?_, ?_⟩
        · intro c o hc'
          rw [upd_ne (ne_of_none hc' nD)]
          exact sx3 _ _ hc'
        · rw [upd_same, bads_succ, if_neg e, List.map_append]
          rfl
    · obtain ⟨sx, hl⟩ := q
      refine ⟨by show 0 ≤ sizeLine; decide, fun L nL => ?_⟩
      have s2 : Same H' (upd H' L (.lst [])) := same_upd nL
      refine eq_ints (xs := bads d.rd g 7) (ys := []) (SqL.of (s2 _ _ hl)) (SqL.of upd_same) ?_
      exact k _ _ (sx.trans s2) (by rw [decide_eq_true_eq]; exact bads_nil _ _)
abbrev NA : List Str := ["dice", "device", "k"]
theorem scAgain : FnScope NA ["dice", "device"] (defScope sAgain) := ⟨rfl, rfl, rfl, by decide +kernel, rfl, by decide +kernel, by decide +kernel⟩
theorem ok_again {f fR fT : Addr} {fd fdR fdT : FuncData} (F : L2.Fun K "_law_again" "_law_again" sAgain f fd) (T : DTxt K mg C CE) (G : GTxt mg)
    (FR : FnOk P w K mg base L2.CX0 1 fR fdR ["dice", "many"] spRoll) (mR : mg "_law_roll" = some (.ref fR)) (kR : PySem.W.keepIn K (.ref fR) = true) (bR : Binds K fdR ["dice", "many"] [])
    (FT : FnOk P w K mg base L2.CX0 3 fT fdT ["self", "choices"] (spRestA C)) (bT : Binds K fdT ["self", "choices"] []) (mT : Meth K C "restarted" fT) :
    FnOk P w K mg base L2.CX0 4 f fd ["dice", "device"] (spAgain C) := by
  refine F.ok scAgain (fun vs H Q E h => ?_) (fun cdv A outer s H vs Q E hr h => ?_)
  · obtain ⟨p, dx, B, W, N, d, D, dc, rfl, _⟩ := h
    rfl
  · obtain ⟨p, dx, B, W, N, d, D, dc, rfl, hD, hN, hd, nDW, k⟩ := h
    have rR := FR.mono (show 1 ≤ 3 by decide)
    refine ⟨_, pss_one (ps_ret (pe_meth (pv 1) T.cl mT FT hr bT .nil pass0 (pa_cons (pe_lc (own := [("k", 2)]) (g := gName 2) (by rfl) scAgain.nd (pi_range1 (by rfl) G.range (pa_cons (pe_call rR hr (by rfl) mR kR bR .nil pass0 (pa_cons (pv 0) (pa_cons pe_int pa_nil))) pa_nil))
        (blkOk_by (N := NA) (sc := defScope sAgain) (by decide +kernel)) (fun _ _ _ _ _ => pg_name (i := 2) scAgain.nd rfl (Or.inl rfl)) (fun _ _ _ _ _ => pts_nil)
        (fun _ _ _ _ _ => pe_call rR hr (by rfl) mR kR bR .nil pass0 (pa_cons (pv 0) (pa_cons pe_int pa_nil)))) pa_nil))), ?_⟩
    refine ⟨_, rfl, p, dx, _, rfl, hD.ins, rfl, _, rfl, D, dc, 14, rfl, hd, by decide, by decide, ?_⟩
    obtain ⟨r0, r1⟩ := roll_range dc (m := 14) (by decide)
    have h1 : (upd H D (.lst (roll dc 14).2.vs)) D = some (.lst (roll dc 14).2.vs) := upd_same
    have s1 : SameX D H (upd H D (.lst (roll dc 14).2.vs)) := SameX.upd
    generalize upd H D (.lst (roll dc 14).2.vs) = H1 at h1 s1 ⊢
    refine ⟨_, rfl, by omega, by omega, fun L nL => ?_⟩
    have nLD : L ≠ D := fun e => by rw [e, h1] at nL; cases nL
    refine lc_it (walk_range (lo := 0) (n := (roll dc 14).1.toNat)) (fun i H' => ∃ dc' cs, SameX D H1 H' ∧ H' D = some (.lst (Dice.vs dc')) ∧ H' L = some (.lst (List.map V.int cs)) ∧ cs.length ≤ i) ⟨_, [], SameX.of (same_upd nL), by rw [upd_ne nLD.symm]; exact h1, upd_same, Nat.le_refl _⟩ (fun _ _ _ _ => trivial) (fun i x H' H'' hi q y => ?_) (fun H' q => ?_)
    · obtain ⟨rfl, rfl⟩ := y
      obtain ⟨dc', cs, sx, hd', hL, hcs⟩ := q
      refine ⟨rfl, _, rfl, D, dc', 3, rfl, hd', by decide, by decide, ?_⟩
      have hL2 : (upd H'' D (.lst (roll dc' 3).2.vs)) L = some (.lst (List.map V.int cs)) := by rw [upd_ne nLD]; exact hL
      refine ⟨_, hL2, by rw [List.length_map]; exact small1000 (by omega), (roll dc' 3).2, cs ++ [(roll dc' 3).1], fun b o n hb => ?_, by rw [upd_ne nLD.symm]; exact upd_same, by rw [upd_same, List.map_append]; rfl, by rw [List.length_append]; show cs.length + 1 ≤ i + 1; omega⟩
      rw [upd_ne (ne_of_none hb nL), upd_ne n]
      exact sx _ _ n hb
    · obtain ⟨dc', cs, sx, hd', hL, hcs⟩ := q
      have sx2 := s1.trans sx
      have nx_ : ∀ {x : Addr}, H' x = none → H x = none := fun {x} nx => sx2.free (fun e => by rw [e, hd'] at nx; cases nx) nx
      exact ⟨p, dx, B, W, N, d, L, cs, rfl, hD.dice hd nDW sx2, hN, hL, fun x dx' B' W' H2 s2 nx nB nW D2 => k H2 x dx' B' W' cs dc' (sx2.trans (SameX.of s2)) (s2 _ _ hd') (nx_ nx) (nx_ nB) (nx_ nW) D2⟩
end
end K02
/-! tuple * int, any number -/
namespace HZR
open PySem PySem.Spec PyProof.Rows L2
theorem mul0 (l : Addr) (items : Array Value) (n : Nat) (dd : Option Addr) (sl : Array (Option Value)) (u : Tok) (c1 : items.isEmpty = false) :
    Meets (Builtin.«tuple.__mul__» ⟨[.ref l, .int 0 u], []⟩) (fun _ R s => s.heap.get? l = some { cls := .type "tuple", dict := dd, data := .seq items n, slots := sl } ∧
      R (.ok (.ret (Value.ref s.heap.objs.size))) { s with heap := s.heap.push { cls := Value.type "tuple", data := Data.seq #[] }, toks := s.toks }) :=
  .of_wp fun prog w A R s h => by
    obtain ⟨hp, g, d, tk, os⟩ := s
    obtain ⟨hl, h⟩ := h
    have f1 := AutoSeq1.idx_int
    have e1 : (items.isEmpty || (0 : Int) == 1) = false := by rw [c1]; rfl
    wp_walk using wpAny_loadPart' hl
    repeat (first
      | (refine wpAny_ite_false (decide_eq_false (by rw [e1]; exact Bool.false_ne_true)) ?_; wp_walk using wpAny_loadPart' hl)
      | (refine wpAny_ite_true (decide_eq_true rfl) ?_; wp_walk using wpAny_loadPart' hl))
    exact ⟨_, rfl, h⟩
theorem mul1 (l : Addr) (items : Array Value) (n : Nat) (dd : Option Addr) (sl : Array (Option Value)) (u : Tok) :
    Meets (Builtin.«tuple.__mul__» ⟨[.ref l, .int 1 u], []⟩) (fun _ R s => s.heap.get? l = some { cls := .type "tuple", dict := dd, data := .seq items n, slots := sl } ∧
      R (.ok (.ret (Value.ref l))) s) :=
  .of_wp fun prog w A R s h => by
    obtain ⟨hp, g, d, tk, os⟩ := s
    obtain ⟨hl, h⟩ := h
    have f1 := AutoSeq1.idx_int
    have hT : (⟨hp, g, d, tk, os⟩ : Shared).TypeIs (.ref l) "tuple" := ⟨_, hl, rfl⟩
    have e1 : (items.isEmpty || (1 : Int) == 1) = true := by simp
    wp_walk using wpAny_loadPart' hl
    exact ⟨_, rfl, h⟩
/-- tuple * int -/
def rRepA (K : PySem.W.Frag) : R2 := fun x y H Q => ∃ l k xs, x = .ref l ∧ y = .int k ∧ SqT K H l xs ∧ xs ≠ [] ∧ 0 ≤ k ∧ k ≤ 1000 ∧ xs.length ≤ 1000 ∧ (k = 1 → Q (.ref l) H) ∧ (k ≠ 1 → ∀ p, H p = none → Q (.ref p) (upd H p (.tup (List.replicate k.toNat xs).flatten)))
theorem op_repA {X : Cx} : OpR X (binaryOp .Mult) (rRepA X.K) := by
  intro pins s σ H x y v u Q I rx ry h
  obtain ⟨l, k, xs, rfl, rfl, hT, hne, h0, h1, hz, q1, q⟩ := h
  by_cases k2 : 2 ≤ k
  · exact op_repT pins s σ H _ _ v u Q I rx ry ⟨l, k, xs, rfl, rfl, hT, hne, k2, h1, hz, q (by omega)⟩
  · cases rx
    obtain ⟨t, rfl⟩ := ry
    obtain ⟨its, r, ⟨⟨cls, dd, data, sl⟩, ho, hc, n, hd⟩, hs⟩ := I.tuple hT
    simp only at hc hd
    subst hc hd
    have hle : its.length = xs.length := r.length.symm
    have hn : its ≠ [] := fun e => hne (by
      rw [e] at hle
      exact List.eq_nil_of_length_eq_zero hle.symm)
    have hi : its.toArray.isEmpty = false := by
      cases its with
      | nil => exact absurd rfl hn
      | cons a b => rfl
    by_cases k1 : k = 1
    · subst k1
      refine wpAny_binaryOp_repeat_ref (T := "tuple") (U := "int") (by decide) ⟨_, ho, rfl⟩ (fun s' => typeIs_int s' 1 t) noFill_tuple_mul F.fills_int_mul F.slot_int_rmul repeat_tuple F.slot_int_index.lookup
        (call_meets F.slot_int_rmul (typeIs_int s 1 t) F.entry_int_rmul (F.args_int_rmul_2 _ _) (int_rmul_tuple 1 t l its.toArray n dd sl)
          ⟨ho, rfl, ⟨_, ho, rfl⟩, call_meets F.slot_tuple_mul ⟨_, ho, rfl⟩ F.entry_tuple_mul (F.args_tuple_mul_2 _ _) (mul1 l its.toArray n dd sl t) ⟨ho, ?_⟩⟩)
      exact ⟨.ref l, H, I, rfl, q1 rfl⟩
    · obtain rfl : k = 0 := by omega
      refine wpAny_binaryOp_repeat_ref (T := "tuple") (U := "int") (by decide) ⟨_, ho, rfl⟩ (fun s' => typeIs_int s' 0 t) noFill_tuple_mul F.fills_int_mul F.slot_int_rmul repeat_tuple F.slot_int_index.lookup
        (call_meets F.slot_int_rmul (typeIs_int s 0 t) F.entry_int_rmul (F.args_int_rmul_2 _ _) (int_rmul_tuple 0 t l its.toArray n dd sl)
          ⟨ho, rfl, ⟨_, ho, rfl⟩, call_meets F.slot_tuple_mul ⟨_, ho, rfl⟩ F.entry_tuple_mul (F.args_tuple_mul_2 _ _) (mul0 l its.toArray n dd sl t hi) ⟨ho, ?_⟩⟩)
      refine ⟨.ref s.heap.objs.size, _, I.laid (t' := s.toks) (o := .tup []) (fun b ob q => Heap.get?_push_of_some _ q) (Nat.le_refl _) ?_, rfl, q (by decide) _ (I.hok.fresh (Nat.le_refl _))⟩
      exact ⟨Nat.zero_le _, [], .nil, IsTup.new _ _⟩
end HZR
namespace K02
open PySem L2 HK
theorem tC_mk' {v : V} {σ : L2.St} {H : Hp} {Q : VK} (h : Q v H) : tC v σ H Q := h
theorem tSeq_mk {t u : TS} {D : Ends} {σ : L2.St} {H : Hp} (h : t { D with nx := u D } σ H) : tSeq t u D σ H := h
theorem tAsg_mk {te : TE} {g : TG} {D : Ends} {σ : L2.St} {H : Hp} (h : te σ H fun x H1 => g x σ H1 D.nx) : tAsg te g D σ H := h
/-! ### _law_told -/
abbrev sTold : Stmt := top 27
abbrev sLaw : Stmt := top 32
structure ToldTxt (K : PySem.W.Frag) (mg : Str → Option Value) (CE CJE g : Addr) : Prop where
  m : mg "_law_told" = some (.ref g)
  k : PySem.W.keepIn K (.ref g) = true
  fn : ∃ (oc kV doc pm cdv ct : Value) (od an : Option Addr) (osl : Array (Option Value)),
    K.lookup g = some ⟨oc, od, .func (PySem.W.fnOf "_law_told" "_law_told" (defArgs sTold) (defBody sTold) (defScope sTold) .none kV doc pm an cdv ct), osl⟩ ∧ PySem.W.codeIn K cdv "_law_told" = true
  mF : mg "DeviceError" = some (.ref CE)
  mJ : mg "JournalError" = some (.ref CJE)
theorem scTold : FnScope ["what"] ["what"] (defScope sTold) := ⟨rfl, rfl, rfl, by decide +kernel, rfl, by decide +kernel, by decide +kernel⟩
theorem pe_told {X : Cx} {CE CJE g c P : Addr} {k : Nat} {params : Arguments} {body : Expr} {scope : Scope} {t : XK → TE} {p lpos pos : Pos} (TT : ToldTxt X.K X.mg CE CJE g) (TB : LamX.TabB X.base X.mg c P) (hcode : X.env.code = .ref c)
    (hg : Gl X "_law_told") (hr : Room (k + 2) X.A) (L : LamX.LamS X.env.scope scope) (hdef : defaultsOf params X.env = ([], []))
    (hbind : ∀ (q : Str) (cl : List (Str × Addr)) (pm cv ctv : Value), bindArgs (PySem.W.kla_fn "<lambda>" q params body scope cl pm cv ctv) ⟨[], []⟩ = pure [])
    (hbody : ∀ (A : Around) (outer : List Env) (s : Shared) (H : Hp) (E : XK) (f c' : Addr), Room k (A.deeper (LamX.lamEnv X scope s.heap.objs.size f c')) → PE (LamX.lamCx X A outer s H E scope f c') body (t E)) :
    PE X (.Call (.Name "_law_told" p) [.Lambda params body scope lpos] [] pos) (LamX.tLam [(P, X.env.qual ++ "<lambda>")] (HK.TTold2 X.K CE CJE "DeviceError" "JournalError") t) := by
  obtain ⟨oc, kV, doc, pm, cdv, ct, od, an, osl, lk, hcd⟩ := TT.fn
  refine LamX.pe_lamcall (Ng := ["what"]) (a := "what") hg TT.m TT.k lk hcd (.all fun us hl => match us, hl with | [_], _ => rfl) scTold rfl (Or.inl rfl) (HK.told_gives2 (e1 := "DeviceError") (e2 := "JournalError") rfl TT.mF rfl rfl TT.mJ rfl (fun _ => rfl)) TB hcode List.mem_cons_self (fun q hq _ => ?_) hr L hdef hbind hbody
  rw [List.mem_singleton.mp hq]
/-! ### what stands through the law -/
abbrev lamQ : Str := "law.<locals>.<lambda>"
/-- what is no tuple, no table, no code object -/
def Soft (o : Option HO) : Prop := (∃ xs, o = some (.lst xs)) ∨ (∃ k, o = some (.dK k)) ∨ ∃ C dx fs, o = some (.ins C dx fs)
theorem Soft.lst {xs : List V} : Soft (some (.lst xs)) := .inl ⟨_, rfl⟩
theorem Soft.dK {k : List (Key × V)} : Soft (some (.dK k)) := .inr (.inl ⟨_, rfl⟩)
theorem Soft.ins {C dx : Addr} {fs : List (Str × V)} : Soft (some (.ins C dx fs)) := .inr (.inr ⟨_, _, _, rfl⟩)
theorem Soft.not_tup {o : Option HO} (h : Soft o) (xs : List V) : o ≠ some (.tup xs) := by
  rcases h with ⟨_, h⟩ | ⟨_, h⟩ | ⟨_, _, _, h⟩ <;> rw [h] <;> intro z <;> cases z
theorem Soft.not_tbl {o : Option HO} (h : Soft o) (ps : Array Value) : o ≠ some (.tbl ps) := by
  rcases h with ⟨_, h⟩ | ⟨_, h⟩ | ⟨_, _, _, h⟩ <;> rw [h] <;> intro z <;> cases z
theorem Soft.not_code {o : Option HO} (h : Soft o) (c : Addr) (q : Str) : o ≠ some (LamX.CodeO c q) := by
  rcases h with ⟨_, h⟩ | ⟨_, h⟩ | ⟨_, _, _, h⟩ <;> rw [h] <;> intro z <;> unfold LamX.CodeO at z <;> cases z
/-- all stands but what is soft and at l -/
def Mv (l : List Addr) (H H' : Hp) : Prop := (∀ b ∈ l, Soft (H b)) ∧ ∀ b o, H b = some o → b ∉ l → H' b = some o
theorem Mv.tabs {l : List Addr} {H H' : Hp} {T : List (Addr × Str)} (m : Mv l H H') (h : LamX.Tabs T H) : LamX.Tabs T H' := fun p hp => by
  obtain ⟨ps, h1, h2, h3⟩ := h p hp
  refine ⟨ps, m.2 _ _ h1 (fun hd => (m.1 _ hd).not_tbl ps h1), h2, fun pos cv hc => ?_⟩
  obtain ⟨c, e1, e2⟩ := h3 pos cv hc
  exact ⟨c, e1, m.2 _ _ e2 (fun hd => (m.1 _ hd).not_code c _ e2)⟩
theorem Mv.keep {l : List Addr} {H H' : Hp} (m : Mv l H H') : Keep H H' := fun t xs h => m.2 _ _ h (fun hd => (m.1 _ hd).not_tup xs h)
theorem Mv.sameX {D : Addr} {H H' : Hp} (h : Soft (H D)) (s : SameX D H H') : Mv [D] H H' := ⟨fun b hb => by rw [List.mem_singleton.mp hb]; exact h, fun b o hb n => s b o (fun e => n (by rw [e]; simp)) hb⟩
theorem Mv.bar {C p dx B W : Addr} {N : Nat} {d : AD} {H H' : Hp} (D : DevS C H p dx B W N d) (b : Bar p B W H H') : Mv [p, B, W] H H' := by
  obtain ⟨i, nf, kvs, es, hB, hc, hW, hn, hw, hd⟩ := D
  refine ⟨fun a ha => ?_, fun a o h n => b a o h (fun e => n (by rw [e]; simp)) (fun e => n (by rw [e]; simp)) (fun e => n (by rw [e]; simp))⟩
  simp only [List.mem_cons, List.not_mem_nil, or_false] at ha
  rcases ha with e | e | e
  · rw [e, i]; exact Soft.ins
  · rw [e, hB]; exact Soft.dK
  · rw [e, hW.lst]; exact Soft.lst
/-- a dict of the law's: what it says of the blocks -/
def KD (H : Hp) (B : Addr) (M : Nat) (k : Addr) (g : Fn) : Prop := (∃ kvs, H k = some (.dK kvs) ∧ kvs.length ≤ M ∧ Cont H 64 kvs g) ∧ B ≠ k
theorem KD.mv {l : List Addr} {H H' : Hp} {B k : Addr} {M : Nat} {g : Fn} (x : KD H B M k g) (m : Mv l H H') (n : k ∉ l) : KD H' B M k g := by
  obtain ⟨⟨kvs, h1, h2, h3⟩, h4⟩ := x
  exact ⟨⟨kvs, m.2 _ _ h1 n, h2, h3.keep m.keep⟩, h4⟩
theorem KD.same {H H' : Hp} {B k : Addr} {M : Nat} {g : Fn} (x : KD H B M k g) (s : Same H H') : KD H' B M k g := by
  obtain ⟨⟨kvs, h1, h2, h3⟩, h4⟩ := x
  exact ⟨⟨kvs, s _ _ h1, h2, h3.keep (Keep.of s)⟩, h4⟩
theorem KD.ext {H H' : Hp} {B k : Addr} {M : Nat} {g : Fn} (x : KD H B M k g) (s : LamX.ExtN H H') : KD H' B M k g := by
  obtain ⟨⟨kvs, h1, h2, h3⟩, h4⟩ := x
  exact ⟨⟨kvs, s _ _ h1 (fun ps z => by cases z), h2, h3.keep fun t xs z => s _ _ z (fun ps y => by cases y)⟩, h4⟩
theorem KD.mono {H : Hp} {B k : Addr} {M M' : Nat} {g : Fn} (x : KD H B M k g) (h : M ≤ M') : KD H B M' k g := ⟨⟨x.1.choose, x.1.choose_spec.1, Nat.le_trans x.1.choose_spec.2.1 h, x.1.choose_spec.2.2⟩, x.2⟩
/-- a list or an instance is no dict -/
theorem KD.ne_lst {H : Hp} {B k a : Addr} {M : Nat} {g : Fn} {xs : List V} (x : KD H B M k g) (h : H a = some (.lst xs)) : k ≠ a := by
  obtain ⟨⟨kvs, h1, _⟩, _⟩ := x
  exact ne_of h1 h (by intro z; cases z)
theorem KD.ne_ins {H : Hp} {B k a : Addr} {M : Nat} {g : Fn} {C dx : Addr} {fs : List (Str × V)} (x : KD H B M k g) (h : H a = some (.ins C dx fs)) : k ≠ a := by
  obtain ⟨⟨kvs, h1, _⟩, _⟩ := x
  exact ne_of h1 h (by intro z; cases z)
theorem KD.not_dev {C p dx B W k : Addr} {N M : Nat} {d : AD} {H : Hp} {g : Fn} (x : KD H B M k g) (D : DevS C H p dx B W N d) : k ∉ [p, B, W] := by
  have n1 := x.ne_ins D.ins
  have n3 : k ≠ W := by
    obtain ⟨i, nf, kvs, es, hB, hc, hW, hn, hw, hd⟩ := D
    exact x.ne_lst hW.lst
  simp [n1, n3, x.2.symm]
theorem DevS.mv {C p dx B W : Addr} {N : Nat} {d : AD} {H H' : Hp} {l : List Addr} (D : DevS C H p dx B W N d) (m : Mv l H H') (n : p ∉ l ∧ B ∉ l ∧ W ∉ l) : DevS C H' p dx B W N d := by
  have kp := m.keep
  obtain ⟨i, nf, kvs, es, hB, hc, hW, hn, hw, hd⟩ := D
  exact ⟨m.2 _ _ i n.1, nf, kvs, es, m.2 _ _ hB n.2.1, hc.keep kp, ⟨m.2 _ _ hW.lst n.2.2, fun e he => kp _ _ (hW.tup e he)⟩, hn, hw, fun q hq => ⟨kp _ _ (hd q hq).1, (hd q hq).2⟩⟩
theorem DevS.ext {C p dx B W : Addr} {N : Nat} {d : AD} {H H' : Hp} (D : DevS C H p dx B W N d) (s : LamX.ExtN H H') : DevS C H' p dx B W N d := by
  have kp : Keep H H' := fun t xs z => s _ _ z (fun ps y => by cases y)
  obtain ⟨i, nf, kvs, es, hB, hc, hW, hn, hw, hd⟩ := D
  exact ⟨s _ _ i (fun _ z => by cases z), nf, kvs, es, s _ _ hB (fun _ z => by cases z), hc.keep kp, ⟨s _ _ hW.lst (fun _ z => by cases z), fun e he => kp _ _ (hW.tup e he)⟩, hn, hw, fun q hq => ⟨kp _ _ (hd q hq).1, (hd q hq).2⟩⟩
theorem RowsAt.ext {H H' : Hp} {r : Addr} {gs : List Rw} (x : RowsAt H r gs) (s : LamX.ExtN H H') : RowsAt H' r gs :=
  ⟨s _ _ x.lst (fun _ z => by cases z), fun q hq => s _ _ (x.tup q hq) (fun _ z => by cases z), fun q hq => s _ _ (x.dat q hq) (fun _ z => by cases z)⟩
theorem RowsAt.mv {l : List Addr} {H H' : Hp} {r : Addr} {gs : List Rw} (x : RowsAt H r gs) (m : Mv l H H') (n : r ∉ l) : RowsAt H' r gs :=
  ⟨m.2 _ _ x.lst n, fun q hq => m.keep _ _ (x.tup q hq), fun q hq => m.keep _ _ (x.dat q hq)⟩
/-- the dice, its row, the table of code, a device -/
structure Ws (C R PT D p dx B W : Addr) (N : Nat) (d : AD) (dc : Dice) (H : Hp) : Prop where
  dice : H D = some (.lst dc.vs)
  row : H R = some (.lst [.ref D])
  tabs : LamX.Tabs [(PT, lamQ)] H
  dev : DevS C H p dx B W N d
  nDR : D ≠ R
  nDW : D ≠ W
  nRW : R ≠ W
section
variable {C R PT D p dx B W : Addr} {N : Nat} {d : AD} {dc : Dice} {H H' : Hp}
theorem Ws.same (x : Ws C R PT D p dx B W N d dc H) (s : Same H H') : Ws C R PT D p dx B W N d dc H' := ⟨s _ _ x.dice, s _ _ x.row, x.tabs.ext s, x.dev.same s, x.nDR, x.nDW, x.nRW⟩
theorem Ws.ext (x : Ws C R PT D p dx B W N d dc H) (s : LamX.ExtN H H') (t : LamX.Tabs [(PT, lamQ)] H') : Ws C R PT D p dx B W N d dc H' :=
  ⟨s _ _ x.dice (fun _ z => by cases z), s _ _ x.row (fun _ z => by cases z), t, x.dev.ext s, x.nDR, x.nDW, x.nRW⟩
theorem Ws.mvD (x : Ws C R PT D p dx B W N d dc H) (s : SameX D H H') : Mv [D] H H' := Mv.sameX (by rw [x.dice]; exact Soft.lst) s
theorem Ws.rolled (x : Ws C R PT D p dx B W N d dc H) {dc' : Dice} (s : SameX D H H') (h : H' D = some (.lst dc'.vs)) : Ws C R PT D p dx B W N d dc' H' :=
  ⟨h, s _ _ x.nDR.symm x.row, (x.mvD s).tabs x.tabs, x.dev.dice x.dice x.nDW s, x.nDR, x.nDW, x.nRW⟩
theorem Ws.lst_not {a : Addr} {xs : List V} (x : Ws C R PT D p dx B W N d dc H) (h : H a = some (.lst xs)) (n : a ≠ W) : a ∉ [p, B, W] := by
  have n1 : a ≠ p := ne_of h x.dev.ins (by intro z; cases z)
  have n2 : a ≠ B := by
    obtain ⟨i, nf, kvs, es, hB, hc, hW, hn, hw, hd⟩ := x.dev
    exact ne_of h hB (by intro z; cases z)
  simp [n1, n2, n]
/-- the device goes on -/
theorem Ws.bar {W' : Addr} {N' : Nat} {d' : AD} (x : Ws C R PT D p dx B W N d dc H) (b : Bar p B W H H') (hW : W' = W ∨ H W' = none) (D' : DevS C H' p dx B W' N' d') : Ws C R PT D p dx B W' N' d' dc H' := by
  have m := Mv.bar x.dev b
  have nw : ∀ {a : Addr} {xs : List V}, H a = some (.lst xs) → a ≠ W → a ≠ W' := fun {a xs} h n => by
    rcases hW with z | z
    · rw [z]; exact n
    · exact ne_of_none h z
  exact ⟨m.2 _ _ x.dice (x.lst_not x.dice x.nDW), m.2 _ _ x.row (x.lst_not x.row x.nRW), m.tabs x.tabs, D', x.nDR, nw x.dice x.nDW, nw x.row x.nRW⟩
/-- another device -/
theorem Ws.other {p' dx' B' W' : Addr} {N' : Nat} {d' : AD} (x : Ws C R PT D p dx B W N d dc H) (nW : H W' = none) (D' : DevS C H p' dx' B' W' N' d') : Ws C R PT D p' dx' B' W' N' d' dc H := ⟨x.dice, x.row, x.tabs, D', x.nDR, ne_of_none x.dice nW, ne_of_none x.row nW⟩
/-- one object that is not the device's, the dice or the row is changed -/
theorem Ws.one {a : Addr} (x : Ws C R PT D p dx B W N d dc H) (sf : Soft (H a)) (s : SameX a H H') (n : D ≠ a ∧ R ≠ a ∧ p ≠ a ∧ B ≠ a ∧ W ≠ a) : Ws C R PT D p dx B W N d dc H' := by
  have m := Mv.sameX sf s
  exact ⟨s _ _ n.1 x.dice, s _ _ n.2.1 x.row, m.tabs x.tabs, x.dev.mv m ⟨by simp [n.2.2.1], by simp [n.2.2.2.1], by simp [n.2.2.2.2]⟩, x.nDR, x.nDW, x.nRW⟩
end
end K02
namespace K02
open PySem L2 HK
abbrev NL : List Str := ["script", "dice", "device", "journal", "kept", "later", "turn", "group", "number", "data", "steps", "told_now", "again", "found", "numbers", "datas", "head", "place", "bent", "pair_now"]
theorem scLaw : FnScope NL ["script"] (defScope sLaw) := ⟨rfl, rfl, rfl, by decide +kernel, rfl, by decide +kernel, by decide +kernel⟩
/-- what the law asks of the module -/
structure LTxt (P : Program) (w : World) (K : PySem.W.Frag) (mg : Str → Option Value) (base : Heap) (C CE CJ CJE g : Addr) : Prop where
  told : ToldTxt K mg CE CJE g
  e11 : PySem.W.exmOne K (.ref CE) (.ref CE) = some true
  e21 : PySem.W.exmOne K (.ref CJE) (.ref CE) = some false
  e22 : PySem.W.exmOne K (.ref CJE) (.ref CJE) = some true
  D : DTxt K mg C CE
  J : JCls K mg CJ CJE
  G : GTxt mg
  rounds : ∃ f fd, FnOk P w K mg base L2.CX0 2 f fd ["script", "most"] (spRounds K) ∧ mg "_law_rounds" = some (.ref f) ∧ PySem.W.keepIn K (.ref f) = true ∧ Binds K fd ["script", "most"] []
  roll : ∃ f fd, FnOk P w K mg base L2.CX0 1 f fd ["dice", "many"] spRoll ∧ mg "_law_roll" = some (.ref f) ∧ PySem.W.keepIn K (.ref f) = true ∧ Binds K fd ["dice", "many"] []
  grp : ∃ f fd, FnOk P w K mg base L2.CX0 3 f fd ["dice"] spGrp ∧ mg "_law_group" = some (.ref f) ∧ PySem.W.keepIn K (.ref f) = true ∧ Binds K fd ["dice"] []
  same : ∃ f fd, FnOk P w K mg base L2.CX0 3 f fd ["device", "blocks"] (spSame C) ∧ mg "_law_same" = some (.ref f) ∧ PySem.W.keepIn K (.ref f) = true ∧ Binds K fd ["device", "blocks"] []
  again : ∃ f fd, FnOk P w K mg base L2.CX0 4 f fd ["dice", "device"] (spAgain C) ∧ mg "_law_again" = some (.ref f) ∧ PySem.W.keepIn K (.ref f) = true ∧ Binds K fd ["dice", "device"] []
  hroom : ∃ f fd, FnOk P w K mg base L2.CX0 1 f fd ["block_size", "count"] spHeadRoom ∧ mg "head_room" = some (.ref f) ∧ PySem.W.keepIn K (.ref f) = true ∧ Binds K fd ["block_size", "count"] []
  head : ∃ f fd, FnOk P w K mg base L2.CX0 4 f fd ["serial", "numbers", "rows", "block_size"] spHead ∧ mg "head_of" = some (.ref f) ∧ PySem.W.keepIn K (.ref f) = true ∧ Binds K fd ["serial", "numbers", "rows", "block_size"] []
  rhead : ∃ f fd, FnOk P w K mg base L2.CX0 2 f fd ["data"] (spReadHead K) ∧ mg "read_head" = some (.ref f) ∧ PySem.W.keepIn K (.ref f) = true ∧ Binds K fd ["data"] []
  jinit : ∃ f fd, FnOk P w K mg base L2.CX0 1 f fd ["self", "device", "start", "count"] (spJInit CJ) ∧ Mk K CJ f ∧ Binds K fd ["self", "device", "start", "count"] []
  room : ∃ f fd, FnOk P w K mg base L2.CX0 2 f fd ["self"] (spRoom CJ C) ∧ Meth K CJ "room" f ∧ Binds K fd ["self"] []
  commit : ∃ f fd, FnOk P w K mg base (L2.CX P w) 6 f fd ["self", "rows"] (spCommit CJ C CE CJE) ∧ Meth K CJ "commit" f ∧ Binds K fd ["self", "rows"] []
  pend : ∃ f fd, FnOk P w K mg base (L2.CX P w) 4 f fd ["self"] (spPend CJ C CE) ∧ Meth K CJ "pending" f ∧ Binds K fd ["self"] []
  recov : ∃ f fd, FnOk P w K mg base (L2.CX P w) 5 f fd ["self"] (spRec CJ C CE) ∧ Meth K CJ "recover" f ∧ Binds K fd ["self"] []
  arm : ∃ f fd, FnOk P w K mg base L2.CX0 1 f fd ["self", "steps"] (spArmA C) ∧ Meth K C "arm" f ∧ Binds K fd ["self", "steps"] []
  read : ∃ f fd, FnOk P w K mg base (L2.CX P w) 2 f fd ["self", "number"] (spReadA C CE) ∧ Meth K C "read" f ∧ Binds K fd ["self", "number"] []
  write : ∃ f fd, FnOk P w K mg base (L2.CX P w) 3 f fd ["self", "number", "data"] (spWrite K C CE) ∧ FnOk P w K mg base (L2.CX P w) 3 f fd ["self", "number", "data"] (spWriteA C CE) ∧ Meth K C "write_block" f ∧ Binds K fd ["self", "number", "data"] []
  init : ∃ f fd, FnOk P w K mg base L2.CX0 1 f fd ["self", "block_size", "count", "blocks"] (spInit C) ∧ FnOk P w K mg base L2.CX0 1 f fd ["self", "block_size", "count", "blocks"] (spInitA C) ∧ Mk K C f ∧ ∃ ds, Vals [V.non] ds ∧ Binds K fd ["self", "block_size", "count", "blocks"] ds
def forBody : Stmt → List Stmt
  | .For _ _ b _ _ => b
  | _ => []
abbrev lawBody : List Stmt := forBody ((defBody sLaw).getD 0 (.Pass ⟨0, 0, 0, 0⟩))
abbrev turnBody : List Stmt := forBody (lawBody.getD 4 (.Pass ⟨0, 0, 0, 0⟩))
/-- between two commits -/
def WA (C CJ R PT a D j jx p dx : Addr) (i : Nat) (σ : L2.St) (H : Hp) : Prop :=
  ∃ (sr : Int) (N M : Nat) (d : AD) (dc : Dice) (B W Kp Lp : Addr) (g0 g1 : Fn) (u6 u7 u8 u9 u10 u11 u12 u13 u14 u15 u16 u17 u18 u19 : Option V),
    σ = [some (.ref a), some (.ref D), some (.ref p), some (.ref j), some (.ref Kp), some (.ref Lp), u6, u7, u8, u9, u10, u11, u12, u13, u14, u15, u16, u17, u18, u19] ∧
    Ws C R PT D p dx B W N d dc H ∧ JAt CJ H j jx p sr ∧ j ≠ p ∧ d.dead = false ∧ d.ws = [] ∧ d.f 1 = zero64 ∧ HomeIs d.f g0 ∧ KD H B M Kp g0 ∧ KD H B M Lp g1 ∧ N ≤ 20 * i ∧ M ≤ 60 * i ∧ 0 ≤ sr ∧ sr ≤ i
/-- behind the commits -/
def WB (C R PT a D p dx : Addr) (σ : L2.St) (H : Hp) : Prop :=
  ∃ (N M : Nat) (d : AD) (dc : Dice) (B W j Kp Lp : Addr) (g0 g1 : Fn) (u6 u7 u8 u9 u10 u11 u12 u13 u14 u15 u16 u17 u18 u19 : Option V),
    σ = [some (.ref a), some (.ref D), some (.ref p), some (.ref j), some (.ref Kp), some (.ref Lp), u6, u7, u8, u9, u10, u11, u12, u13, u14, u15, u16, u17, u18, u19] ∧
    Ws C R PT D p dx B W N d dc H ∧ CrashOk g0 g1 d ∧ KD H B M Kp g0 ∧ KD H B M Lp g1 ∧ N ≤ 200
theorem WA.done {C CJ R PT a D j jx p dx : Addr} {i : Nat} {σ : L2.St} {H : Hp} (h : WA C CJ R PT a D j jx p dx i σ H) (hi : i ≤ 7) : WB C R PT a D p dx σ H := by
  obtain ⟨sr, N, M, d, dc, B, W, Kp, Lp, g0, g1, u6, u7, u8, u9, u10, u11, u12, u13, u14, u15, u16, u17, u18, u19, e, x, _, _, _, hw, hz, hm, k0, k1, hN, _⟩ := h
  refine ⟨N, M, d, dc, B, W, j, Kp, Lp, g0, g1, u6, u7, u8, u9, u10, u11, u12, u13, u14, u15, u16, u17, u18, u19, e, x, fun cs => ?_, k0, k1, by omega⟩
  rw [hw]
  exact ⟨fun n => x.dev.len n, .inl ⟨hz, .inl hm⟩⟩
section
variable {P : Program} {w : World} {K : PySem.W.Frag} {mg : Str → Option Value} {base : Heap} {C CE CJ CJE g : Addr}
abbrev LX (P : Program) (w : World) (K : PySem.W.Frag) (mg : Str → Option Value) (base : Heap) (f c : Addr) (A : Around) (outer : List Env) (s : Shared) (H : Hp) (E : XK) : Cx := (cxOf L2.CX0 P w K mg base NL "law" (defScope sLaw) f (.ref c) A outer s H E).nox
theorem turn_ok (L : LTxt P w K mg base C CE CJ CJE g) {f c PT : Addr} {A : Around} {outer : List Env} {s : Shared} {H0 : Hp} {E0 : XK} (TB : LamX.TabB base mg c PT) (hr : Room 9 (LX P w K mg base f c A outer s H0 E0).A) :
    ∃ t, PSs (LX P w K mg base f c A outer s H0 E0) turnBody t ∧ ∀ (R a D j jx p dx : Addr) (Dn : Ends) (i : Nat) (σ : L2.St) (H : Hp), i < 6 → WA C CJ R PT a D j jx p dx i σ H → (∀ σ' H', WA C CJ R PT a D j jx p dx (i + 1) σ' H' → Dn.nx σ' H') → (∀ σ' H', WB C R PT a D p dx σ' H' → Dn.bk σ' H') → t Dn σ H := by
  obtain ⟨fG, dG, FG, mG, kG, bG⟩ := L.grp
  obtain ⟨fS, dS, FS, mS, kS, bS⟩ := L.same
  obtain ⟨fC, dC, FC, mC, bC⟩ := L.commit
  obtain ⟨fP, dP, FP, mP, bP⟩ := L.pend
  have T := L.D
  have J := L.J
  have l11 := L.e11
  have l21 := L.e21
  have l22 := L.e22
  have rG := FG.mono (show 3 ≤ 9 by decide)
  have rS := FS.mono (show 3 ≤ 9 by decide)
  have rC := FC.mono (show 6 ≤ 7 by decide)
  have rP := FP.mono (show 4 ≤ 9 by decide)
  refine ⟨_, pss_cons (ps_set (i := 7) scLaw.nd rfl (Or.inr rfl) (pe_call rG hr (by rfl) mG kG bG .nil pass0 (pa_cons (pv 1) pa_nil)))
    (pss_cons (ps_set (i := 5) scLaw.nd rfl (Or.inl rfl) (pe_callTy call_dictD (by rfl) T.dict PyProof.Rows.Boot.«dict» (pa_cons (pv 4) pa_nil)))
    (pss_cons (ps_for PassesOwn.never rfl (pi_list (pv 7)) (pg_tup rfl (pgs_cons (pg_name (i := 8) scLaw.nd rfl (Or.inl rfl)) (pgs_cons (pg_name (i := 9) scLaw.nd rfl (Or.inl rfl)) pgs_nil)))
      (pss_one (ps_dput (hu_of hr) (pv 5) (pv 8) (pv 9) rfl)))
    (pss_cons (ps_set (i := 10) scLaw.nd rfl (Or.inl rfl) (pe_fld (pv 2) rfl))
    (pss_cons (ps_set (i := 11) scLaw.nd rfl (Or.inl rfl) (pe_told (k := 7) L.told TB rfl (by rfl) hr (LamX.lamS_by (sc := defScope sLaw) (by decide +kernel)) rfl (fun _ _ _ _ _ => rfl)
        (fun A1 o1 s1 H1 E1 f1 c1 hr7 => pe_meth (pv 3) J.cl mC rC hr7 bC .nil (passes_call (takes_of rfl rfl rfl rfl) (fun _ _ _ _ h => h)) (pa_cons (pv 7) pa_nil))))
    (pss_cons (ps_if (pt_cmpR op_ne (pe_cmpR op_eq (pv 11) pe_str (nomark _)) (pe_cmpR op_gt (pe_callB call_len_seq (by rfl) T.len PySem.boot_len (pa_cons (pv 7) pa_nil)) pe_int (nomark _)) (nomark _)) (pss_one (ps_ret pe_bl)) pss_nil)
    (pss_cons (ps_if (PW.pt (pw_or (PW.pt (pw_and (pt_cmpR op_eq (pv 11) pe_str (nomark _)) (pw_and1 (pt_cmpR op_ne (pe_fld (pv 2) rfl) (pv 10) (nomark _)))))
        (pw_or1 (PW.pt (pw_and (pt_cmpR op_eq (pv 11) pe_str (nomark _)) (pw_and1 (pt_not (pt_val (pe_fld (pv 2) rfl))))))))) (pss_one (ps_ret pe_bl)) pss_nil)
    (pss_cons (ps_set (i := 5) scLaw.nd rfl (Or.inl rfl) (pe_ifExp (pt_cmpR op_eq (pv 11) pe_str (nomark _)) (pv 4) (pv 5)))
    (pss_cons (ps_if (pt_cmpR op_eq (pv 11) pe_str (nomark _)) (pss_one ps_break) pss_nil)
    (pss_cons (ps_set (i := 4) scLaw.nd rfl (Or.inl rfl) (pv 5))
    (pss_one (ps_if (PW.pt (pw_or (pt_not (pt_val (pe_call rS hr (by rfl) mS kS bS .nil pass0 (pa_cons (pv 2) (pa_cons (pv 4) pa_nil))))) (pw_or1 (pt_cmpR (op_neD hr.units) (pe_meth0 (pv 3) J.cl mP rP hr bP .nil passL) (pe_lst pa_nil) (nomark _))))) (pss_one (ps_ret pe_bl)) pss_nil))))))))))), ?_⟩
  intro R a D j jx p dx Dn i σ H hi hWA hnx hbk
  obtain ⟨sr, N, M, d, dc, B, W, Kp, Lp0, g0, g1', u6, u7, u8, u9, u10, u11, u12, u13, u14, u15, u16, u17, u18, u19, rfl, x, hj, njp, al, hw, hz, hm, k0, k1, hN, hM, sr0, sr1⟩ := hWA
  clear k1
  -- group
  refine ⟨_, rfl, D, dc, rfl, x.dice, fun H1 L gs dc1 s1 hd1 nL nLD hL okg lg => ?_⟩
  have x1 := x.rolled s1 hd1
  have hj1 : JAt CJ H1 j jx p sr := s1 _ _ (ne_of hj x.dice (by intro z; cases z)) hj
  have k01 := k0.mv (x.mvD s1) (by simp [k0.ne_lst x.dice])
  have nLW : L ≠ W := x.dev.new_ne nL
  clear hd1 s1 hj k0 x nL
  -- later
  obtain ⟨⟨kvs0, hk0, lk0, ck0⟩, nBK⟩ := id k01
  refine ⟨_, rfl, Kp, kvs0, rfl, .inl hk0, fun Lp nLp => ?_⟩
  have s2 : Same H1 (upd H1 Lp (.dK kvs0)) := same_upd nLp
  have x2 := x1.same s2
  have hj2 : JAt CJ _ j jx p sr := s2 _ _ hj1
  have k02 := k01.same s2
  have hL2 := hL.same s2
  have nLpK : Lp ≠ Kp := (ne_of_none hk0 nLp).symm
  have nLpL : Lp ≠ L := (ne_of_none hL.lst nLp).symm
  have nBLp : B ≠ Lp := by
    obtain ⟨i, nf, kvs, es, hB, _⟩ := x1.dev
    exact ne_of_none hB nLp
  have kl2 : KD (upd H1 Lp (.dK kvs0)) B (M + 0) Lp (setAll g0 (pairs (gs.take 0))) := ⟨⟨kvs0, upd_same, by omega, ck0.keep (Keep.of s2)⟩, nBLp⟩
  generalize upd H1 Lp (.dK kvs0) = H2 at s2 x2 hj2 k02 hL2 kl2 ⊢
  clear hk0 lk0 ck0 nLp x1 hj1 k01 hL s2
  refine ⟨_, rfl, L, rfl, ⟨_, SqL.of hL2.lst⟩, ?_⟩
  refine for_list (K := K) (a := L) (xs := gs.map fun q => V.ref q.1.1) (fun n σ H' => ∃ u8 u9, σ = [some (.ref a), some (.ref D), some (.ref p), some (.ref j), some (.ref Kp), some (.ref Lp), u6, some (.ref L), u8, u9, u10, u11, u12, u13, u14, u15, u16, u17, u18, u19] ∧
      Ws C R PT D p dx B W N d dc1 H' ∧ JAt CJ H' j jx p sr ∧ KD H' B M Kp g0 ∧ RowsAt H' L gs ∧ KD H' B (M + n) Lp (setAll g0 (pairs (gs.take n)))) ⟨u8, u9, rfl, x2, hj2, k02, hL2, kl2⟩ (fun n σ H' hn q => ?_) (fun n y σ H' hx q => ?_) (fun σ H' q => ?_)
  · obtain ⟨_, _, _, _, _, _, r, _⟩ := q
    exact SqL.of r.lst
  · obtain ⟨v8, v9, rfl, xx, hjx, kx, rx, lx⟩ := q
    rw [List.getElem?_map] at hx
    obtain ⟨q, hq, rfl⟩ := Option.map_eq_some_iff.mp hx
    have hm' := List.mem_of_getElem? hq
    have hlt := (List.getElem?_eq_some_iff.mp hq).1
    obtain ⟨⟨kvs, hk, lk, ck⟩, nb⟩ := id lx
    refine ⟨q.1.1, _, rfl, SqT.of (rx.tup q hm'), rfl, _, _, rfl, _, _, rfl, rfl, ?_⟩
    refine ⟨_, rfl, _, rfl, _, rfl, Lp, _, rfl, DPut.k (k := Sum.inl q.1.2.1) hk (by rw [sizeLine_eq]; omega), ?_⟩
    have sx : SameX Lp H' (upd H' Lp (.dK (putK kvs (Sum.inl q.1.2.1) (.ref q.1.2.2)))) := SameX.upd
    have sf : Soft (H' Lp) := by rw [hk]; exact Soft.dK
    have mv := Mv.sameX sf sx
    have nd := lx.not_dev xx.dev
    simp only [List.mem_cons, List.not_mem_nil, or_false, not_or] at nd
    refine ⟨_, _, rfl, xx.one sf sx ⟨(lx.ne_lst xx.dice).symm, (lx.ne_lst xx.row).symm, Ne.symm nd.1, Ne.symm nd.2.1, Ne.symm nd.2.2⟩, sx _ _ (lx.ne_ins hjx).symm hjx, kx.mv mv (by simp [nLpK.symm]), rx.mv mv (by simp [nLpL.symm]), ⟨_, upd_same, by have := length_putK kvs (Sum.inl q.1.2.1) (.ref q.1.2.2); omega, ?_⟩, nb⟩
    have e : pairs (gs.take (n + 1)) = pairs (gs.take n) ++ [(q.1.2.1, q.2)] := by
      unfold pairs
      rw [List.take_add_one, hq, List.map_append]
      rfl
    rw [e, setAll_app]
    exact (ck.put (rx.dat q hm') (okg q hm').1.len).keep mv.keep
  obtain ⟨v8, v9, rfl, x3, hj3, k03, hL3, k13⟩ := q
  rw [List.length_map, List.take_length] at k13
  clear x2 hj2 k02 hL2 kl2
  -- steps, told
  refine ⟨_, rfl, p, C, dx, _, _, rfl, x3.dev.ins, T.cl, T.n7, rfl, ?_⟩
  refine ⟨x3.tabs, fun H4 e4 t4 => ?_⟩
  have x4 := x3.ext e4 t4
  have hj4 : JAt CJ H4 j jx p sr := e4 _ _ hj3 (fun _ z => by cases z)
  have k04 := k03.ext e4
  have k14 := k13.ext e4
  have hL4 := hL3.ext e4
  clear x3 hj3 k03 k13 hL3 e4 t4
  refine ⟨_, rfl, j, jx, _, rfl, hj4, rfl, _, rfl, j, jx, p, dx, sr, N, d, B, W, L, gs, rfl, hj4, njp, x4.dev, by omega, hL4, nLW, fun q hq => ⟨(okg q hq).1.len, by have := (okg q hq).2; omega, by have := (okg q hq).2; omega⟩, fun h5 => ?_, fun h5 => ⟨fun hok H5 W5 hW5 b5 D5 => ?_, fun hno H5 W5 hW5 b5 D5 => ?_⟩⟩
  · -- too large
    refine ⟨false, l21, (fun z => by cases z), fun _ => ⟨true, l22, fun _ => ?_, (fun z => by cases z)⟩⟩
    refine ⟨_, rfl, rfl, _, rfl, L, _, rfl, .inl (SqL.of hL4.lst), _, _, rfl, rfl, rfl, _, rfl, ite2 (fun z => by exfalso; simp at z; omega) (fun _ => ?_)⟩
    refine ⟨_, rfl, rfl, _, rfl, iteD rfl ⟨_, rfl, p, C, dx, _, _, rfl, x4.dev.ins, T.cl, T.n7, rfl, _, rfl, rfl, _, rfl, ite2 (fun z => by simp at z) (fun _ => ?_)⟩⟩
    refine ⟨_, rfl, rfl, _, rfl, ite2 (fun z => absurd z (by decide +kernel)) (fun _ => iteF ?_)⟩
    refine ⟨_, rfl, rfl, _, rfl, iteD rfl ⟨_, rfl, ?_⟩⟩
    refine ⟨_, rfl, rfl, _, rfl, ite2 (fun z => absurd z (by decide +kernel)) (fun _ => ?_)⟩
    -- kept = later, the same, nothing pending
    refine ⟨_, rfl, ?_⟩
    obtain ⟨⟨kvs, hk, lk, ck⟩, nb⟩ := id k04
    refine ⟨_, rfl, _, rfl, p, dx, B, W, N, d, Kp, kvs, g0, rfl, x4.dev, by omega, al, hk, ck, fun H6 cc s6 hcc => ?_⟩
    have ec : cc = true := hcc.mpr fun n y z => by rw [rd_of hw]; exact hm n y z
    subst ec
    refine ⟨_, rfl, iteF ?_⟩
    have x6 := x4.same s6
    have hj6 := s6 _ _ hj4
    refine ⟨_, rfl, j, jx, _, rfl, hj6, rfl, j, jx, p, dx, sr, N, d, B, W, rfl, hj6, x6.dev, by omega, (fun z => by rw [al] at z; cases z), fun _ => .inl ⟨by rw [rd_of hw]; exact hz, fun H7 L7 s7 n7 r7 => ?_⟩⟩
    refine ⟨by show 0 ≤ sizeLine; decide, fun L8 n8 => ?_⟩
    have s8 : Same H7 (upd H7 L8 (.lst [])) := same_upd n8
    refine ne_rows (gs := []) (hs := []) (r7.same s8) ⟨upd_same, (fun q hq => by cases hq), (fun q hq => by cases hq)⟩ ⟨_, rfl, iteF ?_⟩
    have s68 := (s6.trans s7).trans s8
    exact hnx _ _ ⟨sr, N, M, d, dc1, B, W, Kp, Kp, g0, g0, _, _, _, _, _, _, _, _, _, _, _, _, _, _, rfl, x4.same s68, s68 _ _ hj4, njp, al, hw, hz, hm, k04.same s68, k04.same s68, by omega, by omega, sr0, by omega⟩
  · dsimp only
    have okr : ∀ q ∈ gs, q.2.length = 64 ∧ 8 ≤ q.1.2.1 ∧ q.1.2.1 < 15 := fun q hq => ⟨(okg q hq).1.len, (okg q hq).2⟩
    have cr := commit_run (g0 := g0) (sr := sr) (gs := gs) al hw (fun n => x4.dev.len n) okr h5 (by omega) (by omega) hz hm
    have lo : (opsG sr gs ++ opsH gs).length ≤ 16 := by
      have : (dwk 2 gs).length = gs.length := by
        have e := dwk_eq gs 2
        have e2 := congrArg List.length e
        rw [List.length_map, List.length_mapIdx] at e2
        exact e2.symm
      rw [ops_split]
      simp only [List.length_append, List.length_map, List.length_cons, List.length_nil, opsP, pairs, this]
      omega
    generalize runA d (opsG sr gs ++ opsH gs) = RR at D5 cr hok
    generalize (opsG sr gs ++ opsH gs).length = lops at D5 lo
    have mb := Mv.bar x4.dev b5
    have x5 := x4.bar b5 hW5 D5
    have k05 := k04.mv mb (k04.not_dev x4.dev)
    have k15 := k14.mv mb (k14.not_dev x4.dev)
    have hL5 := mb.2 _ _ hL4.lst (x4.lst_not hL4.lst nLW)
    have hj5 : JAt CJ H5 j jx p sr := JAt.bar hj4 x4.dev njp b5
    clear mb x4 k04 k14 hL4 hj4 b5 hW5
    obtain ⟨dd, wn, z1, l64, hm1⟩ := cr.2 hok
    have sfj : Soft (H5 j) := by
      have e : H5 j = _ := hj5
      rw [e]
      exact Soft.ins
    have sxj : SameX j H5 (upd H5 j (.ins CJ jx (fsJ p (sr + 1)))) := SameX.upd
    have mvj := Mv.sameX sfj sxj
    have hB5 : ∃ kvs, H5 B = some (.dK kvs) := by
      obtain ⟨i, nf, kvs, es, hB, _⟩ := x5.dev
      exact ⟨kvs, hB⟩
    obtain ⟨kB, hB5⟩ := hB5
    have hW5' : ∃ xs, H5 W5 = some (.lst xs) := by
      obtain ⟨i, nf, kvs, es, hB, hc, hW, _⟩ := x5.dev
      exact ⟨_, hW.lst⟩
    obtain ⟨kW, hW5'⟩ := hW5'
    have x6 := x5.one sfj sxj ⟨ne_of x5.dice hj5 (by intro z; cases z), ne_of x5.row hj5 (by intro z; cases z), njp.symm, ne_of hB5 hj5 (by intro z; cases z), ne_of hW5' hj5 (by intro z; cases z)⟩
    have k16 := k15.mv mvj (by simp [k15.ne_ins hj5])
    have hL6 := sxj _ _ (ne_of hL5 hj5 (by intro z; cases z)) hL5
    have hj6' : JAt CJ (upd H5 j (.ins CJ jx (fsJ p (sr + 1)))) j jx p (sr + 1) := upd_same
    generalize upd H5 j (.ins CJ jx (fsJ p (sr + 1))) = HH at x6 k16 hL6 hj6' ⊢
    clear mvj sxj sfj x5 k15 k05 hL5 hj5 hB5 hW5'
    refine ⟨_, rfl, rfl, _, rfl, L, _, rfl, .inl (SqL.of hL6), _, _, rfl, rfl, rfl, _, rfl, ite2 (fun z => by
      exfalso
      have e : decide (V.non = V.str (Str.ofString "JournalError")) = false := by decide
      rw [e] at z
      simp at z
      omega) (fun _ => ?_)⟩
    refine ⟨_, rfl, rfl, _, rfl, ite2 (fun z => absurd z (by decide)) (fun _ => iteF ?_)⟩
    refine ⟨_, rfl, rfl, _, rfl, ite2 (fun z => absurd z (by decide)) (fun _ => iteF ?_)⟩
    refine ⟨_, rfl, rfl, _, rfl, ite2 (fun z => absurd z (by decide)) (fun _ => ⟨_, rfl, ?_⟩)⟩
    refine ⟨_, rfl, rfl, _, rfl, ite2 (fun z => absurd z (by decide)) (fun _ => ?_)⟩
    -- kept = later, the same, nothing pending
    refine ⟨_, rfl, ?_⟩
    obtain ⟨⟨kvs, hk, lk, ck⟩, nb⟩ := id k16
    refine ⟨_, rfl, _, rfl, p, dx, B, W5, (N + lops), RR.1, Lp, kvs, (setAll g0 (pairs gs)), rfl, x6.dev, by omega, dd, hk, ck, fun H6 cc s6 hcc => ?_⟩
    have ec : cc = true := hcc.mpr fun n y z => by rw [rd_of wn]; exact hm1 n y z
    subst ec
    refine ⟨_, rfl, iteF ?_⟩
    have x7 := x6.same s6
    have hj6 := s6 _ _ hj6'
    refine ⟨_, rfl, j, jx, _, rfl, hj6, rfl, j, jx, p, dx, (sr + 1), (N + lops), RR.1, B, W5, rfl, hj6, x7.dev, by omega, (fun z => by rw [dd] at z; cases z), fun _ => .inl ⟨by rw [rd_of wn]; exact z1, fun H7 L7 s7 n7 r7 => ?_⟩⟩
    refine ⟨by show 0 ≤ sizeLine; decide, fun L8 n8 => ?_⟩
    have s8 : Same H7 (upd H7 L8 (.lst [])) := same_upd n8
    refine ne_rows (gs := []) (hs := []) (r7.same s8) ⟨upd_same, (fun q hq => by cases hq), (fun q hq => by cases hq)⟩ ⟨_, rfl, iteF ?_⟩
    have s68 := (s6.trans s7).trans s8
    exact hnx _ _ ⟨sr + 1, N + lops, M + gs.length, RR.1, dc1, B, W5, Lp, Lp, _, _, _, _, _, _, _, _, _, _, _, _, _, _, _, _, rfl, x6.same s68, s68 _ _ hj6', njp, dd, wn, z1, hm1, k16.same s68, k16.same s68, by omega, by omega, by omega, by omega⟩
  · refine ⟨true, l11, fun _ => ?_, (fun z => by cases z)⟩
    have okr : ∀ q ∈ gs, q.2.length = 64 ∧ 8 ≤ q.1.2.1 ∧ q.1.2.1 < 15 := fun q hq => ⟨(okg q hq).1.len, (okg q hq).2⟩
    have cr := commit_run (g0 := g0) (sr := sr) (gs := gs) al hw (fun n => x4.dev.len n) okr h5 (by omega) (by omega) hz hm
    have lo : (opsG sr gs ++ opsH gs).length ≤ 16 := by
      have : (dwk 2 gs).length = gs.length := by
        have e := dwk_eq gs 2
        have e2 := congrArg List.length e
        rw [List.length_map, List.length_mapIdx] at e2
        exact e2.symm
      rw [ops_split]
      simp only [List.length_append, List.length_map, List.length_cons, List.length_nil, opsP, pairs, this]
      omega
    generalize runA d (opsG sr gs ++ opsH gs) = RR at D5 cr hno
    generalize (opsG sr gs ++ opsH gs).length = lops at D5 lo
    have mb := Mv.bar x4.dev b5
    have x5 := x4.bar b5 hW5 D5
    have k05 := k04.mv mb (k04.not_dev x4.dev)
    have k15 := k14.mv mb (k14.not_dev x4.dev)
    have hL5 := mb.2 _ _ hL4.lst (x4.lst_not hL4.lst nLW)
    have hj5 : JAt CJ H5 j jx p sr := JAt.bar hj4 x4.dev njp b5
    clear mb x4 k04 k14 hL4 hj4 b5 hW5
    obtain ⟨dd, cok⟩ := cr.1 hno
    refine ⟨_, rfl, rfl, _, rfl, L, _, rfl, .inl (SqL.of hL5), _, _, rfl, rfl, rfl, _, rfl, ite2 (fun z => by
      exfalso
      have e : decide (V.str (Str.ofString "DeviceError") = V.str (Str.ofString "JournalError")) = false := by decide +kernel
      rw [e] at z
      simp at z
      omega) (fun _ => ?_)⟩
    refine ⟨_, rfl, rfl, _, rfl, ite2 (fun z => absurd z (by decide +kernel)) (fun _ => iteF ?_)⟩
    refine ⟨_, rfl, rfl, _, rfl, iteD rfl ⟨_, rfl, p, C, dx, _, _, rfl, x5.dev.ins, T.cl, T.n6, rfl, _, rfl, ite2 (fun z => by rw [show RR.1.dv.dead = true from dd] at z; cases z) (fun _ => ?_)⟩⟩
    refine ⟨_, rfl, rfl, _, rfl, ite2 (fun z => absurd z (by decide +kernel)) (fun _ => ⟨_, rfl, ?_⟩)⟩
    refine ⟨_, rfl, rfl, _, rfl, iteD rfl ?_⟩
    exact hbk _ _ ⟨_, M + gs.length, _, dc1, B, W5, j, Kp, Lp, g0, _, _, _, _, _, _, _, _, _, _, _, _, _, _, _, rfl, x5, cok, k05.mono (by omega), k15, by omega⟩
end
end K02
namespace K02
open PySem L2 HK
theorem Ws.again {C R PT D p dx B W p' dx' B' W' : Addr} {N N' : Nat} {d d' : AD} {dc dc' : Dice} {H H' : Hp} (x : Ws C R PT D p dx B W N d dc H) (s : SameX D H H') (h : H' D = some (.lst dc'.vs)) (nW : H W' = none) (D' : DevS C H' p' dx' B' W' N' d') : Ws C R PT D p' dx' B' W' N' d' dc' H' :=
  ⟨h, s _ _ x.nDR.symm x.row, (x.mvD s).tabs x.tabs, D', x.nDR, ne_of_none x.dice nW, ne_of_none x.row nW⟩
theorem KD.again {D : Addr} {dc : Dice} {H H' : Hp} {B B' k : Addr} {M : Nat} {g : Fn} (x : KD H B M k g) (hD : H D = some (.lst dc.vs)) (s : SameX D H H') (nB : H B' = none) : KD H' B' M k g := by
  have nk := x.ne_lst hD
  have y := x.mv (Mv.sameX (by rw [hD]; exact Soft.lst) s) (by simp [nk])
  obtain ⟨⟨kvs, h1, _⟩, _⟩ := x
  exact ⟨y.1, (ne_of_none h1 nB).symm⟩
theorem rec_spec {C CE CJ p dx B W j jx : Addr} {H : Hp} {N : Nat} {d : AD} {sr : Int} {g0 g1 : Fn} {Q : VK} {E : XK} (D : DevS C H p dx B W N d) (hj : JAt CJ H j jx p sr) (njp : j ≠ p) (hN : N ≤ 700) (al : d.dead = false) (hw : d.ws = []) (h : SS g0 g1 d.f)
    (kOk : ∀ H' W' d' t ns, (W' = W ∨ H W' = none) → Bar p B W H H' → DevS C H' p dx B W' (N + 16) d' → d'.dead = false → d'.ws = [] → Rested g0 g1 d'.f → (d.fz = .non → d'.fz = .non) → (∀ n ∈ ns, 8 ≤ n ∧ n < 15) → (Rested g0 g1 d.f → ns = []) → H' t = some (tupI ns) → Q (.ref t) H')
    (kNo : ∀ H' W' d', (W' = W ∨ H W' = none) → Bar p B W H H' → DevS C H' p dx B W' (N + 16) d' → CrashOk g0 g1 d' → d.fz ≠ .non → E (.ref CE) none H') : spRec CJ C CE [.ref j] H Q E := by
  refine ⟨j, jx, p, dx, sr, N, d, B, W, rfl, hj, njp, D, by omega, (fun z => by rw [al] at z; cases z), fun _ => ?_⟩
  have cases2 : (d.f 1 = zero64 ∧ Rested g0 g1 d.f) ∨ ∃ s ns ds, Held g1 d.f s ns ds ∧ (Rested g0 g1 d.f → ns = []) := by
    by_cases hr : Rested g0 g1 d.f
    · rcases id hr with ⟨hz, _⟩ | ⟨s, hh⟩
      · exact .inl ⟨hz, hr⟩
      · exact .inr ⟨s, [], [], hh, fun _ => rfl⟩
    · rcases h.2 with hz | ⟨s, ns, ds, hh⟩
      · exact .inl ⟨hz.1, .inl hz⟩
      · exact .inr ⟨s, ns, ds, hh, fun z => absurd z hr⟩
  rcases cases2 with ⟨hz, hr⟩ | ⟨s, ns, ds, hh, hn⟩
  · exact .inl ⟨by rw [rd_of hw]; exact hz, fun H' t s ht => kOk H' W d t [] (.inl rfl) (Bar.of_same s) ((D.same s).mono (by omega)) al hw hr id (fun n z => by cases z) (fun _ => rfl) ht⟩
  · have ed := datL_of hw hh
    have rr := rec_run (g0 := g0) al hw h.1 hh
    have lo : (opsR (ns.zip ds)).length ≤ 16 := by
      have := hh.le
      unfold opsR opsP
      split
      · exact Nat.zero_le _
      · rw [List.length_append, List.length_map, List.length_zip]
        show min ns.length ds.length + 3 ≤ 16
        omega
    refine .inr ⟨s, ns, sumI (startI s ns ++ ds.flatten), by rw [rd_of hw]; exact hh.head, rfl, hh.le, hh.s0, hh.s1, fun n z => ⟨by have := (hh.num n z).1; omega, by have := (hh.num n z).2; omega⟩, by rw [ed], ?_⟩
    rw [ed]
    refine ⟨fun hok H' W' hW b D' => ?_, fun hno H' W' hW b D' => ?_⟩
    · obtain ⟨dd, wn, l64, rs⟩ := rr.2 hok
      refine fun H2 t s2 ht => kOk H2 W' _ t ns hW (b.same s2) ((D'.same s2).mono (by omega)) dd wn rs (fun z => (run_never _ d al z).2) hh.num hn ht
    · exact kNo H' W' _ hW b (D'.mono (by omega)) (rr.1 hno).2 (fun z => by
        have := (run_never (opsR (ns.zip ds)) d al z).1
        rw [hno] at this
        cases this)
abbrev againBody : List Stmt := forBody (lawBody.getD 6 (.Pass ⟨0, 0, 0, 0⟩))
/-- between two recoveries -/
def WC (C R PT a D : Addr) (i : Nat) (σ : L2.St) (H : Hp) : Prop :=
  ∃ (N M : Nat) (d : AD) (dc : Dice) (p dx B W Kp Lp : Addr) (g0 g1 : Fn) (u2 u3 u6 u7 u8 u9 u10 u11 u13 u14 u15 u16 u17 u18 u19 : Option V),
    σ = [some (.ref a), some (.ref D), u2, u3, some (.ref Kp), some (.ref Lp), u6, u7, u8, u9, u10, u11, some (.ref p), u13, u14, u15, u16, u17, u18, u19] ∧
    Ws C R PT D p dx B W N d dc H ∧ d.dead = false ∧ d.ws = [] ∧ d.fz = .non ∧ SS g0 g1 d.f ∧ KD H B M Kp g0 ∧ KD H B M Lp g1 ∧ N ≤ 200 + 20 * i
/-- a Journal is made -/
theorem made_J {CJ j jx : Addr} {H : Hp} {fs fs' : List (Str × V)} (nj : H j = none) (njx : H jx = none) : Same H (upd (upd (upd H jx (.own j)) j (.ins CJ jx fs)) j (.ins CJ jx fs')) := fun b u e => by
  rw [upd_upd, upd_ne (ne_of_none e nj), upd_ne (ne_of_none e njx)]
  exact e
section
variable {P : Program} {w : World} {K : PySem.W.Frag} {mg : Str → Option Value} {base : Heap} {C CE CJ CJE g : Addr}
theorem again_ok (L : LTxt P w K mg base C CE CJ CJE g) {f c PT : Addr} {A : Around} {outer : List Env} {s : Shared} {H0 : Hp} {E0 : XK} (TB : LamX.TabB base mg c PT) (hr : Room 9 (LX P w K mg base f c A outer s H0 E0).A) :
    ∃ t, PSs (LX P w K mg base f c A outer s H0 E0) againBody t ∧ ∀ (R a D : Addr) (Dn : Ends) (i : Nat) (σ : L2.St) (H : Hp), i < 6 → WC C R PT a D i σ H → (∀ σ' H', WC C R PT a D (i + 1) σ' H' → Dn.nx σ' H') → t Dn σ H := by
  obtain ⟨f3, d3, F3, m3, k3, b3⟩ := L.roll
  obtain ⟨fA, dA, FA, mA, bA⟩ := L.arm
  obtain ⟨fN, dN, FN, mN, kN, bN⟩ := L.again
  obtain ⟨fJ, dJ, FJ, MJ, bJ⟩ := L.jinit
  obtain ⟨fR, dR, FR, mR, bR⟩ := L.recov
  have T := L.D
  have J := L.J
  have l11 := L.e11
  have r3 := F3.mono (show 1 ≤ 9 by decide)
  have rA := FA.mono (show 1 ≤ 9 by decide)
  have rN := FN.mono (show 4 ≤ 9 by decide)
  have rJ := FJ.mono (show 1 ≤ 6 by decide)
  have rR := FR.mono (show 5 ≤ 7 by decide)
  refine ⟨_, pss_cons (ps_expr (pe_meth (pv 12) T.cl mA rA hr bA .nil pass0 (pa_cons (pe_call r3 hr (by rfl) m3 k3 b3 .nil pass0 (pa_cons (pv 1) (pa_cons pe_int pa_nil))) pa_nil)))
    (pss_cons (ps_expr (pe_told (k := 7) L.told TB rfl (by rfl) hr (LamX.lamS_by (sc := defScope sLaw) (by decide +kernel)) rfl (fun _ _ _ _ _ => rfl)
        (fun A1 o1 s1 H1 E1 f1 c1 hr7 => pe_meth0 (pe_make MJ rJ hr7 (by rfl) J.gC bJ .nil pass0 (pa_cons (pv 12) (pa_cons pe_int (pa_cons pe_int pa_nil)))) J.cl mR rR hr7 bR .nil (passes_call (takes_of rfl rfl rfl rfl) (fun _ _ _ _ h => h)))))
    (pss_one (ps_set (i := 12) scLaw.nd rfl (Or.inr rfl) (pe_call rN hr (by rfl) mN kN bN .nil pass0 (pa_cons (pv 1) (pa_cons (pv 12) pa_nil)))))), ?_⟩
  intro R a D Dn i σ H hi hWC hnx
  obtain ⟨N, M, d, dc, p, dx, B, W, Kp, Lp, g0, g1, u2, u3, u6, u7, u8, u9, u10, u11, u13, u14, u15, u16, u17, u18, u19, rfl, x, al, hw, hfz, hss, k0, k1, hN⟩ := hWC
  refine ⟨_, rfl, p, dx, _, rfl, x.dev.ins, rfl, _, rfl, D, dc, 9, rfl, x.dice, by decide, by decide, ?_⟩
  have sx1 : SameX D H (upd H D (.lst (roll dc 9).2.vs)) := SameX.upd
  have x1 := x.rolled sx1 upd_same
  have k01 := k0.mv (x.mvD sx1) (by simp [k0.ne_lst x.dice])
  have k11 := k1.mv (x.mvD sx1) (by simp [k1.ne_lst x.dice])
  generalize upd H D (.lst (roll dc 9).2.vs) = H1 at x1 k01 k11 ⊢
  generalize (roll dc 9).2 = dc1 at x1
  refine ⟨p, dx, B, W, N, d, _, rfl, .inr ⟨_, rfl⟩, x1.dev, fun H2 b2 D2 => ?_⟩
  generalize (roll dc 9).1 = fz at D2
  have m2 := Mv.bar x1.dev b2
  have x2 := x1.bar b2 (.inl rfl) D2
  have k02 := k01.mv m2 (k01.not_dev x1.dev)
  have k12 := k11.mv m2 (k11.not_dev x1.dev)
  refine ⟨x2.tabs, fun H3 e3 t3 => ?_⟩
  have x3 := x2.ext e3 t3
  have k03 := k02.ext e3
  have k13 := k12.ext e3
  clear x x1 x2 k0 k1 k01 k11 k02 k12 m2 b2 D2 sx1 e3 t3
  refine ⟨_, rfl, fun j jx nj njx njj => ⟨j, jx, p, rfl, upd_same, ⟨rfl, ?_⟩⟩⟩
  have s4 : Same H3 (upd (upd (upd H3 jx (.own j)) j (.ins CJ jx [])) j (.ins CJ jx (fsJ p 0))) := made_J nj njx
  have hj4 : JAt CJ (upd (upd (upd H3 jx (.own j)) j (.ins CJ jx [])) j (.ins CJ jx (fsJ p 0))) j jx p 0 := upd_same
  have njp : j ≠ p := (ne_of_none x3.dev.ins nj).symm
  generalize upd (upd (upd H3 jx (.own j)) j (.ins CJ jx [])) j (.ins CJ jx (fsJ p 0)) = H4 at s4 hj4 ⊢
  have x4 := x3.same s4
  have k04 := k03.same s4
  have k14 := k13.same s4
  refine ⟨j, jx, _, rfl, hj4, rfl, ?_⟩
  refine rec_spec (g0 := g0) (g1 := g1) x4.dev hj4 njp (by omega) al hw hss (fun H5 W5 d5 t ns hW5 b5 D5 al5 hw5 rs _ hns _ ht => ?_) (fun H5 W5 d5 hW5 b5 D5 cok _ => ⟨true, l11, fun _ => ?_, (fun z => by cases z)⟩)
  · have cok : CrashOk g0 g1 d5 := fun cs => by
      rw [hw5]
      exact rs.ss (fun n => D5.len n)
    skip
    have m5 := Mv.bar x4.dev b5
    have x5 := x4.bar b5 hW5 D5
    have k05 := k04.mv m5 (k04.not_dev x4.dev)
    have k15 := k14.mv m5 (k14.not_dev x4.dev)
    refine ⟨_, rfl, _, rfl, p, dx, B, W5, N + 16, d5, D, _, rfl, x5.dev, by omega, x5.dice, x5.nDW, fun H6 p6 dx6 B6 W6 cs dc6 s6 hd6 np6 nB6 nW6 D6 => ?_⟩
    exact hnx _ _ ⟨N + 16, M, d5.found cs, dc6, p6, dx6, B6, W6, Kp, Lp, g0, g1, _, _, _, _, _, _, _, _, _, _, _, _, _, _, _, rfl, x5.again s6 hd6 nW6 D6, rfl, rfl, rfl, cok cs, k05.again x5.dice s6 nB6, k15.again x5.dice s6 nB6, by omega⟩
  · skip
    have m5 := Mv.bar x4.dev b5
    have x5 := x4.bar b5 hW5 D5
    have k05 := k04.mv m5 (k04.not_dev x4.dev)
    have k15 := k14.mv m5 (k14.not_dev x4.dev)
    refine ⟨_, rfl, _, rfl, p, dx, B, W5, N + 16, d5, D, _, rfl, x5.dev, by omega, x5.dice, x5.nDW, fun H6 p6 dx6 B6 W6 cs dc6 s6 hd6 np6 nB6 nW6 D6 => ?_⟩
    exact hnx _ _ ⟨N + 16, M, d5.found cs, dc6, p6, dx6, B6, W6, Kp, Lp, g0, g1, _, _, _, _, _, _, _, _, _, _, _, _, _, _, _, rfl, x5.again s6 hd6 nW6 D6, rfl, rfl, rfl, cok cs, k05.again x5.dice s6 nB6, k15.again x5.dice s6 nB6, by omega⟩
end
end K02
namespace K02
open PySem L2 HK
abbrev foundBody : List Stmt := (lawBody.drop 7).take 3
/-- behind the recoveries: the dice, a device -/
def WE (C R PT a D : Addr) (σ : L2.St) (H : Hp) : Prop :=
  ∃ (N : Nat) (d : AD) (dc : Dice) (p dx B W : Addr) (u2 u3 u4 u5 u6 u7 u8 u9 u10 u11 u12 u13 u14 u15 u16 u17 u18 u19 : Option V),
    σ = [some (.ref a), some (.ref D), u2, u3, u4, u5, u6, u7, u8, u9, u10, u11, u12, u13, u14, u15, u16, u17, u18, u19] ∧ Ws C R PT D p dx B W N d dc H
theorem sh_str {x : Str} (h : PyData.strOk x = true) : SeqAt.shaped (.str x) = true := by simp [SeqAt.shaped, PyData.canLay0, PyData.depth, h]
theorem dev_ok : PyData.strOk (Str.ofString "DeviceError") = true := by decide +kernel
theorem eqd_tup {K : PySem.W.Frag} {H : Hp} {Q : VK} {x : Str} {a : Addr} {ns : List Int} (h : PyData.strOk x = true) (ha : H a = some (tupI ns)) (q : Q (.bl false) H) : rEqD K (.ref a) (.str x) H Q := by
  refine ⟨_, _, Dp.tup (SqT.of ha) (dpall_ints ns), .str x, shaped_ints ns, sh_str h, ?_⟩
  rw [show PyData.eqv (.tuple (ns.map PyData.int)) (.str x) = false by simp [PyData.eqv]]
  exact q
section
variable {P : Program} {w : World} {K : PySem.W.Frag} {mg : Str → Option Value} {base : Heap} {C CE CJ CJE g : Addr}
theorem found_ok (L : LTxt P w K mg base C CE CJ CJE g) {f c PT : Addr} {A : Around} {outer : List Env} {s : Shared} {H0 : Hp} {E0 : XK} (TB : LamX.TabB base mg c PT) (hr : Room 9 (LX P w K mg base f c A outer s H0 E0).A) :
    ∃ t, PSs (LX P w K mg base f c A outer s H0 E0) foundBody t ∧ ∀ (R a D : Addr) (Dn : Ends) (i : Nat) (σ : L2.St) (H : Hp), i < 6 → WC C R PT a D i σ H → (∀ σ' H', WE C R PT a D σ' H' → Dn.nx σ' H') → t Dn σ H := by
  obtain ⟨fJ, dJ, FJ, MJ, bJ⟩ := L.jinit
  obtain ⟨fR, dR, FR, mR, bR⟩ := L.recov
  obtain ⟨fS, dS, FS, mS, kS, bS⟩ := L.same
  have T := L.D
  have J := L.J
  have l11 := L.e11
  have rJ := FJ.mono (show 1 ≤ 6 by decide)
  have rJ8 := FJ.mono (show 1 ≤ 8 by decide)
  have rR := FR.mono (show 5 ≤ 7 by decide)
  have rR9 := FR.mono (show 5 ≤ 9 by decide)
  have rS := FS.mono (show 3 ≤ 9 by decide)
  refine ⟨_, pss_cons (ps_set (i := 13) scLaw.nd rfl (Or.inl rfl) (pe_told (k := 7) L.told TB rfl (by rfl) hr (LamX.lamS_by (sc := defScope sLaw) (by decide +kernel)) rfl (fun _ _ _ _ _ => rfl)
        (fun A1 o1 s1 H1 E1 f1 c1 hr7 => pe_meth0 (pe_make MJ rJ hr7 (by rfl) J.gC bJ .nil pass0 (pa_cons (pv 12) (pa_cons pe_int (pa_cons pe_int pa_nil)))) J.cl mR rR hr7 bR .nil (passes_call (takes_of rfl rfl rfl rfl) (fun _ _ _ _ h => h)))))
    (pss_cons (ps_if (PW.pt (pw_or (pt_cmpR (op_eqD hr.units) (pv 13) pe_str (nomark _)) (pw_or1 (PW.pt (pw_and (pt_not (pt_val (pe_call rS hr (by rfl) mS kS bS .nil pass0 (pa_cons (pv 12) (pa_cons (pv 4) pa_nil)))))
        (pw_and1 (pt_not (pt_val (pe_call rS hr (by rfl) mS kS bS .nil pass0 (pa_cons (pv 12) (pa_cons (pv 5) pa_nil))))))))))) (pss_one (ps_ret pe_bl)) pss_nil)
    (pss_one (ps_if (PW.pt (pw_or (pt_cmpR (op_neD hr.units) (pe_meth0 (pe_make MJ rJ8 hr (by rfl) J.gC bJ .nil pass0 (pa_cons (pv 12) (pa_cons pe_int (pa_cons pe_int pa_nil)))) J.cl mR rR9 hr bR .nil passL) (pe_tup pa_nil) (nomark _))
        (pw_or1 (pt_cmpR (op_neD hr.units) (pe_lc (own := [("number", 8)]) (g := gName 8) (by rfl) scLaw.nd (pi_tup (pv 13)) (blkOk_by (N := NL) (sc := defScope sLaw) (by decide +kernel)) (fun _ _ _ _ _ => pg_name (i := 8) scLaw.nd rfl (Or.inl rfl))
          (fun _ _ _ _ _ => pts_one (pt_not (pt_chain op_le op_lt pe_int (pv 8) pe_int))) (fun _ _ _ _ _ => pv 8)) (pe_lst pa_nil) (nomark _))))) (pss_one (ps_ret pe_bl)) pss_nil))), ?_⟩
  intro R a D Dn i σ H hi hWC hnx
  obtain ⟨N, M, d, dc, p, dx, B, W, Kp, Lp, g0, g1, u2, u3, u6, u7, u8, u9, u10, u11, u13, u14, u15, u16, u17, u18, u19, rfl, x, al, hw, hfz, hss, k0, k1, hN⟩ := hWC
  refine ⟨x.tabs, fun H3 e3 t3 => ?_⟩
  have x3 := x.ext e3 t3
  have k03 := k0.ext e3
  have k13 := k1.ext e3
  clear x k0 k1 e3 t3
  refine ⟨_, rfl, fun j jx nj njx njj => ⟨j, jx, p, rfl, upd_same, ⟨rfl, ?_⟩⟩⟩
  have s4 : Same H3 (upd (upd (upd H3 jx (.own j)) j (.ins CJ jx [])) j (.ins CJ jx (fsJ p 0))) := made_J nj njx
  have hj4 : JAt CJ (upd (upd (upd H3 jx (.own j)) j (.ins CJ jx [])) j (.ins CJ jx (fsJ p 0))) j jx p 0 := upd_same
  have njp : j ≠ p := (ne_of_none x3.dev.ins nj).symm
  generalize upd (upd (upd H3 jx (.own j)) j (.ins CJ jx [])) j (.ins CJ jx (fsJ p 0)) = H4 at s4 hj4 ⊢
  have x4 := x3.same s4
  have k04 := k03.same s4
  have k14 := k13.same s4
  refine ⟨j, jx, _, rfl, hj4, rfl, ?_⟩
  refine rec_spec (g0 := g0) (g1 := g1) x4.dev hj4 njp (by omega) al hw hss (fun H5 W5 d5 t ns hW5 b5 D5 al5 hw5 rs hfz5 hns _ ht => ?_) (fun H5 W5 d5 hW5 b5 D5 cok ne => absurd hfz ne)
  have m5 := Mv.bar x4.dev b5
  have x5 := x4.bar b5 hW5 D5
  have k05 := k04.mv m5 (k04.not_dev x4.dev)
  have k15 := k14.mv m5 (k14.not_dev x4.dev)
  have fz5 := hfz5 hfz
  clear x3 x4 k03 k13 k04 k14 m5 b5 hW5 hj4 s4 nj njx njj
  refine ⟨_, rfl, tC_mk' ?_⟩
  refine eqd_tup dev_ok ht ⟨_, rfl, iteF ?_⟩
  obtain ⟨⟨kvs0, hk0, lk0, ck0⟩, nb0⟩ := k05
  obtain ⟨⟨kvs1, hk1, lk1, ck1⟩, nb1⟩ := k15
  refine ⟨_, rfl, _, rfl, p, dx, B, W5, N + 16, d5, Kp, kvs0, g0, rfl, D5, by omega, al5, hk0, ck0, fun H6 c0 s6 hc0 => ?_⟩
  have hrd : d5.rd = d5.f := funext fun n => rd_of hw5 n
  rw [hrd] at hc0
  cases c0 with
  | true =>
    refine ⟨_, rfl, iteF (iteF ?_)⟩
    have sx := s6
    have x6 := x5.same sx
    have ht6 := sx _ _ ht
    refine ⟨_, rfl, fun j2 jx2 nj2 njx2 njj2 => ⟨j2, jx2, p, rfl, upd_same, ⟨rfl, ?_⟩⟩⟩
    have s8 : Same H6 (upd (upd (upd H6 jx2 (.own j2)) j2 (.ins CJ jx2 [])) j2 (.ins CJ jx2 (fsJ p 0))) := made_J nj2 njx2
    have hj8 : JAt CJ (upd (upd (upd H6 jx2 (.own j2)) j2 (.ins CJ jx2 [])) j2 (.ins CJ jx2 (fsJ p 0))) j2 jx2 p 0 := upd_same
    have njp2 : j2 ≠ p := (ne_of_none x6.dev.ins nj2).symm
    generalize upd (upd (upd H6 jx2 (.own j2)) j2 (.ins CJ jx2 [])) j2 (.ins CJ jx2 (fsJ p 0)) = H8 at s8 hj8 ⊢
    have x8 := x6.same s8
    have ht8 := s8 _ _ ht6
    refine ⟨j2, jx2, _, rfl, hj8, rfl, ?_⟩
    refine rec_spec (g0 := g0) (g1 := g1) x8.dev hj8 njp2 (by omega) al5 hw5 (rs.ss fun n => D5.len n) (fun H9 W9 d9 t2 ns2 hW9 b9 D9 al9 hw9 rs9 _ _ hnil ht2 => ?_) (fun H9 W9 d9 hW9 b9 D9 cok ne => absurd fz5 ne)
    obtain rfl : ns2 = [] := hnil rs
    have x9 := x8.bar b9 hW9 D9
    have ht9 := (x8.dev.keep b9) _ _ ht8
    refine ⟨by show 0 ≤ sizeLine; decide, fun t3 nt3 => ?_⟩
    have s10 : Same H9 (upd H9 t3 (.tup [])) := same_upd nt3
    refine ne_tupI (xs := []) (ys := []) (SqT.of (s10 _ _ ht2)) (SqT.of upd_same) ⟨_, rfl, iteF ?_⟩
    have x10 := x9.same s10
    have ht10 := s10 _ _ ht9
    generalize upd H9 t3 (.tup []) = H10 at x10 ht10 ⊢
    refine ⟨_, rfl, t, rfl, ⟨_, SqT.of ht10⟩, fun L nL => ?_⟩
    refine lc_tup (K := K) (a := t) (xs := ns.map V.int) (fun i H' => H' = upd H10 L (.lst [])) rfl (fun i H' hi q => ?_) (fun i y H' hx q => ?_) (fun H' q => ?_)
    · subst q
      exact SqT.of (same_upd nL _ _ ht10)
    · subst q
      rw [List.getElem?_map] at hx
      obtain ⟨n, hn, rfl⟩ := Option.map_eq_some_iff.mp hx
      have hb := hns n (List.mem_of_getElem? hn)
      exact ⟨rfl, _, rfl, _, _, rfl, rfl, _, rfl, iteD hb.1 ⟨_, _, rfl, rfl, _, rfl, by rw [decide_eq_true hb.2]; exact rfl⟩⟩
    · subst q
      refine ⟨by show 0 ≤ sizeLine; decide, fun L2 nL2 => ?_⟩
      have s11 : Same H10 (upd (upd H10 L (.lst [])) L2 (.lst [])) := (same_upd nL).trans (same_upd nL2)
      refine ne_intsL (xs := []) (ys := []) (SqL.of (same_upd nL2 _ _ upd_same)) (SqL.of upd_same) ⟨_, rfl, iteF ?_⟩
      exact hnx _ _ ⟨N + 16 + 16, d9, dc, p, dx, B, W9, _, _, _, _, _, _, _, _, _, _, _, _, _, _, _, _, _, _, rfl, x10.same s11⟩
  | false =>
    refine ⟨_, rfl, iteT ?_⟩
    have h1 : HomeIs d5.f g1 := rs.home.resolve_left fun z => by
      have := hc0.mpr z
      cases this
    refine ⟨_, rfl, _, rfl, p, dx, B, W5, N + 16, d5, Lp, kvs1, g1, rfl, D5.same s6, by omega, al5, s6 _ _ hk1, ck1.keep (Keep.of s6), fun H7 c1 s7 hc1 => ?_⟩
    rw [hrd] at hc1
    obtain rfl : c1 = true := hc1.mpr h1
    refine ⟨_, rfl, iteF ?_⟩
    have sx := s6.trans s7
    have x6 := x5.same sx
    have ht6 := sx _ _ ht
    refine ⟨_, rfl, fun j2 jx2 nj2 njx2 njj2 => ⟨j2, jx2, p, rfl, upd_same, ⟨rfl, ?_⟩⟩⟩
    have s8 : Same H7 (upd (upd (upd H7 jx2 (.own j2)) j2 (.ins CJ jx2 [])) j2 (.ins CJ jx2 (fsJ p 0))) := made_J nj2 njx2
    have hj8 : JAt CJ (upd (upd (upd H7 jx2 (.own j2)) j2 (.ins CJ jx2 [])) j2 (.ins CJ jx2 (fsJ p 0))) j2 jx2 p 0 := upd_same
    have njp2 : j2 ≠ p := (ne_of_none x6.dev.ins nj2).symm
    generalize upd (upd (upd H7 jx2 (.own j2)) j2 (.ins CJ jx2 [])) j2 (.ins CJ jx2 (fsJ p 0)) = H8 at s8 hj8 ⊢
    have x8 := x6.same s8
    have ht8 := s8 _ _ ht6
    refine ⟨j2, jx2, _, rfl, hj8, rfl, ?_⟩
    refine rec_spec (g0 := g0) (g1 := g1) x8.dev hj8 njp2 (by omega) al5 hw5 (rs.ss fun n => D5.len n) (fun H9 W9 d9 t2 ns2 hW9 b9 D9 al9 hw9 rs9 _ _ hnil ht2 => ?_) (fun H9 W9 d9 hW9 b9 D9 cok ne => absurd fz5 ne)
    obtain rfl : ns2 = [] := hnil rs
    have x9 := x8.bar b9 hW9 D9
    have ht9 := (x8.dev.keep b9) _ _ ht8
    refine ⟨by show 0 ≤ sizeLine; decide, fun t3 nt3 => ?_⟩
    have s10 : Same H9 (upd H9 t3 (.tup [])) := same_upd nt3
    refine ne_tupI (xs := []) (ys := []) (SqT.of (s10 _ _ ht2)) (SqT.of upd_same) ⟨_, rfl, iteF ?_⟩
    have x10 := x9.same s10
    have ht10 := s10 _ _ ht9
    generalize upd H9 t3 (.tup []) = H10 at x10 ht10 ⊢
    refine ⟨_, rfl, t, rfl, ⟨_, SqT.of ht10⟩, fun L nL => ?_⟩
    refine lc_tup (K := K) (a := t) (xs := ns.map V.int) (fun i H' => H' = upd H10 L (.lst [])) rfl (fun i H' hi q => ?_) (fun i y H' hx q => ?_) (fun H' q => ?_)
    · subst q
      exact SqT.of (same_upd nL _ _ ht10)
    · subst q
      rw [List.getElem?_map] at hx
      obtain ⟨n, hn, rfl⟩ := Option.map_eq_some_iff.mp hx
      have hb := hns n (List.mem_of_getElem? hn)
      exact ⟨rfl, _, rfl, _, _, rfl, rfl, _, rfl, iteD hb.1 ⟨_, _, rfl, rfl, _, rfl, by rw [decide_eq_true hb.2]; exact rfl⟩⟩
    · subst q
      refine ⟨by show 0 ≤ sizeLine; decide, fun L2 nL2 => ?_⟩
      have s11 : Same H10 (upd (upd H10 L (.lst [])) L2 (.lst [])) := (same_upd nL).trans (same_upd nL2)
      refine ne_intsL (xs := []) (ys := []) (SqL.of (same_upd nL2 _ _ upd_same)) (SqL.of upd_same) ⟨_, rfl, iteF ?_⟩
      exact hnx _ _ ⟨N + 16 + 16, d9, dc, p, dx, B, W9, _, _, _, _, _, _, _, _, _, _, _, _, _, _, _, _, _, _, rfl, x10.same s11⟩
end
end K02
namespace K02
open PySem L2 HK
abbrev packBody : List Stmt := (lawBody.drop 10).take 9
/-- behind the group of one's own: the dice, a device in its place -/
def WF (C R PT a D : Addr) (σ : L2.St) (H : Hp) : Prop :=
  ∃ (N : Nat) (d : AD) (dc : Dice) (p dx B W : Addr) (u3 u4 u5 u6 u7 u8 u9 u10 u11 u12 u13 u14 u15 u16 u17 u18 u19 : Option V),
    σ = [some (.ref a), some (.ref D), some (.ref p), u3, u4, u5, u6, u7, u8, u9, u10, u11, u12, u13, u14, u15, u16, u17, u18, u19] ∧ Ws C R PT D p dx B W N d dc H ∧ N ≤ 800
theorem dwk_snoc : ∀ (l : List Rw) (k : Nat) (q : Rw), dwk k (l ++ [q]) = dwk k l ++ [(((k + l.length : Nat) : Int), q.2)]
  | [], k, q => rfl
  | a :: r, k, q => by
    rw [List.cons_append, dwk, dwk, dwk_snoc r (k + 1) q, List.cons_append, List.length_cons, show k + 1 + r.length = k + (r.length + 1) by omega]
theorem lastA_snoc (l : Ps) (n : Int) (x : List Int) (m : Int) : lastA (l ++ [(n, x)]) m = if n = m then some x else lastA l m := by
  unfold lastA
  rw [List.reverse_append, List.reverse_cons, List.reverse_nil, List.nil_append, List.singleton_append, List.find?_cons]
  by_cases h : n = m
  · simp [h]
  · simp [h]
theorem lastA_none : ∀ (l : Ps) (m : Int), m ∉ l.map (·.1) → lastA l m = none := fun l m h => by
  unfold lastA
  rw [List.find?_eq_none.mpr (fun q hq => ?_)]
  · rfl
  · intro z
    have e : q.1 = m := of_decide_eq_true z
    exact h (List.mem_map.mpr ⟨q, List.mem_reverse.mp hq, e⟩)
theorem lastA_dwk (gs : List Rw) (k : Nat) : ∀ (n i : Nat) (x : List Int), gs.length = n → (dss gs)[i]? = some x → lastA (dwk k gs) (((k + i : Nat) : Int)) = some x := by
  intro n
  induction n generalizing gs with
  | zero =>
    intro i x h hx
    rw [List.eq_nil_of_length_eq_zero h] at hx
    cases hx
  | succ n ih =>
    intro i x h hx
    have hne : gs ≠ [] := fun z => by rw [z] at h; cases h
    obtain ⟨l, q, rfl⟩ : ∃ l q, gs = l ++ [q] := ⟨gs.dropLast, gs.getLast hne, (List.dropLast_concat_getLast hne).symm⟩
    have hl : l.length = n := by simpa using h
    rw [dwk_snoc, lastA_snoc]
    unfold dss at hx
    rw [List.map_append] at hx
    by_cases hi : i = l.length
    · subst hi
      rw [if_pos rfl]
      rw [List.getElem?_append_right (by rw [List.length_map]; exact Nat.le_refl _), List.length_map, Nat.sub_self] at hx
      exact hx
    · have hlt : i < l.length := by
        have := (List.getElem?_eq_some_iff.mp hx).1
        rw [List.length_append, List.length_map] at this
        simp at this
        omega
      rw [if_neg (by omega)]
      rw [List.getElem?_append_left (by rw [List.length_map]; exact hlt)] at hx
      exact ih l i x hl hx
/-- a device that never crashes, with what waits -/
def Calm (d : AD) (ws : Ps) : Prop := d.dead = false ∧ d.fz = .non ∧ d.f = AD.new.f ∧ d.ws = ws
theorem Calm.wrote {d : AD} {ws : Ps} (h : Calm d ws) (n : Int) (x : List Int) : Calm (d.wrote n x) (ws ++ [(n, x)]) := by
  obtain ⟨h1, h2, h3, h4⟩ := h
  refine ⟨h1, ?_, h3, ?_⟩
  · show (match d.fz with | .int n => V.int (n - 1) | v => v) = V.non
    rw [h2]
  · show d.ws ++ [(n, x)] = _
    rw [h4]
theorem Calm.alive {d : AD} {ws : Ps} (h : Calm d ws) : d.alive := ⟨h.1, by rw [h.2.1]; intro z; cases z⟩
theorem spW_calm {C CE p dx B W t : Addr} {H : Hp} {N : Nat} {d : AD} {E : XK} {G : VK} {n : Int} {x : List Int} {ws : Ps} (D : DevS C H p dx B W N d) (hN : N ≤ 900) (c : Calm d ws) (ht : H t = some (tupI x)) (ok : x.length = 64 ∧ 0 ≤ n ∧ n < 16)
    (k : ∀ H' d', Bar p B W H H' → DevS C H' p dx B W (N + 1) d' → Calm d' (ws ++ [(n, x)]) → G .non H') : spWriteA C CE [.ref p, .int n, .ref t] H G E :=
  ⟨p, dx, B, W, N, d, n, t, x, rfl, D, hN, ht, fun _ => ⟨fun na => absurd c.alive na, fun _ H' b D' => k H' _ b D' (c.wrote n x)⟩, fun z => absurd ok z⟩
theorem datL_eq {d : AD} {ns : List Int} {ds : List (List Int)} (l : ns.length = ds.length) (h : ∀ i x, ds[i]? = some x → d.rd (((2 + i : Nat) : Int)) = x) : datL d ns.length = ds := by
  refine List.ext_getElem? fun i => ?_
  unfold datL
  rw [List.getElem?_map]
  by_cases hi : i < ns.length
  · rw [List.getElem?_range hi]
    have hi2 : i < ds.length := by rw [← l]; exact hi
    rw [List.getElem?_eq_getElem hi2]
    show some (d.rd _) = _
    rw [h i _ (List.getElem?_eq_getElem hi2)]
  · rw [List.getElem?_eq_none (by rw [List.length_range]; omega), List.getElem?_eq_none (by rw [← l]; omega)]
    rfl
theorem sums_fst : ∀ (l : List Int) (p : Int × Int), (sums p l).1 % 65521 = (p.1 + l.sum) % 65521
  | [], p => by rw [sums, List.sum_nil, Int.add_zero]
  | n :: r, p => by
    rw [sums, sums_fst r, List.sum_cons]
    show ((p.1 + n) % 65521 + r.sum) % 65521 = _
    omega
theorem sums_rng : ∀ (l : List Int) (p : Int × Int), 0 ≤ p.1 ∧ p.1 < 65521 → 0 ≤ (sums p l).1 ∧ (sums p l).1 < 65521
  | [], p, h => h
  | n :: r, p, _ => by
    rw [sums]
    refine sums_rng r _ ⟨?_, ?_⟩
    · show 0 ≤ (p.1 + n) % 65521
      omega
    · show (p.1 + n) % 65521 < 65521
      omega
theorem sumI_sum {l m : List Int} (h : sumI l = sumI m) : l.sum % 65521 = m.sum % 65521 := by
  have h1 := sums_fst l (1, 0)
  have h2 := sums_fst m (1, 0)
  have r1 := sums_rng l (1, 0) ⟨by decide, by decide⟩
  have r2 := sums_rng m (1, 0) ⟨by decide, by decide⟩
  have e : pairI (sums (1, 0) l).1 = pairI (sums (1, 0) m).1 := by
    unfold sumI at h
    exact (List.append_inj h rfl).2
  unfold pairI at e
  injection e with e1 e2
  injection e2 with e2 _
  dsimp only at h1 h2
  omega
theorem bent_sum {v : Int} {n : Nat} (hn : n < 64) (b : Int) : ((List.replicate 64 v).take n ++ [b] ++ (List.replicate 64 v).drop (n + 1)).sum + v = (List.replicate 64 v).sum + b := by
  have e : List.replicate 64 v = (List.replicate 64 v).take n ++ ([v] ++ (List.replicate 64 v).drop (n + 1)) := by
    have hl : n < (List.replicate 64 v).length := by rw [List.length_replicate]; exact hn
    have := List.drop_eq_getElem_cons hl
    rw [List.getElem_replicate] at this
    rw [List.singleton_append, ← this, List.take_append_drop]
  have e2 := congrArg List.sum e
  rw [List.sum_append, List.sum_append, List.sum_cons, List.sum_nil] at e2
  rw [List.sum_append, List.sum_append, List.sum_cons, List.sum_nil]
  omega
theorem cat_any {K : PySem.W.Frag} {H : Hp} {a b : Addr} {xs ys : List Int} {Q : VK} (ha : H a = some (tupI xs)) (hb : H b = some (tupI ys)) (l : xs.length + ys.length ≤ 1000) (k : ∀ H' p, Same H H' → H' p = some (tupI (xs ++ ys)) → Q (.ref p) H') : rCatA K (.ref a) (.ref b) H Q := by
  refine ⟨a, b, xs.map V.int, ys.map V.int, rfl, rfl, SqT.of ha, SqT.of hb, by rw [List.length_map, List.length_map, sizeLine_eq]; omega, fun e => ?_, fun _ e => ?_, fun _ _ p np => ?_⟩
  · have : xs = [] := List.map_eq_nil_iff.mp e
    subst this
    exact k H b (Same.refl H) hb
  · have : ys = [] := List.map_eq_nil_iff.mp e
    subst this
    exact k H a (Same.refl H) (by rw [List.append_nil]; exact ha)
  · refine k _ p (same_upd np) ?_
    rw [upd_same]
    unfold tupI
    rw [List.map_append]
theorem at_hd (x : V) (l : List V) : atI (x :: l) 0 = some x := atI_nat (j := 0) rfl
theorem made_dev {p dx B W : Addr} {H H' : Hp} {o1 o2 : HO} (np : H p = none) (ndx : H dx = none) (nB : (upd (upd H dx o1) p o2) B = none) (nW : (upd (upd H dx o1) p o2) W = none) (o : Off [p, B, W] (upd (upd H dx o1) p o2) H') : Same H H' ∧ H B = none ∧ H W = none := by
  have z : ∀ b, (upd (upd H dx o1) p o2) b = none → H b = none := fun b e => by
    by_cases h1 : b = p
    · rw [h1]; exact np
    · by_cases h2 : b = dx
      · rw [h2]; exact ndx
      · rw [upd_ne h1, upd_ne h2] at e; exact e
  refine ⟨fun b u e => ?_, z B nB, z W nW⟩
  rw [o b (by simp [ne_of_none e np, ne_of_none e (z B nB), ne_of_none e (z W nW)]), upd_ne (ne_of_none e np), upd_ne (ne_of_none e ndx)]
  exact e
theorem ne_num {K : PySem.W.Frag} {H : Hp} {a b t1 t2 : Addr} {s : Int} {ns : List Int} {Q : VK} (ha : H a = some (.tup [.int s, .ref t1])) (h1 : H t1 = some (tupI ns)) (hb : H b = some (.tup [.int s, .ref t2])) (h2 : H t2 = some (tupI ns)) (q : Q (.bl false) H) : rNeD K (.ref a) (.ref b) H Q := by
  have sh : SeqAt.shaped (dRow ((a, s, a), ns)) = true := by
    unfold SeqAt.shaped
    rw [(dRow_lay _).1, (dRow_lay _).2]
    rfl
  refine ⟨_, _, Dp.tup (SqT.of ha) (.cons (.int s) (.cons (.tup (SqT.of h1) (dpall_ints ns)) .nil)), Dp.tup (SqT.of hb) (.cons (.int s) (.cons (.tup (SqT.of h2) (dpall_ints ns)) .nil)), sh, sh, ?_⟩
  have e := PySem.SeqAt.eqv_refl _ (SeqAt.canLay_of_shaped sh)
  unfold dRow at e
  rw [e]
  exact q
theorem cut_5 (gs : List Rw) : cutV (gs.map fun q => V.ref q.1.1) none (some 5) = (gs.take 5).map fun q => V.ref q.1.1 := by
  show cutV _ none (some ((5 : Nat) : Int)) = _
  unfold cutV
  rw [HT.sIx_none, HT.sIx_nat, List.drop_zero, Nat.sub_zero, List.map_take, List.take_eq_take_iff]
  omega
section
variable {P : Program} {w : World} {K : PySem.W.Frag} {mg : Str → Option Value} {base : Heap} {C CE CJ CJE g : Addr}
theorem pack_ok (L : LTxt P w K mg base C CE CJ CJE g) {f c PT : Addr} {A : Around} {outer : List Env} {s : Shared} {H0 : Hp} {E0 : XK} (TB : LamX.TabB base mg c PT) (hr : Room 9 (LX P w K mg base f c A outer s H0 E0).A) :
    ∃ t, PSs (LX P w K mg base f c A outer s H0 E0) packBody t ∧ ∀ (R a D : Addr) (Dn : Ends) (σ : L2.St) (H : Hp), WE C R PT a D σ H → (∀ σ' H', WF C R PT a D σ' H' → Dn.nx σ' H') → t Dn σ H := by
  obtain ⟨f3, d3, F3, m3, k3, b3⟩ := L.roll
  obtain ⟨fG, dG, FG, mG, kG, bG⟩ := L.grp
  obtain ⟨fJ, dJ, FJ, MJ, bJ⟩ := L.jinit
  obtain ⟨fP, dP, FP, mP, bP⟩ := L.pend
  obtain ⟨fH, dH, FH, mH, kH, bH⟩ := L.head
  obtain ⟨fQ, dQ, FQ, mQ, kQ, bQ⟩ := L.rhead
  obtain ⟨fI, dI, FI, FIA, MI, ds, vds, bI⟩ := L.init
  obtain ⟨fW, dW, FW, FWA, mW, bW⟩ := L.write
  obtain ⟨fR, dR, FR, mR, bR⟩ := L.read
  have T := L.D
  have J := L.J
  have l11 := L.e11
  have r3 := F3.mono (show 1 ≤ 9 by decide)
  have rG := FG.mono (show 3 ≤ 9 by decide)
  have rJ8 := FJ.mono (show 1 ≤ 8 by decide)
  have rP := FP.mono (show 4 ≤ 9 by decide)
  have rH := FH.mono (show 4 ≤ 9 by decide)
  have rQ := FQ.mono (show 2 ≤ 9 by decide)
  have rIA := FIA.mono (show 1 ≤ 8 by decide)
  have rI7 := FI.mono (show 1 ≤ 6 by decide)
  have rWA := FWA.mono (show 3 ≤ 9 by decide)
  have rW7 := FW.mono (show 3 ≤ 7 by decide)
  have rR7 := FR.mono (show 2 ≤ 7 by decide)
  refine ⟨_, pss_cons (ps_set (i := 7) scLaw.nd rfl (Or.inr rfl) (pe_slice sl_list (pe_lc (own := [("pair_now", 19)]) (g := gName 19) (by rfl) scLaw.nd (pi_list (pe_call rG hr (by rfl) mG kG bG .nil pass0 (pa_cons (pv 1) pa_nil))) (blkOk_by (N := NL) (sc := defScope sLaw) (by decide +kernel))
        (fun _ _ _ _ _ => pg_name (i := 19) scLaw.nd rfl (Or.inl rfl)) (fun _ _ _ _ _ => pts_nil) (fun _ _ _ _ _ => pv 19)) po_none (po_some pe_int)))
    (pss_cons (ps_par (i := 14) (j := 15) rfl scLaw.nd rfl rfl (by decide) rfl rfl (pa_cons (pe_lc (own := [("number", 8), ("data", 9)]) (g := gTup K 2 (gCons (gName 8) (gCons (gName 9) gNil))) (by rfl) scLaw.nd (pi_list (pv 7)) (blkOk_by (N := NL) (sc := defScope sLaw) (by decide +kernel))
          (fun _ _ _ _ _ => pg_tup rfl (pgs_cons (pg_name (i := 8) scLaw.nd rfl (Or.inl rfl)) (pgs_cons (pg_name (i := 9) scLaw.nd rfl (Or.inl rfl)) pgs_nil))) (fun _ _ _ _ _ => pts_nil) (fun _ _ _ _ _ => pv 8))
        (pa_cons (pe_lc (own := [("number", 8), ("data", 9)]) (g := gTup K 2 (gCons (gName 8) (gCons (gName 9) gNil))) (by rfl) scLaw.nd (pi_list (pv 7)) (blkOk_by (N := NL) (sc := defScope sLaw) (by decide +kernel))
          (fun _ _ _ _ _ => pg_tup rfl (pgs_cons (pg_name (i := 8) scLaw.nd rfl (Or.inl rfl)) (pgs_cons (pg_name (i := 9) scLaw.nd rfl (Or.inl rfl)) pgs_nil))) (fun _ _ _ _ _ => pts_nil) (fun _ _ _ _ _ => pv 9)) pa_nil)) rfl)
    (pss_cons (ps_set (i := 16) scLaw.nd rfl (Or.inl rfl) (pe_call rH hr (by rfl) mH kH bH .nil pass0 (pa_cons pe_int (pa_cons (pv 14) (pa_cons (pv 15) (pa_cons pe_int pa_nil))))))
    (pss_cons (ps_if (PW.pt (pw_or (pt_cmpR op_ne (pe_callB call_len_seq (by rfl) T.len PySem.boot_len (pa_cons (pv 16) pa_nil)) pe_int (nomark _))
        (pw_or (pt_cmpR (op_neD hr.units) (pe_slice sl_tup (pe_call rQ hr (by rfl) mQ kQ bQ .nil pass0 (pa_cons (pv 16) pa_nil)) po_none (po_some pe_int)) (pe_tup (pa_cons pe_int (pa_cons (pe_callTy call_tuple_of (by rfl) T.tup PyProof.Rows.Boot.«tuple» (pa_cons (pv 14) pa_nil)) pa_nil))) (nomark _))
        (pw_or1 (pt_cmpR op_notN (pe_call rQ hr (by rfl) mQ kQ bQ .nil pass0 (pa_cons (pe_op op_repT (pe_tup (pa_cons pe_int pa_nil)) pe_int) pa_nil)) pe_non (nomark _)))))) (pss_one (ps_ret pe_bl)) pss_nil)
    (pss_cons (ps_set (i := 2) scLaw.nd rfl (Or.inr rfl) (pe_make MI rIA hr (by rfl) T.gC bI vds pass0 (pa_cons pe_int (pa_cons pe_int pa_nil))))
    (pss_cons (ps_for PassesOwn.never rfl (pi_enum (by rfl) J.enum (pa_cons (pv 15) pa_nil)) (pg_tup rfl (pgs_cons (pg_name (i := 17) scLaw.nd rfl (Or.inr rfl)) (pgs_cons (pg_name (i := 9) scLaw.nd rfl (Or.inl rfl)) pgs_nil)))
        (pss_one (ps_expr (pe_meth (pv 2) T.cl mW rWA hr bW .nil passL (pa_cons (pe_op op_add pe_int (pv 17)) (pa_cons (pv 9) pa_nil))))))
    (pss_cons (ps_expr (pe_meth (pv 2) T.cl mW rWA hr bW .nil passL (pa_cons pe_int (pa_cons (pv 16) pa_nil))))
    (pss_cons (ps_if (pt_cmpR (op_neD hr.units) (pe_meth0 (pe_make MJ rJ8 hr (by rfl) J.gC bJ .nil pass0 (pa_cons (pv 2) (pa_cons pe_int (pa_cons pe_int pa_nil)))) J.cl mP rP hr bP .nil passL) (pv 7) (nomark _)) (pss_one (ps_ret pe_bl)) pss_nil)
    (pss_one (ps_if (pt_cmpR (op_neD hr.units) (pv 7) (pe_lst pa_nil) (nomark _))
        (pss_cons (ps_set (i := 17) scLaw.nd rfl (Or.inr rfl) (pe_call r3 hr (by rfl) m3 k3 b3 .nil pass0 (pa_cons (pv 1) (pa_cons pe_int pa_nil))))
        (pss_cons (ps_set (i := 18) scLaw.nd rfl (Or.inl rfl) (pe_op op_catA (pe_op op_catA (pe_slice sl_tup (pe_ix ix_list (pv 15) pe_int (fun _ _ => rfl)) po_none (po_some (pv 17)))
              (pe_tup (pa_cons (pe_op op_mod (pe_op op_add (pe_ix ix_tup (pe_ix ix_list (pv 15) pe_int (fun _ _ => rfl)) (pv 17) (fun _ _ => rfl)) pe_int) pe_int) pa_nil)))
              (pe_slice sl_tup (pe_ix ix_list (pv 15) pe_int (fun _ _ => rfl)) (po_some (pe_op op_add (pv 17) pe_int)) po_none)))
        (pss_cons (ps_expr (pe_meth (pv 2) T.cl mW rWA hr bW .nil passL (pa_cons pe_int (pa_cons (pv 18) pa_nil))))
        (pss_one (ps_if (pt_cmpR (op_neD hr.units) (pe_meth0 (pe_make MJ rJ8 hr (by rfl) J.gC bJ .nil pass0 (pa_cons (pv 2) (pa_cons pe_int (pa_cons pe_int pa_nil)))) J.cl mP rP hr bP .nil passL) (pe_lst pa_nil) (nomark _)) (pss_one (ps_ret pe_bl)) pss_nil))))) pss_nil))))))))), ?_⟩
  intro R a D Dn σ H hWE hnx
  obtain ⟨N0, d0, dc, p0, dx0, B0, W0, u2, u3, u4, u5, u6, u7, u8, u9, u10, u11, u12, u13, u14, u15, u16, u17, u18, u19, rfl, x⟩ := hWE
  refine ⟨_, rfl, D, dc, rfl, x.dice, fun H1 L0 gs0 dc1 s1 hd1 nL nLD hL okg0 lg => ?_⟩
  have x1 := x.rolled s1 hd1
  clear x s1 hd1 nL nLD
  refine ⟨L0, rfl, ⟨_, SqL.of hL.lst⟩, fun L1 nL1 => ?_⟩
  refine lc_list (K := K) (a := L0) (xs := gs0.map fun q => V.ref q.1.1) (fun i H' => H' = upd H1 L1 (.lst ((gs0.take i).map fun q => V.ref q.1.1))) rfl (fun i H' hi q => ?_) (fun i y H' hx q => ?_) (fun H' q => ?_)
  · subst q
    exact SqL.of (same_upd nL1 _ _ hL.lst)
  · subst q
    rw [List.getElem?_map] at hx
    obtain ⟨q, hq, rfl⟩ := Option.map_eq_some_iff.mp hx
    have hlt := (List.getElem?_eq_some_iff.mp hq).1
    refine ⟨rfl, _, rfl, _, upd_same, by rw [List.length_map, List.length_take]; exact small1000 (by omega), ?_⟩
    rw [upd_upd, List.take_add_one, hq, List.map_append]
    rfl
  subst q
  rw [List.length_map, List.take_length]
  refine ⟨_, rfl, L1, _, rfl, SqL.of upd_same, fun L nL2 => ?_⟩
  rw [cut_5]
  have s2 : Same H1 (upd (upd H1 L1 (.lst (gs0.map fun q => V.ref q.1.1))) L (.lst ((gs0.take 5).map fun q => V.ref q.1.1))) := (same_upd nL1).trans (same_upd nL2)
  have x2 := x1.same s2
  have hL2 : RowsAt (upd (upd H1 L1 (.lst (gs0.map fun q => V.ref q.1.1))) L (.lst ((gs0.take 5).map fun q => V.ref q.1.1))) L (gs0.take 5) := ⟨upd_same, fun q hq => s2 _ _ (hL.tup q (List.mem_of_mem_take hq)), fun q hq => s2 _ _ (hL.dat q (List.mem_of_mem_take hq))⟩
  have okg : okGrp (gs0.take 5) := fun q hq => okg0 q (List.mem_of_mem_take hq)
  have l5 : (gs0.take 5).length ≤ 5 := by rw [List.length_take]; omega
  generalize upd (upd H1 L1 (.lst (gs0.map fun q => V.ref q.1.1))) L (.lst ((gs0.take 5).map fun q => V.ref q.1.1)) = H2 at s2 x2 hL2 ⊢
  generalize gs0.take 5 = gs at hL2 okg l5
  clear x1 s2 hL okg0 lg nL1 nL2
  -- numbers, datas
  refine ⟨_, rfl, L, rfl, ⟨_, SqL.of hL2.lst⟩, fun D1 nD1 => ?_⟩
  refine lc_list (K := K) (a := L) (xs := gs.map fun q => V.ref q.1.1) (fun i H' => H' = upd H2 D1 (.lst ((rowNs (gs.take i)).map V.int))) rfl (fun i H' hi q => ?_) (fun i y H' hx q => ?_) (fun H' q => ?_)
  · subst q
    exact SqL.of (same_upd nD1 _ _ hL2.lst)
  · subst q
    rw [List.getElem?_map] at hx
    obtain ⟨q, hq, rfl⟩ := Option.map_eq_some_iff.mp hx
    have hm := List.mem_of_getElem? hq
    have s1 : Same H2 (upd H2 D1 (.lst ((rowNs (gs.take i)).map V.int))) := same_upd nD1
    refine ⟨q.1.1, _, rfl, SqT.of (s1 _ _ (hL2.tup q hm)), rfl, _, _, rfl, _, _, rfl, rfl, rfl, _, rfl, _, upd_same, ?_, ?_⟩
    · rw [List.length_map]
      unfold rowNs
      rw [List.length_map, List.length_take]
      exact small1000 (by omega)
    · rw [upd_upd, List.take_add_one, hq]
      unfold rowNs
      simp
  subst q
  rw [List.length_map, List.take_length]
  have s3 : Same H2 (upd H2 D1 (.lst ((rowNs gs).map V.int))) := same_upd nD1
  have x3 := x2.same s3
  have hL3 := hL2.same s3
  have l3 : (upd H2 D1 (.lst ((rowNs gs).map V.int))) D1 = some (.lst ((rowNs gs).map V.int)) := upd_same
  generalize upd H2 D1 (.lst ((rowNs gs).map V.int)) = H3 at s3 x3 hL3 l3 ⊢
  refine ⟨_, rfl, L, rfl, ⟨_, SqL.of hL3.lst⟩, fun D2 nD2 => ?_⟩
  refine lc_list (K := K) (a := L) (xs := gs.map fun q => V.ref q.1.1) (fun i H' => H' = upd H3 D2 (.lst ((gs.take i).map fun q => V.ref q.1.2.2))) rfl (fun i H' hi q => ?_) (fun i y H' hx q => ?_) (fun H' q => ?_)
  · subst q
    exact SqL.of (same_upd nD2 _ _ hL3.lst)
  · subst q
    rw [List.getElem?_map] at hx
    obtain ⟨q, hq, rfl⟩ := Option.map_eq_some_iff.mp hx
    have hm := List.mem_of_getElem? hq
    have s1 : Same H3 (upd H3 D2 (.lst ((gs.take i).map fun q => V.ref q.1.2.2))) := same_upd nD2
    refine ⟨q.1.1, _, rfl, SqT.of (s1 _ _ (hL3.tup q hm)), rfl, _, _, rfl, _, _, rfl, rfl, rfl, _, rfl, _, upd_same, ?_, ?_⟩
    · rw [List.length_map, List.length_take]
      exact small1000 (by omega)
    · rw [upd_upd, List.take_add_one, hq]
      simp
  subst q
  rw [List.length_map, List.take_length]
  have s4 : Same H3 (upd H3 D2 (.lst (gs.map fun q => V.ref q.1.2.2))) := same_upd nD2
  have x4 := x3.same s4
  have hL4 := hL3.same s4
  have l4 := s4 _ _ l3
  have m4 : (upd H3 D2 (.lst (gs.map fun q => V.ref q.1.2.2))) D2 = some (.lst (gs.map fun q => V.ref q.1.2.2)) := upd_same
  generalize upd H3 D2 (.lst (gs.map fun q => V.ref q.1.2.2)) = H4 at s4 x4 hL4 l4 m4 ⊢
  clear x2 x3 hL2 hL3 l3 s3 s4 nD1 nD2
  refine ⟨_, _, rfl, ?_⟩
  -- head
  have okr : okRows gs := fun q hq => ⟨(okg q hq).1.len, by have := (okg q hq).2; omega, by have := (okg q hq).2; omega⟩
  have ln : (rowNs gs).length ≤ 5 := by unfold rowNs; rw [List.length_map]; omega
  refine ⟨_, rfl, _, rfl, 7, D1, D2, rowNs gs, psOf gs, rfl, l4, by omega, by rw [psOf_refs]; exact m4, fun q hq => ?_, by rw [psOf_flat, rowDs_len okr]; omega, fun H5 hdp s5 n5 h5 => ?_⟩
  · obtain ⟨q', hq', rfl⟩ := List.mem_map.mp hq
    exact hL4.dat q' hq'
  rw [psOf_flat, ← dss_flat] at h5
  have h5 : H5 hdp = some (tupI (hd 7 (rowNs gs) (dss gs))) := h5
  have x5 := x4.same s5
  have hL5 := hL4.same s5
  have l5' := s5 _ _ l4
  have m5 := s5 _ _ m4
  clear x4 hL4 l4 m4 s5 n5
  refine ⟨_, rfl, hdp, _, rfl, .inr (SqT.of h5), rfl, _, rfl, ite2 (fun z => by exfalso; rw [List.length_map, hd_len ln] at z; simp at z) (fun _ => ?_)⟩
  refine ⟨_, rfl, hdp, hd 7 (rowNs gs) (dss gs), rfl, SqT.of h5, .inr ⟨7, rowNs gs, _, rfl, rfl, by omega, by decide, by decide, fun n hn => ?_, fun H6 q6 a1 a2 s6 n6 h6 h7 h8 => ?_⟩⟩
  · unfold rowNs at hn
    obtain ⟨q, hq, rfl⟩ := List.mem_map.mp hn
    have := (okg q hq).2
    omega
  refine ⟨_, rfl, q6, _, rfl, SqT.of h6, by show ¬(HT.sIx 3 0 none = 0 ∧ HT.sIx 3 3 (some 2) = 3); decide, fun p7 n7 => ?_⟩
  have e7 : cutV [V.int 7, .ref a1, .ref a2] none (some 2) = [.int 7, .ref a1] := rfl
  rw [e7]
  have s7 : Same H6 (upd H6 p7 (.tup [.int 7, .ref a1])) := same_upd n7
  refine ⟨_, rfl, D1, _, rfl, .inl ⟨SqL.of (s7 _ _ (s6 _ _ l5')), fun t nt => ⟨by show 2 ≤ sizeLine; decide, fun p8 n8 => ?_⟩⟩⟩
  have s8 : Same (upd H6 p7 (.tup [.int 7, .ref a1])) (upd (upd H6 p7 (.tup [.int 7, .ref a1])) t (.tup ((rowNs gs).map V.int))) := same_upd nt
  have s9 := same_upd (o := .tup [.int 7, .ref t]) n8
  refine ne_num (s := 7) (ns := rowNs gs) (s9 _ _ (s8 _ _ upd_same)) (s9 _ _ (s8 _ _ (s7 _ _ h7))) upd_same (s9 _ _ upd_same) ⟨_, rfl, iteF ?_⟩
  have sA := (((s6.trans s7).trans s8).trans s9)
  have x6 := x5.same sA
  have hL6 := hL5.same sA
  have m6 := sA _ _ m5
  have h6' := sA _ _ h5
  generalize upd (upd (upd H6 p7 (.tup [.int 7, .ref a1])) t (.tup ((rowNs gs).map V.int))) p8 (.tup [.int 7, .ref t]) = H7 at x6 hL6 m6 h6' ⊢
  clear x5 hL5 m5 h5 l5' sA s6 s7 s8 s9 n6 h6 h7 h8 n7 nt n8 e7
  refine ⟨by show 1 ≤ sizeLine; decide, fun t nt => ⟨t, 64, [.int 0], rfl, rfl, SqT.of upd_same, (fun z => by cases z), by decide, by decide, by decide, fun z nz => ?_⟩⟩
  have s7 : Same H7 (upd H7 t (.tup [.int 0])) := same_upd nt
  have s8 := s7.trans (same_upd (o := .tup (List.replicate (64 : Int).toNat [V.int 0]).flatten) nz)
  have hz : (upd (upd H7 t (.tup [.int 0])) z (.tup (List.replicate (64 : Int).toNat [V.int 0]).flatten)) z = some (tupI zero64) := by
    rw [upd_same, flat_zeros]
    rfl
  refine ⟨z, zero64, rfl, SqT.of hz, .inl ⟨rfl, fun H8 s9 => ⟨rfl, _, rfl, iteF ?_⟩⟩⟩
  have sA := s8.trans s9
  have x8 := x6.same sA
  have hL8 := hL6.same sA
  have m8 := sA _ _ m6
  have h8 := sA _ _ h6'
  clear x6 hL6 m6 h6' sA s7 s8 s9 hz nt nz
  -- a device
  refine fun p dx np ndx npd => ⟨p, dx, rfl, upd_same, fun B W H9 nB nW o D9 => ⟨rfl, ?_⟩⟩
  obtain ⟨s9, nB', nW'⟩ := made_dev np ndx nB nW o
  have x9 : Ws C R PT D p dx B W 0 AD.new dc1 H9 := ⟨s9 _ _ x8.dice, s9 _ _ x8.row, x8.tabs.ext s9, D9, x8.nDR, ne_of_none x8.dice nW', ne_of_none x8.row nW'⟩
  have hL9 := hL8.same s9
  have m9 := s9 _ _ m8
  have h9 := s9 _ _ h8
  have nL : L ≠ W := ne_of_none hL8.lst nW'
  have nD2 : D2 ≠ W := ne_of_none m8 nW'
  clear x8 hL8 m8 h8 s9 nB nW o D9 np ndx npd nB' nW'
  refine ⟨_, rfl, D2, _, rfl, SqL.of m9, ?_⟩
  refine for_it (walk_enum (K := K) (a := D2) (xs := gs.map fun q => V.ref q.1.2.2)) (fun i σ H' => ∃ d' u v, σ = [some (.ref a), some (.ref D), some (.ref p), u3, u4, u5, u6, some (.ref L), u8, u, u10, u11, u12, u13, some (.ref D1), some (.ref D2), some (.ref hdp), v, u18, u19] ∧
      Ws C R PT D p dx B W i d' dc1 H' ∧ Calm d' (dwk 2 (gs.take i)) ∧ RowsAt H' L gs ∧ H' D2 = some (.lst (gs.map fun q => V.ref q.1.2.2)) ∧ H' hdp = some (tupI (hd 7 (rowNs gs) (dss gs))))
    ⟨_, _, _, rfl, x9, ⟨rfl, rfl, rfl, rfl⟩, hL9, m9, h9⟩ (fun i σ H' hi q => ?_) (fun i y σ H' H'' hi q yy => ?_) (fun σ H' q => ?_)
  · obtain ⟨d', u, v, rfl, xx, cc, rr, mm, hh⟩ := q
    exact SqL.of mm
  · obtain ⟨d', u, v, rfl, xx, cc, rr, mm, hh⟩ := q
    obtain ⟨t, y1, y2, rfl, nt, rfl, e1, e2⟩ := yy
    dsimp only at e1 e2
    obtain rfl := Option.some.inj e1
    rw [List.getElem?_map] at e2
    obtain ⟨q, hq, rfl⟩ := Option.map_eq_some_iff.mp e2
    have hm := List.mem_of_getElem? hq
    have hlt := (List.getElem?_eq_some_iff.mp hq).1
    have st : Same H' (upd H' t (.tup [.int (i : Nat), .ref q.1.2.2])) := same_upd nt
    refine ⟨t, _, rfl, SqT.of upd_same, rfl, _, _, rfl, _, _, rfl, rfl, ?_⟩
    generalize upd H' t (.tup [.int (i : Nat), .ref q.1.2.2]) = Ha at st ⊢
    have xa := xx.same st
    refine ⟨_, rfl, p, dx, _, rfl, xa.dev.ins, rfl, _, rfl, add_read (k := ((2 + i : Nat) : Int)) (by omega) ⟨_, rfl, ?_⟩⟩
    refine spW_calm xa.dev (by omega) cc ((rr.same st).dat q hm) ⟨(okg q hm).1.len, by omega, by omega⟩ fun Hb d2 b2 Db c2 => ?_
    have et : gs.take (i + 1) = gs.take i ++ [q] := by rw [List.take_add_one, hq]; rfl
    have li : (gs.take i).length = i := by rw [List.length_take]; omega
    refine ⟨d2, _, _, rfl, xa.bar b2 (.inl rfl) Db, ?_, (rr.same st).bar xa.dev b2 nL, lst_bar (st _ _ mm) xa.dev nD2 b2, xa.dev.keep b2 _ _ (st _ _ hh)⟩
    rw [et, dwk_snoc, li]
    exact c2
  obtain ⟨d', u, v, rfl, xx, cc, rr, mm, hh⟩ := q
  rw [List.length_map, List.take_length] at cc
  rw [List.length_map] at xx
  clear x9 hL9 m9 h9
  refine ⟨_, rfl, p, dx, _, rfl, xx.dev.ins, rfl, _, rfl, ?_⟩
  refine spW_calm xx.dev (by omega) cc hh ⟨hd_len ln, by decide, by decide⟩ fun Ha d1 b1 Da c1 => ?_
  have xa := xx.bar b1 (.inl rfl) Da
  have ra := rr.bar xx.dev b1 nL
  have ma := lst_bar mm xx.dev nD2 b1
  clear xx cc rr mm hh b1 Da
  -- what the journal holds
  refine ⟨_, rfl, fun j jx nj njx njj => ⟨j, jx, p, rfl, upd_same, ⟨rfl, ?_⟩⟩⟩
  have s4 : Same Ha (upd (upd (upd Ha jx (.own j)) j (.ins CJ jx [])) j (.ins CJ jx (fsJ p 0))) := made_J nj njx
  have hj4 : JAt CJ (upd (upd (upd Ha jx (.own j)) j (.ins CJ jx [])) j (.ins CJ jx (fsJ p 0))) j jx p 0 := upd_same
  generalize upd (upd (upd Ha jx (.own j)) j (.ins CJ jx [])) j (.ins CJ jx (fsJ p 0)) = Hb at s4 hj4 ⊢
  have xb := xa.same s4
  have rb := ra.same s4
  have mb := s4 _ _ ma
  clear xa ra ma s4 nj njx njj
  have num : ∀ n ∈ rowNs gs, 0 ≤ n ∧ n < 65536 := fun n hn => by
    unfold rowNs at hn
    obtain ⟨q, hq, rfl⟩ := List.mem_map.mp hn
    have := (okg q hq).2
    omega
  have lrn : (rowNs gs).length = (dss gs).length := by unfold rowNs dss; rw [List.length_map, List.length_map]
  have lds : ∀ i x, (dss gs)[i]? = some x → d1.rd (((2 + i : Nat) : Int)) = x := fun i x hx => by
    unfold AD.rd
    rw [c1.2.2.2, lastA_snoc, if_neg (by omega), lastA_dwk gs 2 gs.length i x rfl hx]
    rfl
  have ed : datL d1 (rowNs gs).length = dss gs := datL_eq lrn lds
  have e1 : d1.rd 1 = hd 7 (rowNs gs) (dss gs) := by
    unfold AD.rd
    rw [c1.2.2.2, lastA_snoc, if_pos rfl]
    rfl
  refine ⟨j, jx, _, rfl, hj4, rfl, j, jx, p, dx, 0, _, d1, B, W, rfl, hj4, xb.dev, by omega, (fun z => by rw [c1.1] at z; cases z), fun _ => .inr ⟨7, rowNs gs, _, e1, rfl, ln, by decide, by decide, num, fun z => absurd (by rw [ed]) z, fun _ H' L' gs' s' n' r' hp' => ?_⟩⟩
  have epp : (gs'.map fun q => (q.1.2.1, q.2)) = gs.map fun q => (q.1.2.1, q.2) := by
    have e : pairs gs' = pairs gs := by rw [hp', ed, pairs_zip]
    exact e
  refine ⟨_, rfl, ne_rows r' (rb.same s') ⟨_, rfl, ?_⟩⟩
  rw [decide_eq_true epp]
  refine iteF ?_
  have xc := xb.same s'
  have rc := rb.same s'
  have mc := s' _ _ mb
  clear xb rb mb s' n' r' hp' epp hj4
  refine ⟨_, rfl, by show 0 ≤ sizeLine; decide, fun L8 n8 => ?_⟩
  have s8 : Same H' (upd H' L8 (.lst [])) := same_upd n8
  have xd := xc.same s8
  have rd := rc.same s8
  have md := s8 _ _ mc
  have r8 : RowsAt (upd H' L8 (.lst [])) L8 [] := ⟨upd_same, (fun q hq => by cases hq), (fun q hq => by cases hq)⟩
  refine ne_rows rd r8 ⟨_, rfl, ?_⟩
  generalize upd H' L8 (.lst []) = Hd at xd rd md r8 ⊢
  clear xc rc mc s8 n8 r8
  cases gs with
  | nil =>
    refine iteF ?_
    exact hnx _ _ ⟨_, d1, dc1, p, dx, B, W, _, _, _, _, _, _, _, _, _, _, _, _, _, _, _, _, _, rfl, xd, by omega⟩
  | cons q r =>
    refine iteT ?_
    obtain ⟨v, v0, v1, hv⟩ := (okg q (by simp)).1
    have nLD : L ≠ D := fun e => by
      have z := rd.lst
      rw [e, xd.dice] at z
      cases z
    have nD2D : D2 ≠ D := fun e => by
      rw [e, xd.dice] at md
      cases md
    obtain ⟨r0, r1⟩ := roll_range dc1 (m := 64) (by decide)
    refine ⟨_, rfl, D, dc1, 64, rfl, xd.dice, by decide, by decide, ?_⟩
    have sx : SameX D Hd (upd Hd D (.lst (roll dc1 64).2.vs)) := SameX.upd
    have xe := xd.rolled sx upd_same
    have re := rd.dice xd.dice nLD sx
    have me := sx _ _ nD2D md
    generalize upd Hd D (.lst (roll dc1 64).2.vs) = He at xe re me ⊢
    generalize (roll dc1 64).2 = dc2 at xe
    generalize (roll dc1 64).1 = pl at r0 r1 ⊢
    obtain ⟨n, rfl⟩ : ∃ n : Nat, pl = (n : Int) := ⟨pl.toNat, by omega⟩
    have hn : n < 64 := by omega
    clear xd rd md sx nLD nD2D r0 r1
    have hq := re.dat q (by simp)
    have lx : q.2.length = 64 := (okg q (by simp)).1.len
    refine ⟨_, rfl, D2, _, _, _, rfl, rfl, SqL.of me, at_hd _ _, _, rfl, _, rfl, q.1.2.2, _, rfl, SqT.of hq, ?_, fun p1 n1 => ?_⟩
    · rw [HT.sIx_nat, List.length_map, lx]
      rintro ⟨_, z⟩
      have : min n 64 = 64 := z
      omega
    rw [cut_take (by omega)]
    have s1 : Same He (upd He p1 (.tup ((q.2.take n).map V.int))) := same_upd n1
    have hp1 : (upd He p1 (.tup ((q.2.take n).map V.int))) p1 = some (tupI (q.2.take n)) := upd_same
    generalize upd He p1 (.tup ((q.2.take n).map V.int)) = H1' at s1 hp1 ⊢
    have hq1 := s1 _ _ hq
    have me1 := s1 _ _ me
    have hat : (q.2.map V.int)[n]? = some (V.int v) := by
      rw [List.getElem?_map, hv, List.getElem?_replicate_of_lt hn]
      rfl
    refine ⟨_, rfl, D2, _, _, _, rfl, rfl, SqL.of me1, at_hd _ _, _, rfl, q.1.2.2, _, _, _, rfl, rfl, SqT.of hq1, atI_nat hat, _, _, rfl, rfl, _, _, rfl, rfl, (by show (0 : Int) < 256; decide), by show 1 ≤ sizeLine; decide, fun p2 n2 => ?_⟩
    have s2 : Same H1' (upd H1' p2 (.tup [.int ((v + 1) % 256)])) := same_upd n2
    refine cat_any (xs := q.2.take n) (ys := [(v + 1) % 256]) (s2 _ _ hp1) upd_same (by rw [List.length_take]; show _ + 1 ≤ 1000; omega) fun H3' p3 s3 h3 => ?_
    have s13 := (s1.trans s2).trans s3
    refine ⟨_, rfl, D2, _, _, _, rfl, rfl, SqL.of (s13 _ _ me), at_hd _ _, _, rfl, addC (k := ((n + 1 : Nat) : Int)) (by omega) ⟨_, rfl, q.1.2.2, _, rfl, SqT.of (s13 _ _ hq), ?_, fun p4 n4 => ?_⟩⟩
    · rw [HT.sIx_nat, List.length_map, lx]
      rintro ⟨z, _⟩
      have : min (n + 1) 64 = 0 := z
      omega
    rw [cut_drop (by omega)]
    have s4 : Same H3' (upd H3' p4 (.tup ((q.2.drop (n + 1)).map V.int))) := same_upd n4
    refine cat_any (xs := q.2.take n ++ [(v + 1) % 256]) (ys := q.2.drop (n + 1)) (s4 _ _ h3) upd_same (by rw [List.length_append, List.length_take, List.length_drop]; show _ + 1 + _ ≤ 1000; omega) fun H5' p5 s5 h5' => ?_
    have s15 := (s13.trans s4).trans s5
    have xf := xe.same s15
    clear s1 s2 s3 s4 s5 s13 n1 n2 n4 hp1 h3 hq1 me1 xe
    -- written
    have lb : (q.2.take n ++ [(v + 1) % 256] ++ q.2.drop (n + 1)).length = 64 := by
      rw [List.length_append, List.length_append, List.length_take, List.length_drop]
      show _ + 1 + _ = 64
      omega
    refine ⟨_, rfl, p, dx, _, rfl, xf.dev.ins, rfl, _, rfl, ?_⟩
    refine spW_calm xf.dev (by omega) c1 h5' ⟨lb, by decide, by decide⟩ fun Hf d2 b2 Df c2 => ?_
    have xg := xf.bar b2 (.inl rfl) Df
    clear xf b2 Df
    refine ⟨_, rfl, fun j2 jx2 nj2 njx2 njj2 => ⟨j2, jx2, p, rfl, upd_same, ⟨rfl, ?_⟩⟩⟩
    have s8 : Same Hf (upd (upd (upd Hf jx2 (.own j2)) j2 (.ins CJ jx2 [])) j2 (.ins CJ jx2 (fsJ p 0))) := made_J nj2 njx2
    have hj8 : JAt CJ (upd (upd (upd Hf jx2 (.own j2)) j2 (.ins CJ jx2 [])) j2 (.ins CJ jx2 (fsJ p 0))) j2 jx2 p 0 := upd_same
    generalize upd (upd (upd Hf jx2 (.own j2)) j2 (.ins CJ jx2 [])) j2 (.ins CJ jx2 (fsJ p 0)) = H8 at s8 hj8 ⊢
    have x8 := xg.same s8
    have e1' : d2.rd 1 = hd 7 (rowNs (q :: r)) (dss (q :: r)) := by
      unfold AD.rd
      rw [c2.2.2.2, lastA_snoc, if_neg (by decide), lastA_snoc, if_pos rfl]
      rfl
    have ed' : datL d2 (rowNs (q :: r)).length = (q.2.take n ++ [(v + 1) % 256] ++ q.2.drop (n + 1)) :: dss r := by
      refine datL_eq (by unfold rowNs dss; rw [List.length_map, List.length_cons, List.length_cons, List.length_map]) fun i x hx => ?_
      unfold AD.rd
      rw [c2.2.2.2, lastA_snoc]
      cases i with
      | zero =>
        obtain rfl := Option.some.inj hx
        rw [if_pos (show (2 : Int) = ((2 + 0 : Nat) : Int) from rfl)]
        rfl
      | succ i =>
        rw [if_neg (by omega), lastA_snoc, if_neg (by omega), lastA_dwk (q :: r) 2 (q :: r).length (i + 1) x rfl hx]
        rfl
    have hne : sumI (startI 7 (rowNs (q :: r)) ++ (datL d2 (rowNs (q :: r)).length).flatten) ≠ sumI (startI 7 (rowNs (q :: r)) ++ (dss (q :: r)).flatten) := by
      rw [ed']
      intro z
      have z := sumI_sum z
      have bs := bent_sum (v := v) hn ((v + 1) % 256)
      rw [← hv] at bs
      have sum3 : ∀ (a b : List Int) (c : List (List Int)), (a ++ (b :: c).flatten).sum = a.sum + (b.sum + c.flatten.sum) := fun a b c => by rw [List.sum_append, List.flatten_cons, List.sum_append]
      rw [show dss (q :: r) = q.2 :: dss r from rfl, sum3, sum3] at z
      omega
    refine ⟨j2, jx2, _, rfl, hj8, rfl, j2, jx2, p, dx, 0, _, d2, B, W, rfl, hj8, x8.dev, by omega, (fun z => by rw [c2.1] at z; cases z), fun _ => .inr ⟨7, rowNs (q :: r), _, e1', rfl, ln, by decide, by decide, num, fun _ H9 L9 s9 n9 r9 => ?_, fun z => absurd z hne⟩⟩
    refine ⟨by show 0 ≤ sizeLine; decide, fun LA nA => ?_⟩
    have sA : Same H9 (upd H9 LA (.lst [])) := same_upd nA
    refine ne_rows (gs := []) (hs := []) (r9.same sA) ⟨upd_same, (fun q hq => by cases hq), (fun q hq => by cases hq)⟩ ⟨_, rfl, iteF ?_⟩
    exact hnx _ _ ⟨_, d2, dc2, p, dx, B, W, _, _, _, _, _, _, _, _, _, _, _, _, _, _, _, _, _, rfl, (x8.same s9).same sA, by omega⟩
end
end K02
namespace K02
open PySem L2 HK
abbrev lastBody : List Stmt := lawBody.drop 19
section
variable {P : Program} {w : World} {K : PySem.W.Frag} {mg : Str → Option Value} {base : Heap} {C CE CJ CJE g : Addr}
theorem wr_bad {p' dx' B' W' t' : Addr} {H' : Hp} {xs : List V} (hp : H' p' = some (.ins C dx' (fsD ⟨64, 2, .non, false, 0⟩ B' W'))) (hW : H' W' = some (.lst [])) (ht : H' t' = some (.tup xs)) (hl : xs.length ≠ 64) {G : VK} {E : XK} (bad : E (.ref CE) none H') : spWrite K C CE [.ref p', .int 0, .ref t'] H' G E := by
  have nok : ¬ ((xs.length : Int) = (64 : Int) ∧ (0 : Int) ≤ 0 ∧ (0 : Int) < 2) := fun z => hl (by omega)
  exact ⟨p', dx', ⟨64, 2, .non, false, 0⟩, B', W', 0, t', xs, [], rfl, hp, SqT.of ht, ⟨hW, fun e he => by cases he⟩, by decide, .inl rfl, fun _ => bad, fun _ => bad, fun z => absurd z nok, fun z => absurd z nok⟩
theorem last_ok (L : LTxt P w K mg base C CE CJ CJE g) {f c PT : Addr} {A : Around} {outer : List Env} {s : Shared} {H0 : Hp} {E0 : XK} (TB : LamX.TabB base mg c PT) (hr : Room 9 (LX P w K mg base f c A outer s H0 E0).A) :
    ∃ t, PSs (LX P w K mg base f c A outer s H0 E0) lastBody t ∧ ∀ (R a D : Addr) (Dn : Ends) (σ : L2.St) (H : Hp), WF C R PT a D σ H → (∀ σ' H', WF C R PT a D σ' H' → Dn.nx σ' H') → t Dn σ H := by
  obtain ⟨f3, d3, F3, m3, k3, b3⟩ := L.roll
  obtain ⟨fI, dI, FI, FIA, MI, ds, vds, bI⟩ := L.init
  obtain ⟨fW, dW, FW, FWA, mW, bW⟩ := L.write
  obtain ⟨fR, dR, FR, mR, bR⟩ := L.read
  have T := L.D
  have J := L.J
  have l11 := L.e11
  have r3 := F3.mono (show 1 ≤ 9 by decide)
  have rI7 := FI.mono (show 1 ≤ 6 by decide)
  have rW7 := FW.mono (show 3 ≤ 7 by decide)
  have rR7 := FR.mono (show 2 ≤ 7 by decide)
  refine ⟨_, pss_cons (ps_set (i := 17) scLaw.nd rfl (Or.inr rfl) (pe_call r3 hr (by rfl) m3 k3 b3 .nil pass0 (pa_cons (pv 1) (pa_cons pe_int pa_nil))))
    (pss_one (ps_if (PW.pt (pw_or (pt_cmpR op_ne (pe_told (k := 7) L.told TB rfl (by rfl) hr (LamX.lamS_by (sc := defScope sLaw) (by decide +kernel)) rfl (fun _ _ _ _ _ => rfl)
          (fun A1 o1 s1 H1 E1 f1 c1 hr7 => pe_meth (pv 2) T.cl mR rR7 hr7 bR .nil (passes_call (takes_of rfl rfl rfl rfl) (fun _ _ _ _ h => h)) (pa_cons pe_int pa_nil))) pe_str (nomark _))
        (pw_or1 (pt_cmpR op_ne (pe_told (k := 7) L.told TB rfl (by rfl) hr (LamX.lamS_by (sc := defScope sLaw) (by decide +kernel)) rfl (fun _ _ _ _ _ => rfl)
          (fun A1 o1 s1 H1 E1 f1 c1 hr7 => pe_meth (pe_make MI rI7 hr7 (by rfl) T.gC bI vds pass0 (pa_cons pe_int (pa_cons pe_int pa_nil))) T.cl mW rW7 hr7 bW .nil (passes_call (takes_of rfl rfl rfl rfl) (fun _ _ _ _ h => h))
            (pa_cons pe_int (pa_cons (pe_op (r := HZR.rRepA K) (by exact HZR.op_repA) (pe_tup (pa_cons pe_int pa_nil)) (pe_op op_mod (pv 17) pe_int)) pa_nil)))) pe_str (nomark _))))) (pss_one (ps_ret pe_bl)) pss_nil)), ?_⟩
  intro R a D Dn σ H hWF hnx
  obtain ⟨N, d, dc, p, dx, B, W, u3, u4, u5, u6, u7, u8, u9, u10, u11, u12, u13, u14, u15, u16, u17, u18, u19, rfl, x, hN⟩ := hWF
  obtain ⟨r0, r1⟩ := roll_range dc (m := 64) (by decide)
  refine ⟨_, rfl, D, dc, 64, rfl, x.dice, by decide, by decide, ?_⟩
  have x1 := x.rolled (dc' := (roll dc 64).2) SameX.upd upd_same
  generalize upd H D (.lst (roll dc 64).2.vs) = H1 at x1 ⊢
  generalize (roll dc 64).2 = dc1 at x1
  generalize (roll dc 64).1 = pl at r0 r1 ⊢
  clear x
  refine ⟨x1.tabs, fun H2 e2 t2 => ?_⟩
  have x2 := x1.ext e2 t2
  clear x1 e2 t2
  refine ⟨_, rfl, p, dx, _, rfl, x2.dev.ins, rfl, ⟨p, dx, B, W, N, d, 16, rfl, x2.dev, by omega, fun _ => ?K, fun _ => ?K2, fun _ z => absurd z.2 (by decide)⟩⟩
  case K | K2 =>
    refine ⟨true, l11, fun _ => ?_, (fun z => by cases z)⟩
    refine ⟨rfl, _, rfl, ite2 (fun z => absurd z (by decide +kernel)) (fun _ => ?_)⟩
    refine ⟨x2.tabs, fun H3 e3 t3 => ?_⟩
    have x3 := x2.ext e3 t3
    clear x2 e3 t3
    refine fun p' dx' np ndx npd => ⟨p', dx', 64, 2, .non, [], rfl, upd_same, .inl ⟨rfl, rfl⟩, fun B' W' H4 nB nW nBW o hp hB hW => ⟨rfl, ?_⟩⟩
    obtain ⟨s4, nB', nW'⟩ := made_dev np ndx nB nW o
    have x4 := x3.same s4
    refine ⟨p', dx', _, rfl, hp, rfl, by show 1 ≤ sizeLine; decide, fun t nt => ?_⟩
    have s5 : Same H4 (upd H4 t (.tup [.int 1])) := same_upd nt
    refine ⟨_, rfl, _, _, rfl, rfl, (by show (0 : Int) < 64; decide), t, _, [.int 1], rfl, rfl, SqT.of upd_same, (fun z => by cases z), by omega, by omega, by decide, fun e => ?_, fun e p2 n2 => ?_⟩
    · refine wr_bad (s5 _ _ hp) (s5 _ _ hW) upd_same (by decide) ?_
      refine ⟨true, l11, fun _ => ?_, (fun z => by cases z)⟩
      refine ⟨rfl, _, rfl, ite2 (fun z => absurd z (by decide +kernel)) (fun _ => ?_)⟩
      exact hnx _ _ ⟨N, d, dc1, p, dx, B, W, _, _, _, _, _, _, _, _, _, _, _, _, _, _, _, _, _, rfl, x4.same s5, hN⟩
    · have s6 := s5.trans (same_upd (o := .tup (List.replicate (pl % 64).toNat [V.int 1]).flatten) n2)
      refine wr_bad (s6 _ _ hp) (s6 _ _ hW) upd_same (by rw [flat_rep, List.length_replicate]; omega) ?_
      refine ⟨true, l11, fun _ => ?_, (fun z => by cases z)⟩
      refine ⟨rfl, _, rfl, ite2 (fun z => absurd z (by decide +kernel)) (fun _ => ?_)⟩
      exact hnx _ _ ⟨N, d, dc1, p, dx, B, W, _, _, _, _, _, _, _, _, _, _, _, _, _, _, _, _, _, rfl, x4.same s6, hN⟩
end
end K02
namespace K02
open PySem L2 HK
theorem execs_app (env : Env) (b : List Stmt) : ∀ a : List Stmt, execs (a ++ b) env = (execs a env >>= fun f => match f with | .next => execs b env | f => pure f)
  | [] => rfl
  | s :: r => by
    rw [List.cons_append, execs_cons, execs_cons, bind_assoc]
    refine congrArg (fun k => exec s env >>= k) (funext fun f => ?_)
    cases f with
    | next => exact execs_app env b r
    | _ => rfl
theorem pss_app {X : Cx} {a b : List Stmt} {t u : TS} (h1 : PSs X a t) (h2 : PSs X b u) : PSs X (a ++ b) (tSeq t u) := by
  refine ⟨fun pins s σ H D I h => ?_⟩
  rw [execs_app]
  refine wpAny_bind (thn (h1.run pins s σ H { D with nx := u D } I h) fun f s1 q => ?_)
  cases f with
  | next =>
    obtain ⟨σ', H', I', q⟩ := q
    exact h2.run pins s1 σ' H' D I' q
  | _ => exact wpAny_pure q
end K02
namespace K02
open PySem L2 HK
def spLaw (K : PySem.W.Frag) (P : Addr) : Sp := fun vs H Q _ => ∃ (a : Addr) (ns : List Int), vs = [.ref a] ∧ SqL K H a (ns.map V.int) ∧ LamX.Tabs [(P, lamQ)] H ∧ ∀ H', Q (.bl true) H'
theorem law_cut : lawBody.drop 7 = foundBody ++ (packBody ++ lastBody) := rfl
section
variable {P : Program} {w : World} {K : PySem.W.Frag} {mg : Str → Option Value} {base : Heap} {C CE CJ CJE g : Addr}
theorem for_itB {J : It} {n : Nat} {G : Hp → Prop} {Y : Nat → Hp → V → Hp → Prop} (w : Walk J n G Y) {g : TG} {tb : TS} {D : Ends} {σ : L2.St} {H : Hp} (Post : L2.St → Hp → Prop) (hp : ∀ σ H, Post σ H → D.nx σ H) (Pv : Nat → L2.St → Hp → Prop) (h0 : Pv 0 σ H) (hG : ∀ i σ H, i ≤ n → Pv i σ H → G H)
    (hs : (∀ σ H, Post σ H → D.nx σ H) → ∀ i x σ H H', i < n → Pv i σ H → Y i H x H' → g x σ H' fun σ2 H2 => tb { D with nx := Pv (i + 1), ct := Pv (i + 1), bk := D.nx } σ2 H2) (hd : ∀ σ H, Pv n σ H → Post σ H) :
    ∃ W : Nat → Nat → L2.St → Hp → Prop, (∃ m, W 0 m σ H) ∧ ∀ i m σ H, W i m σ H →
      (J.stop i H ∧ D.nx σ H) ∨ (J.go i H ∧ ∃ N : L2.St → Hp → Prop, (∀ σ' H', N σ' H' → ∃ m', m' < m ∧ W (i + 1) m' σ' H') ∧ ∀ x H', J.yld i H x H' → g x σ H' fun σ2 H2 => tb { D with nx := N, ct := N, bk := D.nx } σ2 H2) :=
  for_it w Pv h0 hG (hs hp) fun σ H h => hp σ H (hd σ H h)
theorem ok_law {f c PT : Addr} {oc kV doc pm ct : Value} {od an : Option Addr} {osl : Array (Option Value)}
    (lk : K.lookup f = some ⟨oc, od, .func (PySem.W.fnOf "law" "law" (defArgs sLaw) (defBody sLaw) (defScope sLaw) .none kV doc pm an (.ref c) ct), osl⟩) (hcd : PySem.W.codeIn K (.ref c) "law" = true) (TB : LamX.TabB base mg c PT) (L : LTxt P w K mg base C CE CJ CJE g) :
    FnOk P w K mg base L2.CX0 10 f (PySem.W.fnOf "law" "law" (defArgs sLaw) (defBody sLaw) (defScope sLaw) .none kV doc pm an (.ref c) ct) ["script"] (spLaw K PT) := by
  obtain ⟨f2, d2, F2, m2, k2, b2⟩ := L.rounds
  obtain ⟨f3, d3, F3, m3, k3, b3⟩ := L.roll
  obtain ⟨fI, dI, FI, FIA, MI, ds, vds, bI⟩ := L.init
  obtain ⟨fJ, dJ, FJ, MJ, bJ⟩ := L.jinit
  obtain ⟨fM, dM, FM, mM, bM⟩ := L.room
  obtain ⟨fV, dV, FV, mV, kV', bV⟩ := L.hroom
  obtain ⟨fA, dA, FA, mA, bA⟩ := L.arm
  obtain ⟨fN, dN, FN, mN, kN, bN⟩ := L.again
  have T := L.D
  have J := L.J
  have r2 := F2.mono (show 2 ≤ 9 by decide)
  have r3 := F3.mono (show 1 ≤ 9 by decide)
  have rIA := FIA.mono (show 1 ≤ 8 by decide)
  have rJ8 := FJ.mono (show 1 ≤ 8 by decide)
  have rM := FM.mono (show 2 ≤ 9 by decide)
  have rV := FV.mono (show 1 ≤ 9 by decide)
  have rA := FA.mono (show 1 ≤ 9 by decide)
  have rN := FN.mono (show 4 ≤ 9 by decide)
  refine fn_of lk hcd scLaw (fun vs H Q E h => ?_) (fun A outer s H vs Q E hr h => ?_)
  · obtain ⟨a, ns, rfl, _⟩ := h
    rfl
  · obtain ⟨a, ns, rfl, ha, hT, k⟩ := h
    suffices hX : ∃ t, PSs (cxOf L2.CX0 P w K mg base NL "law" (defScope sLaw) f (.ref c) A outer s H E).nox (defBody sLaw) t ∧ t { nx := fun _ H' => Q .non H', rt := Q } (L2.start NL [.ref a]) H by
      obtain ⟨t, h1, h2⟩ := hX
      exact ⟨t, h1.nox, h2⟩
    have hr : Room 9 (cxOf L2.CX0 P w K mg base NL "law" (defScope sLaw) f (.ref c) A outer s H E).nox.A := hr
    obtain ⟨tt, htt, qt⟩ := turn_ok (s := s) (H0 := H) (E0 := E) L TB hr
    obtain ⟨ta, hta, qa⟩ := again_ok (s := s) (H0 := H) (E0 := E) L TB hr
    obtain ⟨tf, htf, qf⟩ := found_ok (s := s) (H0 := H) (E0 := E) L TB hr
    obtain ⟨tp, htp, qp⟩ := pack_ok (s := s) (H0 := H) (E0 := E) L TB hr
    obtain ⟨tl, htl, ql⟩ := last_ok (s := s) (H0 := H) (E0 := E) L TB hr
    have hrest : PSs (LX P w K mg base f c A outer s H E) (lawBody.drop 7) (tSeq tf (tSeq tp tl)) := by
      rw [law_cut]
      exact pss_app htf (pss_app htp htl)
    refine ⟨_, pss_cons (ps_for PassesOwn.never rfl (pi_list (pe_call r2 hr (by rfl) m2 k2 b2 .nil pass0 (pa_cons (pv 0) (pa_cons pe_int pa_nil)))) (pg_name (i := 1) scLaw.nd rfl (Or.inl rfl))
        (pss_cons (ps_set (i := 2) scLaw.nd rfl (Or.inr rfl) (pe_make MI rIA hr (by rfl) T.gC bI vds pass0 (pa_cons pe_int (pa_cons pe_int pa_nil))))
        (pss_cons (ps_asg (pe_tup (pa_cons (pe_make MJ rJ8 hr (by rfl) J.gC bJ .nil pass0 (pa_cons (pv 2) (pa_cons pe_int (pa_cons pe_int pa_nil)))) (pa_cons pe_dnewK (pa_cons pe_dnewK pa_nil))))
            (pg_tup rfl (pgs_cons (pg_name (i := 3) scLaw.nd rfl (Or.inr rfl)) (pgs_cons (pg_name (i := 4) scLaw.nd rfl (Or.inl rfl)) (pgs_cons (pg_name (i := 5) scLaw.nd rfl (Or.inl rfl)) pgs_nil)))))
        (pss_cons (ps_if (PW.pt (pw_or (pt_cmpR op_ne (pe_meth0 (pv 3) J.cl mM rM hr bM .nil pass0) pe_int (nomark _)) (pw_or1 (pt_cmpR op_ne (pe_call rV hr (by rfl) mV kV' bV .nil pass0 (pa_cons pe_int (pa_cons pe_int pa_nil))) pe_int (nomark _))))) (pss_one (ps_ret pe_bl)) pss_nil)
        (pss_cons (ps_expr (pe_meth (pv 2) T.cl mA rA hr bA .nil pass0 (pa_cons (pe_ix ix_list (pe_lst (pa_cons (pe_call r3 hr (by rfl) m3 k3 b3 .nil pass0 (pa_cons (pv 1) (pa_cons pe_int pa_nil))) (pa_cons pe_non pa_nil))) (pe_call r3 hr (by rfl) m3 k3 b3 .nil pass0 (pa_cons (pv 1) (pa_cons pe_int pa_nil))) (fun _ _ => rfl)) pa_nil)))
        (pss_cons (ps_for PassesOwn.never rfl (pi_range1 (by rfl) J.range (pa_cons (pe_call r3 hr (by rfl) m3 k3 b3 .nil pass0 (pa_cons (pv 1) (pa_cons pe_int pa_nil))) pa_nil)) (pg_name (i := 6) scLaw.nd rfl (Or.inl rfl)) htt)
        (pss_cons (ps_set (i := 12) scLaw.nd rfl (Or.inr rfl) (pe_call rN hr (by rfl) mN kN bN .nil pass0 (pa_cons (pv 1) (pa_cons (pv 2) pa_nil))))
        (pss_cons (ps_for PassesOwn.never rfl (pi_range1 (by rfl) J.range (pa_cons (pe_call r3 hr (by rfl) m3 k3 b3 .nil pass0 (pa_cons (pv 1) (pa_cons pe_int pa_nil))) pa_nil)) (pg_name (i := 6) scLaw.nd rfl (Or.inl rfl)) hta) hrest))))))))
      (pss_one (ps_ret pe_bl)), ?_⟩
    refine ⟨_, rfl, a, ns, rfl, ha, fun H1 R D s1 nR nD nRD hR hD => ?_⟩
    refine ⟨R, rfl, ⟨_, SqL.of hR⟩, ?_⟩
    generalize mkDice (cell0 ns) = dc0 at hD
    refine for_list (K := K) (a := R) (xs := [.ref D]) (fun i σ H' => H' R = some (.lst [.ref D]) ∧ (i = 0 → σ = L2.start NL [.ref a] ∧ H' = H1)) ⟨hR, fun _ => ⟨rfl, rfl⟩⟩ (fun i σ H' hi q => SqL.of q.1) (fun i x σ H' hx q => ?_) (fun σ H' q => ?_)
    · match i, hx with
      | 0, hx =>
      obtain rfl : V.ref D = x := Option.some.inj hx
      obtain ⟨rfl, rfl⟩ := q.2 rfl
      refine fun p dx np ndx npd => ⟨p, dx, rfl, upd_same, fun B W H2 nB nW o D2 => ⟨rfl, ?_⟩⟩
      obtain ⟨s2, nB', nW'⟩ := made_dev np ndx nB nW o
      have x2 : Ws C R PT D p dx B W 0 AD.new dc0 H2 := ⟨s2 _ _ hD, s2 _ _ hR, (hT.ext s1).ext s2, D2, nRD.symm, ne_of_none hD nW', ne_of_none hR nW'⟩
      clear q hx hD hR nD nR hT ha np ndx npd nB nW o D2 s2 nB' nW'
      refine ⟨_, rfl, fun j jx nj njx njj => ⟨j, jx, p, rfl, upd_same, ⟨rfl, ?_⟩⟩⟩
      have s3 : Same H2 (upd (upd (upd H2 jx (.own j)) j (.ins CJ jx [])) j (.ins CJ jx (fsJ p 0))) := made_J nj njx
      have hj3 : JAt CJ (upd (upd (upd H2 jx (.own j)) j (.ins CJ jx [])) j (.ins CJ jx (fsJ p 0))) j jx p 0 := upd_same
      have njp : j ≠ p := (ne_of_none x2.dev.ins nj).symm
      generalize upd (upd (upd H2 jx (.own j)) j (.ins CJ jx [])) j (.ins CJ jx (fsJ p 0)) = H3 at s3 hj3 ⊢
      have x3 := x2.same s3
      clear x2 s3 nj njx njj
      refine fun Kp nKp Lp nLp => ⟨by show 3 ≤ sizeLine; decide, fun t nt => ?_⟩
      have s4 : Same H3 (upd H3 Kp (.dK [])) := same_upd nKp
      have s5 : Same (upd H3 Kp (.dK [])) (upd (upd H3 Kp (.dK [])) Lp (.dK [])) := same_upd nLp
      have s6 := same_upd (o := .tup [.ref j, .ref Kp, .ref Lp]) nt
      have hB3 : ∃ kvs, H3 B = some (.dK kvs) := by
        obtain ⟨i, nf, kvs, es, hB, _⟩ := x3.dev
        exact ⟨kvs, hB⟩
      obtain ⟨kB, hB3⟩ := hB3
      have cz : ∀ H', Cont H' 64 [] (fun _ => List.replicate 64 0) := fun H' => ⟨fun n => List.length_replicate, fun n => .inl ⟨rfl, rfl⟩⟩
      refine ⟨t, _, rfl, SqT.of upd_same, rfl, _, _, rfl, _, _, rfl, _, _, rfl, rfl, ?_⟩
      have x6 := ((x3.same s4).same s5).same s6
      have hj6 := s6 _ _ (s5 _ _ (s4 _ _ hj3))
      have k6 : KD _ B 0 Kp _ := ⟨⟨[], s6 _ _ (s5 _ _ upd_same), Nat.le_refl 0, cz _⟩, ne_of_none hB3 nKp⟩
      have l6 : KD _ B 0 Lp _ := ⟨⟨[], s6 _ _ upd_same, Nat.le_refl 0, cz _⟩, ne_of_none (s4 _ _ hB3) nLp⟩
      generalize upd (upd (upd H3 Kp (.dK [])) Lp (.dK [])) t (.tup [.ref j, .ref Kp, .ref Lp]) = H6 at x6 hj6 k6 l6 ⊢
      clear x3 s4 s5 s6 hj3 hB3 nKp nLp nt
      refine ⟨_, rfl, j, jx, _, rfl, hj6, rfl, j, jx, p, dx, 0, 0, AD.new, B, W, rfl, hj6, x6.dev, rfl, _, rfl, ite2 (fun z => absurd z (by decide)) (fun _ => ?_)⟩
      refine .inr ⟨rfl, rfl, _, rfl, ite2 (fun z => absurd z (by decide)) (fun _ => ?_)⟩
      -- armed
      refine ⟨_, rfl, p, dx, _, rfl, x6.dev.ins, rfl, _, rfl, D, dc0, 40, rfl, x6.dice, by decide, by decide, by show 2 ≤ sizeLine; decide, fun l nl => ?_⟩
      have x7 := (x6.rolled (dc' := (roll dc0 40).2) SameX.upd upd_same).same (same_upd (o := .lst [.int (roll dc0 40).1, .non]) nl)
      have mv7 := x6.mvD (H' := upd H6 D (.lst (roll dc0 40).2.vs)) SameX.upd
      have hj7 := (same_upd (o := .lst [.int (roll dc0 40).1, .non]) nl) _ _ (mv7.2 _ _ hj6 (by simp [ne_of hj6 x6.dice (by intro z; cases z)]))
      have k7 := (k6.mv mv7 (by simp [k6.ne_lst x6.dice])).same (same_upd (o := .lst [.int (roll dc0 40).1, .non]) nl)
      have l7 := (l6.mv mv7 (by simp [l6.ne_lst x6.dice])).same (same_upd (o := .lst [.int (roll dc0 40).1, .non]) nl)
      have hl := upd_same (H := upd H6 D (.lst (roll dc0 40).2.vs)) (a := l) (o := .lst [.int (roll dc0 40).1, .non])
      generalize upd (upd H6 D (.lst (roll dc0 40).2.vs)) l (.lst [.int (roll dc0 40).1, .non]) = H7 at x7 hj7 k7 l7 hl ⊢
      generalize (roll dc0 40).2 = dc1 at x7
      generalize (roll dc0 40).1 = fz at hl
      clear x6 hj6 k6 l6 mv7 nl
      obtain ⟨q0, q1⟩ := roll_range dc1 (m := 2) (by decide)
      refine ⟨_, rfl, D, dc1, 2, rfl, x7.dice, by decide, by decide, ?_⟩
      have nlD : l ≠ D := fun e => by rw [e, x7.dice] at hl; cases hl
      have x8 := x7.rolled (dc' := (roll dc1 2).2) SameX.upd upd_same
      have mv8 := x7.mvD (H' := upd H7 D (.lst (roll dc1 2).2.vs)) SameX.upd
      have hj8 := mv8.2 _ _ hj7 (by simp [ne_of hj7 x7.dice (by intro z; cases z)])
      have k8 := k7.mv mv8 (by simp [k7.ne_lst x7.dice])
      have l8 := l7.mv mv8 (by simp [l7.ne_lst x7.dice])
      have hl8 := mv8.2 _ _ hl (by simp [nlD])
      generalize upd H7 D (.lst (roll dc1 2).2.vs) = H8 at x8 hj8 k8 l8 hl8 ⊢
      generalize (roll dc1 2).2 = dc2 at x8
      generalize (roll dc1 2).1 = ch at q0 q1 ⊢
      clear x7 hj7 k7 l7 hl mv8 nlD
      obtain ⟨fv, hfv, hat⟩ : ∃ fv, (fv = .non ∨ ∃ n, fv = .int n) ∧ atI [V.int fz, .non] ch = some fv := by
        have : ch = 0 ∨ ch = 1 := by omega
        rcases this with rfl | rfl
        · exact ⟨_, .inr ⟨_, rfl⟩, atI_nat (j := 0) rfl⟩
        · exact ⟨_, .inl rfl, atI_nat (j := 1) rfl⟩
      refine ⟨l, _, _, _, rfl, rfl, SqL.of hl8, hat, ?_⟩
      refine ⟨p, dx, B, W, 0, AD.new, fv, rfl, hfv, x8.dev, fun H9 b9 D9 => ?_⟩
      have mv9 := Mv.bar x8.dev b9
      have x9 := x8.bar b9 (.inl rfl) D9
      have hj9 := JAt.bar hj8 x8.dev njp b9
      have k9 := k8.mv mv9 (k8.not_dev x8.dev)
      have l9 := l8.mv mv9 (l8.not_dev x8.dev)
      clear x8 hj8 k8 l8 hl8 mv9 b9 D9 hat
      -- commits
      obtain ⟨t0, t1⟩ := roll_range dc2 (m := 7) (by decide)
      refine ⟨_, rfl, D, dc2, 7, rfl, x9.dice, by decide, by decide, ?_⟩
      have x10 := x9.rolled (dc' := (roll dc2 7).2) SameX.upd upd_same
      have mv10 := x9.mvD (H' := upd H9 D (.lst (roll dc2 7).2.vs)) SameX.upd
      have hj10 := mv10.2 _ _ hj9 (by simp [ne_of hj9 x9.dice (by intro z; cases z)])
      have k10 := k9.mv mv10 (by simp [k9.ne_lst x9.dice])
      have l10 := l9.mv mv10 (by simp [l9.ne_lst x9.dice])
      generalize upd H9 D (.lst (roll dc2 7).2.vs) = H10 at x10 hj10 k10 l10 ⊢
      generalize (roll dc2 7).2 = dc3 at x10
      generalize (roll dc2 7).1 = tn at t0 t1 ⊢
      clear x9 hj9 k9 l9 mv10
      refine ⟨_, rfl, by omega, by omega, ?_⟩
      refine for_itB (walk_range (lo := 0) (n := tn.toNat)) (WB C R PT a D p dx) (fun σ H hWB => ?_) (fun i σ H' => WA C CJ R PT a D j jx p dx i σ H')
        ⟨0, 0, 0, _, dc3, B, W, Kp, Lp, _, _, _, _, _, _, _, _, _, _, _, _, _, _, _, _, rfl, x10, hj10, njp, rfl, rfl, rfl, fun _ _ _ => rfl, k10, l10, by omega, by omega, by omega, by omega⟩ (fun _ _ _ _ _ => trivial) (fun hp i y σ H' H'' hi q yy => ?_) (fun σ H' q => q.done (by omega))
      · obtain ⟨N, M, d, dc, B', W', j', Kp', Lp', g0, g1, u6, u7, u8, u9, u10, u11, u12, u13, u14, u15, u16, u17, u18, u19, rfl, xw, cok, kw, lw, hN⟩ := hWB
        refine ⟨_, rfl, _, rfl, p, dx, B', W', N, d, D, dc, rfl, xw.dev, by omega, xw.dice, xw.nDW, fun H2 p2 dx2 B2 W2 cs dc2' sx2 hd2 np2 nB2 nW2 D2 => ?_⟩
        have x2 := xw.again sx2 hd2 nW2 D2
        have k2' := kw.again xw.dice sx2 nB2
        have l2' := lw.again xw.dice sx2 nB2
        clear xw kw lw sx2 hd2 np2 nB2 nW2 D2
        obtain ⟨v0, v1⟩ := roll_range dc2' (m := 3) (by decide)
        refine ⟨_, rfl, D, dc2', 3, rfl, x2.dice, by decide, by decide, ?_⟩
        have x3 := x2.rolled (dc' := (roll dc2' 3).2) SameX.upd upd_same
        have mv3 := x2.mvD (H' := upd H2 D (.lst (roll dc2' 3).2.vs)) SameX.upd
        have k3' := k2'.mv mv3 (by simp [k2'.ne_lst x2.dice])
        have l3' := l2'.mv mv3 (by simp [l2'.ne_lst x2.dice])
        generalize upd H2 D (.lst (roll dc2' 3).2.vs) = H3' at x3 k3' l3' ⊢
        generalize (roll dc2' 3).2 = dc3' at x3
        generalize (roll dc2' 3).1 = vn at v0 v1 ⊢
        clear x2 k2' l2' mv3
        refine ⟨_, rfl, by omega, by omega, ?_⟩
        refine for_it (walk_range (lo := 0) (n := vn.toNat)) (fun i σ H' => WC C R PT a D i σ H')
          ⟨N, M, d.found cs, dc3', p2, dx2, B2, W2, Kp', Lp', g0, g1, _, _, _, _, _, _, _, _, _, _, _, _, _, _, _, rfl, x3, rfl, rfl, rfl, cok cs, k3', l3', by omega⟩ (fun _ _ _ _ _ => trivial) (fun i y σ H' H'' hi q yy => ?_) (fun σ H' q => ?_)
        · obtain ⟨rfl, rfl⟩ := yy
          obtain ⟨N, M, d, dc, p, dx, B, W, Kp, Lp, g0, g1, u2, u3, u6, u7, u8, u9, u10, u11, u13, u14, u15, u16, u17, u18, u19, rfl, rest⟩ := q
          exact qa R a D _ i _ _ (by omega) ⟨N, M, d, dc, p, dx, B, W, Kp, Lp, g0, g1, u2, u3, _, u7, u8, u9, u10, u11, u13, u14, u15, u16, u17, u18, u19, rfl, rest⟩ (fun _ _ h => h)
        · refine qf R a D _ _ σ H' (by omega) q fun σ2 H4 h4 => ?_
          refine qp R a D _ σ2 H4 h4 fun σ3 H5 h5 => ?_
          refine ql R a D _ σ3 H5 h5 fun σ4 H6' h6 => ?_
          obtain ⟨_, _, _, _, _, _, _, _, _, _, _, _, _, _, _, _, _, _, _, _, _, _, _, _, _, xl, _⟩ := h6
          exact ⟨xl.row, fun z => by cases z⟩
      · obtain ⟨rfl, rfl⟩ := yy
        obtain ⟨sr, N, M, d, dc, B', W', Kp', Lp', g0, g1, u6, u7, u8, u9, u10, u11, u12, u13, u14, u15, u16, u17, u18, u19, rfl, rest⟩ := q
        exact qt R a D j jx p dx _ i _ _ (by omega) ⟨sr, N, M, d, dc, B', W', Kp', Lp', g0, g1, _, u7, u8, u9, u10, u11, u12, u13, u14, u15, u16, u17, u18, u19, rfl, rest⟩ (fun _ _ h => h) (fun σ' H' h => hp σ' H' h)
      | i + 1, hx => cases hx
    · exact k H'
end
end K02
namespace HK
open PySem PySem.Spec PyProof.Rows L2 LamX
theorem tabIn_of {K : PySem.W.Frag} {x : Str} {f c P : Addr} {fd : FuncData} {oc c1 : Value} {od c2 : Option Addr} {sl c3 : Array (Option Value)} {vs : Array Value} (a : PySem.W.nsIn K mainGlobals x = some (some (.ref f))) (l : K.lookup f = some ⟨oc, od, .func fd, sl⟩) (hc : fd.code = .ref c)
    (lc : K.lookup c = some ⟨c1, c2, .fields vs, c3⟩) (hv : vs[11]? = some (.ref P)) : PySem.W.tabIn K x = some (c, P) := by
  unfold PySem.W.tabIn
  rw [a]
  dsimp only
  rw [l]
  dsimp only
  rw [hc]
  dsimp only
  rw [lc]
  dsimp only
  rw [hv]
/-- the end of a law's row, the law's own table of code objects told -/
theorem walk_TT {l : PySem.W.OpenLaw} {n k : Nat} {q : Program} {loose : List Str} {XP : (Str → Option Value) → Heap → Prop} {YP : World → Heap → Prop} {d : DefRec} {K : Params → PySem.W.Frag} {CX : World → CXT} {x : Str}
    (hn : l.most = some n) (hn2 : n ≤ sizeLine) (hdf : d.params.defaults = []) (hr : Room k callerA) (hY : ∀ (w : World) (h : Heap), YP w h → (K w.params).In h) (hrec : (recsOf q).find? (fun e => e.name == d.name) = some d)
    (F : ∀ (w : World) (mg : Str → Option Value) (fa : Addr) (h : Heap), (∀ c P, PySem.W.tabIn (K w.params) d.name = some (c, P) → PySem.W.CodeHd h c P ∧ h.get? P = some ({ cls := .none, data := .fields #[] } : Obj)) → (K w.params).In h → h.Ns mainGlobals mg → mg d.name = some (.ref fa) → LawAtS l w (K w.params) (CX w) k n x mg fa h)
    (hCX : ∀ (w : World) (H : Hp) (s : Shared) (e : Value) (s' : Shared), CX w [] H s (fun _ _ _ => False) e s' → False) :
    PySem.W.WalkO q loose XP YP l.row.toRowW d [] (fun f vs => PySem.call f vs) := by
  refine Att.attach_callB hn hdf fun w s0 s1 mg mb fa o pm cd doc a vs ns G Y ho hd hcd hmg hobj hints hlen hbits hg => ?_
  have KX := hY w _ Y
  obtain ⟨fd, cs, sp, hT, nT, C, hb, hsp, hF⟩ := F w mg fa _ (fun c P ht => PySem.W.tab_of G.T KX hrec ht) KX G.T.g hmg
  exact law_callTs KX G.T.g G.T.b G.T.builtins G.T.nolimit hg hT nT C G.T.bmain hobj hints (Nat.le_trans hlen hn2) hr hF hb (fun H hH hS => hsp H a ns hlen hbits hH hS) fun H e s' => hCX w H s1 e s'
theorem exm_same {K : PySem.W.Frag} {C : Addr} (h1 : PySem.W.subIn K (.ref C) (.type "BaseException") = some true) (h2 : PySem.W.isClsIn K C = true) (h3 : PySem.W.typeIn K (.ref C) = some (.type "type")) (h4 : PySem.W.subIn K (.ref C) (.ref C) = some true) : PySem.W.exmOne K (.ref C) (.ref C) = some true :=
  by
  have e1 : (PySem.W.subIn K (.ref C) (.type "BaseException") == some true) = true := by rw [h1]; rfl
  unfold PySem.W.exmOne
  rw [if_pos e1]
  show (if ((PySem.W.clsIn K C).isSome && PySem.W.typeIn K (.ref C) == some (.type "type")) = true then PySem.W.subIn K (.ref C) (.ref C) else none) = some true
  have e2 : (PySem.W.clsIn K C).isSome = true := h2
  rw [e2, h3, h4]
  rfl
theorem exm_to {K : PySem.W.Frag} {C C2 : Addr} {b : Bool} (h1 : PySem.W.subIn K (.ref C2) (.type "BaseException") = some true) (h2 : PySem.W.isClsIn K C2 = true) (h3 : PySem.W.typeIn K (.ref C2) = some (.type "type")) (h4 : PySem.W.subIn K (.ref C) (.ref C2) = some b) : PySem.W.exmOne K (.ref C) (.ref C2) = some b := by
  have e1 : (PySem.W.subIn K (.ref C2) (.type "BaseException") == some true) = true := by rw [h1]; rfl
  unfold PySem.W.exmOne
  rw [if_pos e1]
  show (if ((PySem.W.clsIn K C2).isSome && PySem.W.typeIn K (.ref C2) == some (.type "type")) = true then PySem.W.subIn K (.ref C) (.ref C2) else none) = some b
  have e2 : (PySem.W.clsIn K C2).isSome = true := h2
  rw [e2, h3, h4]
  rfl
end HK
namespace K02
open PySem L2 HK
theorem all_mk {l : PySem.W.OpenLaw} {w : World} {K : PySem.W.Frag} {h : Heap} {mg : Str → Option Value} {fa : Addr} (X : K.In h) (G : h.Ns mainGlobals mg) (hfa : mg "law" = some (.ref fa))
    (tabs : ∀ c P, PySem.W.tabIn K "law" = some (c, P) → PySem.W.CodeHd h c P ∧ h.get? P = some ({ cls := .none, data := .fields #[] } : Obj))
    {fDice : Addr} {odDice anDice : Option Addr} {slDice : Array (Option Value)} {ocDice kVDice dcDice pmDice cdDice ctDice : Value}
    {fRoll : Addr} {odRoll anRoll : Option Addr} {slRoll : Array (Option Value)} {ocRoll kVRoll dcRoll pmRoll cdRoll ctRoll : Value}
    {fRounds : Addr} {odRounds anRounds : Option Addr} {slRounds : Array (Option Value)} {ocRounds kVRounds dcRounds pmRounds cdRounds ctRounds : Value}
    {fTold : Addr} {odTold anTold : Option Addr} {slTold : Array (Option Value)} {ocTold kVTold dcTold pmTold cdTold ctTold : Value}
    {fPair : Addr} {odPair anPair : Option Addr} {slPair : Array (Option Value)} {ocPair kVPair dcPair pmPair cdPair ctPair : Value}
    {fOfPair : Addr} {odOfPair anOfPair : Option Addr} {slOfPair : Array (Option Value)} {ocOfPair kVOfPair dcOfPair pmOfPair cdOfPair ctOfPair : Value}
    {fSum : Addr} {odSum anSum : Option Addr} {slSum : Array (Option Value)} {ocSum kVSum dcSum pmSum cdSum ctSum : Value}
    {fHRoom : Addr} {odHRoom anHRoom : Option Addr} {slHRoom : Array (Option Value)} {ocHRoom kVHRoom dcHRoom pmHRoom cdHRoom ctHRoom : Value}
    {fGroup : Addr} {odGroup anGroup : Option Addr} {slGroup : Array (Option Value)} {ocGroup kVGroup dcGroup pmGroup cdGroup ctGroup : Value}
    {fStart : Addr} {odStart anStart : Option Addr} {slStart : Array (Option Value)} {ocStart kVStart dcStart pmStart cdStart ctStart : Value}
    {fHead : Addr} {odHead anHead : Option Addr} {slHead : Array (Option Value)} {ocHead kVHead dcHead pmHead cdHead ctHead : Value}
    {fRHead : Addr} {odRHead anRHead : Option Addr} {slRHead : Array (Option Value)} {ocRHead kVRHead dcRHead pmRHead cdRHead ctRHead : Value}
    {fBlk : Addr} {odBlk anBlk : Option Addr} {slBlk : Array (Option Value)} {ocBlk kVBlk dcBlk pmBlk cdBlk ctBlk : Value}
    {fGrp : Addr} {odGrp anGrp : Option Addr} {slGrp : Array (Option Value)} {ocGrp kVGrp dcGrp pmGrp cdGrp ctGrp : Value}
    {fSame : Addr} {odSame anSame : Option Addr} {slSame : Array (Option Value)} {ocSame kVSame dcSame pmSame cdSame ctSame : Value}
    {fAgain : Addr} {odAgain anAgain : Option Addr} {slAgain : Array (Option Value)} {ocAgain kVAgain dcAgain pmAgain cdAgain ctAgain : Value}
    {fArm : Addr} {odArm anArm : Option Addr} {slArm : Array (Option Value)} {ocArm kVArm dcArm pmArm cdArm ctArm : Value}
    {fAlive : Addr} {odAlive anAlive : Option Addr} {slAlive : Array (Option Value)} {ocAlive kVAlive dcAlive pmAlive cdAlive ctAlive : Value}
    {fStep : Addr} {odStep anStep : Option Addr} {slStep : Array (Option Value)} {ocStep kVStep dcStep pmStep cdStep ctStep : Value}
    {fNumber : Addr} {odNumber anNumber : Option Addr} {slNumber : Array (Option Value)} {ocNumber kVNumber dcNumber pmNumber cdNumber ctNumber : Value}
    {fBlock : Addr} {odBlock anBlock : Option Addr} {slBlock : Array (Option Value)} {ocBlock kVBlock dcBlock pmBlock cdBlock ctBlock : Value}
    {fKept : Addr} {odKept anKept : Option Addr} {slKept : Array (Option Value)} {ocKept kVKept dcKept pmKept cdKept ctKept : Value}
    {fRead : Addr} {odRead anRead : Option Addr} {slRead : Array (Option Value)} {ocRead kVRead dcRead pmRead cdRead ctRead : Value}
    {fWrite : Addr} {odWrite anWrite : Option Addr} {slWrite : Array (Option Value)} {ocWrite kVWrite dcWrite pmWrite cdWrite ctWrite : Value}
    {fFlush : Addr} {odFlush anFlush : Option Addr} {slFlush : Array (Option Value)} {ocFlush kVFlush dcFlush pmFlush cdFlush ctFlush : Value}
    {fRest : Addr} {odRest anRest : Option Addr} {slRest : Array (Option Value)} {ocRest kVRest dcRest pmRest cdRest ctRest : Value}
    {fRoom : Addr} {odRoom anRoom : Option Addr} {slRoom : Array (Option Value)} {ocRoom kVRoom dcRoom pmRoom cdRoom ctRoom : Value}
    {fCommit : Addr} {odCommit anCommit : Option Addr} {slCommit : Array (Option Value)} {ocCommit kVCommit dcCommit pmCommit cdCommit ctCommit : Value}
    {fWG : Addr} {odWG anWG : Option Addr} {slWG : Array (Option Value)} {ocWG kVWG dcWG pmWG cdWG ctWG : Value}
    {fWH : Addr} {odWH anWH : Option Addr} {slWH : Array (Option Value)} {ocWH kVWH dcWH pmWH cdWH ctWH : Value}
    {fPend : Addr} {odPend anPend : Option Addr} {slPend : Array (Option Value)} {ocPend kVPend dcPend pmPend cdPend ctPend : Value}
    {fRec : Addr} {odRec anRec : Option Addr} {slRec : Array (Option Value)} {ocRec kVRec dcRec pmRec cdRec ctRec : Value}
    {fJI : Addr} {odJI anJI : Option Addr} {slJI : Array (Option Value)} {ocJI kVJI dcJI pmJI cdJI ctJI : Value}
    {fL cL PT : Addr} {odL anL cdL2 : Option Addr} {slL cslL : Array (Option Value)} {ocL kVL dcL pmL ctL ccL : Value} {vsL : Array Value}
    {fI TI : Addr} {odI anI : Option Addr} {slI : Array (Option Value)} {ocI kVI dcI pmI cdI ctI : Value} {oTI : Obj} {nTI : Nat} {C CE CJ CJE MK : Addr} {tK tH tB tHB tSS tm1 tm2 : Tok} {oMK : Obj} {nMK : Nat}
    (aDice : PySem.W.nsIn K mainGlobals "_law_dice" = some (some (.ref fDice)))
    (lDice : K.lookup fDice = some ⟨ocDice, odDice, .func (PySem.W.fnOf "_law_dice" "_law_dice" (defArgs sDice) (defBody sDice) (defScope sDice) .none kVDice dcDice pmDice anDice cdDice ctDice), slDice⟩)
    (cDice : PySem.W.codeIn K cdDice "_law_dice" = true)
    (kDice : PySem.W.keepIn K (.ref fDice) = true)
    (aRoll : PySem.W.nsIn K mainGlobals "_law_roll" = some (some (.ref fRoll)))
    (lRoll : K.lookup fRoll = some ⟨ocRoll, odRoll, .func (PySem.W.fnOf "_law_roll" "_law_roll" (defArgs sRoll) (defBody sRoll) (defScope sRoll) .none kVRoll dcRoll pmRoll anRoll cdRoll ctRoll), slRoll⟩)
    (cRoll : PySem.W.codeIn K cdRoll "_law_roll" = true)
    (kRoll : PySem.W.keepIn K (.ref fRoll) = true)
    (aRounds : PySem.W.nsIn K mainGlobals "_law_rounds" = some (some (.ref fRounds)))
    (lRounds : K.lookup fRounds = some ⟨ocRounds, odRounds, .func (PySem.W.fnOf "_law_rounds" "_law_rounds" (defArgs sRounds) (defBody sRounds) (defScope sRounds) .none kVRounds dcRounds pmRounds anRounds cdRounds ctRounds), slRounds⟩)
    (cRounds : PySem.W.codeIn K cdRounds "_law_rounds" = true)
    (kRounds : PySem.W.keepIn K (.ref fRounds) = true)
    (aTold : PySem.W.nsIn K mainGlobals "_law_told" = some (some (.ref fTold)))
    (lTold : K.lookup fTold = some ⟨ocTold, odTold, .func (PySem.W.fnOf "_law_told" "_law_told" (defArgs sTold) (defBody sTold) (defScope sTold) .none kVTold dcTold pmTold anTold cdTold ctTold), slTold⟩)
    (cTold : PySem.W.codeIn K cdTold "_law_told" = true)
    (kTold : PySem.W.keepIn K (.ref fTold) = true)
    (aPair : PySem.W.nsIn K mainGlobals "pair" = some (some (.ref fPair)))
    (lPair : K.lookup fPair = some ⟨ocPair, odPair, .func (PySem.W.fnOf "pair" "pair" (defArgs sPair) (defBody sPair) (defScope sPair) .none kVPair dcPair pmPair anPair cdPair ctPair), slPair⟩)
    (cPair : PySem.W.codeIn K cdPair "pair" = true)
    (kPair : PySem.W.keepIn K (.ref fPair) = true)
    (aOfPair : PySem.W.nsIn K mainGlobals "number_of_pair" = some (some (.ref fOfPair)))
    (lOfPair : K.lookup fOfPair = some ⟨ocOfPair, odOfPair, .func (PySem.W.fnOf "number_of_pair" "number_of_pair" (defArgs sOfPair) (defBody sOfPair) (defScope sOfPair) .none kVOfPair dcOfPair pmOfPair anOfPair cdOfPair ctOfPair), slOfPair⟩)
    (cOfPair : PySem.W.codeIn K cdOfPair "number_of_pair" = true)
    (kOfPair : PySem.W.keepIn K (.ref fOfPair) = true)
    (aSum : PySem.W.nsIn K mainGlobals "word_sum" = some (some (.ref fSum)))
    (lSum : K.lookup fSum = some ⟨ocSum, odSum, .func (PySem.W.fnOf "word_sum" "word_sum" (defArgs sSum) (defBody sSum) (defScope sSum) .none kVSum dcSum pmSum anSum cdSum ctSum), slSum⟩)
    (cSum : PySem.W.codeIn K cdSum "word_sum" = true)
    (kSum : PySem.W.keepIn K (.ref fSum) = true)
    (aHRoom : PySem.W.nsIn K mainGlobals "head_room" = some (some (.ref fHRoom)))
    (lHRoom : K.lookup fHRoom = some ⟨ocHRoom, odHRoom, .func (PySem.W.fnOf "head_room" "head_room" (defArgs sHeadRoom) (defBody sHeadRoom) (defScope sHeadRoom) .none kVHRoom dcHRoom pmHRoom anHRoom cdHRoom ctHRoom), slHRoom⟩)
    (cHRoom : PySem.W.codeIn K cdHRoom "head_room" = true)
    (kHRoom : PySem.W.keepIn K (.ref fHRoom) = true)
    (aGroup : PySem.W.nsIn K mainGlobals "group_sum" = some (some (.ref fGroup)))
    (lGroup : K.lookup fGroup = some ⟨ocGroup, odGroup, .func (PySem.W.fnOf "group_sum" "group_sum" (defArgs sGroup) (defBody sGroup) (defScope sGroup) .none kVGroup dcGroup pmGroup anGroup cdGroup ctGroup), slGroup⟩)
    (cGroup : PySem.W.codeIn K cdGroup "group_sum" = true)
    (kGroup : PySem.W.keepIn K (.ref fGroup) = true)
    (aStart : PySem.W.nsIn K mainGlobals "head_start" = some (some (.ref fStart)))
    (lStart : K.lookup fStart = some ⟨ocStart, odStart, .func (PySem.W.fnOf "head_start" "head_start" (defArgs sStart) (defBody sStart) (defScope sStart) .none kVStart dcStart pmStart anStart cdStart ctStart), slStart⟩)
    (cStart : PySem.W.codeIn K cdStart "head_start" = true)
    (kStart : PySem.W.keepIn K (.ref fStart) = true)
    (aHead : PySem.W.nsIn K mainGlobals "head_of" = some (some (.ref fHead)))
    (lHead : K.lookup fHead = some ⟨ocHead, odHead, .func (PySem.W.fnOf "head_of" "head_of" (defArgs sHead) (defBody sHead) (defScope sHead) .none kVHead dcHead pmHead anHead cdHead ctHead), slHead⟩)
    (cHead : PySem.W.codeIn K cdHead "head_of" = true)
    (kHead : PySem.W.keepIn K (.ref fHead) = true)
    (aRHead : PySem.W.nsIn K mainGlobals "read_head" = some (some (.ref fRHead)))
    (lRHead : K.lookup fRHead = some ⟨ocRHead, odRHead, .func (PySem.W.fnOf "read_head" "read_head" (defArgs sReadHead) (defBody sReadHead) (defScope sReadHead) .none kVRHead dcRHead pmRHead anRHead cdRHead ctRHead), slRHead⟩)
    (cRHead : PySem.W.codeIn K cdRHead "read_head" = true)
    (kRHead : PySem.W.keepIn K (.ref fRHead) = true)
    (aBlk : PySem.W.nsIn K mainGlobals "_law_block" = some (some (.ref fBlk)))
    (lBlk : K.lookup fBlk = some ⟨ocBlk, odBlk, .func (PySem.W.fnOf "_law_block" "_law_block" (defArgs sBlk) (defBody sBlk) (defScope sBlk) .none kVBlk dcBlk pmBlk anBlk cdBlk ctBlk), slBlk⟩)
    (cBlk : PySem.W.codeIn K cdBlk "_law_block" = true)
    (kBlk : PySem.W.keepIn K (.ref fBlk) = true)
    (aGrp : PySem.W.nsIn K mainGlobals "_law_group" = some (some (.ref fGrp)))
    (lGrp : K.lookup fGrp = some ⟨ocGrp, odGrp, .func (PySem.W.fnOf "_law_group" "_law_group" (defArgs sGrp) (defBody sGrp) (defScope sGrp) .none kVGrp dcGrp pmGrp anGrp cdGrp ctGrp), slGrp⟩)
    (cGrp : PySem.W.codeIn K cdGrp "_law_group" = true)
    (kGrp : PySem.W.keepIn K (.ref fGrp) = true)
    (aSame : PySem.W.nsIn K mainGlobals "_law_same" = some (some (.ref fSame)))
    (lSame : K.lookup fSame = some ⟨ocSame, odSame, .func (PySem.W.fnOf "_law_same" "_law_same" (defArgs sSame) (defBody sSame) (defScope sSame) .none kVSame dcSame pmSame anSame cdSame ctSame), slSame⟩)
    (cSame : PySem.W.codeIn K cdSame "_law_same" = true)
    (kSame : PySem.W.keepIn K (.ref fSame) = true)
    (aAgain : PySem.W.nsIn K mainGlobals "_law_again" = some (some (.ref fAgain)))
    (lAgain : K.lookup fAgain = some ⟨ocAgain, odAgain, .func (PySem.W.fnOf "_law_again" "_law_again" (defArgs sAgain) (defBody sAgain) (defScope sAgain) .none kVAgain dcAgain pmAgain anAgain cdAgain ctAgain), slAgain⟩)
    (cAgain : PySem.W.codeIn K cdAgain "_law_again" = true)
    (kAgain : PySem.W.keepIn K (.ref fAgain) = true)
    (aArm : PySem.W.findIn K (.ref C) "arm" = some (some (.ref fArm)))
    (iArm : PySem.W.isFn K (.ref fArm) = true)
    (lArm : K.lookup fArm = some ⟨ocArm, odArm, .func (PySem.W.fnOf "arm" "Device.arm" (defArgs sArm) (defBody sArm) (defScope sArm) .none kVArm dcArm pmArm anArm cdArm ctArm), slArm⟩)
    (cArm : PySem.W.codeIn K cdArm "Device.arm" = true)
    (kArm : PySem.W.keepIn K (.ref fArm) = true)
    (aAlive : PySem.W.findIn K (.ref C) "check_alive" = some (some (.ref fAlive)))
    (iAlive : PySem.W.isFn K (.ref fAlive) = true)
    (lAlive : K.lookup fAlive = some ⟨ocAlive, odAlive, .func (PySem.W.fnOf "check_alive" "Device.check_alive" (defArgs sAlive) (defBody sAlive) (defScope sAlive) .none kVAlive dcAlive pmAlive anAlive cdAlive ctAlive), slAlive⟩)
    (cAlive : PySem.W.codeIn K cdAlive "Device.check_alive" = true)
    (kAlive : PySem.W.keepIn K (.ref fAlive) = true)
    (aStep : PySem.W.findIn K (.ref C) "step" = some (some (.ref fStep)))
    (iStep : PySem.W.isFn K (.ref fStep) = true)
    (lStep : K.lookup fStep = some ⟨ocStep, odStep, .func (PySem.W.fnOf "step" "Device.step" (defArgs sStep) (defBody sStep) (defScope sStep) .none kVStep dcStep pmStep anStep cdStep ctStep), slStep⟩)
    (cStep : PySem.W.codeIn K cdStep "Device.step" = true)
    (kStep : PySem.W.keepIn K (.ref fStep) = true)
    (aNumber : PySem.W.findIn K (.ref C) "check_number" = some (some (.ref fNumber)))
    (iNumber : PySem.W.isFn K (.ref fNumber) = true)
    (lNumber : K.lookup fNumber = some ⟨ocNumber, odNumber, .func (PySem.W.fnOf "check_number" "Device.check_number" (defArgs sNumber) (defBody sNumber) (defScope sNumber) .none kVNumber dcNumber pmNumber anNumber cdNumber ctNumber), slNumber⟩)
    (cNumber : PySem.W.codeIn K cdNumber "Device.check_number" = true)
    (kNumber : PySem.W.keepIn K (.ref fNumber) = true)
    (aBlock : PySem.W.findIn K (.ref C) "check_block" = some (some (.ref fBlock)))
    (iBlock : PySem.W.isFn K (.ref fBlock) = true)
    (lBlock : K.lookup fBlock = some ⟨ocBlock, odBlock, .func (PySem.W.fnOf "check_block" "Device.check_block" (defArgs sBlock) (defBody sBlock) (defScope sBlock) .none kVBlock dcBlock pmBlock anBlock cdBlock ctBlock), slBlock⟩)
    (cBlock : PySem.W.codeIn K cdBlock "Device.check_block" = true)
    (kBlock : PySem.W.keepIn K (.ref fBlock) = true)
    (aKept : PySem.W.findIn K (.ref C) "kept" = some (some (.ref fKept)))
    (iKept : PySem.W.isFn K (.ref fKept) = true)
    (lKept : K.lookup fKept = some ⟨ocKept, odKept, .func (PySem.W.fnOf "kept" "Device.kept" (defArgs sKept) (defBody sKept) (defScope sKept) .none kVKept dcKept pmKept anKept cdKept ctKept), slKept⟩)
    (cKept : PySem.W.codeIn K cdKept "Device.kept" = true)
    (kKept : PySem.W.keepIn K (.ref fKept) = true)
    (aRead : PySem.W.findIn K (.ref C) "read" = some (some (.ref fRead)))
    (iRead : PySem.W.isFn K (.ref fRead) = true)
    (lRead : K.lookup fRead = some ⟨ocRead, odRead, .func (PySem.W.fnOf "read" "Device.read" (defArgs sRead) (defBody sRead) (defScope sRead) .none kVRead dcRead pmRead anRead cdRead ctRead), slRead⟩)
    (cRead : PySem.W.codeIn K cdRead "Device.read" = true)
    (kRead : PySem.W.keepIn K (.ref fRead) = true)
    (aWrite : PySem.W.findIn K (.ref C) "write_block" = some (some (.ref fWrite)))
    (iWrite : PySem.W.isFn K (.ref fWrite) = true)
    (lWrite : K.lookup fWrite = some ⟨ocWrite, odWrite, .func (PySem.W.fnOf "write_block" "Device.write_block" (defArgs sWrite) (defBody sWrite) (defScope sWrite) .none kVWrite dcWrite pmWrite anWrite cdWrite ctWrite), slWrite⟩)
    (cWrite : PySem.W.codeIn K cdWrite "Device.write_block" = true)
    (kWrite : PySem.W.keepIn K (.ref fWrite) = true)
    (aFlush : PySem.W.findIn K (.ref C) "flush" = some (some (.ref fFlush)))
    (iFlush : PySem.W.isFn K (.ref fFlush) = true)
    (lFlush : K.lookup fFlush = some ⟨ocFlush, odFlush, .func (PySem.W.fnOf "flush" "Device.flush" (defArgs sFlush) (defBody sFlush) (defScope sFlush) .none kVFlush dcFlush pmFlush anFlush cdFlush ctFlush), slFlush⟩)
    (cFlush : PySem.W.codeIn K cdFlush "Device.flush" = true)
    (kFlush : PySem.W.keepIn K (.ref fFlush) = true)
    (aRest : PySem.W.findIn K (.ref C) "restarted" = some (some (.ref fRest)))
    (iRest : PySem.W.isFn K (.ref fRest) = true)
    (lRest : K.lookup fRest = some ⟨ocRest, odRest, .func (PySem.W.fnOf "restarted" "Device.restarted" (defArgs sRest) (defBody sRest) (defScope sRest) .none kVRest dcRest pmRest anRest cdRest ctRest), slRest⟩)
    (cRest : PySem.W.codeIn K cdRest "Device.restarted" = true)
    (kRest : PySem.W.keepIn K (.ref fRest) = true)
    (aRoom : PySem.W.findIn K (.ref CJ) "room" = some (some (.ref fRoom)))
    (iRoom : PySem.W.isFn K (.ref fRoom) = true)
    (lRoom : K.lookup fRoom = some ⟨ocRoom, odRoom, .func (PySem.W.fnOf "room" "Journal.room" (defArgs sRoom) (defBody sRoom) (defScope sRoom) .none kVRoom dcRoom pmRoom anRoom cdRoom ctRoom), slRoom⟩)
    (cRoom : PySem.W.codeIn K cdRoom "Journal.room" = true)
    (kRoom : PySem.W.keepIn K (.ref fRoom) = true)
    (aCommit : PySem.W.findIn K (.ref CJ) "commit" = some (some (.ref fCommit)))
    (iCommit : PySem.W.isFn K (.ref fCommit) = true)
    (lCommit : K.lookup fCommit = some ⟨ocCommit, odCommit, .func (PySem.W.fnOf "commit" "Journal.commit" (defArgs sCommit) (defBody sCommit) (defScope sCommit) .none kVCommit dcCommit pmCommit anCommit cdCommit ctCommit), slCommit⟩)
    (cCommit : PySem.W.codeIn K cdCommit "Journal.commit" = true)
    (kCommit : PySem.W.keepIn K (.ref fCommit) = true)
    (aWG : PySem.W.findIn K (.ref CJ) "write_group" = some (some (.ref fWG)))
    (iWG : PySem.W.isFn K (.ref fWG) = true)
    (lWG : K.lookup fWG = some ⟨ocWG, odWG, .func (PySem.W.fnOf "write_group" "Journal.write_group" (defArgs sWG) (defBody sWG) (defScope sWG) .none kVWG dcWG pmWG anWG cdWG ctWG), slWG⟩)
    (cWG : PySem.W.codeIn K cdWG "Journal.write_group" = true)
    (kWG : PySem.W.keepIn K (.ref fWG) = true)
    (aWH : PySem.W.findIn K (.ref CJ) "write_home" = some (some (.ref fWH)))
    (iWH : PySem.W.isFn K (.ref fWH) = true)
    (lWH : K.lookup fWH = some ⟨ocWH, odWH, .func (PySem.W.fnOf "write_home" "Journal.write_home" (defArgs sWH) (defBody sWH) (defScope sWH) .none kVWH dcWH pmWH anWH cdWH ctWH), slWH⟩)
    (cWH : PySem.W.codeIn K cdWH "Journal.write_home" = true)
    (kWH : PySem.W.keepIn K (.ref fWH) = true)
    (aPend : PySem.W.findIn K (.ref CJ) "pending" = some (some (.ref fPend)))
    (iPend : PySem.W.isFn K (.ref fPend) = true)
    (lPend : K.lookup fPend = some ⟨ocPend, odPend, .func (PySem.W.fnOf "pending" "Journal.pending" (defArgs sPend) (defBody sPend) (defScope sPend) .none kVPend dcPend pmPend anPend cdPend ctPend), slPend⟩)
    (cPend : PySem.W.codeIn K cdPend "Journal.pending" = true)
    (kPend : PySem.W.keepIn K (.ref fPend) = true)
    (aRec : PySem.W.findIn K (.ref CJ) "recover" = some (some (.ref fRec)))
    (iRec : PySem.W.isFn K (.ref fRec) = true)
    (lRec : K.lookup fRec = some ⟨ocRec, odRec, .func (PySem.W.fnOf "recover" "Journal.recover" (defArgs sRec) (defBody sRec) (defScope sRec) .none kVRec dcRec pmRec anRec cdRec ctRec), slRec⟩)
    (cRec : PySem.W.codeIn K cdRec "Journal.recover" = true)
    (kRec : PySem.W.keepIn K (.ref fRec) = true)
    (aJI : PySem.W.findIn K (.ref CJ) "__init__" = some (some (.ref fJI)))
    (iJI : PySem.W.isFn K (.ref fJI) = true)
    (lJI : K.lookup fJI = some ⟨ocJI, odJI, .func (PySem.W.fnOf "__init__" "Journal.__init__" (defArgs sJInit) (defBody sJInit) (defScope sJInit) .none kVJI dcJI pmJI anJI cdJI ctJI), slJI⟩)
    (cJI : PySem.W.codeIn K cdJI "Journal.__init__" = true)
    (kJI : PySem.W.keepIn K (.ref fJI) = true)
    (aCJ : PySem.W.nsIn K mainGlobals "Journal" = some (some (.ref CJ)))
    (jpg : PySem.W.plainGet K CJ Str.empty = true)
    (jhd : PySem.W.hasDictIn K CJ = true)
    (jpo : PySem.W.plainOver K CJ = true)
    (jsa : PySem.W.findIn K (.ref CJ) "__setattr__" = some (some (.builtin "object.__setattr__")))
    (jmk : PySem.W.makesIn K CJ = true)
    (kCJ : PySem.W.keepIn K (.ref CJ) = true)
    (j1 : PySem.W.findIn K (.ref CJ) "device" = some none)
    (j2 : PySem.W.findIn K (.ref CJ) "start" = some none)
    (j3 : PySem.W.findIn K (.ref CJ) "blocks" = some none)
    (j4 : PySem.W.findIn K (.ref CJ) "serial" = some none)
    (aJE : PySem.W.nsIn K mainGlobals "JournalError" = some (some (.ref CJE)))
    (xJE : PySem.W.excIn K CJE [.type "ValueError", .type "Exception", .type "BaseException", .type "object"] "ValueError.__new__" = true)
    (kJE : PySem.W.keepIn K (.ref CJE) = true)
    (bJE : PySem.W.subIn K (.ref CJE) (.type "BaseException") = some true)
    (tJE : PySem.W.typeIn K (.ref CJE) = some (.type "type"))
    (isJE : PySem.W.isClsIn K CJE = true)
    (ssJE : PySem.W.subIn K (.ref CJE) (.ref CJE) = some true)
    (sJD : PySem.W.subIn K (.ref CJE) (.ref CE) = some false)
    (mB : PySem.W.nsIn K mainGlobals "SUM_BASE" = some (some (.int 65521 tB)))
    (mHB : PySem.W.nsIn K mainGlobals "HEAD_BASE" = some (some (.int 6 tHB)))
    (mSS : PySem.W.nsIn K mainGlobals "SUM_SIZE" = some (some (.int 4 tSS)))
    (aMK : PySem.W.nsIn K mainGlobals "HEAD_MARK" = some (some (.ref MK)))
    (lMK : K.lookup MK = some oMK)
    (cMK : oMK.cls = .type "tuple")
    (dMK : oMK.data = .seq ([Value.int 74 tm1, Value.int 82 tm2] : List Value).toArray nMK)
    (aI : PySem.W.findIn K (.ref C) "__init__" = some (some (.ref fI)))
    (iI : PySem.W.isFn K (.ref fI) = true)
    (lI : K.lookup fI = some ⟨ocI, odI, .func (PySem.W.fnOf "__init__" "Device.__init__" (defArgs sInit) (defBody sInit) (defScope sInit) (.ref TI) kVI dcI pmI anI cdI ctI), slI⟩)
    (cI : PySem.W.codeIn K cdI "Device.__init__" = true)
    (kI : PySem.W.keepIn K (.ref fI) = true)
    (lT : K.lookup TI = some oTI)
    (dT : oTI.data = .seq ([Value.none] : List Value).toArray nTI)
    (aL : PySem.W.nsIn K mainGlobals "law" = some (some (.ref fL)))
    (lL : K.lookup fL = some ⟨ocL, odL, .func (PySem.W.fnOf "law" "law" (defArgs sLaw) (defBody sLaw) (defScope sLaw) .none kVL dcL pmL anL (.ref cL) ctL), slL⟩)
    (cL1 : PySem.W.codeIn K (.ref cL) "law" = true)
    (lcL : K.lookup cL = some ⟨ccL, cdL2, .fields vsL, cslL⟩)
    (vL : vsL[11]? = some (.ref PT))
    (nP : K.lookup PT = none)
    (aC : PySem.W.nsIn K mainGlobals "Device" = some (some (.ref C)))
    (pg : PySem.W.plainGet K C Str.empty = true)
    (hd : PySem.W.hasDictIn K C = true)
    (po : PySem.W.plainOver K C = true)
    (sa : PySem.W.findIn K (.ref C) "__setattr__" = some (some (.builtin "object.__setattr__")))
    (mk : PySem.W.makesIn K C = true)
    (kC : PySem.W.keepIn K (.ref C) = true)
    (n1 : PySem.W.findIn K (.ref C) "block_size" = some none)
    (n2 : PySem.W.findIn K (.ref C) "total" = some none)
    (n3 : PySem.W.findIn K (.ref C) "blocks" = some none)
    (n4 : PySem.W.findIn K (.ref C) "waiting" = some none)
    (n5 : PySem.W.findIn K (.ref C) "fuse" = some none)
    (n6 : PySem.W.findIn K (.ref C) "dead" = some none)
    (n7 : PySem.W.findIn K (.ref C) "steps" = some none)
    (aE : PySem.W.nsIn K mainGlobals "DeviceError" = some (some (.ref CE)))
    (xE : PySem.W.excIn K CE [.type "ValueError", .type "Exception", .type "BaseException", .type "object"] "ValueError.__new__" = true)
    (kE : PySem.W.keepIn K (.ref CE) = true)
    (bE : PySem.W.subIn K (.ref CE) (.type "BaseException") = some true)
    (tE : PySem.W.typeIn K (.ref CE) = some (.type "type"))
    (isE : PySem.W.isClsIn K CE = true)
    (ssE : PySem.W.subIn K (.ref CE) (.ref CE) = some true)
    (mK : PySem.W.nsIn K mainGlobals "KEPT" = some (some (.int 1 tK)))
    (mH : PySem.W.nsIn K mainGlobals "HALF_KEPT" = some (some (.int 2 tH)))
    (z_max : PySem.W.nsIn K mainGlobals "max" = some none)
    (z_min : PySem.W.nsIn K mainGlobals "min" = some none)
    (z_any : PySem.W.nsIn K mainGlobals "any" = some none)
    (z_sorted : PySem.W.nsIn K mainGlobals "sorted" = some none)
    (z_len : PySem.W.nsIn K mainGlobals "len" = some none)
    (z_tuple : PySem.W.nsIn K mainGlobals "tuple" = some none)
    (z_int : PySem.W.nsIn K mainGlobals "int" = some none)
    (z_abs : PySem.W.nsIn K mainGlobals "abs" = some none)
    (z_range : PySem.W.nsIn K mainGlobals "range" = some none)
    (z_list : PySem.W.nsIn K mainGlobals "list" = some none)
    (z_dict : PySem.W.nsIn K mainGlobals "dict" = some none)
    (z_enumerate : PySem.W.nsIn K mainGlobals "enumerate" = some none)
    (z_reversed : PySem.W.nsIn K mainGlobals "reversed" = some none)
    (z_zip : PySem.W.nsIn K mainGlobals "zip" = some none)
    : LamX.LawAtS l w K L2.CX0 10 63 "script" mg fa h := by
  have e := hfa.symm.trans (PySem.W.mg_of X G aL)
  cases e
  obtain ⟨hd', ht⟩ := tabs cL PT (tabIn_of aL lL rfl lcL vL)
  have T : DTxt K mg C CE := ⟨⟨pg, hd, po, sa⟩, n1, n2, n3, n4, n5, n6, n7, PySem.W.mg_of X G aC, PySem.W.mg_of X G aE, xE, kE, bE, tE, PySem.W.mg_none_of X G z_len, PySem.W.mg_none_of X G z_tuple, PySem.W.mg_none_of X G z_dict, PySem.W.mg_none_of X G z_reversed, PySem.W.mg_none_of X G z_zip,
    ⟨_, PySem.W.mg_of X G mK⟩, ⟨_, PySem.W.mg_of X G mH⟩⟩
  have J : JCls K mg CJ CJE := ⟨⟨jpg, jhd, jpo, jsa⟩, j1, j2, j3, j4, PySem.W.mg_of X G aCJ, PySem.W.mg_of X G aJE, xJE, kJE, bJE, tJE, PySem.W.mg_none_of X G z_enumerate, PySem.W.mg_none_of X G z_range, PySem.W.mg_none_of X G z_zip, PySem.W.mg_none_of X G z_list⟩
  have JT : JTxt K mg := ⟨⟨_, PySem.W.mg_of X G mB⟩, ⟨MK, PySem.W.mg_of X G aMK, fun H => .inr ⟨oMK, _, nMK, lMK, cMK, dMK, by show 2 ≤ sizeLine; decide, .cons ⟨_, rfl⟩ (.cons ⟨_, rfl⟩ .nil)⟩⟩, ⟨_, PySem.W.mg_of X G mHB⟩, ⟨_, PySem.W.mg_of X G mSS⟩,
    PySem.W.mg_none_of X G z_len, PySem.W.mg_none_of X G z_tuple, PySem.W.mg_none_of X G z_list, PySem.W.mg_none_of X G z_max, PySem.W.mg_none_of X G z_min, PySem.W.mg_none_of X G z_any, PySem.W.mg_none_of X G z_range⟩
  have GT : GTxt mg := ⟨PySem.W.mg_none_of X G z_tuple, PySem.W.mg_none_of X G z_range, PySem.W.mg_none_of X G z_sorted⟩
  have mI := PySem.W.mg_none_of X G z_int
  have mA := PySem.W.mg_none_of X G z_abs
  have GDice := fun_mk (st := sDice) lDice cDice kDice
  have mDice := PySem.W.mg_of X G aDice
  have GRoll := fun_mk (st := sRoll) lRoll cRoll kRoll
  have mRoll := PySem.W.mg_of X G aRoll
  have GRounds := fun_mk (st := sRounds) lRounds cRounds kRounds
  have mRounds := PySem.W.mg_of X G aRounds
  have GTold := fun_mk (st := sTold) lTold cTold kTold
  have mTold := PySem.W.mg_of X G aTold
  have GPair := fun_mk (st := sPair) lPair cPair kPair
  have mPair := PySem.W.mg_of X G aPair
  have GOfPair := fun_mk (st := sOfPair) lOfPair cOfPair kOfPair
  have mOfPair := PySem.W.mg_of X G aOfPair
  have GSum := fun_mk (st := sSum) lSum cSum kSum
  have mSum := PySem.W.mg_of X G aSum
  have GHRoom := fun_mk (st := sHeadRoom) lHRoom cHRoom kHRoom
  have mHRoom := PySem.W.mg_of X G aHRoom
  have GGroup := fun_mk (st := sGroup) lGroup cGroup kGroup
  have mGroup := PySem.W.mg_of X G aGroup
  have GStart := fun_mk (st := sStart) lStart cStart kStart
  have mStart := PySem.W.mg_of X G aStart
  have GHead := fun_mk (st := sHead) lHead cHead kHead
  have mHead := PySem.W.mg_of X G aHead
  have GRHead := fun_mk (st := sReadHead) lRHead cRHead kRHead
  have mRHead := PySem.W.mg_of X G aRHead
  have GBlk := fun_mk (st := sBlk) lBlk cBlk kBlk
  have mBlk := PySem.W.mg_of X G aBlk
  have GGrp := fun_mk (st := sGrp) lGrp cGrp kGrp
  have mGrp := PySem.W.mg_of X G aGrp
  have GSame := fun_mk (st := sSame) lSame cSame kSame
  have mSame := PySem.W.mg_of X G aSame
  have GAgain := fun_mk (st := sAgain) lAgain cAgain kAgain
  have mAgain := PySem.W.mg_of X G aAgain
  have GArm := fun_mk (st := sArm) lArm cArm kArm
  have GAlive := fun_mk (st := sAlive) lAlive cAlive kAlive
  have GStep := fun_mk (st := sStep) lStep cStep kStep
  have GNumber := fun_mk (st := sNumber) lNumber cNumber kNumber
  have GBlock := fun_mk (st := sBlock) lBlock cBlock kBlock
  have GKept := fun_mk (st := sKept) lKept cKept kKept
  have GRead := fun_mk (st := sRead) lRead cRead kRead
  have GWrite := fun_mk (st := sWrite) lWrite cWrite kWrite
  have GFlush := fun_mk (st := sFlush) lFlush cFlush kFlush
  have GRest := fun_mk (st := sRest) lRest cRest kRest
  have GRoom := fun_mk (st := sRoom) lRoom cRoom kRoom
  have GCommit := fun_mk (st := sCommit) lCommit cCommit kCommit
  have GWG := fun_mk (st := sWG) lWG cWG kWG
  have GWH := fun_mk (st := sWH) lWH cWH kWH
  have GPend := fun_mk (st := sPend) lPend cPend kPend
  have GRec := fun_mk (st := sRec) lRec cRec kRec
  have GJI := fun_mk (st := sJInit) lJI cJI kJI
  have bDice := GDice.binds (ps := ["cell"]) fun _ _ _ _ _ _ us hl => match us, hl with | [_], _ => rfl
  have bRoll := GRoll.binds (ps := ["dice", "many"]) fun _ _ _ _ _ _ us hl => match us, hl with | [_, _], _ => rfl
  have bRounds := GRounds.binds (ps := ["script", "most"]) fun _ _ _ _ _ _ us hl => match us, hl with | [_, _], _ => rfl
  have bPair := GPair.binds (ps := ["number"]) fun _ _ _ _ _ _ us hl => match us, hl with | [_], _ => rfl
  have bOfPair := GOfPair.binds (ps := ["data", "place"]) fun _ _ _ _ _ _ us hl => match us, hl with | [_, _], _ => rfl
  have bSum := GSum.binds (ps := ["numbers"]) fun _ _ _ _ _ _ us hl => match us, hl with | [_], _ => rfl
  have bHRoom := GHRoom.binds (ps := ["block_size", "count"]) fun _ _ _ _ _ _ us hl => match us, hl with | [_, _], _ => rfl
  have bGroup := GGroup.binds (ps := ["head", "rows"]) fun _ _ _ _ _ _ us hl => match us, hl with | [_, _], _ => rfl
  have bStart := GStart.binds (ps := ["serial", "numbers"]) fun _ _ _ _ _ _ us hl => match us, hl with | [_, _], _ => rfl
  have bHead := GHead.binds (ps := ["serial", "numbers", "rows", "block_size"]) fun _ _ _ _ _ _ us hl => match us, hl with | [_, _, _, _], _ => rfl
  have bRHead := GRHead.binds (ps := ["data"]) fun _ _ _ _ _ _ us hl => match us, hl with | [_], _ => rfl
  have bBlk := GBlk.binds (ps := ["dice"]) fun _ _ _ _ _ _ us hl => match us, hl with | [_], _ => rfl
  have bGrp := GGrp.binds (ps := ["dice"]) fun _ _ _ _ _ _ us hl => match us, hl with | [_], _ => rfl
  have bSame := GSame.binds (ps := ["device", "blocks"]) fun _ _ _ _ _ _ us hl => match us, hl with | [_, _], _ => rfl
  have bAgain := GAgain.binds (ps := ["dice", "device"]) fun _ _ _ _ _ _ us hl => match us, hl with | [_, _], _ => rfl
  have bArm := GArm.binds (ps := ["self", "steps"]) fun _ _ _ _ _ _ us hl => match us, hl with | [_, _], _ => rfl
  have bAlive := GAlive.binds (ps := ["self"]) fun _ _ _ _ _ _ us hl => match us, hl with | [_], _ => rfl
  have bStep := GStep.binds (ps := ["self"]) fun _ _ _ _ _ _ us hl => match us, hl with | [_], _ => rfl
  have bNumber := GNumber.binds (ps := ["self", "number"]) fun _ _ _ _ _ _ us hl => match us, hl with | [_, _], _ => rfl
  have bBlock := GBlock.binds (ps := ["self", "number", "data"]) fun _ _ _ _ _ _ us hl => match us, hl with | [_, _, _], _ => rfl
  have bKept := GKept.binds (ps := ["self", "number"]) fun _ _ _ _ _ _ us hl => match us, hl with | [_, _], _ => rfl
  have bRead := GRead.binds (ps := ["self", "number"]) fun _ _ _ _ _ _ us hl => match us, hl with | [_, _], _ => rfl
  have bWrite := GWrite.binds (ps := ["self", "number", "data"]) fun _ _ _ _ _ _ us hl => match us, hl with | [_, _, _], _ => rfl
  have bFlush := GFlush.binds (ps := ["self"]) fun _ _ _ _ _ _ us hl => match us, hl with | [_], _ => rfl
  have bRest := GRest.binds (ps := ["self", "choices"]) fun _ _ _ _ _ _ us hl => match us, hl with | [_, _], _ => rfl
  have bRoom := GRoom.binds (ps := ["self"]) fun _ _ _ _ _ _ us hl => match us, hl with | [_], _ => rfl
  have bCommit := GCommit.binds (ps := ["self", "rows"]) fun _ _ _ _ _ _ us hl => match us, hl with | [_, _], _ => rfl
  have bWG := GWG.binds (ps := ["self", "rows"]) fun _ _ _ _ _ _ us hl => match us, hl with | [_, _], _ => rfl
  have bWH := GWH.binds (ps := ["self", "rows"]) fun _ _ _ _ _ _ us hl => match us, hl with | [_, _], _ => rfl
  have bPend := GPend.binds (ps := ["self"]) fun _ _ _ _ _ _ us hl => match us, hl with | [_], _ => rfl
  have bRec := GRec.binds (ps := ["self"]) fun _ _ _ _ _ _ us hl => match us, hl with | [_], _ => rfl
  have bJI := GJI.binds (ps := ["self", "device", "start", "count"]) fun _ _ _ _ _ _ us hl => match us, hl with | [_, _, _, _], _ => rfl
  have GI : FDI K fI (PySem.W.fnOf "__init__" "Device.__init__" (defArgs sInit) (defBody sInit) (defScope sInit) (.ref TI) kVI dcI pmI anI cdI ctI) :=
    ⟨⟨ocI, odI, .ref TI, kVI, dcI, pmI, anI, cdI, ctI, slI, rfl, lI, cI, .inr ⟨(fun z => by cases z), TI, oTI, [.none], nTI, rfl, lT, dT, .cons rfl .nil⟩, .inl rfl⟩, kI⟩
  obtain ⟨ds, vds, bI⟩ := GI.binds1 (ps := ["self", "block_size", "count", "blocks"]) 3 0 (fun z => by cases z) rfl (fun _ _ _ _ _ _ _ us its h1 h2 => match us, its, h1, h2 with | [_, _, _], [_], _, _ => ⟨_, rfl, rfl⟩)
  obtain ⟨ds4, vds4, bI4⟩ := GI.binds1 (ps := ["self", "block_size", "count", "blocks"]) 4 1 (fun z => by cases z) rfl (fun _ _ _ _ _ _ _ us its h1 h2 => match us, its, h1, h2 with | [_, _, _, _], [_], _, _ => ⟨_, rfl, rfl⟩)
  cases vds4
  have bits : ∀ base : Heap, LTxt l.prog w K mg base C CE CJ CJE fTold := fun base => by
    have oDice := ok_dice (P := l.prog) (w := w) (mg := mg) (base := base) GDice mA mI
    have oRoll := ok_roll (P := l.prog) (w := w) (mg := mg) (base := base) GRoll mI
    have oRounds := ok_rounds (P := l.prog) (w := w) (mg := mg) (base := base) GRounds oDice mDice kDice bDice
    have oAlive := ok_alive (P := l.prog) (w := w) (base := base) GAlive T
    have oStep := ok_step (P := l.prog) (w := w) (base := base) GStep T oAlive bAlive ⟨aAlive, iAlive, kAlive⟩
    have oNumber := ok_number (P := l.prog) (w := w) (base := base) GNumber T
    have oBlock := ok_block (P := l.prog) (w := w) (base := base) GBlock T oNumber bNumber ⟨aNumber, iNumber, kNumber⟩
    have oKept := ok_kept (P := l.prog) (w := w) (base := base) GKept T
    have oInit := ok_init (P := l.prog) (w := w) (base := base) GI T
    have oArm := ok_arm (P := l.prog) (w := w) (base := base) GArm T
    have oRead := ok_read (P := l.prog) (w := w) (base := base) GRead T oAlive bAlive ⟨aAlive, iAlive, kAlive⟩ oNumber bNumber ⟨aNumber, iNumber, kNumber⟩ oKept bKept ⟨aKept, iKept, kKept⟩
    have oWrite := ok_write (P := l.prog) (w := w) (base := base) GWrite T oBlock bBlock ⟨aBlock, iBlock, kBlock⟩ oStep bStep ⟨aStep, iStep, kStep⟩
    have oFlush := ok_flush (P := l.prog) (w := w) (base := base) GFlush T oStep bStep ⟨aStep, iStep, kStep⟩
    have M : Mk K C fI := ⟨mk, aI, iI, kC⟩
    have oRest := ok_rest (P := l.prog) (w := w) (base := base) GRest T M oInit bI4 oKept bKept ⟨aKept, iKept, kKept⟩
    have oPair := ok_pair (P := l.prog) (w := w) (mg := mg) (base := base) GPair
    have oOfPair := ok_ofpair (P := l.prog) (w := w) (mg := mg) (base := base) GOfPair
    have oSum := ok_sum (P := l.prog) (w := w) (mg := mg) (base := base) GSum JT oPair mPair kPair bPair
    have oHRoom := ok_headroom (P := l.prog) (w := w) (mg := mg) (base := base) GHRoom JT
    have oGroup := ok_group (P := l.prog) (w := w) (mg := mg) (base := base) GGroup JT oSum mSum kSum bSum
    have oStartL := ok_startL (P := l.prog) (w := w) (mg := mg) (base := base) GStart JT oPair mPair kPair bPair
    have oStartT := ok_startT (P := l.prog) (w := w) (mg := mg) (base := base) GStart JT oPair mPair kPair bPair
    have oHead := ok_head (P := l.prog) (w := w) (mg := mg) (base := base) GHead JT oStartL mStart kStart bStart oGroup mGroup kGroup bGroup
    have oRHead := ok_readhead (P := l.prog) (w := w) (mg := mg) (base := base) GRHead JT oOfPair mOfPair kOfPair bOfPair
    have aInitA := initA oInit
    have aArmA := armA oArm
    have aReadA := readA oRead
    have aWriteA := writeA oWrite
    have aFlushA := flushA oFlush
    have aRestA := restA oRest
    have oJI := ok_jinit (P := l.prog) (w := w) (mg := mg) (base := base) GJI J
    have oRoom := ok_room (P := l.prog) (w := w) (mg := mg) (base := base) GRoom T J oHRoom mHRoom kHRoom bHRoom
    have oWH := ok_wh (P := l.prog) (w := w) (mg := mg) (base := base) GWH T J aWriteA bWrite ⟨aWrite, iWrite, kWrite⟩ aFlushA bFlush ⟨aFlush, iFlush, kFlush⟩
    have oWG := ok_wg (P := l.prog) (w := w) (mg := mg) (base := base) GWG T J aWriteA bWrite ⟨aWrite, iWrite, kWrite⟩ aFlushA bFlush ⟨aFlush, iFlush, kFlush⟩ oHead mHead kHead bHead
    have oPend := ok_pend (P := l.prog) (w := w) (mg := mg) (base := base) GPend T JT J aReadA bRead ⟨aRead, iRead, kRead⟩ oRoom bRoom ⟨aRoom, iRoom, kRoom⟩ oRHead mRHead kRHead bRHead oStartT mStart kStart bStart oGroup mGroup kGroup bGroup
    have oCommit := ok_commit (P := l.prog) (w := w) (mg := mg) (base := base) GCommit T J oBlock bBlock ⟨aBlock, iBlock, kBlock⟩ oRoom bRoom ⟨aRoom, iRoom, kRoom⟩ oWG bWG ⟨aWG, iWG, kWG⟩ oWH bWH ⟨aWH, iWH, kWH⟩
    have oRec := ok_rec (P := l.prog) (w := w) (mg := mg) (base := base) GRec T J oPend bPend ⟨aPend, iPend, kPend⟩ oWH bWH ⟨aWH, iWH, kWH⟩
    have oBlk := ok_blk (P := l.prog) (w := w) (mg := mg) (base := base) GBlk GT oRoll mRoll kRoll bRoll
    have oGrp := ok_grp (P := l.prog) (w := w) (mg := mg) (base := base) GGrp GT oRoll mRoll kRoll bRoll oBlk mBlk kBlk bBlk
    have oSame := ok_same (P := l.prog) (w := w) (mg := mg) (base := base) GSame T GT aReadA bRead ⟨aRead, iRead, kRead⟩
    have oAgain := ok_again (P := l.prog) (w := w) (mg := mg) (base := base) GAgain T GT oRoll mRoll kRoll bRoll aRestA bRest ⟨aRest, iRest, kRest⟩
    exact ⟨⟨mTold, kTold, ⟨_, _, _, _, _, _, _, _, _, lTold, cTold⟩, PySem.W.mg_of X G aE, PySem.W.mg_of X G aJE⟩, exm_to bE isE tE ssE, exm_to bE isE tE sJD, exm_to bJE isJE tJE ssJE, T, J, GT,
      ⟨_, _, oRounds, mRounds, kRounds, bRounds⟩, ⟨_, _, oRoll, mRoll, kRoll, bRoll⟩, ⟨_, _, oGrp, mGrp, kGrp, bGrp⟩, ⟨_, _, oSame, mSame, kSame, bSame⟩, ⟨_, _, oAgain, mAgain, kAgain, bAgain⟩,
      ⟨_, _, oHRoom, mHRoom, kHRoom, bHRoom⟩, ⟨_, _, oHead, mHead, kHead, bHead⟩, ⟨_, _, oRHead, mRHead, kRHead, bRHead⟩, ⟨_, _, oJI, ⟨jmk, aJI, iJI, kCJ⟩, bJI⟩, ⟨_, _, oRoom, ⟨aRoom, iRoom, kRoom⟩, bRoom⟩,
      ⟨_, _, oCommit, ⟨aCommit, iCommit, kCommit⟩, bCommit⟩, ⟨_, _, oPend, ⟨aPend, iPend, kPend⟩, bPend⟩, ⟨_, _, oRec, ⟨aRec, iRec, kRec⟩, bRec⟩, ⟨_, _, aArmA, ⟨aArm, iArm, kArm⟩, bArm⟩, ⟨_, _, aReadA, ⟨aRead, iRead, kRead⟩, bRead⟩,
      ⟨_, _, oWrite, aWriteA, ⟨aWrite, iWrite, kWrite⟩, bWrite⟩, ⟨_, _, oInit, aInitA, M, ds, vds, bI⟩⟩
  refine ⟨_, [(cL, PT)], spLaw K PT, fun p hp => ?_, fun p hp => ?_, fun p hp => ?_, fun s u => .of_eq rfl, fun H a ns _ _ hH hS => ⟨a, ns, rfl, hS, fun p hp => ?_, fun _ => rfl⟩, fun base _ _ TB => ok_law lL cL1 (TB _ List.mem_cons_self) (bits base)⟩
  · rw [List.mem_singleton.mp hp]
    exact ht
  · rw [List.mem_singleton.mp hp]
    exact nP
  · rw [List.mem_singleton.mp hp]
    exact hd'
  · rw [List.mem_singleton.mp hp]
    exact LamX.TabS.nil (hH _ List.mem_cons_self)
end K02
open PySem PySem.W PyProof.Rows
set_option maxRecDepth 100000 in
set_option maxHeartbeats 0 in
theorem PySem.Challenge.cw_hoststack_k02_devices_and_journals_holds : PySem.Challenge.rw_hoststack_k02_devices_and_journals.Holds := by
  w_on; o_law; k_head; (case hw => w_witness2)
  k_fill
  refine HK.walk_TT (l := PySem.Challenge.rw_hoststack_k02_devices_and_journals) (n := 63) (k := 10) (x := "script") (CX := fun _ => L2.CX0) rfl (by decide) rfl ⟨rfl, by decide, by decide⟩ (fun w h Y => PySem.W.km_in_of Y) (by rfl) ?F (fun _ _ _ _ _ z => z)
  case F =>
    intro w mg fa h tabs KX G hmg
    refine' K02.all_mk KX G hmg tabs ?aDice ?lDice ?cDice ?kDice ?aRoll ?lRoll ?cRoll ?kRoll ?aRounds ?lRounds ?cRounds ?kRounds ?aTold ?lTold ?cTold ?kTold ?aPair ?lPair ?cPair ?kPair ?aOfPair ?lOfPair ?cOfPair ?kOfPair ?aSum ?lSum ?cSum ?kSum ?aHRoom ?lHRoom ?cHRoom ?kHRoom ?aGroup ?lGroup ?cGroup ?kGroup ?aStart ?lStart ?cStart ?kStart ?aHead ?lHead ?cHead ?kHead ?aRHead ?lRHead ?cRHead ?kRHead ?aBlk ?lBlk ?cBlk ?kBlk ?aGrp ?lGrp ?cGrp ?kGrp ?aSame ?lSame ?cSame ?kSame ?aAgain ?lAgain ?cAgain ?kAgain ?aArm ?iArm ?lArm ?cArm ?kArm ?aAlive ?iAlive ?lAlive ?cAlive ?kAlive ?aStep ?iStep ?lStep ?cStep ?kStep ?aNumber ?iNumber ?lNumber ?cNumber ?kNumber ?aBlock ?iBlock ?lBlock ?cBlock ?kBlock ?aKept ?iKept ?lKept ?cKept ?kKept ?aRead ?iRead ?lRead ?cRead ?kRead ?aWrite ?iWrite ?lWrite ?cWrite ?kWrite ?aFlush ?iFlush ?lFlush ?cFlush ?kFlush ?aRest ?iRest ?lRest ?cRest ?kRest ?aRoom ?iRoom ?lRoom ?cRoom ?kRoom ?aCommit ?iCommit ?lCommit ?cCommit ?kCommit ?aWG ?iWG ?lWG ?cWG ?kWG ?aWH ?iWH ?lWH ?cWH ?kWH ?aPend ?iPend ?lPend ?cPend ?kPend ?aRec ?iRec ?lRec ?cRec ?kRec ?aJI ?iJI ?lJI ?cJI ?kJI ?aCJ ?jpg ?jhd ?jpo ?jsa ?jmk ?kCJ ?j1 ?j2 ?j3 ?j4 ?aJE ?xJE ?kJE ?bJE ?tJE ?isJE ?ssJE ?sJD ?mB ?mHB ?mSS ?aMK ?lMK ?cMK ?dMK ?aI ?iI ?lI ?cI ?kI ?lT ?dT ?aL ?lL ?cL1 ?lcL ?vL ?nP ?aC ?pg ?hd ?po ?sa ?mk ?kC ?n1 ?n2 ?n3 ?n4 ?n5 ?n6 ?n7 ?aE ?xE ?kE ?bE ?tE ?isE ?ssE ?mK ?mH ?z_max ?z_min ?z_any ?z_sorted ?z_len ?z_tuple ?z_int ?z_abs ?z_range ?z_list ?z_dict ?z_enumerate ?z_reversed ?z_zip
    (case aDice => k_is)
    (case aRoll => k_is)
    (case aRounds => k_is)
    (case aTold => k_is)
    (case aPair => k_is)
    (case aOfPair => k_is)
    (case aSum => k_is)
    (case aHRoom => k_is)
    (case aGroup => k_is)
    (case aStart => k_is)
    (case aHead => k_is)
    (case aRHead => k_is)
    (case aBlk => k_is)
    (case aGrp => k_is)
    (case aSame => k_is)
    (case aAgain => k_is)
    (case aCJ => k_is)
    (case aJE => k_is)
    (case mB => k_is)
    (case mHB => k_is)
    (case mSS => k_is)
    (case aMK => k_is)
    (case aL => k_is)
    (case aC => k_is)
    (case aE => k_is)
    (case mK => k_is)
    (case mH => k_is)
    (case z_max => k_is)
    (case z_min => k_is)
    (case z_any => k_is)
    (case z_sorted => k_is)
    (case z_len => k_is)
    (case z_tuple => k_is)
    (case z_int => k_is)
    (case z_abs => k_is)
    (case z_range => k_is)
    (case z_list => k_is)
    (case z_dict => k_is)
    (case z_enumerate => k_is)
    (case z_reversed => k_is)
    (case z_zip => k_is)
    (case lDice => k_is)
    (case cDice => k_is)
    (case kDice => k_is)
    (case lRoll => k_is)
    (case cRoll => k_is)
    (case kRoll => k_is)
    (case lRounds => k_is)
    (case cRounds => k_is)
    (case kRounds => k_is)
    (case lTold => k_is)
    (case cTold => k_is)
    (case kTold => k_is)
    (case lPair => k_is)
    (case cPair => k_is)
    (case kPair => k_is)
    (case lOfPair => k_is)
    (case cOfPair => k_is)
    (case kOfPair => k_is)
    (case lSum => k_is)
    (case cSum => k_is)
    (case kSum => k_is)
    (case lHRoom => k_is)
    (case cHRoom => k_is)
    (case kHRoom => k_is)
    (case lGroup => k_is)
    (case cGroup => k_is)
    (case kGroup => k_is)
    (case lStart => k_is)
    (case cStart => k_is)
    (case kStart => k_is)
    (case lHead => k_is)
    (case cHead => k_is)
    (case kHead => k_is)
    (case lRHead => k_is)
    (case cRHead => k_is)
    (case kRHead => k_is)
    (case lBlk => k_is)
    (case cBlk => k_is)
    (case kBlk => k_is)
    (case lGrp => k_is)
    (case cGrp => k_is)
    (case kGrp => k_is)
    (case lSame => k_is)
    (case cSame => k_is)
    (case kSame => k_is)
    (case lAgain => k_is)
    (case cAgain => k_is)
    (case kAgain => k_is)
    (case aArm => k_is)
    (case iArm => k_is)
    (case lArm => k_is)
    (case cArm => k_is)
    (case kArm => k_is)
    (case aAlive => k_is)
    (case iAlive => k_is)
    (case lAlive => k_is)
    (case cAlive => k_is)
    (case kAlive => k_is)
    (case aStep => k_is)
    (case iStep => k_is)
    (case lStep => k_is)
    (case cStep => k_is)
    (case kStep => k_is)
    (case aNumber => k_is)
    (case iNumber => k_is)
    (case lNumber => k_is)
    (case cNumber => k_is)
    (case kNumber => k_is)
    (case aBlock => k_is)
    (case iBlock => k_is)
    (case lBlock => k_is)
    (case cBlock => k_is)
    (case kBlock => k_is)
    (case aKept => k_is)
    (case iKept => k_is)
    (case lKept => k_is)
    (case cKept => k_is)
    (case kKept => k_is)
    (case aRead => k_is)
    (case iRead => k_is)
    (case lRead => k_is)
    (case cRead => k_is)
    (case kRead => k_is)
    (case aWrite => k_is)
    (case iWrite => k_is)
    (case lWrite => k_is)
    (case cWrite => k_is)
    (case kWrite => k_is)
    (case aFlush => k_is)
    (case iFlush => k_is)
    (case lFlush => k_is)
    (case cFlush => k_is)
    (case kFlush => k_is)
    (case aRest => k_is)
    (case iRest => k_is)
    (case lRest => k_is)
    (case cRest => k_is)
    (case kRest => k_is)
    (case aRoom => k_is)
    (case iRoom => k_is)
    (case lRoom => k_is)
    (case cRoom => k_is)
    (case kRoom => k_is)
    (case aCommit => k_is)
    (case iCommit => k_is)
    (case lCommit => k_is)
    (case cCommit => k_is)
    (case kCommit => k_is)
    (case aWG => k_is)
    (case iWG => k_is)
    (case lWG => k_is)
    (case cWG => k_is)
    (case kWG => k_is)
    (case aWH => k_is)
    (case iWH => k_is)
    (case lWH => k_is)
    (case cWH => k_is)
    (case kWH => k_is)
    (case aPend => k_is)
    (case iPend => k_is)
    (case lPend => k_is)
    (case cPend => k_is)
    (case kPend => k_is)
    (case aRec => k_is)
    (case iRec => k_is)
    (case lRec => k_is)
    (case cRec => k_is)
    (case kRec => k_is)
    (case aJI => k_is)
    (case iJI => k_is)
    (case lJI => k_is)
    (case cJI => k_is)
    (case kJI => k_is)
    (case jpg => k_is)
    (case jhd => k_is)
    (case jpo => k_is)
    (case jsa => k_is)
    (case jmk => k_is)
    (case kCJ => k_is)
    (case j1 => k_is)
    (case j2 => k_is)
    (case j3 => k_is)
    (case j4 => k_is)
    (case xJE => k_exc)
    (case kJE => k_is)
    (case bJE => k_is)
    (case tJE => k_is)
    (case isJE => k_is)
    (case ssJE => first | rfl | k_is)
    (case sJD => first | rfl | k_is)
    (case lMK => k_is)
    (case cMK => rfl)
    (case dMK => rfl)
    (case aI => k_is)
    (case iI => k_is)
    (case lI => k_is)
    (case cI => k_is)
    (case kI => k_is)
    (case lT => k_is)
    (case dT => rfl)
    (case lL => k_is)
    (case cL1 => k_is)
    (case lcL => k_is)
    (case vL => rfl)
    (case nP => kernel_rfl)
    (case pg => k_is)
    (case hd => k_is)
    (case po => k_is)
    (case sa => k_is)
    (case mk => k_is)
    (case kC => k_is)
    (case n1 => k_is)
    (case n2 => k_is)
    (case n3 => k_is)
    (case n4 => k_is)
    (case n5 => k_is)
    (case n6 => k_is)
    (case n7 => k_is)
    (case xE => k_exc)
    (case kE => k_is)
    (case bE => k_is)
    (case tE => k_is)
    (case isE => k_is)
    (case ssE => first | rfl | k_is)
