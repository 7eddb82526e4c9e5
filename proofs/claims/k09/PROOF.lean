import PyProof.Rows.All
import Wide.All
import OpenK.AllK
import Wide.FinOn
import HandS.ForMost
import HandS.Iter
import HandS.Codes
import HandS.StrMore
import HandS.ForExc
import HandS.DictComp
import HandS.DeepEq
import KE.KEqDict
import HandS.ExcInit
import HandS.Lambda
import HandS.EndTab
import HandS.Wide
import HandS.RaiseMore
import HandS.ReplaceLit
import HandS.More
import PyProof.MeetsDict
import HandS.Defaults
import HandS.Style
import HandS.ReplaceList
import PySem.Challenge.RW_hoststack_k09_sums_within_words
set_option Elab.async false
set_option linter.all false
set_option maxRecDepth 100000
set_option maxHeartbeats 8000000
namespace HK
open PySem PySem.Spec PyProof.Rows L2 PySem.StrLaws TL
/-- the text of codes; of one code -/
def T (l : List Nat) : Str := ⟨l.toArray⟩
theorem T_len (l : List Nat) : (T l).length = l.length := rfl
theorem T_inj {a b : List Nat} (h : T a = T b) : a = b := by
  have z := congrArg (fun x : Str => x.cps.toList) h
  exact z
/-- the codes of the 95 letters -/
def ls : List Nat := 10 :: 32 :: 33 :: 34 :: 35 :: 36 :: (List.range 89).map (· + 38)
theorem ls_len : ls.length = 95 := by decide
theorem ls_nodup : ls.Nodup := by decide +kernel
theorem ls_text : Str.ofString "\n !\"#$&'()*+,-./0123456789:;<=>?@ABCDEFGHIJKLMNOPQRSTUVWXYZ[\\]^_`abcdefghijklmnopqrstuvwxyz{|}~" = T ls := by decide +kernel
/-- the first place of a code -/
def pos (l : List Nat) (c : Nat) : Option Nat := l.findIdx? (· == c)
theorem at_one (l : List Nat) (c i : Nat) : At (T l) (T [c]) (T l).length i ↔ l[i]? = some c := by
  have hc : (T [c]).length = 1 := rfl
  have hl : (T l).length = l.length := rfl
  unfold At
  rw [hc, hl]
  have key : Builtin.Str.subAt (T l) (T [c]) i = ((l.drop i).take 1 == [c]) := by
    have e : (T l).cps.extract i (i + 1) = ((l.drop i).take 1).toArray := by
      apply Array.ext'
      simp [T, List.extract_eq_drop_take]
    show ((T l).cps.extract i (i + 1) == [c].toArray) = _
    rw [e]
    simp
  rw [key]
  constructor
  · rintro ⟨h1, h2⟩
    have h3 : (l.drop i).take 1 = [c] := eq_of_beq h2
    have h4 : ((l.drop i).take 1)[0]? = some c := by rw [h3]; rfl
    simpa using h4
  · intro h
    obtain ⟨hi, e⟩ := List.getElem?_eq_some_iff.mp h
    refine ⟨by omega, ?_⟩
    rw [List.drop_eq_getElem_cons hi, e]
    simp
theorem occ_pos (l : List Nat) (c : Nat) : (pos l c = none ∧ Builtin.Str.occurrences (T l) (T [c]) 0 (T l).length 1 = []) ∨ ∃ k r, pos l c = some k ∧ Builtin.Str.occurrences (T l) (T [c]) 0 (T l).length 1 = k :: r := by
  rcases occ_head (T l) (T [c]) 1 (Nat.le_refl _) with ⟨e, hn⟩ | ⟨i, r, e, hi, hn⟩
  · refine .inl ⟨?_, e⟩
    unfold pos
    rw [List.findIdx?_eq_none_iff]
    intro x hx
    obtain ⟨j, hj⟩ := List.getElem?_of_mem hx
    cases q : (x == c) with
    | false => rfl
    | true =>
      have e2 : x = c := eq_of_beq q
      rw [e2] at hj
      exact absurd ((at_one l c j).mpr hj) (hn j)
  · refine .inr ⟨i, r, ?_, e⟩
    have h1 := (at_one l c i).mp hi
    obtain ⟨hl, e1⟩ := List.getElem?_eq_some_iff.mp h1
    unfold pos
    rw [List.findIdx?_eq_some_iff_getElem]
    refine ⟨hl, by simp [e1], fun j hj => ?_⟩
    have hjl : j < l.length := Nat.lt_trans hj hl
    intro q
    have e2 : l[j] = c := eq_of_beq q
    exact hn j hj ((at_one l c j).mpr (by rw [List.getElem?_eq_getElem hjl, e2]))
theorem index_one (l : List Nat) (c : Nat) : Txt.index0 (T l) (T [c]) = pos l c := by
  unfold Txt.index0
  rcases occ_pos l c with ⟨h, e⟩ | ⟨k, r, h, e⟩ <;> rw [e, h] <;> rfl
theorem find_one (l : List Nat) (c : Nat) : Txt.find (T l) (T [c]) = match pos l c with | some k => (k : Int) | none => -1 := by
  unfold Txt.find
  rcases occ_pos l c with ⟨h, e⟩ | ⟨k, r, h, e⟩ <;> rw [e, h]
theorem pos_some {l : List Nat} {c k : Nat} (h : pos l c = some k) : l[k]? = some c := by
  unfold pos at h
  rw [List.findIdx?_eq_some_iff_getElem] at h
  obtain ⟨hl, e, _⟩ := h
  rw [List.getElem?_eq_getElem hl, eq_of_beq e]
theorem pos_mem {l : List Nat} {c : Nat} (h : c ∈ l) : ∃ k, pos l c = some k := by
  cases q : pos l c with
  | some k => exact ⟨k, rfl⟩
  | none =>
    unfold pos at q
    rw [List.findIdx?_eq_none_iff] at q
    have := q c h
    simp at this
theorem pos_none {l : List Nat} {c : Nat} (h : c ∉ l) : pos l c = none := by
  cases q : pos l c with
  | none => rfl
  | some k => exact absurd (List.mem_of_getElem? (pos_some q)) h
theorem pos_at {l : List Nat} (nd : l.Nodup) {k c : Nat} (h : l[k]? = some c) : pos l c = some k := by
  obtain ⟨j, e⟩ := pos_mem (List.mem_of_getElem? h)
  have h2 := pos_some e
  rw [e, (nd_ix nd h2 h)]
/-- a comprehension over the signs of a text -/
theorem lc_str {l : List Nat} {g : TG} {tt : TT} {te : TE} {vs : List Nat} {σ : L2.St} {H1 : Hp} {D : Addr} {Qd : Hp → Prop} (Pv : Nat → Hp → Prop) (h0 : Pv 0 (upd H1 D (.lst [])))
    (hs : ∀ i c H, l[i]? = some c → Pv i H → g (.str (T [c])) (wipe σ vs) H fun σ2 H2 => wipe σ2 vs = wipe σ vs ∧ tt σ2 H2 fun b H3 =>
      if b = true then te σ2 H3 fun y H4 => ∃ acc, H4 D = some (.lst acc) ∧ acc.length < sizeLine ∧ Pv (i + 1) (upd H4 D (.lst (acc ++ [y]))) else Pv (i + 1) H3) (hd : ∀ H, Pv l.length H → Qd H) :
    ∃ W : Nat → Nat → Hp → Prop, (∃ m, W 0 m (upd H1 D (.lst []))) ∧ ∀ i m H, W i m H →
      ((Its (T l)).stop i H ∧ Qd H) ∨ ((Its (T l)).go i H ∧ ∃ Nx : Hp → Prop, (∀ H', Nx H' → ∃ m', m' < m ∧ W (i + 1) m' H') ∧ ∀ x H', (Its (T l)).yld i H x H' → g x (wipe σ vs) H' fun σ2 H2 => wipe σ2 vs = wipe σ vs ∧ tt σ2 H2 fun b H3 =>
        if b = true then te σ2 H3 fun y H4 => ∃ acc, H4 D = some (.lst acc) ∧ acc.length < sizeLine ∧ Nx (upd H4 D (.lst (acc ++ [y]))) else Nx H3) := by
  have sz : (T l).cps.size = l.length := rfl
  refine ⟨fun i m H => m = l.length - i ∧ i ≤ l.length ∧ Pv i H, ⟨l.length, by simp, Nat.zero_le _, h0⟩, ?_⟩
  rintro i m H ⟨rfl, hi, p⟩
  by_cases hlt : i < l.length
  · refine .inr ⟨hlt, Pv (i + 1), fun H' p' => ⟨l.length - (i + 1), by omega, rfl, hlt, p'⟩, fun x H' y => ?_⟩
    obtain ⟨e, c, hc, ev⟩ := y
    subst e
    subst ev
    exact hs i c _ (by simpa [T] using hc) p
  · have e : i = l.length := by omega
    subst e
    exact .inl ⟨Nat.le_of_eq sz, hd H p⟩
theorem take_map_succ {α β : Type} (f : α → β) {l : List α} {i : Nat} {c : α} (h : l[i]? = some c) : (l.take (i + 1)).map f = (l.take i).map f ++ [f c] := by
  rw [List.take_add_one, h, List.map_append]
  rfl
theorem mem_take_succ {α : Type} {l : List α} {i : Nat} {c : α} {p : α → Prop} (h : l[i]? = some c) (hp : ∀ x ∈ l.take i, p x) (hc : p c) : ∀ x ∈ l.take (i + 1), p x := by
  intro x hx
  rw [List.take_add_one, h] at hx
  rcases List.mem_append.mp hx with z | z
  · exact hp x z
  · have e : x = c := by simpa using z
    rw [e]
    exact hc
theorem sqT_same {K : PySem.W.Frag} {H H' : Hp} {a : Addr} {xs : List V} (e : Same H H') (h : SqT K H a xs) : SqT K H' a xs := by
  rcases h with (h | ⟨o, h⟩) | h
  · exact .inl (.inl (e _ _ h))
  · exact .inl (.inr ⟨o, e _ _ h⟩)
  · exact .inr h
theorem same_upd {H : Hp} {d : Addr} {o : HO} (h : H d = none) : Same H (upd H d o) := fun b u e => by
  rw [upd_ne (ne_of_none e h)]
  exact e
theorem join_len (l : List Nat) : ((l.map fun c => T [c]).map (·.length)).sum = l.length := by
  induction l with
  | nil => rfl
  | cons c r ih => simp only [List.map_cons, List.sum_cons, ih, T_len, List.length_cons, List.length_nil]; omega
theorem join_T (l : List Nat) : PySem.Txt.join (T []) (l.map fun c => T [c]) = T l := by
  rw [join_eq]
  refine ext_tl ?_
  rw [tl_join]
  show joinL [] ((l.map fun c => T [c]).map tl) = l
  rw [List.map_map]
  induction l with
  | nil => rfl
  | cons c r ih =>
    cases r with
    | nil => rfl
    | cons d q =>
      have e : joinL [] (((c :: d :: q).map (tl ∘ fun c => T [c]))) = [c] ++ ([] ++ joinL [] ((d :: q).map (tl ∘ fun c => T [c]))) := rfl
      rw [e, ih]
      rfl
end HK
/-! == and != of dicts whose values are data, both answers -/
namespace HKE
open PySem PySem.Spec PyProof.Rows L2
/-- are all of ks in ls, with equal data -/
def hitsB (ls : List (Key × V)) (dk dl : Key → PyData) : List (Key × V) → Bool
  | [] => true
  | p :: r => match valV ls p.1 with
    | none => false
    | some _ => PyData.eqv (dk p.1) (dl p.1) && hitsB ls dk dl r
def DVs (K : PySem.W.Frag) (H : Hp) (ks : List (Key × V)) (d : Key → PyData) : Prop := ∀ k v, (k, v) ∈ ks → Dp K H v (d k) ∧ SeqAt.shaped (d k) = true
def dEq (ks ls : List (Key × V)) (dk dl : Key → PyData) : Bool := ks.length == ls.length && hitsB ls dk dl ks
def rEqDD (K : PySem.W.Frag) : R2 := fun x y H Q => ∃ a b ks ls dk dl, x = .ref a ∧ y = .ref b ∧ H a = some (.dK ks) ∧ H b = some (.dK ls) ∧ DVs K H ks dk ∧ DVs K H ls dl ∧ Q (.bl (dEq ks ls dk dl)) H
def rNeDD (K : PySem.W.Frag) : R2 := fun x y H Q => ∃ a b ks ls dk dl, x = .ref a ∧ y = .ref b ∧ H a = some (.dK ks) ∧ H b = some (.dK ls) ∧ DVs K H ks dk ∧ DVs K H ls dl ∧ Q (.bl (!dEq ks ls dk dl)) H
theorem valV_mem {kvs : List (Key × V)} {k : Key} {v : V} (h : valV kvs k = some v) : (k, v) ∈ kvs := by
  unfold valV at h
  obtain ⟨q, hq, rfl⟩ := Option.map_eq_some_iff.mp h
  have z := List.find?_some hq
  have e : q.1 = k := of_decide_eq_true z
  rw [← e]
  exact List.mem_of_find?_eq_some hq
section
variable {X : Cx} {pins : List (Addr × Obj)} {σ : L2.St} {H : Hp} {s : Shared}
theorem hits_of (I : L2.Inv X pins σ H s) {A : Around} (hu : A.in1.units + 64 < cLine) {ls : List (Key × V)} {vb : List (Key × Value)} (rb : KV ls vb) {dk dl : Key → PyData} (hl : DVs X.K H ls dl) {ks : List (Key × V)} {va : List (Key × Value)} (ra : KV ks va) :
    DVs X.K H ks dk → PySem.W.KeqHits A.in1 s vb va (hitsB ls dk dl ks) := by
  unfold KV at ra
  induction ra with
  | nil => intro _; exact .nil
  | @cons p q ps qs h t k =>
    intro hp
    obtain ⟨h1, h2⟩ := h
    obtain ⟨p1, p2⟩ := p
    obtain ⟨key, v⟩ := q
    have h1 : p1 = key := h1
    subst h1
    have rr := rb.val p1
    have ih := k fun k' v' hm => hp k' v' (List.mem_cons_of_mem _ hm)
    rw [hitsB]
    dsimp only
    cases e : valV ls p1 with
    | none =>
      rw [e] at rr
      cases e2 : valueAt vb p1 with
      | none => exact .miss e2
      | some y => rw [e2] at rr; exact (show False from rr).elim
    | some u =>
      rw [e] at rr
      cases e2 : valueAt vb p1 with
      | none => rw [e2] at rr; exact (show False from rr).elim
      | some y =>
        rw [e2] at rr
        have rr : RelV u y := rr
        obtain ⟨g1, g2⟩ := hp p1 p2 List.mem_cons_self
        obtain ⟨g3, g4⟩ := hl p1 u (valV_mem e)
        obtain ⟨as, r1⟩ := Dp.reads I _ _ _ g1 h2
        obtain ⟨bs, r2⟩ := Dp.reads I _ _ _ g3 rr
        exact .hit e2 (PySem.W.keq_at r1 r2 g2 g4 hu) ih
end
section
variable {X : Cx}
theorem op_eqDD (hu : X.A.units + 66 < cLine) : OpR X (compareOp .Eq) (rEqDD X.K) := by
  intro pins s σ H x y v u Q I rx ry h
  obtain ⟨a, b, ks, ls, dk, dl, rfl, rfl, ea, eb, h1, h2, q⟩ := h
  obtain rfl : v = Value.ref a := rx
  obtain rfl : u = Value.ref b := ry
  obtain ⟨_, ya, va, ra, da⟩ := (show ObjOk X.prog X.w H s.heap a (.dK ks) from I.hok a _ ea)
  obtain ⟨_, yb, vb, rb, db⟩ := (show ObjOk X.prog X.w H s.heap b (.dK ls) from I.hok b _ eb)
  have e : (va.length == vb.length && hitsB ls dk dl ks) = dEq ks ls dk dl := by unfold dEq; rw [ra.length, rb.length]
  exact PySem.W.keq_eq (knd := mixKind X.prog X.w) ya yb da db (by omega) (fun _ => hits_of I (by show X.A.units + 1 + 64 < cLine; omega) rb h2 ra h1) ⟨.bl _, H, I, by show Value.bool _ = Value.bool _; rw [e], q⟩
theorem op_neDD (hu : X.A.units + 66 < cLine) : OpR X (compareOp .NotEq) (rNeDD X.K) := by
  intro pins s σ H x y v u Q I rx ry h
  obtain ⟨a, b, ks, ls, dk, dl, rfl, rfl, ea, eb, h1, h2, q⟩ := h
  obtain rfl : v = Value.ref a := rx
  obtain rfl : u = Value.ref b := ry
  obtain ⟨_, ya, va, ra, da⟩ := (show ObjOk X.prog X.w H s.heap a (.dK ks) from I.hok a _ ea)
  obtain ⟨_, yb, vb, rb, db⟩ := (show ObjOk X.prog X.w H s.heap b (.dK ls) from I.hok b _ eb)
  have e : (va.length == vb.length && hitsB ls dk dl ks) = dEq ks ls dk dl := by unfold dEq; rw [ra.length, rb.length]
  exact PySem.W.keq_ne (knd := mixKind X.prog X.w) ya yb da db (by omega) (fun _ => hits_of I (by show X.A.units + 1 + 64 < cLine; omega) rb h2 ra h1) ⟨.bl _, H, I, by show Value.bool _ = Value.bool _; rw [e], q⟩
end
end HKE
namespace K09
/-! ### sums, as plain mathematics -/
abbrev Wd := List Nat
inductive Lf where
  | int (n : Nat)
  | name (w : Wd)
  deriving DecidableEq
inductive Tr where
  | lf (x : Lf)
  | neg (t : Tr)
  | op (s : Wd) (a b : Tr)
  deriving DecidableEq
def lv (w : Wd) : Nat :=
  if w = [60] ∨ w = [60, 61] ∨ w = [62] ∨ w = [62, 61] ∨ w = [61, 61] ∨ w = [33, 61] then 1 else if w = [43] ∨ w = [45] then 2 else if w = [42] ∨ w = [47] ∨ w = [109, 111, 100] then 3 else 0
theorem lv_le (w : Wd) : lv w ≤ 3 := by unfold lv; repeat' split
                                        all_goals omega
def lvh : List Wd → Nat
  | [] => 0
  | w :: _ => lv w
abbrev PF := List Wd → Option (Tr × List Wd)
def loop (nx : PF) (l : Nat) : Nat → Tr → List Wd → Option (Tr × List Wd)
  | 0, t, rs => some (t, rs)
  | _ + 1, t, [] => some (t, [])
  | n + 1, t, w :: r => if lv w = l then (match nx r with | none => none | some p => loop nx l n (.op w t p.1) p.2) else some (t, w :: r)
/-- by how far a level lies under the tightest -/
def lev (tg : PF) : Nat → PF
  | 0, ws => tg ws
  | j + 1, ws => match lev tg j ws with
    | none => none
    | some p => loop (lev tg j) (3 - j) p.2.length p.1 p.2
def tight (pl : Wd → Option Lf) : Nat → PF
  | _, [] => none
  | 0, w :: r => if w = [45] ∨ w = [40] then none else (pl w).map fun x => (.lf x, r)
  | d + 1, w :: r =>
    if w = [45] then (tight pl d r).map fun p => (.neg p.1, p.2)
    else if w = [40] then (match lev (tight pl d) 3 r with
      | some (t, c :: rs) => if c = [41] then some (t, rs) else none
      | _ => none)
    else (pl w).map fun x => (.lf x, r)
def parse (pl : Wd → Option Lf) (ws : List Wd) : Option Tr :=
  match lev (tight pl 19) 3 ws with
  | some (t, []) => some t
  | _ => none
def toks (tk : Lf → Wd) : Nat → Tr → List Wd
  | _, .lf x => [tk x]
  | _, .neg t => [45] :: toks tk 4 t
  | l, .op s a b => if lv s < l then [40] :: (toks tk (lv s) a ++ s :: toks tk (lv s + 1) b ++ [[41]]) else toks tk (lv s) a ++ s :: toks tk (lv s + 1) b
def nb : Nat → Tr → Nat
  | _, .lf _ => 0
  | _, .neg t => nb 4 t
  | l, .op s a b => (if lv s < l then 1 else 0) + nb (lv s) a + nb (lv s + 1) b
def sz : Tr → Nat
  | .lf _ => 1
  | .neg t => sz t + 1
  | .op _ a b => sz a + sz b + 1
def ht : Tr → Nat
  | .lf _ => 0
  | .neg t => ht t + 1
  | .op _ a b => max (ht a) (ht b) + 1
def oth (u : List Wd) : Nat := (u.filter fun w => w ≠ [40] ∧ w ≠ [41]).length
theorem oth_app (u v : List Wd) : oth (u ++ v) = oth u + oth v := by unfold oth; rw [List.filter_append, List.length_append]
theorem oth_cons (w : Wd) (u : List Wd) : oth (w :: u) = oth [w] + oth u := oth_app [w] u
theorem cnt_cons (w : Wd) (u : List Wd) : (w :: u).count [40] = [w].count [40] + u.count [40] := by
  have := List.count_append (a := ([40] : Wd)) (l₁ := [w]) (l₂ := u)
  exact this
/-! ### what was read, and how many brackets it had -/
def Eats (l : Nat) (ws : List Wd) (t : Tr) (rs : List Wd) : Prop := ∃ u, ws = u ++ rs ∧ u ≠ [] ∧ nb l t ≤ u.count [40] ∧ sz t ≤ oth u
def Eater (l : Nat) (f : PF) : Prop := ∀ ws t rs, f ws = some (t, rs) → Eats l ws t rs
theorem lv_oth {w : Wd} (h : lv w ≠ 0) : oth [w] = 1 := by
  have : w ≠ [40] ∧ w ≠ [41] := ⟨fun e => h (by rw [e]; decide), fun e => h (by rw [e]; decide)⟩
  unfold oth
  rw [List.filter_cons, if_pos (by simpa using this)]; rfl
theorem nb_mono : ∀ (t : Tr) {l m : Nat}, l ≤ m → nb l t ≤ nb m t
  | .lf _, _, _, _ => Nat.le_refl _
  | .neg _, _, _, _ => Nat.le_refl _
  | .op s a b, l, m, h => by
    unfold nb
    by_cases c : lv s < l
    · rw [if_pos c, if_pos (by omega)]; exact Nat.le_refl _
    · rw [if_neg c]; split <;> omega
theorem nb_one (t : Tr) (l : Nat) : nb l t ≤ nb 1 t + 1 := by
  cases t with
  | lf _ => exact Nat.zero_le _
  | neg _ => exact Nat.le_succ _
  | op s a b => unfold nb; split <;> omega
theorem loop_eats {nx : PF} {l : Nat} (h1 : 1 ≤ l) (hn : Eater (l + 1) nx) : ∀ (n : Nat) (t0 : Tr) (rs0 : List Wd) (t : Tr) (rs : List Wd), loop nx l n t0 rs0 = some (t, rs) → ∃ u, rs0 = u ++ rs ∧ nb l t ≤ nb l t0 + u.count [40] ∧ sz t ≤ sz t0 + oth u := by
  intro n
  induction n with
  | zero =>
    intro t0 rs0 t rs h
    cases h
    exact ⟨[], rfl, Nat.le_add_right _ _, Nat.le_add_right _ _⟩
  | succ n ih =>
    intro t0 rs0 t rs h
    cases rs0 with
    | nil => cases h; exact ⟨[], rfl, Nat.le_add_right _ _, Nat.le_add_right _ _⟩
    | cons w r =>
      unfold loop at h
      by_cases c : lv w = l
      · rw [if_pos c] at h
        cases e : nx r with
        | none => rw [e] at h; cases h
        | some p =>
          rw [e] at h
          obtain ⟨b, r1⟩ := p
          obtain ⟨u1, e1, _, n1, s1⟩ := hn _ _ _ e
          obtain ⟨u2, e2, n2, s2⟩ := ih _ _ _ _ h
          dsimp only at e2 n2 s2
          have ho : oth [w] = 1 := lv_oth (by omega)
          refine ⟨w :: (u1 ++ u2), by rw [e1, e2]; simp, ?_, ?_⟩
          · rw [cnt_cons, List.count_append]
            have : nb l (.op w t0 b) = nb l t0 + nb (l + 1) b := by
              show (if lv w < l then 1 else 0) + nb (lv w) t0 + nb (lv w + 1) b = _
              rw [if_neg (by omega), c]; omega
            rw [this] at n2
            omega
          · rw [oth_cons, oth_app, ho]
            have : sz (.op w t0 b) = sz t0 + sz b + 1 := rfl
            rw [this] at s2
            omega
      · rw [if_neg c] at h
        cases h
        exact ⟨[], rfl, Nat.le_add_right _ _, Nat.le_add_right _ _⟩
theorem lev_eats {tg : PF} (ht : Eater 4 tg) : ∀ j, j ≤ 3 → Eater (4 - j) (lev tg j)
  | 0, _ => fun ws t rs h => ht ws t rs h
  | j + 1, hj => fun ws t rs h => by
    unfold lev at h
    cases e : lev tg j ws with
    | none => rw [e] at h; cases h
    | some p =>
      rw [e] at h
      obtain ⟨t0, rs0⟩ := p
      have ih := lev_eats ht j (by omega)
      obtain ⟨u0, e0, ne, n0, s0⟩ := ih _ _ _ e
      have ej : 4 - (j + 1) = 3 - j := by omega
      have hn : Eater (3 - j + 1) (lev tg j) := by rw [show 3 - j + 1 = 4 - j by omega]; exact ih
      obtain ⟨u1, e1, n1, s1⟩ := loop_eats (by omega) hn _ _ _ _ _ h
      dsimp only at e1 n1 s1
      refine ⟨u0 ++ u1, by rw [e0, e1]; simp, by simp [ne], ?_, ?_⟩
      · rw [ej, List.count_append]
        have := nb_mono t0 (show 3 - j ≤ 4 - j by omega)
        omega
      · rw [oth_app]; omega
theorem tight_eats {pl : Wd → Option Lf} (hp : ∀ w x, pl w = some x → w ≠ [40] ∧ w ≠ [41]) : ∀ d, Eater 4 (tight pl d) := by
  have leaf : ∀ (w : Wd) (r : List Wd) (t : Tr) (rs : List Wd), ((pl w).map fun x => (Tr.lf x, r)) = some (t, rs) → Eats 4 (w :: r) t rs := fun w r t rs h => by
    cases e : pl w with
    | none => rw [e] at h; cases h
    | some x =>
      rw [e] at h
      cases h
      refine ⟨[w], rfl, by simp, Nat.zero_le _, ?_⟩
      have := hp w x e
      show 1 ≤ oth [w]
      unfold oth
      rw [List.filter_cons, if_pos (by simpa using this)]
      exact Nat.le_refl _
  intro d
  induction d with
  | zero =>
    intro ws t rs h
    cases ws with
    | nil => cases h
    | cons w r =>
      unfold tight at h
      split at h
      · cases h
      · exact leaf w r t rs h
  | succ d ih =>
    intro ws t rs h
    cases ws with
    | nil => cases h
    | cons w r =>
      unfold tight at h
      by_cases c1 : w = [45]
      · rw [if_pos c1] at h
        cases e : tight pl d r with
        | none => rw [e] at h; cases h
        | some p =>
          rw [e] at h
          obtain ⟨t1, r1⟩ := p
          cases h
          obtain ⟨u, e1, _, n1, s1⟩ := ih _ _ _ e
          refine ⟨w :: u, by rw [e1]; rfl, by simp, ?_, ?_⟩
          · rw [cnt_cons]
            show nb 4 t1 ≤ _
            omega
          · rw [oth_cons]
            have : oth [w] = 1 := by rw [c1]; decide
            show sz t1 + 1 ≤ _
            omega
      · rw [if_neg c1] at h
        by_cases c2 : w = [40]
        · rw [if_pos c2] at h
          cases e : lev (tight pl d) 3 r with
          | none => rw [e] at h; cases h
          | some p =>
            rw [e] at h
            obtain ⟨t1, r1⟩ := p
            cases r1 with
            | nil => cases h
            | cons c r2 =>
              dsimp only at h
              by_cases c3 : c = [41]
              · rw [if_pos c3] at h
                cases h
                obtain ⟨u, e1, _, n1, s1⟩ := lev_eats ih 3 (by decide) _ _ _ e
                refine ⟨w :: (u ++ [c]), by rw [e1]; simp, by simp, ?_, ?_⟩
                · rw [cnt_cons, List.count_append, c2, c3]
                  have := nb_one t 4
                  have h1 : ([[40]] : List Wd).count [40] = 1 := by decide
                  have n1 : nb 1 t ≤ u.count [40] := n1
                  omega
                · rw [oth_cons, oth_app]; omega
              · rw [if_neg c3] at h; cases h
        · rw [if_neg c2] at h
          exact leaf w r t rs h
theorem parse_eats {pl : Wd → Option Lf} (hp : ∀ w x, pl w = some x → w ≠ [40] ∧ w ≠ [41]) {ws : List Wd} {t : Tr} (h : parse pl ws = some t) : nb 1 t ≤ ws.count [40] ∧ sz t ≤ oth ws := by
  unfold parse at h
  cases e : lev (tight pl 19) 3 ws with
  | none => rw [e] at h; cases h
  | some p =>
    rw [e] at h
    obtain ⟨t1, r⟩ := p
    cases r with
    | nil =>
      cases h
      obtain ⟨u, e1, _, n1, s1⟩ := lev_eats (tight_eats hp 19) 3 (by decide) _ _ _ e
      rw [e1, List.append_nil]
      exact ⟨n1, s1⟩
    | cons _ _ => cases h
end K09
namespace K09
/-- what reads a word at least -/
def Less (nx : PF) : Prop := ∀ ws t rs, nx ws = some (t, rs) → rs.length < ws.length
theorem Eater.less {l : Nat} {f : PF} (h : Eater l f) : Less f := fun ws t rs e => by
  obtain ⟨u, e1, ne, _⟩ := h ws t rs e
  rw [e1, List.length_append]
  have := List.length_pos_iff.mpr ne
  omega
theorem loop_fuel {nx : PF} {l : Nat} (hn : Less nx) : ∀ (n m : Nat) (t : Tr) (rs : List Wd), rs.length ≤ n → rs.length ≤ m → loop nx l n t rs = loop nx l m t rs := by
  intro n
  induction n with
  | zero =>
    intro m t rs h _
    cases rs with
    | nil => cases m <;> rfl
    | cons _ _ => exact absurd h (by simp)
  | succ n ih =>
    intro m t rs h hm
    cases rs with
    | nil => cases m <;> rfl
    | cons w r =>
      cases m with
      | zero => exact absurd hm (by simp)
      | succ m =>
        unfold loop
        by_cases c : lv w = l
        · rw [if_pos c, if_pos c]
          cases e : nx r with
          | none => rfl
          | some p =>
            have := hn r p.1 p.2 e
            have h1 : r.length ≤ n := by simpa using h
            have h2 : r.length ≤ m := by simpa using hm
            exact ih m _ _ (by omega) (by omega)
        · rw [if_neg c, if_neg c]
def L (nx : PF) (l : Nat) (t : Tr) (rs : List Wd) : Option (Tr × List Wd) := loop nx l rs.length t rs
theorem L_step {nx : PF} {l : Nat} (hn : Less nx) {w : Wd} {r r' : List Wd} {t b : Tr} (h : lv w = l) (e : nx r = some (b, r')) : L nx l t (w :: r) = L nx l (.op w t b) r' := by
  show loop nx l (r.length + 1) t (w :: r) = _
  unfold loop
  rw [if_pos h, e]
  exact loop_fuel hn _ _ _ _ (Nat.le_of_lt (hn _ _ _ e)) (Nat.le_refl _)
theorem L_none {nx : PF} {l : Nat} {w : Wd} {r : List Wd} {t : Tr} (h : lv w = l) (e : nx r = none) : L nx l t (w :: r) = none := by
  show loop nx l (r.length + 1) t (w :: r) = _
  unfold loop
  rw [if_pos h, e]
theorem L_stop {nx : PF} {l : Nat} {rs : List Wd} {t : Tr} (h1 : 1 ≤ l) (h : lvh rs ≠ l) : L nx l t rs = some (t, rs) := by
  cases rs with
  | nil => rfl
  | cons w r =>
    show loop nx l (r.length + 1) t (w :: r) = _
    unfold loop
    have h : lv w ≠ l := h
    rw [if_neg h]
theorem lev_some {tg : PF} {j : Nat} {ws : List Wd} {t : Tr} {rs : List Wd} (h : lev tg j ws = some (t, rs)) : lev tg (j + 1) ws = L (lev tg j) (3 - j) t rs := by
  show (match lev tg j ws with | none => none | some p => loop (lev tg j) (3 - j) p.2.length p.1 p.2) = _
  rw [h]; rfl
theorem lev_none {tg : PF} {j : Nat} {ws : List Wd} (h : lev tg j ws = none) : lev tg (j + 1) ws = none := by
  show (match lev tg j ws with | none => none | some p => loop (lev tg j) (3 - j) p.2.length p.1 p.2) = _
  rw [h]
theorem lev_none_le {tg : PF} {j : Nat} {ws : List Wd} (h : lev tg j ws = none) : ∀ i, lev tg (j + i) ws = none
  | 0 => h
  | i + 1 => lev_none (lev_none_le h i)
/-- down a level -/
theorem down {tg : PF} {j : Nat} {ws rs : List Wd} {t : Tr} (h : lev tg (j + 1) ws = L (lev tg j) (3 - j) t rs) (hj : j ≤ 1) (hr : lvh rs < 3 - j) : lev tg (j + 2) ws = L (lev tg (j + 1)) (2 - j) t rs := by
  rw [L_stop (by omega) (by omega)] at h
  have := lev_some h
  rw [show 3 - (j + 1) = 2 - j by omega] at this
  exact this
/-- from the tightest level down -/
theorem tb {tg : PF} {ws rs : List Wd} {t : Tr} (h : tg ws = some (t, rs)) : ∀ j, j ≤ 2 → lvh rs ≤ 3 - j → lev tg (j + 1) ws = L (lev tg j) (3 - j) t rs
  | 0, _, _ => lev_some (j := 0) h
  | j + 1, hj, hr => by
    have := down (tb h j (by omega) (by omega)) (by omega) (by omega)
    rw [show 2 - j = 3 - (j + 1) by omega] at this
    exact this
section
variable {pl : Wd → Option Lf} {tk : Lf → Wd}
def Good (pl : Wd → Option Lf) (tk : Lf → Wd) : Tr → Prop
  | .lf x => pl (tk x) = some x ∧ tk x ≠ [45] ∧ tk x ≠ [40]
  | .neg t => Good pl tk t
  | .op s a b => 1 ≤ lv s ∧ Good pl tk a ∧ Good pl tk b
theorem tight_lf {x : Lf} (h : Good pl tk (.lf x)) (d : Nat) (rs : List Wd) : tight pl d (tk x :: rs) = some (.lf x, rs) := by
  obtain ⟨h1, h2, h3⟩ := h
  cases d with
  | zero => unfold tight; rw [if_neg (by simp [h2, h3]), h1]; rfl
  | succ d => unfold tight; rw [if_neg h2, if_neg h3, h1]; rfl
theorem tight_neg {d : Nat} {ws rs : List Wd} {t : Tr} (h : tight pl d ws = some (t, rs)) : tight pl (d + 1) ([45] :: ws) = some (.neg t, rs) := by
  unfold tight
  rw [if_pos rfl, h]; rfl
theorem tight_br {d : Nat} {ws rs : List Wd} {t : Tr} (h : lev (tight pl d) 3 ws = some (t, [41] :: rs)) : tight pl (d + 1) ([40] :: ws) = some (t, rs) := by
  unfold tight
  rw [if_neg (by decide), if_pos rfl, h]; rfl
theorem toks_op {l : Nat} {s : Wd} {a b : Tr} (h : lv s < l) : toks tk l (.op s a b) = [40] :: (toks tk (lv s) a ++ s :: toks tk (lv s + 1) b ++ [[41]]) := if_pos h
theorem toks_in {l : Nat} {s : Wd} {a b : Tr} (h : ¬ lv s < l) : toks tk l (.op s a b) = toks tk (lv s) a ++ s :: toks tk (lv s + 1) b := if_neg h
variable (hp : ∀ w x, pl w = some x → w ≠ [40] ∧ w ≠ [41])
include hp
theorem lev_less (d j : Nat) (hj : j ≤ 3) : Less (lev (tight pl d) j) := (lev_eats (tight_eats hp d) j hj).less
/-- a sum's words are read as the sum -/
theorem reads : ∀ (t : Tr), Good pl tk t → ∀ d, ht t ≤ d → (∀ rs, tight pl d (toks tk 4 t ++ rs) = some (t, rs)) ∧ ∀ j rs, j ≤ 2 → lvh rs ≤ 3 - j → lev (tight pl d) (j + 1) (toks tk (3 - j) t ++ rs) = L (lev (tight pl d) j) (3 - j) t rs
  | .lf x, g, d, _ => ⟨fun rs => tight_lf g d rs, fun j rs hj hr => tb (tight_lf g d rs) j hj hr⟩
  | .neg t, g, d, h => by
    have h : ht t + 1 ≤ d := h
    obtain ⟨d, rfl⟩ : ∃ e, d = e + 1 := ⟨d - 1, by omega⟩
    have A : ∀ rs, tight pl (d + 1) ([45] :: toks tk 4 t ++ rs) = some (.neg t, rs) := fun rs => tight_neg ((reads t g d (by omega)).1 rs)
    exact ⟨A, fun j rs hj hr => tb (A rs) j hj hr⟩
  | .op s a b, g, d, h => by
    obtain ⟨g1, ga, gb⟩ := g
    have h : max (ht a) (ht b) + 1 ≤ d := h
    have l3 := lv_le s
    have inner : ∀ d, ht a ≤ d → ht b ≤ d → ∀ j rs, j ≤ 2 → ¬ lv s < 3 - j → lvh rs ≤ 3 - j → lev (tight pl d) (j + 1) (toks tk (lv s) a ++ s :: toks tk (lv s + 1) b ++ rs) = L (lev (tight pl d) j) (3 - j) (.op s a b) rs := by
      intro d ha hb j rs hj hl hr
      obtain ⟨i, hi⟩ : ∃ i, j = (3 - lv s) + i := ⟨j - (3 - lv s), by omega⟩
      have base : ∀ rs, lvh rs ≤ lv s → lev (tight pl d) (3 - lv s + 1) (toks tk (lv s) a ++ s :: toks tk (lv s + 1) b ++ rs) = L (lev (tight pl d) (3 - lv s)) (lv s) (.op s a b) rs := by
        intro rs hr
        have ra := (reads a ga d ha).2 (3 - lv s) (s :: (toks tk (lv s + 1) b ++ rs)) (by omega) (by show lv s ≤ _; omega)
        rw [show 3 - (3 - lv s) = lv s by omega] at ra
        have e : toks tk (lv s) a ++ s :: toks tk (lv s + 1) b ++ rs = toks tk (lv s) a ++ (s :: (toks tk (lv s + 1) b ++ rs)) := by simp
        rw [e, ra]
        refine L_step (lev_less hp d _ (by omega)) rfl ?_
        by_cases c : lv s = 3
        · rw [c]
          exact (reads b gb d hb).1 rs
        · have rb := (reads b gb d hb).2 (2 - lv s) rs (by omega) (by omega)
          rw [show 2 - lv s + 1 = 3 - lv s by omega, show 3 - (2 - lv s) = lv s + 1 by omega] at rb
          rw [rb]
          exact L_stop (by omega) (by omega)
      subst hi
      clear hl
      induction i with
      | zero =>
        have := base rs (by omega)
        rw [show 3 - (3 - lv s + 0) = lv s by omega]
        exact this
      | succ i ih =>
        have := down (ih (by omega) (by omega)) (by omega) (by omega)
        rw [show 2 - (3 - lv s + i) = 3 - (3 - lv s + (i + 1)) by omega] at this
        exact this
    have A : ∀ rs, tight pl d (toks tk 4 (.op s a b) ++ rs) = some (.op s a b, rs) := fun rs => by
      obtain ⟨d, rfl⟩ : ∃ e, d = e + 1 := ⟨d - 1, by omega⟩
      rw [toks_op (by omega), List.cons_append]
      refine tight_br ?_
      have := inner d (by omega) (by omega) 2 ([41] :: rs) (by omega) (by omega) (by show lv [41] ≤ _; decide)
      rw [L_stop (by omega) (by show lv [41] ≠ _; decide)] at this
      rw [← this]
      congr 1
      simp
    refine ⟨A, fun j rs hj hr => ?_⟩
    by_cases c : lv s < 3 - j
    · have e : toks tk (3 - j) (.op s a b) = toks tk 4 (.op s a b) := by rw [toks_op c, toks_op (by omega)]
      rw [e]
      exact tb (A rs) j hj hr
    · rw [toks_in c]
      exact inner d (by omega) (by omega) j rs hj c hr
theorem parse_toks {t : Tr} (g : Good pl tk t) (h : ht t ≤ 19) : parse pl (toks tk 1 t) = some t := by
  have := (reads hp t g 19 h).2 2 [] (by omega) (Nat.zero_le _)
  rw [L_stop (by omega) (by show 0 ≠ _; omega), List.append_nil] at this
  unfold parse
  rw [this]
/-- with something behind it that is no sign of a sum -/
theorem parse_more {t : Tr} (g : Good pl tk t) (h : ht t ≤ 19) {w : Wd} (r : List Wd) (hw : lv w = 0) : parse pl (toks tk 1 t ++ w :: r) = none := by
  have := (reads hp t g 19 h).2 2 (w :: r) (by omega) (by show lv w ≤ _; omega)
  rw [L_stop (by omega) (by show lv w ≠ _; omega)] at this
  unfold parse
  rw [this]
end
end K09
namespace K09
section
variable {pl : Wd → Option Lf} {tk : Lf → Wd}
/-- the words of a text with brackets everywhere -/
def shw (tk : Lf → Wd) : Tr → List Wd
  | .lf x => [tk x]
  | .neg t => [45] :: [40] :: (shw tk t ++ [[41]])
  | .op s a b => [40] :: (shw tk a ++ [41] :: s :: [40] :: (shw tk b ++ [[41]]))
theorem tight_nil (d : Nat) : tight pl d [] = none := by cases d <;> rfl
theorem lev_nil (d : Nat) : ∀ j, lev (tight pl d) j [] = none
  | 0 => tight_nil d
  | j + 1 => lev_none (lev_nil d j)
theorem tight_br_none {d : Nat} {ws : List Wd} (h : lev (tight pl d) 3 ws = none) : tight pl (d + 1) ([40] :: ws) = none := by
  unfold tight
  rw [if_neg (by decide), if_pos rfl, h]
variable (hp : ∀ w x, pl w = some x → w ≠ [40] ∧ w ≠ [41])
include hp
theorem shown : ∀ (t : Tr), Good pl tk t → ∀ d, 2 * ht t ≤ d → ∀ rs, lvh rs = 0 → lev (tight pl d) 3 (shw tk t ++ rs) = some (t, rs)
  | .lf x, g, d, _, rs, hr => by
    have := tb (tight_lf g d rs) 2 (by decide) (by omega)
    rw [L_stop (by omega) (by omega)] at this
    exact this
  | .neg t, g, d, h, rs, hr => by
    have h : 2 * (ht t + 1) ≤ d := h
    obtain ⟨d, rfl⟩ : ∃ e, d = e + 2 := ⟨d - 2, by omega⟩
    have ih := shown t g d (by omega) ([41] :: rs) (by show lv [41] = 0; decide)
    have e : shw tk (.neg t) ++ rs = [45] :: [40] :: (shw tk t ++ [41] :: rs) := by show [45] :: [40] :: (shw tk t ++ [[41]]) ++ rs = _; simp
    have := tb (tight_neg (tight_br ih)) 2 (by decide) (show lvh rs ≤ 1 by omega)
    rw [L_stop (by omega) (by omega)] at this
    rw [e]; exact this
  | .op s a b, g, d, h, rs, hr => by
    obtain ⟨g1, ga, gb⟩ := g
    have h : 2 * (max (ht a) (ht b) + 1) ≤ d := h
    have l3 := lv_le s
    obtain ⟨d, rfl⟩ : ∃ e, d = e + 1 := ⟨d - 1, by omega⟩
    have ia := tight_br (shown a ga d (by omega) ([41] :: s :: [40] :: (shw tk b ++ [41] :: rs)) (by show lv [41] = 0; decide))
    have ib := tight_br (shown b gb d (by omega) ([41] :: rs) (by show lv [41] = 0; decide))
    have e : shw tk (.op s a b) ++ rs = [40] :: (shw tk a ++ [41] :: s :: [40] :: (shw tk b ++ [41] :: rs)) := by
      show [40] :: (shw tk a ++ [41] :: s :: [40] :: (shw tk b ++ [[41]])) ++ rs = _
      simp
    rw [e]
    have base : lev (tight pl (d + 1)) (3 - lv s + 1) ([40] :: (shw tk a ++ [41] :: s :: [40] :: (shw tk b ++ [41] :: rs))) = L (lev (tight pl (d + 1)) (3 - lv s)) (lv s) (.op s a b) rs := by
      have ra := tb ia (3 - lv s) (by omega) (by show lv s ≤ _; omega)
      rw [show 3 - (3 - lv s) = lv s by omega] at ra
      rw [ra]
      refine L_step (lev_less hp _ _ (by omega)) rfl ?_
      by_cases c : lv s = 3
      · rw [c]; exact ib
      · have rb := tb ib (2 - lv s) (by omega) (by omega)
        rw [show 2 - lv s + 1 = 3 - lv s by omega, show 3 - (2 - lv s) = lv s + 1 by omega] at rb
        rw [rb]
        exact L_stop (by omega) (by omega)
    have all : ∀ i, 3 - lv s + i ≤ 2 → lev (tight pl (d + 1)) (3 - lv s + i + 1) ([40] :: (shw tk a ++ [41] :: s :: [40] :: (shw tk b ++ [41] :: rs))) = L (lev (tight pl (d + 1)) (3 - lv s + i)) (3 - (3 - lv s + i)) (.op s a b) rs := by
      intro i
      induction i with
      | zero =>
        intro _
        rw [show 3 - (3 - lv s + 0) = lv s by omega]
        exact base
      | succ i ih =>
        intro hi
        have := down (ih (by omega)) (by omega) (by omega)
        rw [show 2 - (3 - lv s + i) = 3 - (3 - lv s + (i + 1)) by omega] at this
        exact this
    have := all (lv s - 1) (by omega)
    rw [show 3 - lv s + (lv s - 1) = 2 by omega, L_stop (by omega) (by omega)] at this
    exact this
theorem parse_shown {t : Tr} (g : Good pl tk t) (h : 2 * ht t ≤ 19) : parse pl (shw tk t) = some t := by
  have := shown hp t g 19 h [] rfl
  rw [List.append_nil] at this
  unfold parse
  rw [this]
/-- a sign at the end -/
theorem ends : ∀ (t : Tr), Good pl tk t → ∀ d, ht t ≤ d → ∀ (sg : Wd) (j : Nat), j ≤ 2 → 3 - j ≤ lv sg → lev (tight pl d) (j + 1) (toks tk (3 - j) t ++ [sg]) = none := by
  have gen : ∀ (t : Tr), Good pl tk t → ∀ d, ht t ≤ d → ∀ (sg : Wd) (j : Nat), j ≤ 2 → 3 - j ≤ lv sg → toks tk (lv sg) t = toks tk (3 - j) t → lev (tight pl d) (j + 1) (toks tk (3 - j) t ++ [sg]) = none := by
    intro t g d h sg j hj hs e
    have l3 := lv_le sg
    have := (reads hp t g d h).2 (3 - lv sg) [sg] (by omega) (by show lv sg ≤ _; omega)
    rw [show 3 - (3 - lv sg) = lv sg by omega, L_none rfl (lev_nil d _), e] at this
    have := lev_none_le this (j - (3 - lv sg))
    rw [show 3 - lv sg + 1 + (j - (3 - lv sg)) = j + 1 by omega] at this
    exact this
  intro t
  induction t with
  | lf x => exact fun g d h sg j hj hs => gen _ g d h sg j hj hs rfl
  | neg t _ => exact fun g d h sg j hj hs => gen _ g d h sg j hj hs rfl
  | op s a b iha ihb =>
    intro g d h sg j hj hs
    by_cases c1 : lv s < 3 - j
    · exact gen _ g d h sg j hj hs (by rw [toks_op c1, toks_op (by omega)])
    by_cases c2 : lv sg ≤ lv s
    · exact gen _ g d h sg j hj hs (by rw [toks_in c1, toks_in (by omega)])
    obtain ⟨g1, ga, gb⟩ := g
    have h : max (ht a) (ht b) + 1 ≤ d := h
    have l3 := lv_le sg
    have ra := (reads hp a ga d (by omega)).2 (3 - lv s) (s :: (toks tk (lv s + 1) b ++ [sg])) (by omega) (by show lv s ≤ _; omega)
    rw [show 3 - (3 - lv s) = lv s by omega] at ra
    have e : toks tk (3 - j) (.op s a b) ++ [sg] = toks tk (lv s) a ++ (s :: (toks tk (lv s + 1) b ++ [sg])) := by rw [toks_in c1]; simp
    have rb := ihb gb d (by omega) sg (2 - lv s) (by omega) (by omega)
    rw [show 2 - lv s + 1 = 3 - lv s by omega, show 3 - (2 - lv s) = lv s + 1 by omega] at rb
    rw [L_none rfl rb] at ra
    have := lev_none_le ra (j - (3 - lv s))
    rw [show 3 - lv s + 1 + (j - (3 - lv s)) = j + 1 by omega] at this
    rw [e]; exact this
theorem parse_ends {t : Tr} (g : Good pl tk t) (h : ht t ≤ 19) {sg : Wd} (hs : 1 ≤ lv sg) : parse pl (toks tk 1 t ++ [sg]) = none := by
  have := ends hp t g 19 h sg 2 (by decide) (by omega)
  unfold parse
  rw [this]
omit hp in
/-- brackets around a leaf -/
theorem deep {x : Lf} (g : Good pl tk (.lf x)) : ∀ (m d : Nat) (rs : List Wd), lvh rs = 0 → tight pl d (List.replicate m [40] ++ tk x :: (List.replicate m [41] ++ rs)) = if m ≤ d then some (.lf x, rs) else none
  | 0, d, rs, _ => by rw [if_pos (Nat.zero_le _)]; exact tight_lf g d rs
  | m + 1, 0, rs, _ => by
    rw [if_neg (by omega), List.replicate_succ, List.cons_append]
    unfold tight
    rw [if_pos (Or.inr rfl)]
  | m + 1, d + 1, rs, hr => by
    have ih := deep g m d ([41] :: rs) (by show lv [41] = 0; decide)
    have e : List.replicate (m + 1) [41] ++ rs = List.replicate m [41] ++ [41] :: rs := by rw [List.replicate_succ']; simp
    rw [e, List.replicate_succ, List.cons_append]
    by_cases c : m ≤ d
    · rw [if_pos c] at ih
      rw [if_pos (by omega)]
      have := tb ih 2 (by decide) (by show lv [41] ≤ _; decide)
      rw [L_stop (by omega) (by show lv [41] ≠ _; decide)] at this
      exact tight_br this
    · rw [if_neg c] at ih
      rw [if_neg (by omega)]
      exact tight_br_none (lev_none_le (j := 0) ih 3)
theorem parse_deep {x : Lf} (g : Good pl tk (.lf x)) (m : Nat) : parse pl (List.replicate m [40] ++ tk x :: List.replicate m [41]) = if m ≤ 19 then some (.lf x) else none := by
  have := deep g m 19 [] rfl
  rw [List.append_nil] at this
  by_cases c : m ≤ 19
  · rw [if_pos c] at this ⊢
    have := tb this 2 (by decide) (by show 0 ≤ _; decide)
    rw [L_stop (by omega) (by show 0 ≠ _; decide)] at this
    unfold parse
    rw [this]
  · rw [if_neg c] at this ⊢
    have := lev_none_le (j := 0) this 3
    unfold parse
    rw [this]
/-! ### how many brackets and words -/
omit hp in
theorem nb_toks (hk : ∀ x, tk x ≠ [40]) : ∀ (t : Tr) (l : Nat), Good pl tk t → (toks tk l t).count [40] = nb l t
  | .lf x, l, _ => List.count_eq_zero.mpr (by show [40] ∉ [tk x]; simp; exact fun e => hk x e.symm)
  | .neg t, l, g => by
    show ([45] :: toks tk 4 t).count [40] = nb 4 t
    rw [List.count_cons, nb_toks hk t 4 g]; rfl
  | .op s a b, l, g => by
    obtain ⟨g1, ga, gb⟩ := g
    have hs : ¬ (s = [40]) := fun e => by rw [e] at g1; exact absurd g1 (by decide)
    have ia := nb_toks hk a (lv s) ga
    have ib := nb_toks hk b (lv s + 1) gb
    have i41 : (([[41]] : List Wd).count [40]) = 0 := by decide
    show _ = (if lv s < l then 1 else 0) + nb (lv s) a + nb (lv s + 1) b
    by_cases c : lv s < l
    · rw [toks_op c, if_pos c, List.count_cons_self, List.count_append, List.count_append, List.count_cons_of_ne hs, ia, ib, i41]; omega
    · rw [toks_in c, if_neg c, List.count_append, List.count_cons_of_ne hs, ia, ib]; omega
omit hp in
theorem oth_toks (hk : ∀ x, tk x ≠ [40] ∧ tk x ≠ [41]) : ∀ (t : Tr) (l : Nat), Good pl tk t → oth (toks tk l t) = sz t
  | .lf x, l, _ => by
    show oth [tk x] = 1
    unfold oth
    rw [List.filter_cons, if_pos (by simpa using hk x)]; rfl
  | .neg t, l, g => by
    show oth ([45] :: toks tk 4 t) = sz t + 1
    rw [oth_cons, oth_toks hk t 4 g]
    have : oth [[45]] = 1 := by decide
    omega
  | .op s a b, l, g => by
    obtain ⟨g1, ga, gb⟩ := g
    have ia := oth_toks hk a (lv s) ga
    have ib := oth_toks hk b (lv s + 1) gb
    have hs := lv_oth (w := s) (by omega)
    have i0 : oth [[40]] = 0 := by decide
    have i1 : oth [[41]] = 0 := by decide
    show _ = sz a + sz b + 1
    by_cases c : lv s < l
    · rw [toks_op c, oth_cons, oth_app, oth_app, oth_cons s, ia, ib]; omega
    · rw [toks_in c, oth_app, oth_cons, ia, ib]; omega
omit hp in
theorem len_toks : ∀ (t : Tr) (l : Nat), (toks tk l t).length ≤ (shw tk t).length
  | .lf x, l => Nat.le_refl _
  | .neg t, l => by
    have := len_toks t 4
    show ([45] :: toks tk 4 t).length ≤ ([45] :: [40] :: (shw tk t ++ [[41]])).length
    simp only [List.length_cons, List.length_append]; omega
  | .op s a b, l => by
    have ia := len_toks a (lv s)
    have ib := len_toks b (lv s + 1)
    show _ ≤ ([40] :: (shw tk a ++ [41] :: s :: [40] :: (shw tk b ++ [[41]]))).length
    by_cases c : lv s < l
    · rw [toks_op c]; simp only [List.length_cons, List.length_append, List.length_nil]; omega
    · rw [toks_in c]; simp only [List.length_cons, List.length_append]; omega
end
def shl : Nat → Nat
  | 0 => 1
  | h + 1 => 2 * shl h + 5
theorem shl_pos : ∀ h, 1 ≤ shl h
  | 0 => Nat.le_refl _
  | h + 1 => by show 1 ≤ 2 * shl h + 5; omega
theorem len_shw {tk : Lf → Wd} : ∀ (t : Tr) (h : Nat), ht t ≤ h → (shw tk t).length ≤ shl h
  | .lf x, h, _ => shl_pos h
  | .neg t, h, hh => by
    have hh : ht t + 1 ≤ h := hh
    obtain ⟨h, rfl⟩ : ∃ e, h = e + 1 := ⟨h - 1, by omega⟩
    have := len_shw (tk := tk) t h (by omega)
    have := shl_pos h
    show ([45] :: [40] :: (shw tk t ++ [[41]])).length ≤ 2 * shl h + 5
    simp only [List.length_cons, List.length_append, List.length_nil]; omega
  | .op s a b, h, hh => by
    have hh : max (ht a) (ht b) + 1 ≤ h := hh
    obtain ⟨h, rfl⟩ : ∃ e, h = e + 1 := ⟨h - 1, by omega⟩
    have ia := len_shw (tk := tk) a h (by omega)
    have ib := len_shw (tk := tk) b h (by omega)
    show ([40] :: (shw tk a ++ [41] :: s :: [40] :: (shw tk b ++ [[41]]))).length ≤ 2 * shl h + 5
    simp only [List.length_cons, List.length_append, List.length_nil]; omega
def szl : Nat → Nat
  | 0 => 1
  | h + 1 => 2 * szl h + 1
theorem szl_pos : ∀ h, 1 ≤ szl h
  | 0 => Nat.le_refl _
  | h + 1 => by show 1 ≤ 2 * szl h + 1; omega
theorem sz_le : ∀ (t : Tr) (h : Nat), ht t ≤ h → sz t ≤ szl h
  | .lf x, h, _ => szl_pos h
  | .neg t, h, hh => by
    have hh : ht t + 1 ≤ h := hh
    obtain ⟨h, rfl⟩ : ∃ e, h = e + 1 := ⟨h - 1, by omega⟩
    have := sz_le t h (by omega)
    show sz t + 1 ≤ 2 * szl h + 1
    omega
  | .op s a b, h, hh => by
    have hh : max (ht a) (ht b) + 1 ≤ h := hh
    obtain ⟨h, rfl⟩ : ∃ e, h = e + 1 := ⟨h - 1, by omega⟩
    have ia := sz_le a h (by omega)
    have ib := sz_le b h (by omega)
    show sz a + sz b + 1 ≤ 2 * szl h + 1
    omega
theorem ht_lt : ∀ t : Tr, ht t < sz t
  | .lf _ => Nat.zero_lt_one
  | .neg t => by have := ht_lt t; show ht t + 1 < sz t + 1; omega
  | .op s a b => by have := ht_lt a; have := ht_lt b; show max (ht a) (ht b) + 1 < sz a + sz b + 1; omega
end K09
namespace K09
/-! ### texts and their words -/
/-- letters of names -/
def nl (c : Nat) : Bool := c == 95 || (decide (48 ≤ c) && decide (c ≤ 57)) || (decide (65 ≤ c) && decide (c ≤ 90)) || (decide (97 ≤ c) && decide (c ≤ 122))
def longs : List Wd := [[60, 61], [62, 61], [61, 61], [33, 61]]
def shorts : List Nat := [60, 62, 43, 45, 42, 47, 40, 41]
def hsh : List Nat → Bool
  | [] => false
  | c :: _ => decide (c ∈ shorts)
/-- how long the first word is -/
def wend (s : List Nat) : Option Nat :=
  if s.take 2 ∈ longs then some 2 else if hsh s = true then some 1 else if (s.takeWhile nl).length = 0 then none else some (s.takeWhile nl).length
def gapc (c : Nat) : Bool := c == 32 || c == 10
def wf : Nat → List Nat → Option (List Wd)
  | _, [] => some []
  | 0, _ :: _ => none
  | n + 1, c :: r => if gapc c = true then wf n r else match wend (c :: r) with
    | none => none
    | some k => (wf n ((c :: r).drop k)).map fun ws => (c :: r).take k :: ws
def words (s : List Nat) : Option (List Wd) := wf s.length s
theorem wend_pos {s : List Nat} {k : Nat} (h : wend s = some k) : 1 ≤ k ∧ k ≤ s.length := by
  unfold wend at h
  split at h
  · rename_i c
    cases h
    refine ⟨by decide, ?_⟩
    have h2 : (s.take 2).length = 2 := by
      have : ∀ u ∈ longs, u.length = 2 := by decide
      exact this _ c
    rw [List.length_take] at h2
    omega
  · split at h
    · rename_i c
      cases h
      cases s with
      | nil => cases c
      | cons a r => exact ⟨Nat.le_refl _, by simp⟩
    · split at h
      · cases h
      · cases h
        exact ⟨by omega, (List.takeWhile_sublist nl).length_le⟩
theorem wf_fuel : ∀ (n m : Nat) (s : List Nat), s.length ≤ n → s.length ≤ m → wf n s = wf m s := by
  intro n
  induction n with
  | zero =>
    intro m s h _
    cases s with
    | nil => cases m <;> rfl
    | cons _ _ => exact absurd h (by simp)
  | succ n ih =>
    intro m s h hm
    cases s with
    | nil => cases m <;> rfl
    | cons c r =>
      cases m with
      | zero => exact absurd hm (by simp)
      | succ m =>
        have h1 : r.length ≤ n := by simpa using h
        have h2 : r.length ≤ m := by simpa using hm
        unfold wf
        by_cases g : gapc c = true
        · rw [if_pos g, if_pos g]; exact ih m r h1 h2
        · rw [if_neg g, if_neg g]
          cases e : wend (c :: r) with
          | none => rfl
          | some k =>
            have hk := wend_pos e
            have hd : ((c :: r).drop k).length ≤ r.length := by rw [List.length_drop, List.length_cons]; omega
            dsimp only
            rw [ih m _ (by omega) (by omega)]
theorem words_gap {c : Nat} {r : List Nat} (h : gapc c = true) : words (c :: r) = words r := by
  show wf (r.length + 1) (c :: r) = _
  unfold wf
  rw [if_pos h]; rfl
theorem words_none {c : Nat} {r : List Nat} (h : ¬ gapc c = true) (e : wend (c :: r) = none) : words (c :: r) = none := by
  show wf (r.length + 1) (c :: r) = _
  unfold wf
  rw [if_neg h, e]
theorem words_word {c : Nat} {r : List Nat} {k : Nat} (h : ¬ gapc c = true) (e : wend (c :: r) = some k) : words (c :: r) = (words ((c :: r).drop k)).map fun ws => (c :: r).take k :: ws := by
  show wf (r.length + 1) (c :: r) = _
  have hk := wend_pos e
  have hd : ((c :: r).drop k).length ≤ r.length := by rw [List.length_drop, List.length_cons]; omega
  unfold wf
  rw [if_neg h, e]
  dsimp only
  rw [wf_fuel r.length ((c :: r).drop k).length _ hd (Nat.le_refl _)]; rfl
/-! ### a text laid out in words -/
def Wo (u s : List Nat) : Prop := u ∈ longs ∨ (∃ c, u = [c] ∧ c ∈ shorts ∧ ∀ d, s.head? = some d → [c, d] ∉ longs) ∨ (u ≠ [] ∧ (∀ c ∈ u, nl c = true) ∧ ∀ d, s.head? = some d → nl d = false)
theorem Wo.wend {u s : List Nat} (h : Wo u s) : wend (u ++ s) = some u.length := by
  rcases h with h | ⟨c, rfl, hc, hd⟩ | ⟨ne, hu, hd⟩
  · have l2 : u.length = 2 := by
      have : ∀ u ∈ longs, u.length = 2 := by decide
      exact this _ h
    have e : (u ++ s).take 2 = u := by rw [← l2, List.take_left]
    unfold K09.wend
    rw [e, if_pos h, l2]
  · unfold K09.wend
    have n1 : ([c] ++ s).take 2 ∉ longs := by
      cases s with
      | nil => 
        have : ∀ u ∈ longs, u.length = 2 := by decide
        intro z
        have := this _ z
        simp at this
      | cons d r => exact hd d rfl
    rw [if_neg n1, if_pos (show hsh ([c] ++ s) = true from decide_eq_true hc)]; rfl
  · unfold K09.wend
    cases u with
    | nil => exact absurd rfl ne
    | cons a u =>
      have ha := hu a (by simp)
      have hl : ∀ u ∈ longs, ∀ x, u.head? = some x → nl x = false := by decide
      have n1 : (a :: u ++ s).take 2 ∉ longs := fun z => by
        have := hl _ z a rfl
        rw [ha] at this; cases this
      have n2 : ¬ hsh (a :: u ++ s) = true := fun z => by
        have z : a ∈ shorts := of_decide_eq_true z
        have : ∀ x ∈ shorts, nl x = false := by decide
        rw [this a z] at ha; cases ha
      have tw : ((a :: u) ++ s).takeWhile nl = a :: u := by
        rw [List.takeWhile_append_of_pos hu]
        cases s with
        | nil => simp
        | cons d r => rw [List.takeWhile_cons, hd d rfl]; simp
      rw [if_neg n1, if_neg n2, tw, if_neg (by simp)]
theorem Wo.ne {u s : List Nat} (h : Wo u s) : u ≠ [] := by
  rcases h with h | ⟨c, rfl, _⟩ | ⟨ne, _⟩
  · intro e; rw [e] at h; exact absurd h (by decide)
  · simp
  · exact ne
theorem Wo.letters {u s : List Nat} (h : Wo u s) : ∀ c ∈ u, gapc c = false := by
  rcases h with h | ⟨c, rfl, hc, _⟩ | ⟨_, hu, _⟩
  · have : ∀ u ∈ longs, ∀ c ∈ u, gapc c = false := by decide
    exact this u h
  · have : ∀ c ∈ shorts, gapc c = false := by decide
    intro d hd
    rw [List.mem_singleton.mp hd]; exact this c hc
  · intro c hc
    have := hu c hc
    cases e : gapc c with
    | false => rfl
    | true =>
      unfold gapc at e
      have : c = 32 ∨ c = 10 := by simpa using e
      rcases this with rfl | rfl <;> exact absurd (hu _ hc) (by decide)
/-- the same before a gap -/
theorem Wo.next {u s s' : List Nat} (h : Wo u s) (e : s'.head? = s.head? ∨ s'.head? = some 32 ∨ s'.head? = some 10) : Wo u s' := by
  rcases h with h | ⟨c, rfl, hc, hd⟩ | ⟨ne, hu, hd⟩
  · exact .inl h
  · refine .inr (.inl ⟨c, rfl, hc, fun d hd' => ?_⟩)
    have g : ∀ d, d = 32 ∨ d = 10 → [c, d] ∉ longs := fun d hdd z => by
      have : ∀ u ∈ longs, ∀ x, u[1]? = some x → x = 61 := by decide
      have := this _ z d rfl
      omega
    rcases e with e | e | e
    · exact hd d (by rw [← e]; exact hd')
    · rw [e] at hd'; cases hd'; exact g _ (.inl rfl)
    · rw [e] at hd'; cases hd'; exact g _ (.inr rfl)
  · refine .inr (.inr ⟨ne, hu, fun d hd' => ?_⟩)
    rcases e with e | e | e
    · exact hd d (by rw [← e]; exact hd')
    · rw [e] at hd'; cases hd'; decide
    · rw [e] at hd'; cases hd'; decide
/-- s is, in words ws, laid out before r -/
inductive Tx : List Nat → List Wd → List Nat → Prop where
  | nil (r) : Tx r [] r
  | gap {c s ws r} : gapc c = true → Tx s ws r → Tx (c :: s) ws r
  | word {u s ws r} : Wo u s → Tx s ws r → Tx (u ++ s) (u :: ws) r
theorem Tx.trans {s r r' : List Nat} {ws ws' : List Wd} (h : Tx s ws r) (h' : Tx r ws' r') : Tx s (ws ++ ws') r' := by
  induction h with
  | nil r => exact h'
  | gap g _ ih => exact .gap g (ih h')
  | word w _ ih => exact .word w (ih h')
theorem Tx.words {s r : List Nat} {ws : List Wd} (h : Tx s ws r) : words s = (words r).map fun v => ws ++ v := by
  induction h with
  | nil r => cases e : K09.words r <;> rfl
  | gap g _ ih => rw [words_gap g, ih]
  | @word u s ws r w _ ih =>
    cases u with
    | nil => exact absurd rfl w.ne
    | cons c u =>
      have g : ¬ gapc c = true := by rw [w.letters c (by simp)]; simp
      have e := w.wend
      rw [List.cons_append] at e
      rw [List.cons_append, words_word g e]
      have e1 : (c :: (u ++ s)).drop (c :: u).length = s := by rw [← List.cons_append, List.drop_left]
      have e2 : (c :: (u ++ s)).take (c :: u).length = c :: u := by rw [← List.cons_append, List.take_left]
      rw [e1, e2, ih]
      cases K09.words r <;> rfl
theorem Tx.all {s : List Nat} {ws : List Wd} (h : Tx s ws []) : K09.words s = some ws := by
  rw [h.words]
  show some (ws ++ []) = _
  rw [List.append_nil]
/-! ### a bracket becomes a gap -/
theorem Tx.cut {x : Nat} (hx : x = 40 ∨ x = 41) {b : List Nat} : ∀ {s : List Nat} {ws : List Wd} {r : List Nat}, Tx s ws r → r = [] → ∀ a, s = a ++ x :: b → ∃ w1 w2, ws = w1 ++ [x] :: w2 ∧ Tx (a ++ 32 :: b) (w1 ++ w2) [] := by
  intro s ws r h
  induction h with
  | nil r => intro e a h; rw [e] at h; simp at h
  | @gap c s ws r g h ih =>
    intro e a ha
    cases a with
    | nil =>
      injection ha with h1 _
      rcases hx with rfl | rfl <;> (rw [h1] at g; exact absurd g (by decide))
    | cons d a =>
      injection ha with h1 h2
      obtain ⟨w1, w2, e1, t⟩ := ih e a h2
      exact ⟨w1, w2, e1, .gap (by rw [← h1]; exact g) t⟩
  | @word u s ws r w h ih =>
    intro e a ha
    have far : ∀ a', a = u ++ a' → s = a' ++ x :: b → ∃ w1 w2, u :: ws = w1 ++ [x] :: w2 ∧ Tx (a ++ 32 :: b) (w1 ++ w2) [] := by
      intro a' e1 e2
      obtain ⟨w1, w2, e3, t⟩ := ih e a' e2
      refine ⟨u :: w1, w2, by rw [e3]; rfl, ?_⟩
      rw [e1, List.append_assoc]
      refine .word (w.next ?_) t
      cases a' with
      | nil => exact .inr (.inl rfl)
      | cons _ _ => rw [e2]; exact .inl rfl
    have hin : ∀ v : List Nat, (∀ c ∈ v, c ≠ x) → v ++ s = a ++ x :: b → ∃ a', a = v ++ a' ∧ s = a' ++ x :: b := by
      intro v
      clear ih far ha w
      induction v generalizing a with
      | nil => exact fun _ h => ⟨a, rfl, h⟩
      | cons c v ihv =>
        intro hv h
        cases a with
        | nil => injection h with h1 _; exact absurd h1 (hv c (by simp))
        | cons d a =>
          injection h with h1 h2
          obtain ⟨a', e1, e2⟩ := ihv a (fun z hz => hv z (by simp [hz])) h2
          exact ⟨a', by rw [e1, h1]; rfl, e2⟩
    have w0 := w
    rcases w with hl | ⟨c, rfl, hc, _⟩ | ⟨_, hu, _⟩
    · obtain ⟨a', e1, e2⟩ := hin u (fun c hc => by
        have : ∀ u ∈ longs, ∀ c ∈ u, c ≠ 40 ∧ c ≠ 41 := by decide
        have := this u hl c hc
        rcases hx with rfl | rfl <;> simp [this]) ha
      exact far a' e1 e2
    · by_cases ec : c = x
      · cases a with
        | nil =>
          injection ha with h1 h2
          have h2 : s = b := h2
          refine ⟨[], ws, by rw [ec]; rfl, ?_⟩
          rw [e] at h
          rw [← h2]
          exact .gap (by decide) h
        | cons d a =>
          injection ha with h1 h2
          exact far a (by rw [h1]; rfl) h2
      · obtain ⟨a', e1, e2⟩ := hin [c] (fun z hz => by rw [List.mem_singleton.mp hz]; exact ec) ha
        exact far a' e1 e2
    · obtain ⟨a', e1, e2⟩ := hin u (fun c hc => by
        have := hu c hc
        rcases hx with rfl | rfl <;> (intro z; rw [z] at this; exact absurd this (by decide))) ha
      exact far a' e1 e2
/-! ### other gaps -/
def gp (s : List Nat) : List Nat := s.flatMap fun c => if c = 32 then [10, 32] else [c]
theorem gp_app (s t : List Nat) : gp (s ++ t) = gp s ++ gp t := by unfold gp; rw [List.flatMap_append]
theorem gp_id {u : List Nat} (h : ∀ c ∈ u, c ≠ 32) : gp u = u := by
  induction u with
  | nil => rfl
  | cons c u ih =>
    have : gp (c :: u) = (if c = 32 then [10, 32] else [c]) ++ gp u := rfl
    rw [this, ih (fun d hd => h d (by simp [hd])), if_neg (h c (by simp))]; rfl
theorem Tx.gp {s r : List Nat} {ws : List Wd} (h : Tx s ws r) : Tx (gp s) ws (gp r) := by
  induction h with
  | nil r => exact .nil _
  | @gap c s ws r g _ ih =>
    have e : K09.gp (c :: s) = (if c = 32 then [10, 32] else [c]) ++ K09.gp s := rfl
    rw [e]
    split
    · exact .gap (by decide) (.gap (by decide) ih)
    · exact .gap g ih
  | @word u s ws r w _ ih =>
    have eu : K09.gp u = u := gp_id fun c hc z => by have := w.letters c hc; rw [z] at this; exact absurd this (by decide)
    rw [gp_app, eu]
    refine .word (w.next ?_) ih
    cases s with
    | nil => exact .inl rfl
    | cons c s =>
      have e : K09.gp (c :: s) = (if c = 32 then [10, 32] else [c]) ++ K09.gp s := rfl
      rw [e]
      split
      · exact .inr (.inr rfl)
      · exact .inl rfl
end K09
namespace K09
/-! ### printed -/
def pr (tk : Lf → Wd) : Nat → Tr → List Nat
  | _, .lf x => tk x
  | _, .neg t => 45 :: pr tk 4 t
  | l, .op s a b => if lv s < l then 40 :: ((pr tk (lv s) a ++ (32 :: (s ++ 32 :: pr tk (lv s + 1) b))) ++ [41]) else pr tk (lv s) a ++ (32 :: (s ++ 32 :: pr tk (lv s + 1) b))
def prs (tk : Lf → Wd) : Tr → List Nat
  | .lf x => tk x
  | .neg t => 45 :: 40 :: (prs tk t ++ [41])
  | .op s a b => 40 :: (prs tk a ++ 41 :: 32 :: (s ++ 32 :: 40 :: (prs tk b ++ [41])))
def signs : List Wd := [[43], [45], [42], [47], [109, 111, 100], [60], [60, 61], [62], [62, 61], [61, 61], [33, 61]]
/-- a sum as the law draws it -/
def Neat (tk : Lf → Wd) : Tr → Prop
  | .lf x => tk x ≠ [] ∧ ∀ c ∈ tk x, nl c = true
  | .neg t => Neat tk t
  | .op s a b => s ∈ signs ∧ Neat tk a ∧ Neat tk b
theorem sign_lv {s : Wd} (h : s ∈ signs) : 1 ≤ lv s := by
  have : ∀ s ∈ signs, 1 ≤ lv s := by decide
  exact this s h
theorem sign_wo {s : Wd} (h : s ∈ signs) (r : List Nat) : Wo s (32 :: r) := by
  simp only [signs, List.mem_cons, List.not_mem_nil, or_false] at h
  have one : ∀ c, c ∈ shorts → Wo [c] (32 :: r) := fun c hc => .inr (.inl ⟨c, rfl, hc, fun d hd z => by
    cases hd
    have : ∀ u ∈ longs, ∀ x, u[1]? = some x → x = 61 := by decide
    exact absurd (this _ z 32 rfl) (by decide)⟩)
  rcases h with rfl | rfl | rfl | rfl | rfl | rfl | rfl | rfl | rfl | rfl | rfl
  · exact one _ (by decide)
  · exact one _ (by decide)
  · exact one _ (by decide)
  · exact one _ (by decide)
  · exact .inr (.inr ⟨by decide, by decide, fun d hd => by cases hd; decide⟩)
  · exact one _ (by decide)
  · exact .inl (by decide)
  · exact one _ (by decide)
  · exact .inl (by decide)
  · exact .inl (by decide)
  · exact .inl (by decide)
theorem one_wo {c : Nat} (h : c = 40 ∨ c = 41 ∨ c = 45) (s : List Nat) : Wo [c] s := .inr (.inl ⟨c, rfl, by rcases h with rfl | rfl | rfl <;> decide, fun d _ z => by
  have : ∀ u ∈ longs, ∀ x, u.head? = some x → x ≠ 40 ∧ x ≠ 41 ∧ x ≠ 45 := by decide
  have := this _ z c rfl
  omega⟩)
theorem sg_letters {s : Wd} (h : s ∈ signs) : ∀ c ∈ s, c ≠ 40 ∧ c ≠ 41 ∧ c ≠ 32 := by
  have : ∀ s ∈ signs, ∀ c ∈ s, c ≠ 40 ∧ c ≠ 41 ∧ c ≠ 32 := by decide
  exact this s h
theorem lf_letters {u : List Nat} (h : ∀ c ∈ u, nl c = true) : ∀ c ∈ u, c ≠ 40 ∧ c ≠ 41 ∧ c ≠ 32 := fun c hc => by
  have := h c hc
  refine ⟨fun e => ?_, fun e => ?_, fun e => ?_⟩ <;> (rw [e] at this; exact absurd this (by decide))
/-- no letter of a name comes next -/
def Off (r : List Nat) : Prop := ∀ d, r.head? = some d → nl d = false
section
variable {tk : Lf → Wd}
theorem tx_in {s a' b' r : List Nat} {wa wb : List Wd} (hs : s ∈ signs) (ha : ∀ r, Off r → Tx (a' ++ r) wa r) (hb : ∀ r, Off r → Tx (b' ++ r) wb r) (hr : Off r) : Tx ((a' ++ (32 :: (s ++ 32 :: b'))) ++ r) (wa ++ s :: wb) r := by
  have e : (a' ++ (32 :: (s ++ 32 :: b'))) ++ r = a' ++ (32 :: (s ++ (32 :: (b' ++ r)))) := by simp
  rw [e]
  refine Tx.trans (ha _ (fun d hd => by cases hd; decide)) (.gap (by decide) (.word (sign_wo hs _) (.gap (by decide) (hb r hr))))
theorem tx_pr : ∀ (t : Tr), Neat tk t → ∀ (l : Nat) (r : List Nat), Off r → Tx (pr tk l t ++ r) (toks tk l t) r
  | .lf x, n, l, r, hr => .word (.inr (.inr ⟨n.1, n.2, hr⟩)) (.nil r)
  | .neg t, n, l, r, hr => Tx.word (u := [45]) (one_wo (by simp) _) (tx_pr t n 4 r hr)
  | .op s a b, n, l, r, hr => by
    obtain ⟨n1, na, nb⟩ := n
    have hin := fun r hr => tx_in (r := r) n1 (tx_pr a na (lv s)) (tx_pr b nb (lv s + 1)) hr
    by_cases c : lv s < l
    · rw [toks_op c]
      have e : pr tk l (.op s a b) = 40 :: ((pr tk (lv s) a ++ (32 :: (s ++ 32 :: pr tk (lv s + 1) b))) ++ [41]) := if_pos c
      rw [e]
      have e2 : 40 :: ((pr tk (lv s) a ++ (32 :: (s ++ 32 :: pr tk (lv s + 1) b))) ++ [41]) ++ r = [40] ++ ((pr tk (lv s) a ++ (32 :: (s ++ 32 :: pr tk (lv s + 1) b))) ++ ([41] ++ r)) := by simp
      rw [e2]
      refine .word (one_wo (by simp) _) (Tx.trans (hin _ (fun d hd => by cases hd; decide)) ?_)
      exact .word (one_wo (by simp) _) (.nil r)
    · rw [toks_in c]
      have e : pr tk l (.op s a b) = pr tk (lv s) a ++ (32 :: (s ++ 32 :: pr tk (lv s + 1) b)) := if_neg c
      rw [e]
      exact hin r hr
theorem tx_prs : ∀ (t : Tr), Neat tk t → ∀ (r : List Nat), Off r → Tx (prs tk t ++ r) (shw tk t) r
  | .lf x, n, r, hr => .word (.inr (.inr ⟨n.1, n.2, hr⟩)) (.nil r)
  | .neg t, n, r, hr => by
    have e : prs tk (.neg t) ++ r = [45] ++ ([40] ++ (prs tk t ++ ([41] ++ r))) := by show 45 :: 40 :: (prs tk t ++ [41]) ++ r = _; simp
    rw [e]
    refine .word (one_wo (by simp) _) (.word (one_wo (by simp) _) (Tx.trans (tx_prs t n _ (fun d hd => by cases hd; decide)) ?_))
    exact .word (one_wo (by simp) _) (.nil r)
  | .op s a b, n, r, hr => by
    obtain ⟨n1, na, nb⟩ := n
    have e : prs tk (.op s a b) ++ r = [40] ++ (prs tk a ++ ([41] ++ (32 :: (s ++ (32 :: ([40] ++ (prs tk b ++ ([41] ++ r)))))))) := by
      show 40 :: (prs tk a ++ 41 :: 32 :: (s ++ 32 :: 40 :: (prs tk b ++ [41]))) ++ r = _
      simp
    rw [e]
    refine .word (one_wo (by simp) _) (Tx.trans (tx_prs a na _ (fun d hd => by cases hd; decide)) ?_)
    refine .word (one_wo (by simp) _) (.gap (by decide) (.word (sign_wo n1 _) (.gap (by decide) (.word (one_wo (by simp) _) (Tx.trans (tx_prs b nb _ (fun d hd => by cases hd; decide)) ?_)))))
    exact .word (one_wo (by simp) _) (.nil r)
theorem off_nil : Off [] := fun d h => by cases h
theorem words_pr {t : Tr} (n : Neat tk t) (l : Nat) : words (pr tk l t) = some (toks tk l t) := by
  have := (tx_pr t n l [] off_nil).all
  rw [List.append_nil] at this
  exact this
theorem words_prs {t : Tr} (n : Neat tk t) : words (prs tk t) = some (shw tk t) := by
  have := (tx_prs t n [] off_nil).all
  rw [List.append_nil] at this
  exact this
/-- with other gaps -/
theorem words_gp {t : Tr} (n : Neat tk t) (l : Nat) : words (32 :: (gp (pr tk l t) ++ [32])) = some (toks tk l t) := by
  have := (tx_pr t n l [] off_nil).gp
  rw [List.append_nil] at this
  have t2 : Tx [32] [] [] := .gap (by decide) (.nil _)
  have t3 : Tx (gp (pr tk l t) ++ [32]) (toks tk l t) [32] := by
    have := (tx_pr t n l [32] (fun d hd => by cases hd; decide)).gp
    rw [gp_app] at this
    have e : gp [32] = [10, 32] := rfl
    rw [e] at this
    -- the end's gap is one letter only
    have h := tx_pr t n l [] off_nil
    clear this
    have key : ∀ {s : List Nat} {ws : List Wd} {r : List Nat}, Tx s ws r → r = [] → Tx (gp s ++ [32]) ws [32] := by
      intro s ws r h
      induction h with
      | nil r => intro e; rw [e]; exact .nil _
      | @gap c s ws r g _ ih =>
        intro e
        have e2 : gp (c :: s) = (if c = 32 then [10, 32] else [c]) ++ gp s := rfl
        rw [e2]
        split
        · exact .gap (by decide) (.gap (by decide) (ih e))
        · exact .gap g (ih e)
      | @word u s ws r w _ ih =>
        intro e
        have eu : gp u = u := gp_id fun c hc z => by have := w.letters c hc; rw [z] at this; exact absurd this (by decide)
        rw [gp_app, eu, List.append_assoc]
        refine .word (w.next ?_) (ih e)
        cases s with
        | nil => exact .inr (.inl rfl)
        | cons c s =>
          have e2 : gp (c :: s) = (if c = 32 then [10, 32] else [c]) ++ gp s := rfl
          rw [e2]
          split
          · exact .inr (.inr rfl)
          · exact .inl rfl
    have := key h rfl
    rw [List.append_nil] at this
    exact this
  have := (Tx.gap (c := 32) (by decide) (t3.trans t2)).all
  rw [List.append_nil] at this
  exact this
/-- with a tail -/
theorem words_tail {t : Tr} (n : Neat tk t) (l : Nat) {r : List Nat} (h : Off r) : words (pr tk l t ++ r) = (words r).map fun v => toks tk l t ++ v := (tx_pr t n l r h).words
/-! ### no gap is lost -/
def nogap (s : List Nat) : List Nat := s.filter fun c => c ≠ 32
theorem nogap_app (s t : List Nat) : nogap (s ++ t) = nogap s ++ nogap t := List.filter_append ..
theorem nogap_id {u : List Nat} (h : ∀ c ∈ u, c ≠ 32) : nogap u = u := List.filter_eq_self.mpr fun c hc => by simpa using h c hc
theorem flat_pr : ∀ (t : Tr), Neat tk t → ∀ l, (toks tk l t).flatten = nogap (pr tk l t)
  | .lf x, n, l => by
    show [tk x].flatten = nogap (tk x)
    rw [nogap_id fun c hc => (lf_letters n.2 c hc).2.2]; simp
  | .neg t, n, l => by
    show 45 :: (toks tk 4 t).flatten = nogap ([45] ++ pr tk 4 t)
    rw [nogap_app, flat_pr t n 4]; rfl
  | .op s a b, n, l => by
    obtain ⟨n1, na, nb⟩ := n
    have ia := flat_pr a na (lv s)
    have ib := flat_pr b nb (lv s + 1)
    have hs : nogap s = s := nogap_id fun c hc => (sg_letters n1 c hc).2.2
    have e0 : pr tk (lv s) a ++ (32 :: (s ++ 32 :: pr tk (lv s + 1) b)) = pr tk (lv s) a ++ ([32] ++ (s ++ ([32] ++ pr tk (lv s + 1) b))) := by simp
    have g0 : nogap [32] = [] := rfl
    have inn : nogap (pr tk (lv s) a ++ (32 :: (s ++ 32 :: pr tk (lv s + 1) b))) = (toks tk (lv s) a ++ s :: toks tk (lv s + 1) b).flatten := by
      rw [e0, nogap_app, nogap_app, nogap_app, nogap_app, g0, hs, ← ia, ← ib]; simp
    by_cases c : lv s < l
    · have e : pr tk l (.op s a b) = [40] ++ ((pr tk (lv s) a ++ (32 :: (s ++ 32 :: pr tk (lv s + 1) b))) ++ [41]) := if_pos c
      rw [toks_op c, e, nogap_app, nogap_app, inn]
      have g1 : nogap [40] = [40] := rfl
      have g2 : nogap [41] = [41] := rfl
      rw [g1, g2]; simp
    · have e : pr tk l (.op s a b) = pr tk (lv s) a ++ (32 :: (s ++ 32 :: pr tk (lv s + 1) b)) := if_neg c
      rw [toks_in c, e, inn]
/-! ### brackets are closed -/
def dp (s : List Nat) : Int := (s.count 40 : Int) - (s.count 41 : Int)
theorem dp_app (s t : List Nat) : dp (s ++ t) = dp s + dp t := by unfold dp; rw [List.count_append, List.count_append]; omega
theorem dp_cons (c : Nat) (s : List Nat) : dp (c :: s) = dp [c] + dp s := dp_app [c] s
def Dy (s : List Nat) : Prop := dp s = 0 ∧ ∀ a b, s = a ++ b → 0 ≤ dp a
theorem Dy.app {s t : List Nat} (h : Dy s) (k : Dy t) : Dy (s ++ t) := by
  refine ⟨by rw [dp_app, h.1, k.1]; rfl, fun a b e => ?_⟩
  rcases List.append_eq_append_iff.mp e with ⟨a', e1, e2⟩ | ⟨c', e1, e2⟩
  · rw [e1, dp_app, h.1]
    have := k.2 a' b e2
    omega
  · exact h.2 a c' e1
theorem Dy.flat {s : List Nat} (h : ∀ c ∈ s, c ≠ 40 ∧ c ≠ 41) : Dy s := by
  have z : ∀ t : List Nat, (∀ c ∈ t, c ≠ 40 ∧ c ≠ 41) → dp t = 0 := fun t ht => by
    unfold dp
    rw [List.count_eq_zero.mpr fun m => (ht _ m).1 rfl, List.count_eq_zero.mpr fun m => (ht _ m).2 rfl]; rfl
  refine ⟨z s h, fun a b e => ?_⟩
  rw [z a fun c hc => h c (by rw [e]; exact List.mem_append_left _ hc)]
  exact Int.le_refl _
theorem Dy.br {s : List Nat} (h : Dy s) : Dy (40 :: (s ++ [41])) := by
  have d1 : dp [40] = 1 := by decide
  have d2 : dp [41] = -1 := by decide
  refine ⟨by rw [dp_cons, dp_app, h.1, d1, d2]; rfl, fun a b e => ?_⟩
  cases a with
  | nil => decide
  | cons c a =>
    injection e with e1 e2
    rw [dp_cons, ← e1, d1]
    rcases List.append_eq_append_iff.mp e2 with ⟨a', e3, e4⟩ | ⟨c', e3, _⟩
    · rw [e3, dp_app, h.1]
      cases a' with
      | nil => decide
      | cons x a' =>
        injection e4 with e5 e6
        have : a' = [] := by
          have := congrArg List.length e6
          simp at this
          exact List.eq_nil_of_length_eq_zero (by omega)
        rw [this, ← e5, d2]; decide
    · have := h.2 a c' e3
      omega
theorem dy_pr : ∀ (t : Tr), Neat tk t → ∀ l, Dy (pr tk l t)
  | .lf x, n, l => Dy.flat fun c hc => ⟨(lf_letters n.2 c hc).1, (lf_letters n.2 c hc).2.1⟩
  | .neg t, n, l => Dy.app (s := [45]) (Dy.flat (by decide)) (dy_pr t n 4)
  | .op s a b, n, l => by
    obtain ⟨n1, na, nb⟩ := n
    have hs : Dy s := Dy.flat fun c hc => ⟨(sg_letters n1 c hc).1, (sg_letters n1 c hc).2.1⟩
    have hin : Dy (pr tk (lv s) a ++ (32 :: (s ++ 32 :: pr tk (lv s + 1) b))) := (dy_pr a na _).app (Dy.app (s := [32]) (Dy.flat (by decide)) (hs.app (Dy.app (s := [32]) (Dy.flat (by decide)) (dy_pr b nb _))))
    by_cases c : lv s < l
    · have e : pr tk l (.op s a b) = 40 :: ((pr tk (lv s) a ++ (32 :: (s ++ 32 :: pr tk (lv s + 1) b))) ++ [41]) := if_pos c
      rw [e]; exact hin.br
    · have e : pr tk l (.op s a b) = pr tk (lv s) a ++ (32 :: (s ++ 32 :: pr tk (lv s + 1) b)) := if_neg c
      rw [e]; exact hin
/-- the bracket that closes -/
theorem closes : ∀ (s : List Nat) (n : Int), 1 ≤ n → n + dp s ≤ 0 → ∃ m c, s = m ++ 41 :: c ∧ n + dp m = 1 ∧ ∀ p q, m = p ++ q → 1 ≤ n + dp p
  | [], n, h, z => by
    have : dp [] = 0 := by decide
    rw [this] at z; omega
  | x :: s, n, h, z => by
    rw [dp_cons] at z
    by_cases c : x = 41 ∧ n = 1
    · refine ⟨[], s, by rw [c.1]; rfl, by rw [c.2]; decide, fun p q e => ?_⟩
      have : p = [] := by
        cases p with
        | nil => rfl
        | cons _ _ => cases e
      rw [this]
      have : dp [] = 0 := by decide
      omega
    · have d3 : dp [x] = 1 ∨ dp [x] = 0 ∨ (dp [x] = -1 ∧ x = 41) := by
        unfold dp
        by_cases e1 : x = 40
        · left; rw [e1]; decide
        · by_cases e2 : x = 41
          · right; right; exact ⟨by rw [e2]; decide, e2⟩
          · right; left
            rw [List.count_eq_zero.mpr (by simpa using Ne.symm e1), List.count_eq_zero.mpr (by simpa using Ne.symm e2)]; rfl
      have h1 : 1 ≤ n + dp [x] := by
        rcases d3 with d | d | ⟨d, e⟩
        · omega
        · omega
        · have : n ≠ 1 := fun e3 => c ⟨e, e3⟩
          omega
      obtain ⟨m, q, e, e1, e2⟩ := closes s (n + dp [x]) h1 (by omega)
      refine ⟨x :: m, q, by rw [e]; rfl, by rw [dp_cons]; omega, fun p q2 e3 => ?_⟩
      cases p with
      | nil =>
        have : dp [] = 0 := by decide
        omega
      | cons y p =>
        injection e3 with e4 e5
        rw [dp_cons, ← e4]
        have := e2 p q2 e5
        omega
/-- a bracket of a printed sum, and the one that closes it -/
theorem pair_pr {t : Tr} (n : Neat tk t) {l : Nat} {a b : List Nat} (h : pr tk l t = a ++ 40 :: b) : ∃ m c, b = m ++ 41 :: c ∧ 1 + dp m = 1 ∧ ∀ p q, m = p ++ q → 1 ≤ 1 + dp p := by
  have d := dy_pr t n l
  rw [h] at d
  refine closes b 1 (by decide) ?_
  have h1 := d.1
  have h2 := d.2 a (40 :: b) rfl
  rw [dp_app, dp_cons] at h1
  have d1 : dp [40] = 1 := by decide
  omega
end
/-- what is left without them does not parse to the same sum -/
theorem less_words {s a m c : List Nat} {ws : List Wd} (h : Tx s ws []) (e : s = a ++ 40 :: (m ++ 41 :: c)) : ∃ ws', words (a ++ 32 :: (m ++ 32 :: c)) = some ws' ∧ ws'.count [40] + 1 = ws.count [40] ∧ oth ws' = oth ws ∧ ws'.length + 2 = ws.length := by
  obtain ⟨w1, w2, e1, t1⟩ := h.cut (Or.inl rfl) rfl a e
  have e2 : a ++ 32 :: (m ++ 41 :: c) = (a ++ 32 :: m) ++ 41 :: c := by simp
  obtain ⟨w3, w4, e3, t2⟩ := t1.cut (x := 41) (Or.inr rfl) rfl (a ++ 32 :: m) e2
  have e4 : a ++ 32 :: (m ++ 32 :: c) = (a ++ 32 :: m) ++ 32 :: c := by simp
  refine ⟨w3 ++ w4, by rw [e4]; exact t2.all, ?_, ?_, ?_⟩
  · have h1 : ws.count [40] = (w1 ++ w2).count [40] + 1 := by rw [e1, List.count_append, List.count_cons_self, List.count_append]; omega
    have h2 : (w1 ++ w2).count [40] = (w3 ++ w4).count [40] := by
      rw [e3, List.count_append, List.count_cons_of_ne (by decide), List.count_append]
    omega
  · have h1 : oth ws = oth (w1 ++ w2) := by
      rw [e1, oth_app, oth_cons, oth_app]
      have : oth [[40]] = 0 := by decide
      omega
    have h2 : oth (w1 ++ w2) = oth (w3 ++ w4) := by
      rw [e3, oth_app, oth_cons, oth_app]
      have : oth [[41]] = 0 := by decide
      omega
    omega
  · rw [e1]
    have := congrArg List.length e3
    simp only [List.length_append, List.length_cons] at this ⊢
    omega
end K09
namespace K09
open PySem L2 HK
def top (i : Nat) : Stmt := PySem.Challenge.pw_hoststack_k09_sums_within_words.main.body.getD i (.Pass ⟨0, 0, 0, 0⟩)
/-! ### the dice, as plain mathematics -/
structure Dice where
  a : Int
  b : Int
  c : Int
  deriving DecidableEq
def Dice.vs (d : Dice) : List V := [.int d.a, .int d.b, .int d.c]
def mkDice (n : Int) : Dice := if -10 < n ∧ n < 10 then ⟨if n < 0 then -n else n, 0, 2⟩ else ⟨n, 1 + n % 1009, if 10 ^ 18 ≤ n then 1 else 0⟩
def stepA (d : Dice) : Int := (d.a * 48271 + d.b * 69621 + 11) % 2147483647
/-- what a roll tells, and the dice behind it -/
def roll (d : Dice) (m : Int) : Int × Dice :=
  if d.c = 2 ∨ (d.c = 1 ∧ 0 < d.a) then (d.a % m, ⟨d.a / m, d.b, d.c⟩) else ((stepA d / 7) % m, ⟨stepA d, d.b + 1, 0⟩)
theorem roll_range (d : Dice) {m : Int} (h : 0 < m) : 0 ≤ (roll d m).1 ∧ (roll d m).1 < m := by
  unfold roll
  split
  · exact ⟨Int.emod_nonneg _ (by omega), Int.emod_lt_of_pos _ h⟩
  · exact ⟨Int.emod_nonneg _ (by omega), Int.emod_lt_of_pos _ h⟩
abbrev sDice : Stmt := top 31
abbrev sRoll : Stmt := top 32
abbrev sRounds : Stmt := top 33
/-! ### promises -/
def spDice : Sp := fun vs H Q _ => ∃ n : Int, vs = [.int n] ∧ ∀ p, H p = none → Q (.ref p) (upd H p (.lst (mkDice n).vs))
def spRoll : Sp := fun vs H Q _ => ∃ (D : Addr) (d : Dice) (m : Int), vs = [.ref D, .int m] ∧ H D = some (.lst d.vs) ∧ 0 < m ∧ m ≤ 1000000000000 ∧ Q (.int (roll d m).1) (upd H D (.lst (roll d m).2.vs))
section
variable {P : Program} {w : World} {K : PySem.W.Frag} {mg : Str → Option Value} {base : Heap}
theorem scDice : FnScope ["cell"] ["cell"] (defScope sDice) := ⟨rfl, rfl, rfl, by decide +kernel, rfl, by decide +kernel, by decide +kernel⟩
theorem ok_dice {f : Addr} {fd : FuncData} (F : L2.Fun K "_law_dice" "_law_dice" sDice f fd) (mA : mg "abs" = none) (mI : mg "int" = none) : FnOk P w K mg base L2.CX0 1 f fd ["cell"] spDice := by
  refine F.ok scDice (fun vs H Q E h => ?_) (fun cdv A outer s H vs Q E hr h => ?_)
  · obtain ⟨n, rfl, _⟩ := h
    rfl
  · obtain ⟨n, rfl, k⟩ := h
    refine ⟨_, pss_cons (ps_if (pt_chain op_lt op_lt (pe_op op_sub pe_int pe_int) (pv 0) pe_int) (pss_one (ps_ret (pe_lst (pa_cons (pe_callB call_abs (by rfl) mA (by decide +kernel) (pa_cons (pv 0) pa_nil)) (pa_cons pe_int (pa_cons pe_int pa_nil)))))) pss_nil)
      (pss_one (ps_ret (pe_lst (pa_cons (pv 0) (pa_cons (pe_op op_add pe_int (pe_op op_mod (pe_callTy call_int1 (by rfl) mI PyProof.Rows.Boot.«int» (pa_cons (pv 0) pa_nil)) pe_int))
        (pa_cons (pe_callTy call_int1 (by rfl) mI PyProof.Rows.Boot.«int» (pa_cons (pe_cmpR op_ge (pv 0) (pe_op op_pow pe_int pe_int) (nomark _)) pa_nil)) pa_nil)))))), ?_⟩
    refine ⟨_, _, rfl, rfl, _, rfl, _, _, rfl, rfl, _, rfl, ?_⟩
    refine ite2 (fun c1 => ⟨_, _, rfl, rfl, _, rfl, ite2 (fun c2 => ?A) (fun c2 => ?B)⟩) (fun c1 => ⟨_, rfl, iteF ?C⟩)
    case A =>
      have hn : -10 < n ∧ n < 10 := ⟨by have z := of_decide_eq_true c1; omega, of_decide_eq_true c2⟩
      refine ⟨_, rfl, _, rfl, by show 3 ≤ sizeLine; decide, fun p hp => ?_⟩
      have e := k p hp
      unfold mkDice at e
      rw [if_pos hn] at e
      exact e
    all_goals
      have hn : ¬ (-10 < n ∧ n < 10) := by
        simp only [decide_eq_true_eq] at *
        omega
      refine ⟨_, rfl, _, rfl, .inl ⟨_, rfl, _, _, rfl, rfl, (by show (0 : Int) < 1009; decide), _, _, rfl, rfl, ?_⟩⟩
      refine ⟨_, rfl, _, _, rfl, rfl, (by refine ⟨by decide, by decide, by decide⟩), _, _, rfl, rfl, .inr ⟨_, rfl, by show 3 ≤ sizeLine; decide, fun p hp => ?_⟩⟩
      have e := k p hp
      unfold mkDice at e
      rw [if_neg hn] at e
      have e2 : (if decide ((10 : Int) ^ (18 : Int).toNat ≤ n) = true then (1 : Int) else 0) = (if 10 ^ 18 ≤ n then 1 else 0) := by
        simp only [decide_eq_true_eq]
        rfl
      rw [e2]
      exact e
theorem scRoll : FnScope ["dice", "many", "found"] ["dice", "many"] (defScope sRoll) := ⟨rfl, rfl, rfl, by decide +kernel, rfl, by decide +kernel, by decide +kernel⟩
theorem at0 (x y z : V) : atI [x, y, z] 0 = some x := rfl
theorem at1 (x y z : V) : atI [x, y, z] 1 = some y := rfl
theorem at2 (x y z : V) : atI [x, y, z] 2 = some z := rfl
theorem ix0 (x y z : V) : ixN [x, y, z].length 0 = some 0 := rfl
theorem ix1 (x y z : V) : ixN [x, y, z].length 1 = some 1 := rfl
theorem ix2 (x y z : V) : ixN [x, y, z].length 2 = some 2 := rfl
theorem ok_roll {f : Addr} {fd : FuncData} (F : L2.Fun K "_law_roll" "_law_roll" sRoll f fd) (mI : mg "int" = none) : FnOk P w K mg base L2.CX0 1 f fd ["dice", "many"] spRoll := by
  refine F.ok scRoll (fun vs H Q E h => ?_) (fun cdv A outer s H vs Q E hr h => ?_)
  · obtain ⟨D, d, m, rfl, _⟩ := h
    rfl
  · obtain ⟨D, ⟨a, b, c⟩, m, rfl, hD, m0, m1, k⟩ := h
    have hD : H D = some (.lst [.int a, .int b, .int c]) := hD
    refine ⟨_, pss_cons (ps_if (PW.pt (pw_or (pt_cmpR op_eq (pe_ix ix_list (pv 0) pe_int (fun _ _ => rfl)) pe_int (nomark _)) (pw_or1 (PW.pt (pw_and (pt_cmpR op_eq (pe_ix ix_list (pv 0) pe_int (fun _ _ => rfl)) pe_int (nomark _)) (pw_and1 (pt_cmpR op_gt (pe_ix ix_list (pv 0) pe_int (fun _ _ => rfl)) pe_int (nomark _))))))))
        (pss_cons (ps_set (i := 2) scRoll.nd rfl (Or.inl rfl) (pe_op op_mod (pe_callTy call_int1 (by rfl) mI PyProof.Rows.Boot.«int» (pa_cons (pe_ix ix_list (pv 0) pe_int (fun _ _ => rfl)) pa_nil)) (pv 1)))
        (pss_cons (ps_asg (pe_op op_fdivW (pe_ix ix_list (pv 0) pe_int (fun _ _ => rfl)) (pv 1)) (pg_sub (pv 0) pe_int set_list))
        (pss_one (ps_ret (pv 2))))) pss_nil)
      (pss_cons (ps_asg pe_int (pg_sub (pv 0) pe_int set_list))
      (pss_cons (ps_asg (pe_op op_mod (pe_callTy call_int1 (by rfl) mI PyProof.Rows.Boot.«int» (pa_cons (pe_op op_add (pe_op op_add (pe_op op_mul (pe_ix ix_list (pv 0) pe_int (fun _ _ => rfl)) pe_int) (pe_op op_mul (pe_ix ix_list (pv 0) pe_int (fun _ _ => rfl)) pe_int)) pe_int) pa_nil)) pe_int) (pg_sub (pv 0) pe_int set_list))
      (pss_cons (ps_asg (pe_op op_add (pe_ix ix_list (pv 0) pe_int (fun _ _ => rfl)) pe_int) (pg_sub (pv 0) pe_int set_list))
      (pss_one (ps_ret (pe_op op_mod (pe_callTy call_int1 (by rfl) mI PyProof.Rows.Boot.«int» (pa_cons (pe_op op_fdiv (pe_ix ix_list (pv 0) pe_int (fun _ _ => rfl)) pe_int) pa_nil)) (pv 1))))))), ?_⟩
    refine ⟨_, rfl, D, _, _, _, rfl, rfl, SqL.of hD, at2 _ _ _, rfl, _, rfl, ite2 (fun c1 => iteT ?T) (fun c1 => ⟨_, rfl, D, _, _, _, rfl, rfl, SqL.of hD, at2 _ _ _, rfl, _, rfl,
      ite2 (fun c2 => ⟨_, rfl, D, _, _, _, rfl, rfl, SqL.of hD, at0 _ _ _, _, _, rfl, rfl, _, rfl, ite2 (fun c3 => ?T2) (fun c3 => ?F)⟩) (fun c2 => iteF ?F2)⟩)⟩
    case T | T2 =>
      have hc : c = 2 ∨ (c = 1 ∧ 0 < a) := by
        simp only [decide_eq_true_eq, V.int.injEq] at *
        omega
      have e : roll ⟨a, b, c⟩ m = (a % m, ⟨a / m, b, c⟩) := by
        unfold roll
        rw [if_pos hc]
      rw [e] at k
      refine ⟨_, rfl, D, _, _, _, rfl, rfl, SqL.of hD, at0 _ _ _, .inl ⟨_, rfl, _, rfl, _, _, rfl, rfl, m0, ?_⟩⟩
      exact ⟨_, rfl, D, _, _, _, rfl, rfl, SqL.of hD, at0 _ _ _, _, rfl, _, _, rfl, rfl, wide_div (b := 50) m0 (by omega) (by decide) (by decide), _, rfl, D, _, _, _, rfl, rfl, hD, ix0 _ _ _, _, rfl, k⟩
    case F | F2 =>
      have hc : ¬ (c = 2 ∨ (c = 1 ∧ 0 < a)) := by
        simp only [decide_eq_true_eq, V.int.injEq] at *
        omega
      have e : roll ⟨a, b, c⟩ m = ((stepA ⟨a, b, c⟩ / 7) % m, ⟨stepA ⟨a, b, c⟩, b + 1, 0⟩) := by
        unfold roll
        rw [if_neg hc]
      rw [e] at k
      refine ⟨_, rfl, D, _, _, _, rfl, rfl, hD, ix2 _ _ _, ?_⟩
      refine ⟨_, rfl, D, _, _, _, rfl, rfl, SqL.of upd_same, at0 _ _ _, _, _, rfl, rfl, .inr ⟨by decide, by decide⟩, _, rfl, D, _, _, _, rfl, rfl, SqL.of upd_same, at1 _ _ _, _, _, rfl, rfl, .inr ⟨by decide, by decide⟩, _, _, rfl, rfl, _, _, rfl, rfl, .inl ⟨_, rfl, _, _, rfl, rfl, (by show (0 : Int) < 2147483647; decide), ?_⟩⟩
      refine ⟨_, rfl, D, _, _, _, rfl, rfl, upd_same, ix0 _ _ _, ?_⟩
      refine ⟨_, rfl, D, _, _, _, rfl, rfl, SqL.of upd_same, at1 _ _ _, _, _, rfl, rfl, _, rfl, D, _, _, _, rfl, rfl, upd_same, ix1 _ _ _, ?_⟩
      refine ⟨_, rfl, D, _, _, _, rfl, rfl, SqL.of upd_same, at0 _ _ _, _, _, rfl, rfl, ⟨by decide, by decide⟩, .inl ⟨_, rfl, _, rfl, _, _, rfl, rfl, m0, ?_⟩⟩
      rw [upd_upd, upd_upd]
      exact k
theorem scRounds : FnScope ["script", "most", "cells", "cell"] ["script", "most"] (defScope sRounds) := ⟨rfl, rfl, rfl, by decide +kernel, rfl, by decide +kernel, by decide +kernel⟩
def cell0 (ns : List Int) : Int := ns.headD 0
/-- the first cell's dice, alone in a list -/
def spRounds (K : PySem.W.Frag) : Sp := fun vs H Q _ => ∃ (a : Addr) (ns : List Int), vs = [.ref a, .int 1] ∧ SqL K H a (ns.map V.int) ∧
  ∀ H' R D, Same H H' → H R = none → H D = none → R ≠ D → H' R = some (.lst [.ref D]) → H' D = some (.lst (mkDice (cell0 ns)).vs) → Q (.ref R) H'
theorem cut1 (ns : List Int) : cutV (ns.map V.int) none (some 1) = (ns.take 1).map V.int := by
  unfold cutV
  show ((ns.map V.int).drop 0).take (HT.sIx (ns.map V.int).length (ns.map V.int).length (some ((1 : Nat) : Int)) - 0) = _
  rw [HT.sIx_nat]
  cases ns with
  | nil => rfl
  | cons n r => simp
theorem ok_rounds {f fD : Addr} {fd fdD : FuncData} (F : L2.Fun K "_law_rounds" "_law_rounds" sRounds f fd)
    (FD : FnOk P w K mg base L2.CX0 1 fD fdD ["cell"] spDice) (mD : mg "_law_dice" = some (.ref fD)) (kD : PySem.W.keepIn K (.ref fD) = true) (bD : Binds K fdD ["cell"] []) :
    FnOk P w K mg base L2.CX0 2 f fd ["script", "most"] (spRounds K) := by
  refine F.ok scRounds (fun vs H Q E h => ?_) (fun cdv A outer s H vs Q E hr h => ?_)
  · obtain ⟨a, ns, rfl, _⟩ := h
    rfl
  · obtain ⟨a, ns, rfl, ha, k⟩ := h
    refine ⟨_, pss_cons (ps_set (i := 2) scRounds.nd rfl (Or.inl rfl) (pe_slice sl_list (pv 0) po_none (po_some (pv 1))))
      (pss_cons (ps_if (pt_cmpR (op_eqD hr.units) (pv 2) (pe_lst pa_nil) (nomark _)) (pss_one (ps_set (i := 2) scRounds.nd rfl (Or.inl rfl) (pe_lst (pa_cons pe_int pa_nil)))) pss_nil)
      (pss_one (ps_ret (pe_lc (own := [("cell", 3)]) (g := gName 3) (by rfl) scRounds.nd (pi_list (pv 2)) (blkOk_by (N := ["script", "most", "cells", "cell"]) (sc := defScope sRounds) (by decide +kernel))
        (fun _ _ _ _ _ => pg_name (i := 3) scRounds.nd rfl (Or.inl rfl)) (fun _ _ _ _ _ => pts_nil) (fun _ _ _ _ _ => pe_call FD hr (by rfl) mD kD bD .nil pass0 (pa_cons (pv 3) pa_nil)))))), ?_⟩
    -- the list of cells
    have tail : ∀ (p : Addr) (n : Int) (H1 : Hp), Same H H1 → H p = none → H1 p = some (.lst [.int n]) → n = cell0 ns → tLc (iList K (tVar 2)) (gName 3) tYes (tCall spDice [] E0 (tCons (tVar 3) tNil)) [3] [some (.ref a), some (.int 1), some (.ref p), none] H1 Q := by
      intro p n H1 s1 np hp en
      refine ⟨_, rfl, p, rfl, ⟨_, SqL.of hp⟩, fun R nR => ?_⟩
      have npR : p ≠ R := ne_of_none hp nR
      refine lc_list (K := K) (a := p) (xs := [.int n]) (fun i H' => (i = 0 → H' = upd H1 R (.lst [])) ∧ (i = 1 → ∃ D, H1 D = none ∧ R ≠ D ∧ H' R = some (.lst [.ref D]) ∧ H' D = some (.lst (mkDice n).vs) ∧ Same H1 H')) ⟨fun _ => rfl, fun z => by cases z⟩ (fun i H' hi q => ?_) (fun i x H' hx q => ?_) (fun H' q => ?_)
      · have hi : i ≤ 1 := hi
        rcases (by omega : i = 0 ∨ i = 1) with rfl | rfl
        · rw [q.1 rfl]
          exact SqL.of (by rw [upd_ne npR]; exact hp)
        · obtain ⟨D, _, _, _, _, z⟩ := q.2 rfl
          exact SqL.of (z _ _ hp)
      · match i, hx with
        | 0, hx =>
          obtain rfl : V.int n = x := Option.some.inj hx
          obtain rfl := q.1 rfl
          refine ⟨rfl, _, rfl, n, rfl, fun D nD => ?_⟩
          have nRD : R ≠ D := ne_of_none upd_same nD
          have nD1 : H1 D = none := by rw [upd_ne (Ne.symm nRD)] at nD; exact nD
          refine ⟨[], by rw [upd_ne nRD, upd_same], by show 0 < sizeLine; decide, fun z => (by cases z), fun _ => ⟨D, nD1, nRD, upd_same, by rw [upd_ne (Ne.symm nRD), upd_same], fun b o e => ?_⟩⟩
          rw [upd_ne (ne_of_none e nR), upd_ne (ne_of_none e nD1), upd_ne (ne_of_none e nR)]
          exact e
      · obtain ⟨D, nD, nRD, h1, h2, s2⟩ := q.2 rfl
        rw [en] at h2
        exact k H' R D (s1.trans s2) (s1.free nR) (s1.free nD) nRD h1 h2
    refine ⟨_, rfl, _, rfl, _, rfl, a, _, rfl, ha, fun p np => ?_⟩
    rw [cut1]
    refine ⟨_, rfl, by show 0 ≤ sizeLine; decide, fun l nl => ?_⟩
    have npl : p ≠ l := ne_of_none upd_same nl
    have np' : (upd (upd H p (.lst ((ns.take 1).map V.int))) l (.lst [])) p = some (.lst ((ns.take 1).map V.int)) := by rw [upd_ne npl, upd_same]
    have nl' : H l = none := by rw [upd_ne (Ne.symm npl)] at nl; exact nl
    have sm : Same H (upd (upd H p (.lst ((ns.take 1).map V.int))) l (.lst [])) := fun b o e => by
      rw [upd_ne (ne_of_none e nl'), upd_ne (ne_of_none e np)]
      exact e
    cases ns with
    | nil =>
      refine ⟨.list [], .list [], Dp.lst (SqL.of np') .nil, Dp.lst (SqL.of upd_same) .nil, rfl, rfl, _, rfl, iteT ?_⟩
      refine ⟨by show 1 ≤ sizeLine; decide, fun c nc => ?_⟩
      refine tail c 0 _ (sm.trans fun b o e => ?_) (sm.free nc) upd_same rfl
      rw [upd_ne (ne_of_none e nc)]
      exact e
    | cons n r =>
      refine ⟨.list [.int n], .list [], Dp.lst (SqL.of np') (.cons (.int n) .nil), Dp.lst (SqL.of upd_same) .nil, ?_, rfl, _, rfl, iteF ?_⟩
      · rfl
      · exact tail p n _ sm np np' rfl
end
end K09
namespace K09
open PySem L2 PyProof.Rows PySem.Spec SkE
/-- d.get(text, x), d a dict of the top -/
def tKGet2 (K : PySem.W.Frag) (d : Addr) (td ty tx : TE) : TE := fun σ H Q => td σ H fun x H1 => x = .ref d ∧ ty σ H1 fun y H2 => tx σ H2 fun z H3 => ∃ (s : Str) (r : Option Value), y = .str s ∧ PySem.W.nsIn K d s = some r ∧ (r = none → Q z H3) ∧ ∀ u, r = some u → ∃ v, RelV v u ∧ Q v H3
section
variable {X : Cx} {d : Addr} {es : Array DictEntry} {n : Nat} {o e f : Expr} {apos cpos : Pos} {td ty tx : TE}
theorem pe_kget2 (D : KDict X.K X.w d es n) (ho : PE X o td) (he : PE X e ty) (hf : PE X f tx) (m : M2 X o "get" apos e f cpos) : PE X (.Call (.Attribute o "get" apos) [e, f] [] cpos) (tKGet2 X.K d td ty tx) := by
  refine ⟨fun pins s σ H Q I h => ?_⟩
  refine wpAny_Call_method m.base m.few m.line PySem.F.plainAttrs_dict PySem.F.slot_dict_get PySem.F.type_dict_get (thn (ho.run pins s σ H _ I h) fun u s1 ⟨x, H1, I1, rx, ex, q1⟩ => ?_)
  subst ex
  obtain rfl : u = Value.ref d := rx
  refine ⟨kd_type D I1, fun b q => ?_, ?_⟩
  · cases q
    exact ⟨_, I1.kIn _ _ D.at_, rfl⟩
  rw [m.trees]
  refine Calls.callWith_builtin rfl (Calls.evalArgs_plain (Calls.spliced_cons (thn (he.run pins s1 σ H1 _ I1 q1) fun iv s2 ⟨y, H2, I2, ry, q2⟩ =>
    Calls.spliced_cons (thn (hf.run pins s2 σ H2 _ I2 q2) fun fv s3 ⟨z, H3, I3, rz, k, r, ey, en, q3, q4⟩ => Calls.spliced_nil ?_))))
  subst ey
  obtain ⟨t, rfl⟩ := ry
  refine call_meetsIn PySem.F.slot_dict_get (kd_type D I3) PySem.F.entry_dict_get (PySem.F.args_dict_get_3 _ _ _) (meets_dict_get_default (strKind X.prog X.w) d (PySem.strKind_is X.prog X.w k t) D.low fv) ⟨_, PySem.W.mapOf_K (prog := X.prog) I3.kIn D.at_ D.lit, ?_⟩
  have ek := PySem.W.find_K D.at_ en
  rw [ek]
  cases r with
  | none => exact ⟨z, H3, I3.tok _, rz, q3 rfl⟩
  | some u =>
    obtain ⟨v, rv, q⟩ := q4 u rfl
    exact ⟨v, H3, I3.tok _, rv, q⟩
/-- str(x), x a whole number or a text -/
def rStrB : List V → Hp → VK → Prop := fun xs H Q => (∃ i : Int, xs = [.int i] ∧ i.natAbs.log2 < 1920 ∧ Q (.str (toString i)) H) ∨ ∃ a, xs = [.str a] ∧ Q (.str a) H
theorem call_strB : CallR X (.type "str") rStrB := fun pins s σ H xs us Q I r h => by
  rcases h with h | h
  · exact call_str_int pins s σ H xs us Q I r h
  · exact call_str_str pins s σ H xs us Q I r h
/-- // and % by a whole number of any sign -/
theorem op_fdivNW : OpR X (binaryOp .FloorDiv) (rI (fun _ j => j ≠ 0 ∧ j.natAbs.log2 < 9000) fun i j => .int (i.fdiv j)) := opI fun _ _ _ _ _ _ _ hc q => floordiv_int hc.1 q (.inl (PyProof.noPylong_of_log2 hc.2))
/-! ### a written text's token -/
/-- what gives out a token on its way -/
def PEO (X : Cx) (e : Expr) (t : TE) : Prop :=
  ∀ (pins : List (Addr × Obj)) (s : Shared) (σ : L2.St) (H : Hp) (Q : VK), Inv X pins σ H s → t σ H Q → wpAny (model X.prog X.w) X.A (eval e X.env) (fun v s1 => 1 ≤ s1.toks ∧ EP X pins σ Q v s1) X.xe s
theorem peo_str {z : Str} {j : Nat} {pos : Pos} : PEO X (.Constant (.str z) j pos) (tC (.str z)) := by
  intro pins s σ H Q I h
  exact Calls.Constant_str ⟨by show 1 ≤ s.toks + 1; omega, .str z, H, I.tok _, ⟨_, rfl⟩, h⟩
theorem pe_opT {op : Operator} {r : R2} {pos : Pos} (ho : OpR X (binaryOp op) r) (ha : PEO X e td) (hb : PET X f ty) : PE X (.BinOp e op f pos) (tOp r td ty) := by
  refine ⟨fun pins s σ H Q I h => ?_⟩
  refine wpAny_BinOp (thn (ha pins s σ H _ I h) fun v s1 q => ?_)
  obtain ⟨h1, x, H1, I1, r1, q1⟩ := q
  exact thn (hb pins s1 σ H1 _ h1 I1 q1) fun u s2 ⟨y, H2, I2, r2, q2⟩ => ho pins s2 σ H2 x y v u Q I2 r1 r2 q2
/-- text.m(e), the text written -/
theorem peo_m1 {id : String} {name : Str} {apos pos : Pos} {r : V → List V → Hp → VK → Prop} (slot : Slot "str" name id) (ty' : typeOf (.builtin id) = pure (.type "method_descriptor")) (rule : MtR X id r) (ho : PEO X o td) (he : PE X e ty)
    (hs : starEach [e] X.env = [(false, eval e X.env)] := by rfl) (hbase : attributeBase o name X.env (eval o X.env) = eval o X.env := by rfl) (hline : (apos.endLine == pos.line) = true := by rfl) :
    PEO X (.Call (.Attribute o name apos) [e] [] pos) (tM1 r td ty) := by
  intro pins s σ H Q I h
  refine PySem.Call_method1 hbase hs hline (thn (ho pins s σ H _ I h) fun v s1 q => ?_)
  obtain ⟨h1, x, H1, I1, r1, q1⟩ := q
  obtain ⟨⟨a, rfl⟩, q1⟩ := q1
  obtain ⟨t, rfl⟩ := _root_.id r1
  refine ⟨"str", _, F.plainAttrs_str, slot, ty', typeIs_str _ _ _, (fun _ e => nomatch e), Calls.callWith_builtin rfl (Calls.evalArgs_plain (Calls.spliced_cons ?_))⟩
  refine wpAny_mono (PySem.wpAny_toks (he.run pins s1 σ H1 _ I1 q1)) (fun u s2 q2 => ?_) fun _ _ z => z.2
  obtain ⟨hk, y, H2, I2, r2, q2⟩ := q2
  refine Calls.spliced_nil (wpAny_mono (PySem.wpAny_toks (rule pins s2 σ H2 _ [y] _ [u] Q I2 r1 (.cons r2 .nil) q2)) (fun u2 s3 q3 => ?_) fun _ _ z => z.2)
  exact ⟨by have := q3.1; omega, q3.2⟩
theorem pt_cmpO {op : CmpOp} {r : R2} {pos : Pos} (ho : OpR X (compareOp op) r) (ha : PEO X e td) (hb : PET X f ty) (hm : behindInMarks op f = false) : PT X (.Compare e [op] [f] pos) (tTest (tOp r td ty)) := by
  refine ⟨fun pins s σ H Q I h => ?_⟩
  refine wpAny_isTrue_Compare1 (thn (ha pins s σ H _ I h) fun v s1 q => ?_) hm
  obtain ⟨h1, x, H1, I1, r1, q1⟩ := q
  refine thn (hb pins s1 σ H1 _ h1 I1 q1) fun u s2 ⟨y, H2, I2, r2, q2⟩ => thn (ho pins s2 σ H2 x y v u _ I2 r1 r2 q2) fun c s3 ⟨z, H3, I3, r3, k, e, q3⟩ => ?_
  subst e
  cases r3
  exact wpAny_truthy_bool ⟨H3, I3, q3⟩
theorem fold_rep (c : Nat) : ∀ (n : Nat) (a : Array Nat), (List.replicate n (#[c] : Array Nat)).foldl (· ++ ·) a = a ++ (List.replicate n c).toArray
  | 0, a => by simp
  | n + 1, a => by
    rw [List.replicate_succ, List.foldl_cons, fold_rep c n, List.replicate_succ]
    apply Array.ext'
    simp
/-- a sign again and again -/
theorem op_repS : OpR X (binaryOp .Mult) (fun x y H Q => ∃ (c k : Nat), x = .str ⟨#[c]⟩ ∧ y = .int (k : Int) ∧ k ≤ 1000 ∧ Q (.str ⟨(List.replicate k c).toArray⟩) H) := by
  intro pins s σ H x y v u Q I rx ry h
  obtain ⟨c, k, rfl, rfl, hk, q⟩ := h
  obtain ⟨t, rfl⟩ := rx
  obtain ⟨t', rfl⟩ := ry
  refine PySem.P.mul_str ?_ (fun h1 h2 => ?_) (fun h1 h2 => ?_) ?_
  · have a1 : ¬ ((k : Int) < -(2 ^ 63)) := by omega
    have a2 : ¬ ((k : Int) ≥ 2 ^ 63) := by omega
    rw [decide_eq_false a1, decide_eq_false a2]; rfl
  · have : (1 : Int) ≤ (2 ^ 63 - 1) / (k : Int) := by
      apply Int.le_ediv_of_mul_le (by omega); omega
    show ¬ ((1 : Int) > _)
    omega
  · show Builtin.Str.tooLong (1 * (k : Int).toNat) = false
    rw [Nat.one_mul, Int.toNat_natCast]
    unfold Builtin.Str.tooLong
    rw [sizeLine_eq]
    exact decide_eq_false (by omega)
  · rcases (by omega : k = 0 ∨ k = 1 ∨ 2 ≤ k) with rfl | rfl | h2
    · rw [if_pos (by decide)]
      exact ⟨by decide, .str _, H, I.tok _, ⟨_, rfl⟩, q⟩
    · rw [if_neg (by decide), if_pos (by rfl)]
      exact ⟨.str _, H, I, ⟨_, rfl⟩, q⟩
    · have a1 : ¬ ((k : Int) < 1) := by omega
      have a2 : ¬ (((k : Int) == 1 || (⟨#[c]⟩ : Str).length == 0) = true) := by
        have : ((k : Int) == 1) = false := by simp; omega
        rw [this]
        show ¬ ((false || (1 == 0)) = true)
        decide
      rw [if_neg a1, if_neg a2]
      refine ⟨?_, .str _, H, I.tok _, ⟨_, rfl⟩, ?_⟩
      · rw [Int.toNat_natCast, sizeLine_eq]
        show ((List.replicate k (#[c] : Array Nat)).foldl (· ++ ·) #[]).size ≤ _
        rw [fold_rep]
        simp
        omega
      · rw [Int.toNat_natCast]
        show Q (.str ⟨(List.replicate k (#[c] : Array Nat)).foldl (· ++ ·) #[]⟩) H
        rw [fold_rep]
        simpa using q
end
end K09
namespace K09
open PySem L2 HK
abbrev S (l : List Nat) : Str := ⟨l.toArray⟩
theorem S_len (a : List Nat) : (S a).length = a.length := by simp [S, Str.length]
theorem S_inj {a b : List Nat} (h : S a = S b) : a = b := congrArg (fun x : Str => x.cps.toList) h
theorem S_eq {a b : List Nat} : (S a = S b) ↔ a = b := ⟨S_inj, fun h => by rw [h]⟩
theorem S_dec (a b : List Nat) : decide (V.str (S a) = V.str (S b)) = decide (a = b) := by
  by_cases h : a = b
  · rw [h]; simp
  · rw [decide_eq_false h, decide_eq_false (fun e => h (S_inj (V.str.inj e)))]
theorem inV_S (u : List Nat) (l : List (List Nat)) : inV (.str (S u)) (l.map fun w => V.str (S w)) = decide (u ∈ l) := by
  unfold inV
  induction l with
  | nil => rfl
  | cons w l ih =>
    rw [List.map_cons, List.any_cons, ih]
    have e : eqV (.str (S w)) (.str (S u)) = decide (w = u) := SX.S_beq_eq
    rw [e]
    by_cases h : w = u
    · simp [h]
    · simp [h, Ne.symm h]
theorem cut_S (s : List Nat) (a b : Nat) : cutS (S s) (some (a : Int)) (some (b : Int)) = S ((s.drop a).take (b - a)) := by
  unfold cutS
  rw [HT.sIx_nat, HT.sIx_nat, S_len]
  show S _ = S _
  congr 1
  show (s.drop (min a s.length)).take (min b s.length - min a s.length) = (s.drop a).take (b - a)
  by_cases ha : a ≤ s.length
  · rw [Nat.min_eq_left ha]
    by_cases hb : b ≤ s.length
    · rw [Nat.min_eq_left hb]
    · rw [Nat.min_eq_right (by omega), List.take_of_length_le (by rw [List.length_drop]; omega), List.take_of_length_le (by rw [List.length_drop]; omega)]
  · have e : min a s.length = s.length := by omega
    rw [e, List.drop_length, List.drop_eq_nil_of_le (show s.length ≤ a by omega)]; simp
theorem cut_Sl (s : List Nat) (a : Nat) : cutS (S s) (some (a : Int)) none = S (s.drop a) := by
  unfold cutS
  rw [HT.sIx_nat, HT.sIx_none, S_len]
  show S _ = S _
  congr 1
  show (s.drop (min a s.length)).take (s.length - min a s.length) = s.drop a
  by_cases ha : a ≤ s.length
  · rw [Nat.min_eq_left ha, List.take_of_length_le (by rw [List.length_drop]; omega)]
  · have e : min a s.length = s.length := by omega
    rw [e, List.drop_length, List.drop_eq_nil_of_le (show s.length ≤ a by omega)]; simp
theorem cut_Sr (s : List Nat) (b : Nat) : cutS (S s) none (some (b : Int)) = S (s.take b) := by
  unfold cutS
  rw [HT.sIx_nat, HT.sIx_none, S_len]
  show S _ = S _
  congr 1
  show (s.drop 0).take (min b s.length - 0) = s.take b
  rw [List.drop_zero, Nat.sub_zero]
  by_cases hb : b ≤ s.length
  · rw [Nat.min_eq_left hb]
  · rw [Nat.min_eq_right (by omega), List.take_length, List.take_of_length_le (by omega)]
/-! ### the tops -/
abbrev sWrapped : Stmt := top 6
abbrev sNumIn : Stmt := top 7
abbrev sLetter : Stmt := top 9
abbrev sWords : Stmt := top 18
abbrev sWend : Stmt := top 19
abbrev sPlain : Stmt := top 21
abbrev sPlainN : Stmt := top 22
abbrev sParse : Stmt := top 23
abbrev sText : Stmt := top 24
abbrev sNumFrom : Stmt := top 25
abbrev sValue : Stmt := top 26
abbrev sSignV : Stmt := top 27
abbrev sDivi : Stmt := top 28
abbrev sHolds : Stmt := top 29
abbrev sTold : Stmt := top 34
abbrev sTree : Stmt := top 35
abbrev sShown : Stmt := top 36
abbrev sLWrap : Stmt := top 37
abbrev sLVal : Stmt := top 38
abbrev sLess : Stmt := top 39
abbrev sLaw : Stmt := top 40
/-- what the tops have written -/
structure CTxt (K : PySem.W.Frag) (mg : Str → Option Value) (CE : Addr) : Prop where
  half : ∃ t, mg "HALF_RANGE" = some (.int 2147483648 t)
  digits : ∃ t, mg "MOST_DIGITS" = some (.int 10 t)
  words : ∃ t, mg "MOST_WORDS" = some (.int 200 t)
  brackets : ∃ t, mg "MOST_BRACKETS" = some (.int 19 t)
  vdigits : ∃ t, mg "MOST_VARIABLE_DIGITS" = some (.int 12 t)
  tightest : ∃ t, mg "TIGHTEST" = some (.int 4 t)
  long : ∃ a, mg "LONG_SIGNS" = some (.ref a) ∧ ∀ H, SqT K H a (longs.map fun w => V.str (S w))
  short : ∃ a, mg "SHORT_SIGNS" = some (.ref a) ∧ ∀ H, SqT K H a ((shorts.map fun c => [c]).map fun w => V.str (S w))
  gE : mg "ShellError" = some (.ref CE)
  xE : PySem.W.excIn K CE [.type "ValueError", .type "Exception", .type "BaseException", .type "object"] "ValueError.__new__" = true
  kE : PySem.W.keepIn K (.ref CE) = true
  bE : PySem.W.subIn K (.ref CE) (.type "BaseException") = some true
  tE : PySem.W.typeIn K (.ref CE) = some (.type "type")
  len : mg "len" = none
  int : mg "int" = none
  str : mg "str" = none
/-- within 32 bits -/
@[irreducible] def wr (n : Int) : Int := (n + 2147483648) % 4294967296 - 2147483648
def spInt1 (g : Int → Int) : Sp := fun vs H Q _ => ∃ n : Int, vs = [.int n] ∧ Q (.int (g n)) H
def spLetter : Sp := fun vs H Q _ => ∃ c : Nat, vs = [.str (S [c])] ∧ Q (.bl (nl c)) H
/-- the end of the first word -/
def spWend (CE : Addr) : Sp := fun vs H Q E => ∃ (s : List Nat) (i : Nat), vs = [.str (S s), .int (i : Int)] ∧ i < s.length ∧ s.length ≤ 100000 ∧
  (wend (s.drop i) = none → E (.ref CE) none H) ∧ ∀ k, wend (s.drop i) = some k → Q (.int ((i + k : Nat) : Int)) H
theorem letter_low : ∀ c < 128, (c == 95 || (Txt.isascii (S [c]) && Txt.isalnum (S [c]))) = nl c := by decide +kernel
theorem ascii_high {c : Nat} (h : ¬ c < 128) : Txt.isascii (S [c]) = false := by
  show (#[c].all fun x => x < 128) = false
  simp; omega
theorem letter_is (c : Nat) : (c == 95 || (Txt.isascii (S [c]) && Txt.isalnum (S [c]))) = nl c := by
  by_cases h : c < 128
  · exact letter_low c h
  · rw [ascii_high h]
    have e1 : (c == 95) = false := by simp; omega
    have : nl c = false := by
      unfold nl
      simp; omega
    rw [e1, this]; rfl
section
variable {P : Program} {w : World} {K : PySem.W.Frag} {mg : Str → Option Value} {base : Heap} {CE : Addr}
theorem scWrapped : FnScope ["number"] ["number"] (defScope sWrapped) := ⟨rfl, rfl, rfl, by decide +kernel, rfl, by decide +kernel, by decide +kernel⟩
theorem ok_wrapped {f : Addr} {fd : FuncData} (F : L2.Fun K "wrapped" "wrapped" sWrapped f fd) (T : CTxt K mg CE) : FnOk P w K mg base L2.CX0 1 f fd ["number"] (spInt1 wr) := by
  refine F.ok scWrapped (fun vs H Q E h => ?_) (fun cdv A outer s H vs Q E hr h => ?_)
  · obtain ⟨n, rfl, _⟩ := h
    rfl
  · obtain ⟨n, rfl, k⟩ := h
    obtain ⟨t, hm⟩ := T.half
    unfold wr at k
    refine ⟨_, pss_one (ps_ret (pe_op op_sub (pe_op op_mod (pe_op op_add (pv 0) (pe_glob (v := .int 2147483648) rfl hm ⟨_, rfl⟩)) (pe_op op_mul pe_int (pe_glob (v := .int 2147483648) rfl hm ⟨_, rfl⟩))) (pe_glob (v := .int 2147483648) rfl hm ⟨_, rfl⟩))), ?_⟩
    exact ⟨_, rfl, _, _, rfl, rfl, _, _, rfl, rfl, .inr ⟨by decide, by decide⟩, _, _, rfl, rfl, (by show (0 : Int) < 2 * 2147483648; decide), _, _, rfl, rfl, k⟩
theorem scLWrap : FnScope ["number"] ["number"] (defScope sLWrap) := ⟨rfl, rfl, rfl, by decide +kernel, rfl, by decide +kernel, by decide +kernel⟩
theorem ok_lwrap {f : Addr} {fd : FuncData} (F : L2.Fun K "_law_wrapped" "_law_wrapped" sLWrap f fd) : FnOk P w K mg base L2.CX0 1 f fd ["number"] (spInt1 wr) := by
  refine F.ok scLWrap (fun vs H Q E h => ?_) (fun cdv A outer s H vs Q E hr h => ?_)
  · obtain ⟨n, rfl, _⟩ := h
    rfl
  · obtain ⟨n, rfl, k⟩ := h
    unfold wr at k
    refine ⟨_, pss_one (ps_ret (pe_op op_sub (pe_op op_mod (pe_op op_add (pv 0) pe_int) pe_int) pe_int)), ?_⟩
    exact ⟨_, rfl, _, _, rfl, rfl, _, _, rfl, rfl, (by show (0 : Int) < 4294967296; decide), _, _, rfl, rfl, k⟩
theorem scLetter : FnScope ["letter"] ["letter"] (defScope sLetter) := ⟨rfl, rfl, rfl, by decide +kernel, rfl, by decide +kernel, by decide +kernel⟩
theorem ok_letter {f : Addr} {fd : FuncData} (F : L2.Fun K "is_name_letter" "is_name_letter" sLetter f fd) : FnOk P w K mg base L2.CX0 1 f fd ["letter"] spLetter := by
  refine F.ok scLetter (fun vs H Q E h => ?_) (fun cdv A outer s H vs Q E hr h => ?_)
  · obtain ⟨n, rfl, _⟩ := h
    rfl
  · obtain ⟨c, rfl, k⟩ := h
    refine ⟨_, pss_one (ps_ret (pe_or (pe_cmpR op_eq (pv 0) pe_str (nomark _)) (pe_one (pe_and (pe_m0 PySem.F.slot_str_isascii PySem.F.type_str_isascii mt_isascii (pv 0)) (pe_one (pe_m0 PySem.F.slot_str_isalnum PySem.F.type_str_isalnum mt_isalnum (pv 0))))))), ?_⟩
    have e := letter_is c
    have e1 : decide (V.str (S [c]) = V.str "_") = (c == 95) := by
      have h : ("_" : Str) = S [95] := by decide +kernel
      rw [h, S_dec]
      by_cases c9 : c = 95
      · rw [c9]; rfl
      · rw [decide_eq_false (by simpa using c9)]; simp [c9]
    refine ⟨_, rfl, rfl, _, rfl, ?_⟩
    rw [e1]
    cases h1 : c == 95 with
    | true =>
      rw [h1] at e
      exact iteT (by rw [← e] at k; exact k)
    | false =>
      rw [h1] at e
      refine iteF ⟨_, rfl, ⟨_, rfl⟩, _, rfl, rfl, trivial, _, rfl, ?_⟩
      cases h2 : Txt.isascii (S [c]) with
      | true =>
        rw [h2] at e
        refine iteT ⟨_, rfl, ⟨_, rfl⟩, _, rfl, rfl, trivial, ?_⟩
        rw [← e] at k
        exact k
      | false =>
        rw [h2] at e
        refine iteF ?_
        rw [← e] at k
        exact k
end
end K09
namespace K09
open PySem L2 HK
theorem while_gh {γ : Type} {c : TT} {tb : TS} {D : Ends} {σ : L2.St} {H : Hp} (Pv : γ → L2.St → Hp → Prop) (μ : γ → Nat) (g0 : γ) (h0 : Pv g0 σ H)
    (hs : ∀ g σ H, Pv g σ H → c σ H fun b H1 => if b = true then tb { D with nx := fun σ' H' => ∃ g', Pv g' σ' H' ∧ μ g' < μ g, ct := fun σ' H' => ∃ g', Pv g' σ' H' ∧ μ g' < μ g, bk := D.nx } σ H1 else D.nx σ H1)
    (mono : ∀ σ H Q Q', (∀ b H1, Q b H1 → Q' b H1) → c σ H Q → c σ H Q') : tWhile c tb D σ H := by
  refine ⟨fun m σ H => ∃ g, m = μ g ∧ Pv g σ H, ⟨_, g0, rfl, h0⟩, ?_⟩
  rintro m σ H ⟨g, rfl, p⟩
  refine mono σ H _ _ (fun b H1 q => ?_) (hs g σ H p)
  cases b with
  | true => exact ⟨_, fun σ' H' ⟨g', p', l⟩ => ⟨_, l, g', rfl, p'⟩, q⟩
  | false => exact q
theorem lenS {s : List Nat} (h : s.length ≤ 100000) : (S s).length ≤ sizeLine := by rw [S_len, sizeLine_eq]; omega
theorem at_S {s : List Nat} {i c : Nat} (h : s[i]? = some c) : atI (S s).cps.toList (i : Int) = some c := atI_nat h
theorem flat_strs (l : List (List Nat)) : (l.map fun w => V.str (S w)).all flatV = true := by
  rw [List.all_eq_true]
  intro x hx
  obtain ⟨w, _, rfl⟩ := List.mem_map.mp hx
  rfl
theorem hsh_drop {s : List Nat} {i c : Nat} (h : s[i]? = some c) : hsh (s.drop i) = decide ([c] ∈ shorts.map fun c => [c]) := by
  obtain ⟨hi, rfl⟩ := List.getElem?_eq_some_iff.mp h
  rw [List.drop_eq_getElem_cons hi]
  show decide (s[i] ∈ shorts) = _
  congr 1
  simp
/-- what is taken while it is a letter -/
theorem tw_step {s : List Nat} {p c : Nat} (h : s[p]? = some c) : ((s.drop p).takeWhile nl).length = if nl c = true then ((s.drop (p + 1)).takeWhile nl).length + 1 else 0 := by
  obtain ⟨hi, rfl⟩ := List.getElem?_eq_some_iff.mp h
  rw [List.drop_eq_getElem_cons hi, List.takeWhile_cons]
  split <;> rfl
section
variable {P : Program} {w : World} {K : PySem.W.Frag} {mg : Str → Option Value} {base : Heap} {CE : Addr}
theorem scWend : FnScope ["text", "start", "place"] ["text", "start"] (defScope sWend) := ⟨rfl, rfl, rfl, by decide +kernel, rfl, by decide +kernel, by decide +kernel⟩
theorem ok_wend {f fN : Addr} {fd fdN : FuncData} (F : L2.Fun K "word_end" "word_end" sWend f fd) (T : CTxt K mg CE)
    (FN : FnOk P w K mg base L2.CX0 1 fN fdN ["letter"] spLetter) (mN : mg "is_name_letter" = some (.ref fN)) (kN : PySem.W.keepIn K (.ref fN) = true) (bN : Binds K fdN ["letter"] []) :
    FnOk P w K mg base (L2.CX P w) 2 f fd ["text", "start"] (spWend CE) := by
  refine F.okX scWend (fun vs H Q E h => ?_) (fun cdv A outer s0 H vs Q E hr h => ?_)
  · obtain ⟨s, i, rfl, _⟩ := h
    rfl
  · obtain ⟨s, i, rfl, hi, hl, kn, ks⟩ := h
    obtain ⟨aL, hL, qL⟩ := T.long
    obtain ⟨aS, hS, qS⟩ := T.short
    refine ⟨_, pss_cons (ps_if (pt_cmpR op_in_seq (pe_slice sl_str (pv 0) (po_some (pv 1)) (po_some (pe_op op_add (pv 1) pe_int))) (pe_glob (v := .ref aL) rfl hL rfl) (by rfl)) (pss_one (ps_ret (pe_op op_add (pv 1) pe_int))) pss_nil)
      (pss_cons (ps_if (pt_cmpR op_in_seq (pe_ix ix_str (pv 0) (pv 1) (fun _ _ => rfl)) (pe_glob (v := .ref aS) rfl hS rfl) (by rfl)) (pss_one (ps_ret (pe_op op_add (pv 1) pe_int))) pss_nil)
      (pss_cons (ps_set (i := 2) scWend.nd rfl (Or.inl rfl) (pv 1))
      (pss_cons (ps_while (passes_of rfl) (PW.pt (pw_and (pt_cmpR op_lt (pv 2) (pe_callB call_len_str (by rfl) T.len PySem.boot_len (pa_cons (pv 0) pa_nil)) (nomark _))
          (pw_and1 (pt_val (pe_call FN hr (by rfl) mN kN bN .nil pass0 (pa_cons (pe_ix ix_str (pv 0) (pv 2) (fun _ _ => rfl)) pa_nil))))))
        (pss_one (ps_set (i := 2) scWend.nd rfl (Or.inl rfl) (pe_op op_add (pv 2) pe_int))))
      (pss_cons (ps_if (pt_cmpR op_eq (pv 2) (pv 1) (nomark _)) (pss_one (ps_raise rfl (takes_of rfl rfl rfl rfl) (pmk_own PySem.F.excBase_ValueError T.xE T.gE T.kE (raises_own T.bE T.tE) rfl))) pss_nil)
      (pss_one (ps_ret (pv 2))))))), ?_⟩
    have e2 : ((i : Int) + 2) = ((i + 2 : Nat) : Int) := by omega
    have e1 : ((i : Int) + 1) = ((i + 1 : Nat) : Int) := by omega
    refine ⟨_, rfl, _, rfl, _, rfl, _, rfl, _, _, rfl, rfl, _, rfl, _, rfl, lenS hl, ?_⟩
    dsimp only
    rw [e2, cut_S, show i + 2 - i = 2 by omega]
    refine ⟨_, _, rfl, .inr (qL _), rfl, flat_strs _, ?_⟩
    obtain ⟨c, hc⟩ : ∃ c, s[i]? = some c := ⟨_, List.getElem?_eq_getElem hi⟩
    show ∃ k, V.bl (inV _ _) = V.bl k ∧ _
    rw [inV_S]
    refine ⟨_, rfl, ite2 (fun d => ?_) (fun d => ?_)⟩
    · have d : (s.drop i).take 2 ∈ longs := of_decide_eq_true d
      have := ks 2 (by unfold wend; rw [if_pos d])
      rw [← e2] at this
      exact ⟨_, rfl, _, _, rfl, rfl, this⟩
    have nL : ¬ (s.drop i).take 2 ∈ longs := by simpa using d
    refine ⟨_, rfl, _, rfl, _, _, c, rfl, rfl, lenS hl, at_S hc, _, _, rfl, .inr (qS _), rfl, flat_strs _, ?_⟩
    show ∃ k, V.bl (inV (.str (S [c])) _) = V.bl k ∧ _
    rw [inV_S, ← hsh_drop hc]
    refine ⟨_, rfl, ite2 (fun d => ?_) (fun d => ?_)⟩
    · have := ks 1 (by unfold wend; rw [if_neg nL, if_pos d])
      rw [← e1] at this
      exact ⟨_, rfl, _, _, rfl, rfl, this⟩
    refine ⟨_, rfl, ?_⟩
    refine while_gh (γ := Nat) (fun p σ H' => H' = H ∧ σ = [some (.str (S s)), some (.int (i : Int)), some (.int (p : Int))] ∧ i ≤ p ∧ p ≤ s.length ∧ ((s.drop i).takeWhile nl).length = (p - i) + ((s.drop p).takeWhile nl).length) (fun p => s.length - p) i
      ⟨rfl, rfl, Nat.le_refl _, by omega, by omega⟩ (fun p σ H' q => ?_) (fun σ H' R R' hm => ?_)
    · obtain ⟨rfl, rfl, q1, q2, q3⟩ := q
      refine ⟨_, rfl, _, rfl, _, rfl, lenS hl, _, _, rfl, rfl, _, rfl, ite2 (fun c1 => ?A) (fun c1 => iteF ?F2)⟩
      case' A =>
        have c1 : p < s.length := by
          have := of_decide_eq_true c1
          rw [S_len] at this
          omega
        obtain ⟨c', hc'⟩ : ∃ c', s[p]? = some c' := ⟨_, List.getElem?_eq_getElem c1⟩
        have st := tw_step hc'
        refine ⟨_, rfl, _, rfl, _, _, c', rfl, rfl, lenS hl, at_S hc', c', rfl, _, rfl, ite2 (fun c2 => ?B) (fun c2 => ?F1)⟩
      case B =>
        rw [if_pos c2] at st
        refine ⟨_, rfl, _, _, rfl, rfl, p + 1, ⟨rfl, by rw [show ((p + 1 : Nat) : Int) = (p : Int) + 1 by omega]; rfl, by omega, by omega, by omega⟩, by omega⟩
      case' F1 =>
        rw [if_neg c2] at st
      case' F2 =>
        have st : ((s.drop p).takeWhile nl).length = 0 := by
          have c1 : ¬ (p : Int) < ((S s).length : Int) := by simpa using c1
          rw [S_len] at c1
          rw [List.drop_eq_nil_of_le (by omega)]; rfl
      all_goals
        refine ⟨_, rfl, _, rfl, rfl, _, rfl, ite2 (fun c3 => ?_) (fun c3 => ?_)⟩
        · have c3 : p = i := by
            have : (p : Int) = (i : Int) := by simpa using c3
            omega
          refine kn ?_
          unfold wend
          rw [if_neg nL, if_neg d, if_pos (by omega)]
        · have c3 : p ≠ i := fun e => c3 (by rw [e]; simp)
          have := ks (p - i) (by unfold wend; rw [if_neg nL, if_neg d, if_neg (by omega)]; congr 1; omega)
          rw [show i + (p - i) = p by omega] at this
          exact ⟨_, rfl, this⟩
    · intro h
      obtain ⟨v, hv, v0, hv0, z, e1, hz, a1, b1, e3, e4, k, e5, q⟩ := h
      refine ⟨v, hv, v0, hv0, z, e1, hz, a1, b1, e3, e4, k, e5, ?_⟩
      cases k with
      | false => exact hm _ _ q
      | true =>
        obtain ⟨v2, hv2, v3, hv3, z2, i2, c2, f1, f2, f3, f4, c3, f5, k2, f6, q⟩ := q
        exact ⟨v2, hv2, v3, hv3, z2, i2, c2, f1, f2, f3, f4, c3, f5, k2, f6, hm _ _ q⟩
end
end K09
namespace K09
open PySem L2 HK
abbrev tsv (ws : List Wd) : List V := ws.map fun w => V.str (S w)
def spWords (CE : Addr) : Sp := fun vs H Q E => ∃ s : List Nat, vs = [.str (S s)] ∧ s.length ≤ 100000 ∧ (words s = none → ∀ H', Same H H' → E (.ref CE) none H') ∧
  ∀ ws, words s = some ws → ∀ p H', Same H H' → H p = none → H' p = some (.lst (tsv ws)) → Q (.ref p) H'
theorem gaps_strs : ([V.str " ", V.str "\n"] : List V) = [[32], [10]].map fun w => V.str (S w) := by
  have h1 : (" " : Str) = S [32] := by decide +kernel
  have h2 : ("\n" : Str) = S [10] := by decide +kernel
  rw [h1, h2]; rfl
theorem gap_mem (c : Nat) : decide ([c] ∈ [[32], [10]]) = gapc c := by
  unfold gapc
  by_cases h1 : c = 32
  · rw [h1]; decide
  · by_cases h2 : c = 10
    · rw [h2]; decide
    · simp [h1, h2]
section
variable {P : Program} {w : World} {K : PySem.W.Frag} {mg : Str → Option Value} {base : Heap} {CE : Addr}
theorem scWords : FnScope ["text", "found", "place", "end"] ["text"] (defScope sWords) := ⟨rfl, rfl, rfl, by decide +kernel, rfl, by decide +kernel, by decide +kernel⟩
theorem ok_words {f fE : Addr} {fd fdE : FuncData} (F : L2.Fun K "sum_words" "sum_words" sWords f fd) (T : CTxt K mg CE)
    (FE : FnOk P w K mg base (L2.CX P w) 2 fE fdE ["text", "start"] (spWend CE)) (mE : mg "word_end" = some (.ref fE)) (kE : PySem.W.keepIn K (.ref fE) = true) (bE : Binds K fdE ["text", "start"] []) :
    FnOk P w K mg base (L2.CX P w) 3 f fd ["text"] (spWords CE) := by
  refine F.okX scWords (fun vs H Q E h => ?_) (fun cdv A outer s0 H vs Q E hr h => ?_)
  · obtain ⟨s, rfl, _⟩ := h
    rfl
  · obtain ⟨s, rfl, hl, kn, ks⟩ := h
    refine ⟨_, pss_cons (ps_set (i := 1) scWords.nd rfl (Or.inl rfl) (pe_lst pa_nil))
      (pss_cons (ps_set (i := 2) scWords.nd rfl (Or.inl rfl) pe_int)
      (pss_cons (ps_while (passes_of rfl) (pt_cmpR op_lt (pv 2) (pe_callB call_len_str (by rfl) T.len PySem.boot_len (pa_cons (pv 0) pa_nil)) (nomark _))
        (pss_cons (ps_set (i := 3) scWords.nd rfl (Or.inl rfl) (pe_op op_add (pv 2) pe_int))
        (pss_cons (ps_if (pt_cmpR op_notIn_seq (pe_ix ix_str (pv 0) (pv 2) (fun _ _ => rfl)) (pe_tup (pa_cons pe_str (pa_cons pe_str pa_nil))) (by rfl))
          (pss_cons (ps_set (i := 3) scWords.nd rfl (Or.inl rfl) (pe_call FE hr (by rfl) mE kE bE .nil (passes_call (takes_of rfl rfl rfl rfl) (fun _ _ _ _ h => h)) (pa_cons (pv 0) (pa_cons (pv 2) pa_nil))))
          (pss_one (ps_expr (pe_bm PySem.F.plainAttrs_list PySem.F.slot_list_append PySem.F.type_list_append mt_append (pv 1) (pa_cons (pe_slice sl_str (pv 0) (po_some (pv 2)) (po_some (pv 3))) pa_nil))))) pss_nil)
        (pss_one (ps_set (i := 2) scWords.nd rfl (Or.inl rfl) (pv 3))))))
      (pss_one (ps_ret (pv 1))))), ?_⟩
    refine ⟨by show 0 ≤ sizeLine; decide, fun l nl0 => ?_⟩
    show tWhile _ _ _ _ _
    refine while_gh (γ := Nat × List Wd) (fun g σ H' => Same H H' ∧ H' l = some (.lst (tsv g.2)) ∧ (∃ u, σ = [some (.str (S s)), some (.ref l), some (.int (g.1 : Int)), u]) ∧ g.1 ≤ s.length ∧ g.2.length ≤ g.1 ∧ words s = (words (s.drop g.1)).map fun v => g.2 ++ v) (fun g => s.length - g.1) (0, [])
      ⟨same_upd nl0, upd_same, ⟨_, rfl⟩, Nat.zero_le _, Nat.le_refl _, by rw [List.drop_zero]; cases words s <;> rfl⟩ (fun g σ H' q => ?_) (fun σ H' R R' hm => ?_)
    · obtain ⟨p, ws⟩ := g
      obtain ⟨sm, hL, ⟨u, rfl⟩, q2, q3, q4⟩ := q
      dsimp only at hL q2 q3 q4
      refine ⟨_, rfl, _, rfl, _, rfl, lenS hl, _, _, rfl, rfl, _, rfl, ite2 (fun c1 => ?_) (fun c1 => ?_)⟩
      · have c1 : p < s.length := by
          have := of_decide_eq_true c1
          rw [S_len] at this
          omega
        obtain ⟨c, hc⟩ : ∃ c, s[p]? = some c := ⟨_, List.getElem?_eq_getElem c1⟩
        have hd : s.drop p = c :: s.drop (p + 1) := by
          obtain ⟨hi, rfl⟩ := List.getElem?_eq_some_iff.mp hc
          exact List.drop_eq_getElem_cons hi
        have e1 : ((p : Int) + 1) = ((p + 1 : Nat) : Int) := by omega
        refine ⟨_, rfl, _, _, rfl, rfl, _, rfl, _, rfl, _, _, c, rfl, rfl, lenS hl, at_S hc, by show 2 ≤ sizeLine; decide, fun t nt => ?_⟩
        have sm2 : Same H (upd H' t (.tup [.str " ", .str "\n"])) := sm.trans (same_upd nt)
        have hL2 : (upd H' t (.tup [.str " ", .str "\n"])) l = some (.lst (tsv ws)) := by rw [upd_ne (ne_of_none hL nt)]; exact hL
        have ht : (upd H' t (.tup [.str " ", .str "\n"])) t = some (.tup [.str " ", .str "\n"]) := upd_same
        generalize upd H' t (.tup [.str " ", .str "\n"]) = H2 at sm2 hL2 ht ⊢
        refine ⟨_, _, rfl, .inr (SqT.of ht), rfl, rfl, ?_⟩
        show ∃ k, V.bl (!inV (.str (S [c])) [.str " ", .str "\n"]) = V.bl k ∧ _
        rw [gaps_strs, inV_S, gap_mem]
        refine ⟨_, rfl, ite2 (fun c2 => ?_) (fun c2 => ?_)⟩
        · have c2 : ¬ gapc c = true := by simpa using c2
          refine ⟨_, rfl, _, rfl, s, p, rfl, c1, hl, fun e => ?_, fun k e => ?_⟩
          · rw [hd] at e
            exact kn (by rw [q4, hd, words_none c2 e]; rfl) _ sm2
          · have hk := wend_pos e
            have e' := e
            rw [hd] at e'
            have hw := words_word c2 e'
            rw [← hd] at hw
            refine ⟨_, rfl, .inl ⟨rfl, _, SqL.of hL2⟩, _, rfl, _, rfl, _, rfl, _, rfl, _, rfl, _, rfl, lenS hl, l, _, _, rfl, rfl, hL2, ?_, ?_⟩
            · rw [List.length_map, sizeLine_eq]; omega
            rw [cut_S, show p + k - p = k by omega]
            have hlen : (s.drop p).length = s.length - p := List.length_drop ..
            refine ⟨_, rfl, (p + k, ws ++ [(s.drop p).take k]), ⟨fun b o h => ?_, ?_, ⟨_, rfl⟩, by show p + k ≤ s.length; omega, ?_, ?_⟩, by show s.length - (p + k) < s.length - p; omega⟩
            · rw [upd_ne (ne_of_none h nl0)]; exact sm2 _ _ h
            · rw [upd_same]
              show some (HO.lst _) = some (HO.lst ((ws ++ [(s.drop p).take k]).map fun w => V.str (S w)))
              rw [List.map_append]; rfl
            · show (ws ++ [(s.drop p).take k]).length ≤ p + k
              rw [List.length_append]
              show ws.length + 1 ≤ p + k
              omega
            · show words s = (words (s.drop (p + k))).map fun v => (ws ++ [(s.drop p).take k]) ++ v
              rw [q4, hw, List.drop_drop]
              cases words (s.drop (p + k)) with
              | none => rfl
              | some v => show some (ws ++ ((s.drop p).take k :: v)) = some _; simp
        · have c2 : gapc c = true := by simpa using c2
          refine ⟨_, rfl, (p + 1, ws), ⟨sm2, hL2, ⟨some (V.int ((p : Int) + 1)), by show _ = [some (V.str (S s)), some (V.ref l), some (V.int ((p + 1 : Nat) : Int)), some (V.int ((p : Int) + 1))]; rw [← e1]; rfl⟩, by show p + 1 ≤ s.length; omega, by show ws.length ≤ p + 1; omega, ?_⟩, by show s.length - (p + 1) < s.length - p; omega⟩
          show words s = (words (s.drop (p + 1))).map fun v => ws ++ v
          rw [q4, hd, words_gap c2]
      · have c1 : ¬ (p : Int) < ((S s).length : Int) := by simpa using c1
        rw [S_len] at c1
        refine ⟨_, rfl, ks ws ?_ l H' sm nl0 hL⟩
        rw [q4, List.drop_eq_nil_of_le (by omega)]
        show some (ws ++ []) = _
        rw [List.append_nil]
    · intro h
      obtain ⟨v, hv, v0, hv0, z, e1, hz, a1, b1, e3, e4, k, e5, q⟩ := h
      exact ⟨v, hv, v0, hv0, z, e1, hz, a1, b1, e3, e4, k, e5, hm _ _ q⟩
end
end K09
namespace K09
open PySem L2 HK
/-! ### whole numbers in texts -/
def dig (c : Nat) : Bool := decide (48 ≤ c) && decide (c ≤ 57)
def numIn (w : Wd) : Option Nat :=
  if w.all dig = true ∧ (Txt.lstripChars (S w) "0").length ≤ 10 then (if wr ((NumText.digitsVal (w.drop (w.length - 10)) : Nat) : Int) = ((NumText.digitsVal (w.drop (w.length - 10)) : Nat) : Int) then some (NumText.digitsVal (w.drop (w.length - 10))) else none) else none
def plainF : Wd → Option Lf
  | [] => none
  | c :: r => if dig c = true then (numIn (c :: r)).map Lf.int else if lv (c :: r) ≠ 0 ∨ nl c = false then none else some (.name (c :: r))
/-- a word as it stands in a sum -/
def Wok (w : Wd) : Prop := w ≠ [] ∧ w.length ≤ 100000 ∧ ∀ c ∈ w, c < 128
theorem digit_low : ∀ c < 128, Unicode.isDigit c = dig c := by decide +kernel
theorem isdigit_S {w : Wd} (h : Wok w) : Txt.isdigit (S w) = w.all dig := by
  obtain ⟨ne, hlen, h⟩ := h
  clear hlen
  show (decide ((S w).length > 0) && (w.toArray).all Unicode.isDigit) = w.all dig
  rw [S_len, decide_eq_true (List.length_pos_iff.mpr ne), Bool.true_and, List.all_toArray]
  clear ne
  induction w with
  | nil => rfl
  | cons c w ih => rw [List.all_cons, List.all_cons, digit_low c (h c (by simp)), ih fun d hd => h d (by simp [hd])]
theorem isascii_S {w : Wd} (h : ∀ c ∈ w, c < 128) : Txt.isascii (S w) = true := by
  show (w.toArray).all (· < 128) = true
  rw [List.all_toArray, List.all_eq_true]
  exact fun c hc => decide_eq_true (h c hc)
theorem minus_S : ("-" : Str) = S [45] := by decide +kernel
theorem starts_S (c : Nat) (r : List Nat) : Txt.startswith (S (c :: r)) "-" = (c == 45) := by
  rw [minus_S]
  show (decide (0 + (S [45]).length ≤ (S (c :: r)).length) && Builtin.Str.subAt (S (c :: r)) (S [45]) 0) = _
  rw [StrLaws.subAt_eq, S_len, S_len]
  have : decide (0 + [45].length ≤ (c :: r).length) = true := by simp
  rw [this]
  show (true && ([c] == [45])) = _
  simp
theorem cut_last (w : Wd) (k : Nat) (hk : 0 < k) : cutS (S w) (some (-(k : Int))) none = S (w.drop (w.length - k)) := by
  unfold cutS
  rw [HT.sIx_none, S_len]
  show S _ = S _
  congr 1
  have e : HT.sIx w.length 0 (some (-(k : Int))) = w.length - k := by
    show (if -(k : Int) < 0 then (-(k : Int) + (w.length : Int)).toNat else min (-(k : Int)).toNat w.length) = _
    rw [if_pos (by omega)]; omega
  rw [e]
  show (w.drop (w.length - k)).take (w.length - (w.length - k)) = _
  rw [List.take_of_length_le (by rw [List.length_drop]; omega)]
def spNumIn : Sp := fun vs H Q _ => ∃ (c : Nat) (r : List Nat), vs = [.str (S (c :: r))] ∧ Wok (c :: r) ∧ dig c = true ∧ (numIn (c :: r) = none → Q .non H) ∧ ∀ n, numIn (c :: r) = some n → Q (.int (n : Int)) H
section
variable {P : Program} {w : World} {K : PySem.W.Frag} {mg : Str → Option Value} {base : Heap} {CE : Addr}
theorem scNumIn : FnScope ["text", "digits", "value", "number"] ["text"] (defScope sNumIn) := ⟨rfl, rfl, rfl, by decide +kernel, rfl, by decide +kernel, by decide +kernel⟩
theorem ok_numin {f fW : Addr} {fd fdW : FuncData} (F : L2.Fun K "number_in" "number_in" sNumIn f fd) (T : CTxt K mg CE)
    (FW : FnOk P w K mg base L2.CX0 1 fW fdW ["number"] (spInt1 wr)) (mW : mg "wrapped" = some (.ref fW)) (kW : PySem.W.keepIn K (.ref fW) = true) (bW : Binds K fdW ["number"] []) :
    FnOk P w K mg base L2.CX0 2 f fd ["text"] spNumIn := by
  refine F.ok scNumIn (fun vs H Q E h => ?_) (fun cdv A outer s0 H vs Q E hr h => ?_)
  · obtain ⟨c, r, rfl, _⟩ := h
    rfl
  · obtain ⟨c, r, rfl, wk, dc, kn, ks⟩ := h
    obtain ⟨tD, hD⟩ := T.digits
    have c45 : (c == 45) = false := by
      unfold dig at dc
      simp at dc
      simp; omega
    refine ⟨_, pss_cons (ps_set (i := 1) scNumIn.nd rfl (Or.inl rfl) (pe_ifExp (pt_val (pe_m1 PySem.F.slot_str_startswith PySem.F.type_str_startswith mt_startswith (pv 0) pe_str)) (pe_slice sl_str (pv 0) (po_some pe_int) po_none) (pv 0)))
      (pss_cons (ps_if (PW.pt (pw_or (pt_not (PW.pt (pw_and (pt_val (pe_m0 PySem.F.slot_str_isascii PySem.F.type_str_isascii mt_isascii (pv 1))) (pw_and1 (pt_val (pe_m0 PySem.F.slot_str_isdigit PySem.F.type_str_isdigit mt_isdigit (pv 1)))))))
          (pw_or1 (pt_cmpR op_gt (pe_callB call_len_str (by rfl) T.len PySem.boot_len (pa_cons (pe_m1 PySem.F.slot_str_lstrip PySem.F.type_str_lstrip mt_lstripChars (pv 1) pe_str) pa_nil)) (pe_glob (v := .int 10) rfl hD ⟨_, rfl⟩) (nomark _))))) (pss_one (ps_ret pe_non)) pss_nil)
      (pss_cons (ps_set (i := 2) scNumIn.nd rfl (Or.inl rfl) (pe_callTy call_int_str (by rfl) T.int PyProof.Rows.Boot.«int» (pa_cons (pe_slice sl_str (pv 1) (po_some (pe_un un_neg (pe_glob (v := .int 10) rfl hD ⟨_, rfl⟩))) po_none) pa_nil)))
      (pss_cons (ps_set (i := 3) scNumIn.nd rfl (Or.inl rfl) (pe_ifExp (pt_val (pe_m1 PySem.F.slot_str_startswith PySem.F.type_str_startswith mt_startswith (pv 0) pe_str)) (pe_un un_neg (pv 2)) (pv 2)))
      (pss_one (ps_ret (pe_ifExp (pt_cmpR op_eq (pe_call FW hr (by rfl) mW kW bW .nil pass0 (pa_cons (pv 3) pa_nil)) (pv 3) (nomark _)) (pv 3) pe_non)))))), ?_⟩
    have hlS := lenS wk.2.1
    refine ⟨_, rfl, ⟨_, rfl⟩, _, _, rfl, rfl, _, rfl, ?_⟩
    rw [starts_S, c45]
    refine iteF ⟨_, rfl, ?_⟩
    refine ⟨_, rfl, ⟨_, rfl⟩, _, rfl, rfl, trivial, _, rfl, ?_⟩
    rw [isascii_S wk.2.2]
    refine iteT ⟨_, rfl, ⟨_, rfl⟩, _, rfl, rfl, trivial, _, rfl, ?_⟩
    rw [isdigit_S wk]
    by_cases hd : (c :: r).all dig = true
    case neg =>
      rw [Bool.not_eq_true] at hd
      rw [hd]
      exact iteT (iteT (kn (by unfold numIn; rw [if_neg (fun z => by rw [hd] at z; exact Bool.noConfusion z.1)])))
    rw [hd]
    refine iteF ⟨_, rfl, ⟨_, rfl⟩, _, _, rfl, rfl, hlS, _, rfl, ?_, _, _, rfl, rfl, _, rfl, ite2 (fun c1 => ?_) (fun c1 => ?_)⟩
    · exact Nat.le_trans (PyProof.Rows.len_lstripChars _ _) hlS
    · have c1 : ¬ (Txt.lstripChars (S (c :: r)) "0").length ≤ 10 := by
        have := of_decide_eq_true c1
        omega
      exact kn (by unfold numIn; rw [if_neg (fun z => c1 z.2)])
    have c1 : (Txt.lstripChars (S (c :: r)) "0").length ≤ 10 := by
      have : ¬ ((Txt.lstripChars (S (c :: r)) "0").length : Int) > 10 := by simpa using c1
      omega
    have e10 : (-10 : Int) = -((10 : Nat) : Int) := rfl
    have hdl : ((c :: r).drop ((c :: r).length - 10)).all dig = true := by
      rw [List.all_eq_true] at hd ⊢
      exact fun x hx => hd x (List.mem_of_mem_drop hx)
    have hln : ((c :: r).drop ((c :: r).length - 10)).length ≤ 10 := by rw [List.length_drop]; omega
    have hne : (c :: r).drop ((c :: r).length - 10) ≠ [] := fun z => by
      have := congrArg List.length z
      rw [List.length_drop, List.length_cons, List.length_nil] at this
      omega
    obtain ⟨N, hN⟩ : ∃ N : Nat, NumText.digitsVal ((c :: r).drop ((c :: r).length - 10)) = N := ⟨_, rfl⟩
    refine ⟨_, rfl, _, rfl, _, rfl, _, rfl, hlS, _, (N : Int), rfl, ?_, ?_, ?_⟩
    · rw [e10, cut_last _ 10 (by decide)]
      rw [← hN]
      exact SX.int_S hdl hne (by omega)
    · rw [e10, cut_last _ 10 (by decide), S_len]; omega
    refine ⟨_, rfl, ⟨_, rfl⟩, _, _, rfl, rfl, _, rfl, ?_⟩
    rw [starts_S, c45]
    refine iteF ⟨_, rfl, ?_⟩
    refine ⟨_, rfl, ?_⟩
    refine ⟨_, rfl, ?_⟩
    refine ⟨_, rfl, ?_⟩
    obtain ⟨M, hM⟩ : ∃ M, wr (N : Int) = M := ⟨_, rfl⟩
    rw [hM]
    refine ⟨rfl, _, rfl, ite2 (fun c2 => ?_) (fun c2 => ?_)⟩
    · have c2 : wr (N : Int) = (N : Int) := hM.trans (V.int.inj (of_decide_eq_true c2))
      exact ⟨_, rfl, ks _ (by unfold numIn; rw [if_pos ⟨hd, c1⟩, hN, if_pos c2])⟩
    · have c2 : ¬ wr (N : Int) = (N : Int) := fun e => c2 (decide_eq_true (congrArg V.int (hM.symm.trans e)))
      exact kn (by unfold numIn; rw [if_pos ⟨hd, c1⟩, hN, if_neg c2])
end
end K09
namespace K09
open PySem L2 HK
structure LvTxt (K : PySem.W.Frag) (w : World) (mg : Str → Option Value) : Prop where
  ex : ∃ (d : Addr) (es : Array DictEntry) (n : Nat), mg "LEVELS" = some (.ref d) ∧ KDict K w d es n ∧ ∀ u : Wd, ∃ r, PySem.W.nsIn K d (S u) = some r ∧ (lv u = 0 → r = none) ∧ (lv u ≠ 0 → ∃ t, r = some (.int (lv u : Int) t))
/-! ### sums in the heap -/
def TAt (H : Hp) : Tr → V → Prop
  | .lf (.int n), v => ∃ a, v = .ref a ∧ H a = some (.tup [.str "int", .int (n : Int)])
  | .lf (.name u), v => ∃ a, v = .ref a ∧ H a = some (.tup [.str "name", .str (S u)])
  | .neg t, v => ∃ a x, v = .ref a ∧ H a = some (.tup [.str "neg", x]) ∧ TAt H t x
  | .op s t t', v => ∃ a x y, v = .ref a ∧ H a = some (.tup [.str "op", .str (S s), x, y]) ∧ TAt H t x ∧ TAt H t' y
theorem TAt.same {H H' : Hp} (e : Same H H') : ∀ {t : Tr} {v : V}, TAt H t v → TAt H' t v
  | .lf (.int n), v, ⟨a, h1, h2⟩ => ⟨a, h1, e _ _ h2⟩
  | .lf (.name u), v, ⟨a, h1, h2⟩ => ⟨a, h1, e _ _ h2⟩
  | .neg t, v, ⟨a, x, h1, h2, h3⟩ => ⟨a, x, h1, e _ _ h2, TAt.same e h3⟩
  | .op s t t', v, ⟨a, x, y, h1, h2, h3, h4⟩ => ⟨a, x, y, h1, e _ _ h2, TAt.same e h3, TAt.same e h4⟩
theorem plainF_cons (c : Nat) (r : List Nat) : plainF (c :: r) = if dig c = true then (numIn (c :: r)).map Lf.int else if lv (c :: r) ≠ 0 ∨ nl c = false then none else some (.name (c :: r)) := rfl
def spPlainN (CE : Addr) : Sp := fun vs H Q E => ∃ (c : Nat) (r : List Nat), vs = [.str (S (c :: r))] ∧ Wok (c :: r) ∧ dig c = true ∧ (numIn (c :: r) = none → E (.ref CE) none H) ∧ ∀ n, numIn (c :: r) = some n → Q (.int (n : Int)) H
def spPlain (CE : Addr) : Sp := fun vs H Q E => ∃ (c : Nat) (r : List Nat), vs = [.str (S (c :: r))] ∧ Wok (c :: r) ∧ (plainF (c :: r) = none → E (.ref CE) none H) ∧ ∀ x, plainF (c :: r) = some x → ∀ v H', Same H H' → TAt H' (.lf x) v → Q v H'
section
variable {P : Program} {w : World} {K : PySem.W.Frag} {mg : Str → Option Value} {base : Heap} {CE : Addr}
theorem scPlainN : FnScope ["word", "number"] ["word"] (defScope sPlainN) := ⟨rfl, rfl, rfl, by decide +kernel, rfl, by decide +kernel, by decide +kernel⟩
theorem ok_plainn {f fN : Addr} {fd fdN : FuncData} (F : L2.Fun K "plain_number" "plain_number" sPlainN f fd) (T : CTxt K mg CE)
    (FN : FnOk P w K mg base L2.CX0 2 fN fdN ["text"] spNumIn) (mN : mg "number_in" = some (.ref fN)) (kN : PySem.W.keepIn K (.ref fN) = true) (bN : Binds K fdN ["text"] []) :
    FnOk P w K mg base (L2.CX P w) 3 f fd ["word"] (spPlainN CE) := by
  refine F.okX scPlainN (fun vs H Q E h => ?_) (fun cdv A outer s0 H vs Q E hr h => ?_)
  · obtain ⟨c, r, rfl, _⟩ := h
    rfl
  · obtain ⟨c, r, rfl, wk, dc, kn, ks⟩ := h
    refine ⟨_, pss_cons (ps_set (i := 1) scPlainN.nd rfl (Or.inl rfl) (pe_call FN hr (by rfl) mN kN bN .nil pass0 (pa_cons (pv 0) pa_nil)))
      (pss_cons (ps_if (pt_cmpR op_isN (pv 1) pe_non (nomark _)) (pss_one (ps_raise rfl (takes_of rfl rfl rfl rfl) (pmk_own PySem.F.excBase_ValueError T.xE T.gE T.kE (raises_own T.bE T.tE) rfl))) pss_nil)
      (pss_one (ps_ret (pv 1)))), ?_⟩
    refine ⟨_, rfl, c, r, rfl, wk, dc, fun e => ?_, fun n e => ?_⟩
    · exact ⟨_, rfl, rfl, _, rfl, iteT (kn e)⟩
    · exact ⟨_, rfl, rfl, _, rfl, iteF ⟨_, rfl, ks n e⟩⟩
theorem scPlain : FnScope ["word"] ["word"] (defScope sPlain) := ⟨rfl, rfl, rfl, by decide +kernel, rfl, by decide +kernel, by decide +kernel⟩
theorem ok_plain {f fN fL : Addr} {fd fdN fdL : FuncData} (F : L2.Fun K "plain_tree" "plain_tree" sPlain f fd) (T : CTxt K mg CE) (V' : LvTxt K w mg)
    (FN : FnOk P w K mg base (L2.CX P w) 3 fN fdN ["word"] (spPlainN CE)) (mN : mg "plain_number" = some (.ref fN)) (kN : PySem.W.keepIn K (.ref fN) = true) (bN : Binds K fdN ["word"] [])
    (FL : FnOk P w K mg base L2.CX0 1 fL fdL ["letter"] spLetter) (mL : mg "is_name_letter" = some (.ref fL)) (kL : PySem.W.keepIn K (.ref fL) = true) (bL : Binds K fdL ["letter"] []) :
    FnOk P w K mg base (L2.CX P w) 4 f fd ["word"] (spPlain CE) := by
  have rL := FL.mono (show 1 ≤ 3 by decide)
  refine F.okX scPlain (fun vs H Q E h => ?_) (fun cdv A outer s0 H vs Q E hr h => ?_)
  · obtain ⟨c, r, rfl, _⟩ := h
    rfl
  · obtain ⟨c, r, rfl, wk, kn, ks⟩ := h
    obtain ⟨d, es, n, hd, D, hns⟩ := V'.ex
    refine ⟨_, pss_cons (ps_if (pt_val (pe_m0 PySem.F.slot_str_isdigit PySem.F.type_str_isdigit mt_isdigit (pe_ix ix_str (pv 0) pe_int (fun _ _ => rfl))))
        (pss_one (ps_ret (pe_tup (pa_cons pe_str (pa_cons (pe_call FN hr (by rfl) mN kN bN .nil (passes_call (takes_of rfl rfl rfl rfl) (fun _ _ _ _ h => h)) (pa_cons (pv 0) pa_nil)) pa_nil))))) pss_nil)
      (pss_cons (ps_if (PW.pt (pw_or (pt_cmpR (op_in_kd D) (pv 0) (pe_glob (v := .ref d) rfl hd rfl) (by rfl)) (pw_or1 (pt_not (pt_val (pe_call rL hr (by rfl) mL kL bL .nil pass0 (pa_cons (pe_ix ix_str (pv 0) pe_int (fun _ _ => rfl)) pa_nil)))))))
        (pss_one (ps_raise rfl (takes_of rfl rfl rfl rfl) (pmk_own PySem.F.excBase_ValueError T.xE T.gE T.kE (raises_own T.bE T.tE) rfl))) pss_nil)
      (pss_one (ps_ret (pe_tup (pa_cons pe_str (pa_cons (pv 0) pa_nil)))))), ?_⟩
    have hlS := lenS wk.2.1
    have h0 : atI (S (c :: r)).cps.toList 0 = some c := at_S (s := c :: r) (i := 0) rfl
    have w1 : Wok [c] := ⟨by simp, by show 1 ≤ 100000; decide, fun x hx => by rw [List.mem_singleton.mp hx]; exact wk.2.2 c (by simp)⟩
    have i1 : Txt.isdigit (S [c]) = dig c := by rw [isdigit_S w1]; simp
    refine ⟨_, rfl, _, _, c, rfl, rfl, hlS, h0, ⟨_, rfl⟩, _, rfl, rfl, trivial, _, rfl, ?_⟩
    show (if Txt.isdigit (S [c]) = true then _ else _)
    rw [i1]
    by_cases dc : dig c = true
    · rw [dc]
      refine iteT ⟨_, rfl, c, r, rfl, wk, dc, fun e => ?_, fun m e => ⟨by show 2 ≤ sizeLine; decide, fun p np => ?_⟩⟩
      · exact kn (by rw [plainF_cons, if_pos dc, e]; rfl)
      · exact ks (.int m) (by rw [plainF_cons, if_pos dc, e]; rfl) _ _ (same_upd np) ⟨p, rfl, upd_same⟩
    · have dc' : dig c = false := by simpa using dc
      rw [dc']
      obtain ⟨q, hq, q0, q1⟩ := hns (c :: r)
      refine iteF ⟨_, rfl, _, q, rfl, rfl, hq, _, rfl, ?_⟩
      by_cases c0 : lv (c :: r) = 0
      · rw [q0 c0]
        refine iteF ⟨_, rfl, _, _, c, rfl, rfl, hlS, h0, c, rfl, _, rfl, ?_⟩
        by_cases cn : nl c = true
        · rw [cn]
          refine iteF ⟨_, rfl, by show 2 ≤ sizeLine; decide, fun p np => ?_⟩
          refine ks (.name (c :: r)) ?_ _ _ (same_upd np) ⟨p, rfl, upd_same⟩
          rw [plainF_cons, if_neg dc, if_neg (by simp [c0, cn])]
        · have cn : nl c = false := by simpa using cn
          rw [cn]
          exact iteT (kn (by rw [plainF_cons, if_neg dc, if_pos (Or.inr cn)]))
      · obtain ⟨t, rfl⟩ := q1 c0
        exact iteT (iteT (kn (by rw [plainF_cons, if_neg dc, if_pos (Or.inl c0)])))
end
end K09
namespace K09
open PySem L2 HK
abbrev sPInit : Stmt := inClass (top 20) 0
abbrev sHere : Stmt := inClass (top 20) 1
abbrev sLev : Stmt := inClass (top 20) 2
abbrev sTight : Stmt := inClass (top 20) 3
abbrev sBrk : Stmt := inClass (top 20) 4
structure PTx (K : PySem.W.Frag) (mg : Str → Option Value) (C : Addr) : Prop where
  c : Cls K C
  n1 : NoAttr K C "words"
  n2 : NoAttr K C "place"
  n3 : NoAttr K C "within"
  g : mg "SumParser" = some (.ref C)
def fsP (l : Addr) (i wn : Nat) : List (Str × V) := [("words", .ref l), ("place", .int (i : Int)), ("within", .int (wn : Int))]
/-- the parser -/
structure PAt (C p px l : Addr) (ws : List Wd) (i wn : Nat) (H : Hp) : Prop where
  ins : H p = some (.ins C px (fsP l i wn))
  lst : H l = some (.lst (tsv (ws ++ [[]])))
  le : i ≤ ws.length
  ok : ∀ u ∈ ws, Wok u
  len : ws.length ≤ 200
def SameX (D : Addr) (H H' : Hp) : Prop := ∀ b o, b ≠ D → H b = some o → H' b = some o
theorem SameX.refl (D : Addr) (H : Hp) : SameX D H H := fun _ _ _ h => h
theorem SameX.trans {D : Addr} {H H1 H2 : Hp} (a : SameX D H H1) (b : SameX D H1 H2) : SameX D H H2 := fun c o n h => b c o n (a c o n h)
theorem SameX.of {D : Addr} {H H' : Hp} (s : Same H H') : SameX D H H' := fun _ _ _ h => s _ _ h
theorem SameX.upd {D : Addr} {H : Hp} {o : HO} : SameX D H (upd H D o) := fun _ _ n h => by rw [upd_ne n]; exact h
theorem TAt.sameX {p : Addr} {H H' : Hp} (hp : ∀ xs, H p ≠ some (.tup xs)) (e : SameX p H H') : ∀ {t : Tr} {v : V}, TAt H t v → TAt H' t v
  | .lf (.int n), v, ⟨a, h1, h2⟩ => ⟨a, h1, e _ _ (fun z => hp _ (by rw [← z]; exact h2)) h2⟩
  | .lf (.name u), v, ⟨a, h1, h2⟩ => ⟨a, h1, e _ _ (fun z => hp _ (by rw [← z]; exact h2)) h2⟩
  | .neg t, v, ⟨a, x, h1, h2, h3⟩ => ⟨a, x, h1, e _ _ (fun z => hp _ (by rw [← z]; exact h2)) h2, TAt.sameX hp e h3⟩
  | .op s t t', v, ⟨a, x, y, h1, h2, h3, h4⟩ => ⟨a, x, y, h1, e _ _ (fun z => hp _ (by rw [← z]; exact h2)) h2, TAt.sameX hp e h3, TAt.sameX hp e h4⟩
section
variable {C p px l : Addr} {ws : List Wd} {i wn : Nat} {H H' : Hp}
theorem PAt.nt (a : PAt C p px l ws i wn H) : ∀ xs, H p ≠ some (.tup xs) := fun xs e => by rw [a.ins] at e; cases e
theorem PAt.npl (a : PAt C p px l ws i wn H) : l ≠ p := fun e => by have := a.lst; rw [e, a.ins] at this; cases this
theorem PAt.same (a : PAt C p px l ws i wn H) (e : Same H H') : PAt C p px l ws i wn H' := ⟨e _ _ a.ins, e _ _ a.lst, a.le, a.ok, a.len⟩
theorem PAt.set (a : PAt C p px l ws i wn H) {i' wn' : Nat} (h : i' ≤ ws.length) : PAt C p px l ws i' wn' (upd H p (.ins C px (fsP l i' wn'))) := ⟨upd_same, by rw [upd_ne a.npl]; exact a.lst, h, a.ok, a.len⟩
theorem PAt.setI (a : PAt C p px l ws i wn H) {iv wv : Int} {i' wn' : Nat} (h1 : iv = (i' : Int)) (h2 : wv = (wn' : Int)) (h : i' ≤ ws.length) : PAt C p px l ws i' wn' (upd H p (.ins C px [("words", .ref l), ("place", .int iv), ("within", .int wv)])) := by
  rw [h1, h2]; exact a.set h
theorem PAt.setP (a : PAt C p px l ws i wn H) {iv : Int} {i' : Nat} (h1 : iv = (i' : Int)) (h : i' ≤ ws.length) : PAt C p px l ws i' wn (upd H p (.ins C px (putF "place" (V.int iv) (fsP l i wn)))) := a.setI h1 rfl h
theorem PAt.setW (a : PAt C p px l ws i wn H) {wv : Int} {wn' : Nat} (h1 : wv = (wn' : Int)) : PAt C p px l ws i wn' (upd H p (.ins C px (putF "within" (V.int wv) (fsP l i wn)))) := a.setI rfl h1 a.le
end
/-- the word at a place, the empty one behind the last -/
def wordAt (ws : List Wd) (i : Nat) : Wd := (ws[i]?).getD []
theorem wordAt_get {ws : List Wd} {i : Nat} (h : i ≤ ws.length) : (tsv (ws ++ [[]]))[i]? = some (.str (S (wordAt ws i))) := by
  unfold tsv wordAt
  rw [List.getElem?_map]
  by_cases c : i < ws.length
  · rw [List.getElem?_append_left c, List.getElem?_eq_getElem c]; rfl
  · have : i = ws.length := by omega
    subst this
    rw [List.getElem?_append_right (Nat.le_refl _), Nat.sub_self, List.getElem?_eq_none (Nat.le_refl _)]; rfl
theorem drop_word {ws : List Wd} {i : Nat} (h : i < ws.length) : ws.drop i = wordAt ws i :: ws.drop (i + 1) := by
  rw [List.drop_eq_getElem_cons h]
  unfold wordAt
  rw [List.getElem?_eq_getElem h]; rfl
theorem wordAt_end {ws : List Wd} {i : Nat} (h : ws.length ≤ i) : wordAt ws i = [] := by
  unfold wordAt
  rw [List.getElem?_eq_none h]; rfl
theorem lvh_word {ws : List Wd} {i : Nat} : lvh (ws.drop i) = lv (wordAt ws i) := by
  by_cases h : i < ws.length
  · rw [drop_word h]; rfl
  · rw [List.drop_eq_nil_of_le (by omega), wordAt_end (by omega)]; rfl
theorem wordAt_mem {ws : List Wd} {i : Nat} (h : i < ws.length) : wordAt ws i ∈ ws := by
  unfold wordAt
  rw [List.getElem?_eq_getElem h]
  exact List.getElem_mem h
def spHere (C : Addr) : Sp := fun vs H Q _ => ∃ (p px l : Addr) (ws : List Wd) (i wn : Nat), vs = [.ref p] ∧ PAt C p px l ws i wn H ∧ Q (.str (S (wordAt ws i))) H
def gives (CE C p px l : Addr) (ws : List Wd) (wn : Nat) (r : Option (Tr × List Wd)) (H : Hp) (Q : VK) (E : XK) : Prop :=
  (r = none → ∀ H', SameX p H H' → E (.ref CE) none H') ∧ ∀ t rs, r = some (t, rs) → ∀ v i' H', SameX p H H' → rs = ws.drop i' → PAt C p px l ws i' wn H' → TAt H' t v → Q v H'
def spTight (CE C : Addr) (m : Nat) : Sp := fun vs H Q E => ∃ (p px l : Addr) (ws : List Wd) (i wn : Nat), vs = [.ref p] ∧ PAt C p px l ws i wn H ∧ wn ≤ 19 ∧ 20 ≤ wn + m ∧ gives CE C p px l ws wn (tight plainF (19 - wn) (ws.drop i)) H Q E
def spLev (CE C : Addr) (m j : Nat) : Sp := fun vs H Q E => ∃ (p px l : Addr) (ws : List Wd) (i wn : Nat), vs = [.ref p, .int ((4 - j : Nat) : Int)] ∧ j ≤ 3 ∧ PAt C p px l ws i wn H ∧ wn ≤ 19 ∧ 20 ≤ wn + m ∧ gives CE C p px l ws wn (lev (tight plainF (19 - wn)) j (ws.drop i)) H Q E
def spLevP (CE C : Addr) (m : Nat) : Nat → Sp
  | 0 => fun _ _ _ _ => False
  | j + 1 => spLev CE C m j
/-- what stands in brackets, the opening one read -/
def brkM (d : Nat) (r : List Wd) : Option (Tr × List Wd) := match lev (tight plainF d) 3 r with
  | some (t, c :: rs) => if c = [41] then some (t, rs) else none
  | _ => none
def spBrk (CE C : Addr) (m : Nat) : Sp := fun vs H Q E => ∃ (p px l : Addr) (ws : List Wd) (i wn : Nat), vs = [.ref p] ∧ PAt C p px l ws i wn H ∧ wn ≤ 19 ∧ 20 ≤ wn + m ∧ gives CE C p px l ws wn (brkM (19 - wn) (ws.drop i)) H Q E
theorem fnok_never {P : Program} {w : World} {K : PySem.W.Frag} {mg : Str → Option Value} {base : Heap} {CX : CXT} {k : Nat} {f : Addr} {fd : FuncData} {ps : List Str} {sp : Sp} (h : ∀ vs H Q E, ¬ sp vs H Q E) : FnOk P w K mg base CX k f fd ps sp :=
  ⟨fun vs H Q E z => absurd z (h _ _ _ _), fun A outer s H args us vs Q E hr he hb hv z => absurd z (h _ _ _ _)⟩
section
variable {P : Program} {w : World} {K : PySem.W.Frag} {mg : Str → Option Value} {base : Heap} {CE C : Addr}
theorem scHere : FnScope ["self"] ["self"] (defScope sHere) := ⟨rfl, rfl, rfl, by decide +kernel, rfl, by decide +kernel, by decide +kernel⟩
theorem ok_here {f : Addr} {fd : FuncData} (F : L2.Fun K "here" "SumParser.here" sHere f fd) (T : PTx K mg C) : FnOk P w K mg base L2.CX0 1 f fd ["self"] (spHere C) := by
  refine F.ok scHere (fun vs H Q E h => ?_) (fun cdv A outer s0 H vs Q E hr h => ?_)
  · obtain ⟨p, px, l, ws, i, wn, rfl, _⟩ := h
    rfl
  · obtain ⟨p, px, l, ws, i, wn, rfl, a, k⟩ := h
    refine ⟨_, pss_one (ps_ret (pe_ix ix_list (pe_fld (pv 0) rfl) (pe_fld (pv 0) rfl) (fun _ _ => rfl))), ?_⟩
    exact ⟨_, rfl, p, C, px, _, _, rfl, a.ins, T.c, T.n1, rfl, _, rfl, p, C, px, _, _, rfl, a.ins, T.c, T.n2, rfl, l, _, _, _, rfl, rfl, SqL.of a.lst, atI_nat (wordAt_get a.le), k⟩
theorem scTight : FnScope ["self", "word", "tree"] ["self"] (defScope sTight) := ⟨rfl, rfl, rfl, by decide +kernel, rfl, by decide +kernel, by decide +kernel⟩
theorem scBrk : FnScope ["self", "tree"] ["self"] (defScope sBrk) := ⟨rfl, rfl, rfl, by decide +kernel, rfl, by decide +kernel, by decide +kernel⟩
theorem scLev : FnScope ["self", "level", "tree", "sign"] ["self", "level"] (defScope sLev) := ⟨rfl, rfl, rfl, by decide +kernel, rfl, by decide +kernel, by decide +kernel⟩
theorem br_S : (")" : Str) = S [41] := by decide +kernel
theorem ok_brk {k m : Nat} {f fH fL : Addr} {fd fdH fdL : FuncData} (F : L2.Fun K "bracket_tree" "SumParser.bracket_tree" sBrk f fd) (T : CTxt K mg CE) (PT : PTx K mg C) (hk : 1 ≤ k)
    (FH : FnOk P w K mg base L2.CX0 1 fH fdH ["self"] (spHere C)) (bH : Binds K fdH ["self"] []) (mH : Meth K C "here" fH)
    (FL : FnOk P w K mg base (L2.CX P w) k fL fdL ["self", "level"] (spLev CE C m 3)) (bL : Binds K fdL ["self", "level"] []) (mL : Meth K C "level_tree" fL) :
    FnOk P w K mg base (L2.CX P w) (k + 1) f fd ["self"] (spBrk CE C m) := by
  have rH := FH.mono hk
  refine F.okX scBrk (fun vs H Q E h => ?_) (fun cdv A outer s0 H vs Q E hr h => ?_)
  · obtain ⟨p, px, l, ws, i, wn, rfl, _⟩ := h
    rfl
  · obtain ⟨p, px, l, ws, i, wn, rfl, a, w19, w20, kn, ks⟩ := h
    refine ⟨_, pss_cons (ps_set (i := 1) scBrk.nd rfl (Or.inl rfl) (pe_meth (pv 0) PT.c mL FL hr bL .nil (passes_call (takes_of rfl rfl rfl rfl) (fun _ _ _ _ h => h)) (pa_cons pe_int pa_nil)))
      (pss_cons (ps_if (pt_cmpR op_ne (pe_meth0 (pv 0) PT.c mH rH hr bH .nil pass0) pe_str (nomark _)) (pss_one (ps_raise rfl (takes_of rfl rfl rfl rfl) (pmk_own PySem.F.excBase_ValueError T.xE T.gE T.kE (raises_own T.bE T.tE) rfl))) pss_nil)
      (pss_cons (ps_fld (pv 0) (pe_op op_add (pe_fld (pv 0) rfl) pe_int) rfl) (pss_one (ps_ret (pv 1))))), ?_⟩
    refine ⟨_, rfl, p, px, _, rfl, a.ins, rfl, p, px, l, ws, i, wn, rfl, by decide, a, w19, w20, fun e H' sX => ?_, fun t rs e v i' H' sX ers a' ta => ?_⟩
    · exact kn (by unfold brkM; rw [e]) H' sX
    · subst ers
      refine ⟨_, rfl, p, px, _, rfl, a'.ins, rfl, p, px, l, ws, i', wn, rfl, a', rfl, _, rfl, ?_⟩
      rw [br_S, S_dec]
      by_cases c : wordAt ws i' = [41]
      · have hlt : i' < ws.length := Classical.byContradiction fun z => by rw [wordAt_end (by omega)] at c; cases c
        rw [c]
        refine iteF ⟨_, rfl, p, C, px, _, _, rfl, a'.ins, PT.c, PT.n2, rfl, _, _, rfl, rfl, _, rfl, p, C, px, _, rfl, a'.ins, PT.c, PT.n2, (by show 3 < 1000; decide), ?_⟩
        refine ⟨_, rfl, ?_⟩
        refine ks t (ws.drop (i' + 1)) ?_ v (i' + 1) _ (sX.trans (SameX.upd)) rfl ?_ (ta.sameX a'.nt SameX.upd)
        · unfold brkM
          rw [e, drop_word hlt]
          dsimp only
          rw [if_pos c]
        · exact a'.setI (by omega) rfl (by omega)
      · rw [decide_eq_false c]
        refine iteT (kn ?_ H' sX)
        unfold brkM
        rw [e]
        by_cases hlt : i' < ws.length
        · rw [drop_word hlt]
          dsimp only
          rw [if_neg c]
        · rw [List.drop_eq_nil_of_le (by omega)]
end
end K09
namespace K09
open PySem L2 HK
theorem tight_leaf {d : Nat} {w : Wd} {r : List Wd} (h : w ∉ [[45], [40]]) : tight plainF d (w :: r) = (plainF w).map fun x => (.lf x, r) := by
  simp only [List.mem_cons, List.not_mem_nil, or_false, not_or] at h
  cases d with
  | zero => unfold tight; rw [if_neg (by simp [h])]
  | succ d => unfold tight; rw [if_neg h.1, if_neg h.2]
theorem tight_zero {w : Wd} {r : List Wd} (h : w ∈ [[45], [40]]) : tight plainF 0 (w :: r) = none := by
  simp only [List.mem_cons, List.not_mem_nil, or_false] at h
  unfold tight; rw [if_pos h]
theorem tight_minus {d : Nat} {r : List Wd} : tight plainF (d + 1) ([45] :: r) = (tight plainF d r).map fun p => (.neg p.1, p.2) := by
  rw [tight, if_pos rfl]
theorem tight_brk {d : Nat} {r : List Wd} : tight plainF (d + 1) ([40] :: r) = brkM d r := by
  rw [tight, if_neg (by decide), if_pos rfl]; rfl
theorem open_strs : ([V.str "-", V.str "("] : List V) = [[45], [40]].map fun w => V.str (S w) := by
  have h1 : ("-" : Str) = S [45] := by decide +kernel
  have h2 : ("(" : Str) = S [40] := by decide +kernel
  rw [h1, h2]; rfl
theorem none_S : ("" : Str) = S [] := by decide +kernel
section
variable {P : Program} {w : World} {K : PySem.W.Frag} {mg : Str → Option Value} {base : Heap} {CE C : Addr}
theorem ok_tight {k m : Nat} {f fH fB fP : Addr} {fd fdH fdB fdP : FuncData} (F : L2.Fun K "tight_tree" "SumParser.tight_tree" sTight f fd) (T : CTxt K mg CE) (PT : PTx K mg C) (hk : 4 ≤ k)
    (FH : FnOk P w K mg base L2.CX0 1 fH fdH ["self"] (spHere C)) (bH : Binds K fdH ["self"] []) (mH : Meth K C "here" fH)
    (FP : FnOk P w K mg base (L2.CX P w) 4 fP fdP ["word"] (spPlain CE)) (mP : mg "plain_tree" = some (.ref fP)) (kP : PySem.W.keepIn K (.ref fP) = true) (bP : Binds K fdP ["word"] [])
    (FB : FnOk P w K mg base (L2.CX P w) k fB fdB ["self"] (spBrk CE C m)) (bB : Binds K fdB ["self"] []) (mB : Meth K C "bracket_tree" fB)
    (FT : FnOk P w K mg base (L2.CX P w) k f fd ["self"] (spTight CE C m)) (bT : Binds K fd ["self"] []) (mT : Meth K C "tight_tree" f) :
    FnOk P w K mg base (L2.CX P w) (k + 1) f fd ["self"] (spTight CE C (m + 1)) := by
  have rH := FH.mono (show 1 ≤ k by omega)
  have rP := FP.mono hk
  refine F.okX scTight (fun vs H Q E h => ?_) (fun cdv A outer s0 H vs Q E hr h => ?_)
  · obtain ⟨p, px, l, ws, i, wn, rfl, _⟩ := h
    rfl
  · obtain ⟨p, px, l, ws, i, wn, rfl, a, w19, w20, kn, ks⟩ := h
    obtain ⟨tB, hB⟩ := T.brackets
    refine ⟨_, pss_cons (ps_set (i := 1) scTight.nd rfl (Or.inl rfl) (pe_meth0 (pv 0) PT.c mH rH hr bH .nil pass0))
      (pss_cons (ps_if (pt_cmpR op_eq (pv 1) pe_str (nomark _)) (pss_one (ps_raise rfl (takes_of rfl rfl rfl rfl) (pmk_own PySem.F.excBase_ValueError T.xE T.gE T.kE (raises_own T.bE T.tE) rfl))) pss_nil)
      (pss_cons (ps_fld (pv 0) (pe_op op_add (pe_fld (pv 0) rfl) pe_int) rfl)
      (pss_cons (ps_if (pt_cmpR op_notIn_seq (pv 1) (pe_tup (pa_cons pe_str (pa_cons pe_str pa_nil))) (by rfl))
        (pss_one (ps_ret (pe_call rP hr (by rfl) mP kP bP .nil (passes_call (takes_of rfl rfl rfl rfl) (fun _ _ _ _ h => h)) (pa_cons (pv 1) pa_nil)))) pss_nil)
      (pss_cons (ps_fld (pv 0) (pe_op op_add (pe_fld (pv 0) rfl) pe_int) rfl)
      (pss_cons (ps_if (pt_cmpR op_gt (pe_fld (pv 0) rfl) (pe_glob (v := .int 19) rfl hB ⟨_, rfl⟩) (nomark _)) (pss_one (ps_raise rfl (takes_of rfl rfl rfl rfl) (pmk_own PySem.F.excBase_ValueError T.xE T.gE T.kE (raises_own T.bE T.tE) rfl))) pss_nil)
      (pss_cons (ps_set (i := 2) scTight.nd rfl (Or.inl rfl) (pe_ifExp (pt_cmpR op_eq (pv 1) pe_str (nomark _))
          (pe_tup (pa_cons pe_str (pa_cons (pe_meth0 (pv 0) PT.c mT FT hr bT .nil (passes_call (takes_of rfl rfl rfl rfl) (fun _ _ _ _ h => h))) pa_nil)))
          (pe_meth0 (pv 0) PT.c mB FB hr bB .nil (passes_call (takes_of rfl rfl rfl rfl) (fun _ _ _ _ h => h)))))
      (pss_cons (ps_fld (pv 0) (pe_op op_sub (pe_fld (pv 0) rfl) pe_int) rfl)
      (pss_one (ps_ret (pv 2)))))))))), ?_⟩
    refine ⟨_, rfl, p, px, _, rfl, a.ins, rfl, p, px, l, ws, i, wn, rfl, a, ?_⟩
    refine ⟨_, rfl, rfl, _, rfl, ?_⟩
    rw [none_S, S_dec]
    by_cases hlt : i < ws.length
    case neg => 
      rw [wordAt_end (by omega)]
      exact iteT (kn (by rw [List.drop_eq_nil_of_le (by omega)]; exact tight_nil _) H (SameX.refl _ _))
    have wk := a.ok _ (wordAt_mem hlt)
    rw [drop_word hlt] at kn ks
    rw [decide_eq_false wk.1]
    refine iteF ⟨_, rfl, p, C, px, _, _, rfl, a.ins, PT.c, PT.n2, rfl, _, _, rfl, rfl, _, rfl, p, C, px, _, rfl, a.ins, PT.c, PT.n2, (by show 3 < 1000; decide), ?_⟩
    dsimp only
    have a1 := a.setP (iv := (i : Int) + 1) (i' := i + 1) (by omega) (by omega)
    have s1 : SameX p H (upd H p (.ins C px (putF "place" (V.int ((i : Int) + 1)) (fsP l i wn)))) := SameX.upd
    generalize upd H p (.ins C px (putF "place" (V.int ((i : Int) + 1)) (fsP l i wn))) = H1 at s1 a1 ⊢
    obtain ⟨c, r, ew⟩ : ∃ c r, wordAt ws i = c :: r := by
      cases e : wordAt ws i with
      | nil => exact absurd e wk.1
      | cons c r => exact ⟨c, r, rfl⟩
    -- a leaf or not
    refine ⟨_, rfl, by show 2 ≤ sizeLine; decide, fun t nt => ?_⟩
    have ht : (upd H1 t (.tup [.str "-", .str "("])) t = some (.tup [.str "-", .str "("]) := upd_same
    have s2 : Same H1 (upd H1 t (.tup [.str "-", .str "("])) := same_upd nt
    generalize upd H1 t (.tup [.str "-", .str "("]) = H2 at ht s2 ⊢
    have a2 := a1.same s2
    have s02 : SameX p H H2 := s1.trans (SameX.of s2)
    refine ⟨_, _, rfl, .inr (SqT.of ht), rfl, rfl, ?_⟩
    show ∃ k, V.bl (!inV (.str (S (wordAt ws i))) [.str "-", .str "("]) = V.bl k ∧ _
    rw [open_strs, inV_S]
    by_cases hin : wordAt ws i ∈ [[45], [40]]
    case neg =>
      rw [decide_eq_false hin]
      rw [tight_leaf hin] at kn ks
      rw [ew] at kn ks wk ⊢
      refine ⟨_, rfl, iteT ⟨_, rfl, c, r, rfl, wk, fun e => ?_, fun x e v H' sm ta => ?_⟩⟩
      · exact kn (by rw [e]; rfl) _ s02
      · exact ks _ _ (by rw [e]; rfl) v (i + 1) H' (s02.trans (SameX.of sm)) rfl (a2.same sm) ta
    rw [decide_eq_true hin]
    refine ⟨_, rfl, iteF ⟨_, rfl, p, C, px, _, _, rfl, a2.ins, PT.c, PT.n3, rfl, _, _, rfl, rfl, _, rfl, p, C, px, _, rfl, a2.ins, PT.c, PT.n3, (by show 3 < 1000; decide), ?_⟩⟩
    dsimp only
    have a3 := a2.setW (wv := (wn : Int) + 1) (wn' := wn + 1) (by omega)
    have s3 : SameX p H2 (upd H2 p (.ins C px (putF "within" (V.int ((wn : Int) + 1)) (fsP l (i + 1) wn)))) := SameX.upd
    generalize upd H2 p (.ins C px (putF "within" (V.int ((wn : Int) + 1)) (fsP l (i + 1) wn))) = H3 at s3 a3 ⊢
    have s03 := s02.trans s3
    refine ⟨_, rfl, p, C, px, _, _, rfl, a3.ins, PT.c, PT.n3, rfl, _, _, rfl, rfl, _, rfl, ite2 (fun c1 => ?_) (fun c1 => ?_)⟩
    · have c1 : wn = 19 := by
        have : (19 : Int) < ((wn + 1 : Nat) : Int) := of_decide_eq_true c1
        omega
      exact kn (by rw [show 19 - wn = 0 by omega]; exact tight_zero hin) _ s03
    have c1 : wn + 1 ≤ 19 := by
      have : ¬ (19 : Int) < ((wn + 1 : Nat) : Int) := fun z => c1 (decide_eq_true z)
      omega
    have ed : 19 - wn = (19 - (wn + 1)) + 1 := by omega
    rw [ed] at kn ks
    -- the end
    refine ⟨_, rfl, rfl, _, rfl, ?_⟩
    rw [minus_S, S_dec]
    by_cases cm : wordAt ws i = [45]
    · rw [cm] at kn ks ⊢
      rw [tight_minus] at kn ks
      refine iteT ⟨_, rfl, p, px, _, rfl, a3.ins, rfl, p, px, l, ws, i + 1, wn + 1, rfl, a3, c1, by omega, fun e H' sX => ?_, fun t' rs e v i' H' sX ers a' ta => ⟨by show 2 ≤ sizeLine; decide, fun q nq => ?_⟩⟩
      · exact kn (by rw [e]; rfl) _ (s03.trans sX)
      have s4 : Same H' (upd H' q (.tup [.str "neg", v])) := same_upd nq
      have hq : (upd H' q (.tup [.str "neg", v])) q = some (.tup [.str "neg", v]) := upd_same
      generalize upd H' q (.tup [.str "neg", v]) = H4 at s4 hq ⊢
      have a4 := a'.same s4
      have ta4 : TAt H4 (.neg t') (.ref q) := ⟨q, v, rfl, hq, ta.same s4⟩
      have s04 := (s03.trans sX).trans (SameX.of s4)
      refine ⟨_, rfl, p, C, px, _, _, rfl, a4.ins, PT.c, PT.n3, rfl, _, _, rfl, rfl, _, rfl, p, C, px, _, rfl, a4.ins, PT.c, PT.n3, (by show 3 < 1000; decide), ?_⟩
      refine ⟨_, rfl, ks (.neg t') rs (by rw [e]; rfl) _ i' _ (s04.trans SameX.upd) ers (a4.setI rfl (by omega) a4.le) (ta4.sameX a4.nt SameX.upd)⟩
    · have cb : wordAt ws i = [40] := by simpa [cm] using hin
      rw [cb] at kn ks ⊢
      rw [tight_brk] at kn ks
      refine iteF ⟨_, rfl, p, px, _, rfl, a3.ins, rfl, p, px, l, ws, i + 1, wn + 1, rfl, a3, c1, by omega, fun e H' sX => ?_, fun t' rs e v i' H' sX ers a4 ta4 => ?_⟩
      · exact kn e _ (s03.trans sX)
      have s04 := s03.trans sX
      refine ⟨_, rfl, p, C, px, _, _, rfl, a4.ins, PT.c, PT.n3, rfl, _, _, rfl, rfl, _, rfl, p, C, px, _, rfl, a4.ins, PT.c, PT.n3, (by show 3 < 1000; decide), ?_⟩
      refine ⟨_, rfl, ks t' rs e _ i' _ (s04.trans SameX.upd) ers (a4.setI rfl (by omega) a4.le) (ta4.sameX a4.nt SameX.upd)⟩
end
end K09
namespace K09
open PySem L2 HK
theorem plain_hp : ∀ u x, plainF u = some x → u ≠ [40] ∧ u ≠ [41] := fun u x h => by
  have h1 : plainF [40] = none := by decide +kernel
  have h2 : plainF [41] = none := by decide +kernel
  refine ⟨fun e => ?_, fun e => ?_⟩
  · rw [e, h1] at h; cases h
  · rw [e, h2] at h; cases h
section
variable {P : Program} {w : World} {K : PySem.W.Frag} {mg : Str → Option Value} {base : Heap} {CE C : Addr}
theorem ok_lev {k m j : Nat} {f fH fT : Addr} {fd fdH fdT : FuncData} (F : L2.Fun K "level_tree" "SumParser.level_tree" sLev f fd) (T : CTxt K mg CE) (V' : LvTxt K w mg) (PT : PTx K mg C) (hk : 1 ≤ k)
    (FH : FnOk P w K mg base L2.CX0 1 fH fdH ["self"] (spHere C)) (bH : Binds K fdH ["self"] []) (mH : Meth K C "here" fH)
    (FT : FnOk P w K mg base (L2.CX P w) k fT fdT ["self"] (spTight CE C m)) (bT : Binds K fdT ["self"] []) (mT : Meth K C "tight_tree" fT)
    (FL : FnOk P w K mg base (L2.CX P w) k f fd ["self", "level"] (spLevP CE C m j)) (bL : Binds K fd ["self", "level"] []) (mL : Meth K C "level_tree" f) :
    FnOk P w K mg base (L2.CX P w) (k + 1) f fd ["self", "level"] (spLev CE C m j) := by
  have rH := FH.mono hk
  refine F.okX scLev (fun vs H Q E h => ?_) (fun cdv A outer s0 H vs Q E hr h => ?_)
  · obtain ⟨p, px, l, ws, i, wn, rfl, _⟩ := h
    rfl
  · obtain ⟨p, px, l, ws, i, wn, rfl, hj, a, w19, w20, kn, ks⟩ := h
    obtain ⟨tT, hT⟩ := T.tightest
    obtain ⟨d, es, n, hd, D, hns⟩ := V'.ex
    refine ⟨_, pss_cons (ps_if (pt_cmpR op_eq (pv 1) (pe_glob (v := .int 4) rfl hT ⟨_, rfl⟩) (nomark _)) (pss_one (ps_ret (pe_meth0 (pv 0) PT.c mT FT hr bT .nil (passes_call (takes_of rfl rfl rfl rfl) (fun _ _ _ _ h => h))))) pss_nil)
      (pss_cons (ps_set (i := 2) scLev.nd rfl (Or.inl rfl) (pe_meth (pv 0) PT.c mL FL hr bL .nil (passes_call (takes_of rfl rfl rfl rfl) (fun _ _ _ _ h => h)) (pa_cons (pe_op op_add (pv 1) pe_int) pa_nil)))
      (pss_cons (ps_while (passes_of rfl) (pt_cmpR op_eq (pe_kget2 D (pe_glob (v := .ref d) rfl hd rfl) (pe_meth0 (pv 0) PT.c mH rH hr bH .nil pass0) pe_int ⟨rfl, rfl, rfl, rfl⟩) (pv 1) (nomark _))
        (pss_cons (ps_set (i := 3) scLev.nd rfl (Or.inl rfl) (pe_meth0 (pv 0) PT.c mH rH hr bH .nil pass0))
        (pss_cons (ps_fld (pv 0) (pe_op op_add (pe_fld (pv 0) rfl) pe_int) rfl)
        (pss_one (ps_set (i := 2) scLev.nd rfl (Or.inl rfl) (pe_tup (pa_cons pe_str (pa_cons (pv 3) (pa_cons (pv 2) (pa_cons (pe_meth (pv 0) PT.c mL FL hr bL .nil (passes_call (takes_of rfl rfl rfl rfl) (fun _ _ _ _ h => h)) (pa_cons (pe_op op_add (pv 1) pe_int) pa_nil)) pa_nil))))))))))
      (pss_one (ps_ret (pv 2))))), ?_⟩
    refine ⟨_, rfl, rfl, _, rfl, ite2 (fun c1 => ?_) (fun c1 => ?_)⟩
    · have c1 : j = 0 := by
        have := V.int.inj (of_decide_eq_true c1)
        omega
      subst c1
      exact ⟨_, rfl, p, px, _, rfl, a.ins, rfl, p, px, l, ws, i, wn, rfl, a, w19, w20, kn, ks⟩
    cases j with
    | zero => exact absurd (by simp) c1
    | succ j =>
    have ev : ∀ p : Addr, ([V.ref p, V.int (((4 - (j + 1) : Nat) : Int) + 1)] : List V) = [.ref p, .int ((4 - j : Nat) : Int)] := fun p => by
      rw [show (((4 - (j + 1) : Nat) : Int) + 1) = ((4 - j : Nat) : Int) by omega]
    refine ⟨_, rfl, p, px, _, rfl, a.ins, rfl, _, rfl, _, _, rfl, rfl, p, px, l, ws, i, wn, ev p, by omega, a, w19, w20, fun e H' sX => ?_, fun t rs e v i' H' sX ers a' ta => ?_⟩
    · exact kn (lev_none e) H' sX
    subst ers
    have eL := lev_some e
    refine while_gh (γ := Tr × Nat) (fun g σ H' => ∃ v, SameX p H H' ∧ PAt C p px l ws g.2 wn H' ∧ TAt H' g.1 v ∧ (∃ u, σ = [some (.ref p), some (.int ((4 - (j + 1) : Nat) : Int)), some v, u]) ∧ lev (tight plainF (19 - wn)) (j + 1) (ws.drop i) = L (lev (tight plainF (19 - wn)) j) (3 - j) g.1 (ws.drop g.2)) (fun g => ws.length - g.2) (t, i')
      ⟨v, sX, a', ta, ⟨_, rfl⟩, eL⟩ (fun g σ H2 q => ?_) (fun σ H' R R' hm => ?_)
    · obtain ⟨t, i'⟩ := g
      obtain ⟨v, sX, a', ta, ⟨u, rfl⟩, eL⟩ := q
      dsimp only at a' ta eL
      have ex : lv (wordAt ws i') ≠ 3 - j → lev (tight plainF (19 - wn)) (j + 1) (ws.drop i) = some (t, ws.drop i') := fun ne => by
        rw [eL]
        exact L_stop (by omega) (by rw [lvh_word]; exact ne)
      obtain ⟨r, hr, r0, r1⟩ := hns (wordAt ws i')
      refine ⟨rfl, _, rfl, p, px, _, rfl, a'.ins, rfl, p, px, l, ws, i', wn, rfl, a', _, r, rfl, hr, fun e => ?_, fun u' e => ?_⟩
      · have c0 : lv (wordAt ws i') = 0 := Classical.byContradiction fun z => by obtain ⟨t, z⟩ := r1 z; rw [e] at z; cases z
        refine ⟨_, rfl, rfl, _, rfl, ite2 (fun c2 => ?_) (fun c2 => ?_)⟩
        · have := V.int.inj (of_decide_eq_true c2)
          omega
        · exact ⟨_, rfl, ks t _ (ex (by omega)) v i' H2 sX rfl a' ta⟩
      · have c0 : lv (wordAt ws i') ≠ 0 := fun z => by rw [r0 z] at e; cases e
        obtain ⟨tk, er⟩ := r1 c0
        rw [er] at e
        cases e
        refine ⟨.int (lv (wordAt ws i') : Int), ⟨_, rfl⟩, _, rfl, rfl, _, rfl, ite2 (fun c2 => ?_) (fun c2 => ?_)⟩
        · have c2 : lv (wordAt ws i') = 3 - j := by
            have := V.int.inj (of_decide_eq_true c2)
            omega
          have hlt : i' < ws.length := Classical.byContradiction fun z => by
            rw [wordAt_end (by omega)] at c0
            exact c0 rfl
          rw [drop_word hlt] at eL
          refine ⟨_, rfl, p, px, _, rfl, a'.ins, rfl, p, px, l, ws, i', wn, rfl, a', ?_⟩
          refine ⟨_, rfl, p, C, px, _, _, rfl, a'.ins, PT.c, PT.n2, rfl, _, _, rfl, rfl, _, rfl, p, C, px, _, rfl, a'.ins, PT.c, PT.n2, (by show 3 < 1000; decide), ?_⟩
          dsimp only
          have a1 := a'.setP (iv := (i' : Int) + 1) (i' := i' + 1) (by omega) (by omega)
          have s1 : SameX p H2 (upd H2 p (.ins C px (putF "place" (V.int ((i' : Int) + 1)) (fsP l i' wn)))) := SameX.upd
          have ta1 := ta.sameX a'.nt s1
          generalize upd H2 p (.ins C px (putF "place" (V.int ((i' : Int) + 1)) (fsP l i' wn))) = H3 at s1 a1 ta1 ⊢
          have s01 := sX.trans s1
          refine ⟨_, rfl, _, rfl, _, rfl, p, px, _, rfl, a1.ins, rfl, _, rfl, _, _, rfl, rfl, p, px, l, ws, i' + 1, wn, ev p, by omega, a1, w19, w20, fun e H' sX' => ?_, fun b rs e v2 i2 H' sX' ers a2 ta2 => ?_⟩
          · exact kn (by rw [eL]; exact L_none c2 e) H' (s01.trans sX')
          subst ers
          refine ⟨by show 4 ≤ sizeLine; decide, fun q nq => ?_⟩
          have s4 : Same H' (upd H' q (.tup [.str "op", .str (S (wordAt ws i')), v, v2])) := same_upd nq
          have hq : (upd H' q (.tup [.str "op", .str (S (wordAt ws i')), v, v2])) q = some (.tup [.str "op", .str (S (wordAt ws i')), v, v2]) := upd_same
          have ls : Less (lev (tight plainF (19 - wn)) j) := lev_less plain_hp _ _ (by omega)
          have hlen := ls _ _ _ e
          rw [List.length_drop, List.length_drop] at hlen
          have le2 := a2.le
          refine ⟨(.op (wordAt ws i') t b, i2), ⟨.ref q, (s01.trans sX').trans (SameX.of s4), a2.same s4, ⟨q, v, v2, rfl, hq, (ta1.sameX a1.nt sX').same s4, ta2.same s4⟩, ⟨_, rfl⟩, ?_⟩, by show ws.length - i2 < ws.length - i'; omega⟩
          rw [eL]
          exact L_step ls c2 e
        · have ne : lv (wordAt ws i') ≠ 3 - j := fun z => c2 (decide_eq_true (by rw [z, show 4 - (j + 1) = 3 - j by omega]))
          exact ⟨_, rfl, ks t _ (ex ne) v i' H2 sX rfl a' ta⟩
    · intro h
      obtain ⟨hd, v, hv, p', px', fs, e1, h1, e2, p2, px2, l2, ws2, i2, wn2, e3, a2, s, r, es, hr, q0, q1⟩ := h
      refine ⟨hd, v, hv, p', px', fs, e1, h1, e2, p2, px2, l2, ws2, i2, wn2, e3, a2, s, r, es, hr, fun z => ?_, fun u z => ?_⟩
      · obtain ⟨v, hv, sc, k, e, q⟩ := q0 z
        exact ⟨v, hv, sc, k, e, hm _ _ q⟩
      · obtain ⟨v, rv, v1, hv1, sc, k, e, q⟩ := q1 u z
        exact ⟨v, rv, v1, hv1, sc, k, e, hm _ _ q⟩
end
end K09
namespace K09
open PySem L2 HK
/-! ### the words of a text are words -/
theorem nl_low {c : Nat} (h : nl c = true) : c < 128 := by
  unfold nl at h
  simp at h
  omega
theorem wend_ascii {s : List Nat} {k : Nat} (h : wend s = some k) : ∀ c ∈ s.take k, c < 128 := by
  unfold wend at h
  split at h
  · rename_i d
    cases h
    have : ∀ u ∈ longs, ∀ c ∈ u, c < 128 := by decide
    exact this _ d
  · split at h
    · rename_i d
      cases h
      cases s with
      | nil => intro c hc; simp at hc
      | cons a r =>
        have d : a ∈ shorts := of_decide_eq_true d
        have : ∀ c ∈ shorts, c < 128 := by decide
        intro c hc
        have : c = a := by simpa using hc
        rw [this]; exact ‹∀ c ∈ shorts, c < 128› a d
    · split at h
      · cases h
      · cases h
        intro c hc
        have e : s.take (s.takeWhile nl).length = s.takeWhile nl := by
          have := List.takeWhile_append_dropWhile (p := nl) (l := s)
          conv => lhs; rw [← this]
          rw [List.take_left' (by rw [this])]
        rw [e] at hc
        exact nl_low (List.all_eq_true.mp List.all_takeWhile c hc)
theorem wf_ok : ∀ (n : Nat) (s : List Nat) (ws : List Wd), wf n s = some ws → ∀ u ∈ ws, u ≠ [] ∧ u.length ≤ s.length ∧ ∀ c ∈ u, c < 128 := by
  intro n
  induction n with
  | zero =>
    intro s ws h u hu
    cases s with
    | nil => cases h; cases hu
    | cons _ _ => cases h
  | succ n ih =>
    intro s ws h u hu
    cases s with
    | nil => cases h; cases hu
    | cons c r =>
      unfold wf at h
      by_cases g : gapc c = true
      · rw [if_pos g] at h
        obtain ⟨h1, h2, h3⟩ := ih r ws h u hu
        exact ⟨h1, by rw [List.length_cons]; omega, h3⟩
      · rw [if_neg g] at h
        cases e : wend (c :: r) with
        | none => rw [e] at h; cases h
        | some k =>
          rw [e] at h
          dsimp only at h
          obtain ⟨v, hv, rfl⟩ := Option.map_eq_some_iff.mp h
          have hk := wend_pos e
          rcases List.mem_cons.mp hu with rfl | hu
          · refine ⟨fun z => ?_, by rw [List.length_take]; omega, wend_ascii e⟩
            have := congrArg List.length z
            rw [List.length_take, List.length_nil] at this
            omega
          · obtain ⟨h1, h2, h3⟩ := ih _ v hv u hu
            rw [List.length_drop] at h2
            exact ⟨h1, by omega, h3⟩
theorem words_ok {s : List Nat} {ws : List Wd} (h : words s = some ws) (hl : s.length ≤ 100000) : ∀ u ∈ ws, Wok u := fun u hu => by
  obtain ⟨h1, h2, h3⟩ := wf_ok _ s ws h u hu
  exact ⟨h1, by omega, h3⟩
def parseT (s : List Nat) : Option Tr := match words s with
  | none => none
  | some ws => if ws.length ≤ 200 then parse plainF ws else none
def spPInit (C : Addr) : Sp := fun vs H Q _ => ∃ (a ax lw : Addr) (ws : List Wd), vs = [.ref a, .ref lw] ∧ H a = some (.ins C ax []) ∧ H lw = some (.lst (tsv ws)) ∧ ws.length ≤ 200 ∧ (∀ u ∈ ws, Wok u) ∧ ∀ l H', SameX a H H' → PAt C a ax l ws 0 0 H' → Q .non H'
def spParse (CE : Addr) : Sp := fun vs H Q E => ∃ s : List Nat, vs = [.str (S s)] ∧ s.length ≤ 100000 ∧ (parseT s = none → ∀ H', Same H H' → E (.ref CE) none H') ∧ ∀ t, parseT s = some t → ∀ v H', Same H H' → TAt H' t v → Q v H'
section
variable {P : Program} {w : World} {K : PySem.W.Frag} {mg : Str → Option Value} {base : Heap} {CE C : Addr}
/-- all depths -/
theorem ok_parser {fH fT fL fB fP : Addr} {fdH fdT fdL fdB fdP : FuncData} (T : CTxt K mg CE) (V' : LvTxt K w mg) (PT : PTx K mg C)
    (GT : L2.Fun K "tight_tree" "SumParser.tight_tree" sTight fT fdT) (GL : L2.Fun K "level_tree" "SumParser.level_tree" sLev fL fdL) (GB : L2.Fun K "bracket_tree" "SumParser.bracket_tree" sBrk fB fdB)
    (FH : FnOk P w K mg base L2.CX0 1 fH fdH ["self"] (spHere C)) (bH : Binds K fdH ["self"] []) (mH : Meth K C "here" fH)
    (FP : FnOk P w K mg base (L2.CX P w) 4 fP fdP ["word"] (spPlain CE)) (mP : mg "plain_tree" = some (.ref fP)) (kP : PySem.W.keepIn K (.ref fP) = true) (bP : Binds K fdP ["word"] [])
    (bT : Binds K fdT ["self"] []) (mT : Meth K C "tight_tree" fT) (bL : Binds K fdL ["self", "level"] []) (mL : Meth K C "level_tree" fL) (bB : Binds K fdB ["self"] []) (mB : Meth K C "bracket_tree" fB) :
    FnOk P w K mg base (L2.CX P w) 129 fL fdL ["self", "level"] (spLev CE C 20 3) := by
  have levs : ∀ m k, 1 ≤ k → FnOk P w K mg base (L2.CX P w) k fT fdT ["self"] (spTight CE C m) → ∀ j, j ≤ 3 → FnOk P w K mg base (L2.CX P w) (k + 1 + j) fL fdL ["self", "level"] (spLev CE C m j) := by
    intro m k hk FT j
    induction j with
    | zero => exact fun _ => ok_lev GL T V' PT hk FH bH mH FT bT mT (fnok_never fun _ _ _ _ z => z) bL mL
    | succ j ih => exact fun hj => ok_lev (k := k + 1 + j) GL T V' PT (by omega) FH bH mH (FT.mono (by omega)) bT mT (ih (by omega)) bL mL
  have tights : ∀ m, FnOk P w K mg base (L2.CX P w) (5 + 6 * m) fT fdT ["self"] (spTight CE C m) := by
    intro m
    induction m with
    | zero => exact fnok_never fun vs H Q E ⟨p, px, l, ws, i, wn, _, _, h1, h2, _⟩ => by omega
    | succ m ih =>
      have hL := levs m _ (by omega) ih 3 (by decide)
      have hB := ok_brk GB T PT (by omega) FH bH mH hL bL mL
      exact ok_tight GT T PT (k := 5 + 6 * m + 5) (by omega) FH bH mH FP mP kP bP hB bB mB (ih.mono (by omega)) bT mT
  exact levs 20 125 (by decide) (tights 20) 3 (by decide)
theorem scPInit : FnScope ["self", "words"] ["self", "words"] (defScope sPInit) := ⟨rfl, rfl, rfl, by decide +kernel, rfl, by decide +kernel, by decide +kernel⟩
theorem ok_pinit {f : Addr} {fd : FuncData} (F : L2.Fun K "__init__" "SumParser.__init__" sPInit f fd) (PT : PTx K mg C) : FnOk P w K mg base L2.CX0 1 f fd ["self", "words"] (spPInit C) := by
  refine F.ok scPInit (fun vs H Q E h => ?_) (fun cdv A outer s0 H vs Q E hr h => ?_)
  · obtain ⟨a, ax, lw, ws, rfl, _⟩ := h
    rfl
  · obtain ⟨a, ax, lw, ws, rfl, ha, hw, h200, hok, k⟩ := h
    refine ⟨_, pss_cons (ps_fld (pv 0) (pe_op op_cat (pv 1) (pe_lst (pa_cons pe_str pa_nil))) rfl)
      (pss_cons (ps_fld (pv 0) pe_int rfl) (pss_one (ps_fld (pv 0) pe_int rfl))), ?_⟩
    have nwa : lw ≠ a := fun e => by rw [e, ha] at hw; cases hw
    refine ⟨_, rfl, by show 1 ≤ sizeLine; decide, fun e ne => ?_⟩
    have nea : e ≠ a := fun z => by rw [z, ha] at ne; cases ne
    have s1 : Same H (upd H e (.lst [.str ""])) := same_upd ne
    have he : (upd H e (.lst [.str ""])) e = some (.lst [.str ""]) := upd_same
    generalize upd H e (.lst [.str ""]) = H1 at s1 he ⊢
    refine ⟨lw, e, _, _, rfl, rfl, s1 _ _ hw, he, ?_, fun q nq => ?_⟩
    · rw [List.length_map, sizeLine_eq]
      show ws.length + 1 ≤ _
      omega
    have nqa : q ≠ a := fun z => by rw [z, s1 _ _ ha] at nq; cases nq
    refine ⟨_, rfl, a, C, ax, _, rfl, (upd_ne nqa.symm).trans (s1 _ _ ha), PT.c, PT.n1, (by show 0 < 1000; decide), ?_⟩
    refine ⟨_, rfl, a, C, ax, _, rfl, upd_same, PT.c, PT.n2, (by show 1 < 1000; decide), ?_⟩
    refine ⟨_, rfl, a, C, ax, _, rfl, upd_same, PT.c, PT.n3, (by show 2 < 1000; decide), ?_⟩
    rw [upd_upd, upd_upd]
    refine k q _ (fun b o nb hb => ?_) ⟨upd_same, ?_, Nat.zero_le _, hok, h200⟩
    · rw [upd_ne nb, upd_ne (ne_of_none (s1 _ _ hb) nq)]; exact s1 _ _ hb
    · rw [upd_ne nqa, upd_same]
      show some (HO.lst (tsv ws ++ [.str ""])) = some (HO.lst (tsv (ws ++ [[]])))
      rw [none_S]
      unfold tsv
      rw [List.map_append]; rfl
theorem scParse : FnScope ["text", "words", "parser", "tree"] ["text"] (defScope sParse) := ⟨rfl, rfl, rfl, by decide +kernel, rfl, by decide +kernel, by decide +kernel⟩
theorem ok_parse {f fW fI fH fL : Addr} {fd fdW fdI fdH fdL : FuncData} (F : L2.Fun K "parse_sum" "parse_sum" sParse f fd) (T : CTxt K mg CE) (PT : PTx K mg C)
    (FW : FnOk P w K mg base (L2.CX P w) 3 fW fdW ["text"] (spWords CE)) (mW : mg "sum_words" = some (.ref fW)) (kW : PySem.W.keepIn K (.ref fW) = true) (bW : Binds K fdW ["text"] [])
    (FI : FnOk P w K mg base L2.CX0 1 fI fdI ["self", "words"] (spPInit C)) (bI : Binds K fdI ["self", "words"] []) (MI : Mk K C fI)
    (FH : FnOk P w K mg base L2.CX0 1 fH fdH ["self"] (spHere C)) (bH : Binds K fdH ["self"] []) (mH : Meth K C "here" fH)
    (FL : FnOk P w K mg base (L2.CX P w) 129 fL fdL ["self", "level"] (spLev CE C 20 3)) (bL : Binds K fdL ["self", "level"] []) (mL : Meth K C "level_tree" fL) :
    FnOk P w K mg base (L2.CX P w) 130 f fd ["text"] (spParse CE) := by
  have rW := FW.mono (show 3 ≤ 129 by decide)
  have rI := FI.mono (show 1 ≤ 128 by decide)
  have rH := FH.mono (show 1 ≤ 129 by decide)
  refine F.okX scParse (fun vs H Q E h => ?_) (fun cdv A outer s0 H vs Q E hr h => ?_)
  · obtain ⟨s, rfl, _⟩ := h
    rfl
  · obtain ⟨s, rfl, hl, kn, ks⟩ := h
    obtain ⟨tW, hW⟩ := T.words
    refine ⟨_, pss_cons (ps_set (i := 1) scParse.nd rfl (Or.inl rfl) (pe_call rW hr (by rfl) mW kW bW .nil (passes_call (takes_of rfl rfl rfl rfl) (fun _ _ _ _ h => h)) (pa_cons (pv 0) pa_nil)))
      (pss_cons (ps_if (pt_cmpR op_gt (pe_callB call_len_seq (by rfl) T.len PySem.boot_len (pa_cons (pv 1) pa_nil)) (pe_glob (v := .int 200) rfl hW ⟨_, rfl⟩) (nomark _)) (pss_one (ps_raise rfl (takes_of rfl rfl rfl rfl) (pmk_own PySem.F.excBase_ValueError T.xE T.gE T.kE (raises_own T.bE T.tE) rfl))) pss_nil)
      (pss_cons (ps_set (i := 2) scParse.nd rfl (Or.inl rfl) (pe_make MI rI hr (by rfl) PT.g bI .nil pass0 (pa_cons (pv 1) pa_nil)))
      (pss_cons (ps_set (i := 3) scParse.nd rfl (Or.inl rfl) (pe_meth (pv 2) PT.c mL FL hr bL .nil (passes_call (takes_of rfl rfl rfl rfl) (fun _ _ _ _ h => h)) (pa_cons pe_int pa_nil)))
      (pss_cons (ps_if (pt_cmpR op_ne (pe_meth0 (pv 2) PT.c mH rH hr bH .nil pass0) pe_str (nomark _)) (pss_one (ps_raise rfl (takes_of rfl rfl rfl rfl) (pmk_own PySem.F.excBase_ValueError T.xE T.gE T.kE (raises_own T.bE T.tE) rfl))) pss_nil)
      (pss_one (ps_ret (pv 3))))))), ?_⟩
    refine ⟨_, rfl, s, rfl, hl, fun e H' sm => kn (by unfold parseT; rw [e]) H' sm, fun ws e l H' sm nl0 hL => ?_⟩
    have hok := words_ok e hl
    refine ⟨_, rfl, l, _, rfl, .inl (SqL.of hL), _, _, rfl, rfl, _, rfl, ite2 (fun c1 => ?_) (fun c1 => ?_)⟩
    · have c1 : ¬ ws.length ≤ 200 := by
        have : (200 : Int) < ((tsv ws).length : Int) := of_decide_eq_true c1
        rw [List.length_map] at this
        omega
      exact kn (by unfold parseT; rw [e]; exact if_neg c1) H' sm
    have c1 : ws.length ≤ 200 := by
      have : ¬ (200 : Int) < ((tsv ws).length : Int) := fun z => c1 (decide_eq_true z)
      rw [List.length_map] at this
      omega
    have ep : parseT s = parse plainF ws := by unfold parseT; rw [e]; exact if_pos c1
    rw [ep] at kn ks
    refine ⟨_, rfl, fun p px np npx npp => ⟨p, px, l, ws, rfl, upd_same, ?_, c1, hok, fun l2 H2 sX a => ⟨rfl, ?_⟩⟩⟩
    · rw [upd_ne (ne_of_none hL np), upd_ne (ne_of_none hL npx)]; exact hL
    have sm2 : Same H' H2 := fun b o h => sX b o (ne_of_none h np) (by rw [upd_ne (ne_of_none h np), upd_ne (ne_of_none h npx)]; exact h)
    clear sX
    have smX : ∀ {H3}, SameX p H2 H3 → Same H H3 := fun sX b o h => sX b o (ne_of_none (sm _ _ h) np) (sm2 _ _ (sm _ _ h))
    refine ⟨_, rfl, p, px, _, rfl, a.ins, rfl, p, px, l2, ws, 0, 0, rfl, by decide, a, by decide, by decide, fun e H3 sX => ?_, fun t rs e v i' H3 sX ers a' ta => ?_⟩
    · have e : lev (tight plainF 19) 3 ws = none := e
      exact kn (by unfold parse; rw [e]) H3 (smX sX)
    subst ers
    have e : lev (tight plainF 19) 3 ws = some (t, ws.drop i') := e
    refine ⟨_, rfl, p, px, _, rfl, a'.ins, rfl, p, px, l2, ws, i', 0, rfl, a', rfl, _, rfl, ?_⟩
    rw [none_S, S_dec]
    by_cases hlt : i' < ws.length
    · rw [decide_eq_false (hok _ (wordAt_mem hlt)).1]
      exact iteT (kn (by unfold parse; rw [e, drop_word hlt]) H3 (smX sX))
    · rw [wordAt_end (by omega)]
      exact iteF ⟨_, rfl, ks t (by unfold parse; rw [e, List.drop_eq_nil_of_le (by omega)]) v H3 (smX sX) ta⟩
end
end K09
namespace K09
open PySem L2 HK
/-! ### the sums that the law draws -/
def tkF : Lf → Wd
  | .int n => TL.numL n
  | .name u => u
def Lfs : List Lf := (List.range 20).map Lf.int ++ [.int 2147483647, .name [120], .name [121, 95, 49], .name [90]]
def lfGood (x : Lf) : Bool := decide (plainF (tkF x) = some x) && decide (tkF x ≠ [45]) && decide (tkF x ≠ [40]) && decide (tkF x ≠ [41]) && decide (tkF x ≠ []) && (tkF x).all nl && decide ((tkF x).length ≤ 10) &&
  (match x with | .int n => decide (n < 2147483648) | .name _ => true)
theorem lfs_good : ∀ x ∈ Lfs, lfGood x = true := by decide +kernel
structure LfG (x : Lf) : Prop where
  p : plainF (tkF x) = some x
  n1 : tkF x ≠ [45]
  n2 : tkF x ≠ [40]
  n3 : tkF x ≠ [41]
  ne : tkF x ≠ []
  nl : ∀ c ∈ tkF x, nl c = true
  len : (tkF x).length ≤ 10
  big : ∀ n, x = .int n → n < 2147483648
theorem lfg {x : Lf} (h : x ∈ Lfs) : LfG x := by
  have := lfs_good x h
  unfold lfGood at this
  simp only [Bool.and_eq_true, decide_eq_true_eq, List.all_eq_true] at this
  obtain ⟨⟨⟨⟨⟨⟨⟨h1, h2⟩, h3⟩, h4⟩, h5⟩, h6⟩, h7⟩, h8⟩ := this
  exact ⟨h1, h2, h3, h4, h5, h6, h7, fun n e => by subst e; exact of_decide_eq_true h8⟩
def Drawn : Tr → Prop
  | .lf x => x ∈ Lfs
  | .neg t => Drawn t
  | .op s a b => s ∈ signs ∧ Drawn a ∧ Drawn b
theorem Drawn.good : ∀ {t : Tr}, Drawn t → Good plainF tkF t
  | .lf x, h => ⟨(lfg h).p, (lfg h).n1, (lfg h).n2⟩
  | .neg t, h => Drawn.good (t := t) h
  | .op s a b, ⟨h, ha, hb⟩ => ⟨sign_lv h, ha.good, hb.good⟩
theorem Drawn.neat : ∀ {t : Tr}, Drawn t → Neat tkF t
  | .lf x, h => ⟨(lfg h).ne, (lfg h).nl⟩
  | .neg t, h => Drawn.neat (t := t) h
  | .op s a b, ⟨h, ha, hb⟩ => ⟨h, ha.neat, hb.neat⟩
theorem sign_len {s : Wd} (h : s ∈ signs) : s.length ≤ 3 := by
  have : ∀ s ∈ signs, s.length ≤ 3 := by decide
  exact this s h
theorem pr_len : ∀ {t : Tr}, Drawn t → ∀ l, (pr tkF l t).length ≤ 10 * sz t
  | .lf x, h, l => (lfg h).len
  | .neg t, h, l => by
    have := pr_len (t := t) h 4
    show (45 :: pr tkF 4 t).length ≤ 10 * (sz t + 1)
    rw [List.length_cons]; omega
  | .op s a b, ⟨h, ha, hb⟩, l => by
    have := pr_len ha (lv s)
    have := pr_len hb (lv s + 1)
    have := sign_len h
    show (if lv s < l then _ else _ : List Nat).length ≤ 10 * (sz a + sz b + 1)
    split <;> simp only [List.length_cons, List.length_append, List.length_nil] <;> omega
theorem prs_len : ∀ {t : Tr}, Drawn t → (prs tkF t).length ≤ 11 * sz t
  | .lf x, h => Nat.le_trans (lfg h).len (by show 10 ≤ 11 * 1; decide)
  | .neg t, h => by
    have := prs_len (t := t) h
    show (45 :: 40 :: (prs tkF t ++ [41])).length ≤ 11 * (sz t + 1)
    simp only [List.length_cons, List.length_append, List.length_nil]; omega
  | .op s a b, ⟨h, ha, hb⟩ => by
    have := prs_len ha
    have := prs_len hb
    have := sign_len h
    show (40 :: (prs tkF a ++ 41 :: 32 :: (s ++ 32 :: 40 :: (prs tkF b ++ [41])))).length ≤ 11 * (sz a + sz b + 1)
    simp only [List.length_cons, List.length_append, List.length_nil]; omega
theorem S_app (a b : List Nat) : S a ++ S b = S (a ++ b) := SX.S_cat a b
abbrev FDT (K : PySem.W.Frag) (f : Addr) (fd : FuncData) : Prop := FunD K "sum_text" "sum_text" (defArgs sText) (defBody sText) (defScope sText) [.int 1] [] f fd
def spText (h : Nat) : Sp := fun vs H Q _ => ∃ (v : V) (t : Tr) (l : Nat), vs = [v, .int (l : Int)] ∧ TAt H t v ∧ Drawn t ∧ ht t < h ∧ sz t ≤ 1000 ∧ Q (.str (S (pr tkF l t))) H
/-- the value of a leaf, as a text -/
theorem lf_tup {H : Hp} {x : Lf} {v : V} (h : TAt H (.lf x) v) : ∃ (a : Addr) (k : Str) (u : V), v = .ref a ∧ H a = some (.tup [.str k, u]) ∧ (k = "int" ∨ k = "name") ∧ ((∃ n : Nat, x = .int n ∧ k = "int" ∧ u = .int (n : Int)) ∨ ∃ w, x = .name w ∧ k = "name" ∧ u = .str (S w)) := by
  cases x with
  | int n => obtain ⟨a, h1, h2⟩ := h; exact ⟨a, "int", _, h1, h2, .inl rfl, .inl ⟨n, rfl, rfl, rfl⟩⟩
  | name w => obtain ⟨a, h1, h2⟩ := h; exact ⟨a, "name", _, h1, h2, .inr rfl, .inr ⟨w, rfl, rfl, rfl⟩⟩
theorem str_lf {x : Lf} {u : V} {H : Hp} {Q : VK} (hx : x ∈ Lfs) (h : (∃ n : Nat, x = .int n ∧ u = .int (n : Int)) ∨ ∃ w, x = .name w ∧ u = .str (S w)) (q : Q (.str (S (tkF x))) H) : rStrB [u] H Q := by
  rcases h with ⟨n, rfl, rfl⟩ | ⟨w, rfl, rfl⟩
  · refine .inl ⟨_, rfl, ?_, ?_⟩
    · have := (lfg hx).big n rfl
      rw [Int.natAbs_natCast]
      exact Nat.lt_of_lt_of_le (PySem.Flt.log2_lt_of (k := 32) (by decide) (Nat.lt_of_lt_of_le this (by decide))) (by decide)
    · have e := SX.num_S n
      show Q (.str (Str.ofString (toString ((n : Nat) : Int)))) H
      rw [e]; exact q
  · exact .inr ⟨_, rfl, q⟩
section
variable {P : Program} {w : World} {K : PySem.W.Frag} {mg : Str → Option Value} {base : Heap} {CE : Addr}
theorem scText : FnScope ["tree", "level", "here", "text"] ["tree", "level"] (defScope sText) := ⟨rfl, rfl, rfl, by decide +kernel, rfl, by decide +kernel, by decide +kernel⟩
theorem ok_text1 {k h : Nat} {f : Addr} {fd : FuncData} (F : FDT K f fd) (T : CTxt K mg CE) (V' : LvTxt K w mg) (m : mg "sum_text" = some (.ref f)) (kf : PySem.W.keepIn K (.ref f) = true) (bf : Binds K fd ["tree", "level"] [])
    (FT : FnOk P w K mg base L2.CX0 k f fd ["tree", "level"] (spText h)) : FnOk P w K mg base L2.CX0 (k + 1) f fd ["tree", "level"] (spText (h + 1)) := by
  refine F.ok (CX := L2.CX0) scText (fun vs H Q E z => ?_) (fun cdv A outer s0 H vs Q E hr z => ?_)
  · obtain ⟨v, t, l, rfl, _⟩ := z
    rfl
  · obtain ⟨v, t, l, rfl, ta, dt, hh, hs, q⟩ := z
    obtain ⟨tT, hT⟩ := T.tightest
    obtain ⟨d, es, n, hd, D, hns⟩ := V'.ex
    refine ⟨_, pss_cons (ps_if (pt_cmpR op_eq (pe_ix ix_tup (pv 0) pe_int (fun _ _ => rfl)) pe_str (nomark _))
        (pss_one (ps_ret (pe_op op_add_str pe_str (pe_call FT hr (by rfl) m kf bf .nil pass0 (pa_cons (pe_ix ix_tup (pv 0) pe_int (fun _ _ => rfl)) (pa_cons (pe_glob (v := .int 4) rfl hT ⟨_, rfl⟩) pa_nil)))))) pss_nil)
      (pss_cons (ps_if (pt_cmpR op_ne (pe_ix ix_tup (pv 0) pe_int (fun _ _ => rfl)) pe_str (nomark _)) (pss_one (ps_ret (pe_callTy call_strB (by rfl) T.str PyProof.Rows.Boot.«str» (pa_cons (pe_ix ix_tup (pv 0) pe_int (fun _ _ => rfl)) pa_nil)))) pss_nil)
      (pss_cons (ps_set (i := 2) scText.nd rfl (Or.inl rfl) (pe_ix ix_kdict (pe_glob (v := .ref d) rfl hd rfl) (pe_ix ix_tup (pv 0) pe_int (fun _ _ => rfl)) (fun _ _ => rfl)))
      (pss_cons (ps_set (i := 3) scText.nd rfl (Or.inl rfl) (pe_op op_add_str (pe_op op_add_str (pe_op op_add_str (pe_op op_add_str
          (pe_call FT hr (by rfl) m kf bf .nil pass0 (pa_cons (pe_ix ix_tup (pv 0) pe_int (fun _ _ => rfl)) (pa_cons (pv 2) pa_nil))) pe_str) (pe_ix ix_tup (pv 0) pe_int (fun _ _ => rfl))) pe_str)
          (pe_call FT hr (by rfl) m kf bf .nil pass0 (pa_cons (pe_ix ix_tup (pv 0) pe_int (fun _ _ => rfl)) (pa_cons (pe_op op_add (pv 2) pe_int) pa_nil)))))
      (pss_one (ps_ret (pe_ifExp (pt_cmpR op_lt (pv 2) (pv 1) (nomark _)) (pe_op op_add_str (pe_op op_add_str pe_str (pv 3)) pe_str) (pv 3))))))), ?_⟩
    have hsz : ∀ {x : List Nat}, x.length ≤ 20000 → (S x).length ≤ 20000 := fun h => by rw [S_len]; exact h
    cases t with
    | lf x =>
      obtain ⟨a, kk, u, rfl, hA, hk, hu⟩ := lf_tup ta
      have k1 : decide (V.str kk = V.str "neg") = false := by rcases hk with rfl | rfl <;> decide +kernel
      have k2 : decide (V.str kk = V.str "op") = false := by rcases hk with rfl | rfl <;> decide +kernel
      refine ⟨_, rfl, a, _, _, _, rfl, rfl, SqT.of hA, rfl, rfl, _, rfl, ?_⟩
      rw [k1]
      refine iteF ⟨_, rfl, a, _, _, _, rfl, rfl, SqT.of hA, rfl, rfl, _, rfl, ?_⟩
      rw [k2]
      refine iteT ⟨_, rfl, a, _, _, _, rfl, rfl, SqT.of hA, rfl, ?_⟩
      refine str_lf dt ?_ q
      rcases hu with ⟨n, e1, _, e2⟩ | ⟨w, e1, _, e2⟩
      · exact .inl ⟨n, e1, e2⟩
      · exact .inr ⟨w, e1, e2⟩
    | neg t =>
      obtain ⟨a, x, rfl, hA, tx⟩ := ta
      have hs : sz t + 1 ≤ 1000 := hs
      have hh : ht t + 1 < h + 1 := hh
      have pl := pr_len (t := t) dt 4
      refine ⟨_, rfl, a, _, _, _, rfl, rfl, SqT.of hA, rfl, rfl, _, rfl, iteT ?_⟩
      refine ⟨_, rfl, a, _, _, _, rfl, rfl, SqT.of hA, rfl, x, t, 4, rfl, tx, dt, by omega, by omega, ?_⟩
      refine ⟨_, _, rfl, rfl, ?_, ?_⟩
      · rw [minus_S, S_len, S_len, sizeLine_eq]; show 1 + _ ≤ _; omega
      · rw [minus_S, S_app]; exact q
    | op s t t' =>
      obtain ⟨a, x, y, rfl, hA, tx, ty⟩ := ta
      obtain ⟨ds, d1, d2⟩ := dt
      have hs : sz t + sz t' + 1 ≤ 1000 := hs
      have hh : max (ht t) (ht t') + 1 < h + 1 := hh
      have sl := sign_len ds
      have p1 := pr_len d1 (lv s)
      have p2 := pr_len d2 (lv s + 1)
      have sp : (" " : Str) = S [32] := by decide +kernel
      have b1 : ("(" : Str) = S [40] := by decide +kernel
      obtain ⟨r, hr', r0, r1⟩ := hns s
      have l0 : lv s ≠ 0 := by have := sign_lv ds; omega
      obtain ⟨tk, er⟩ := r1 l0
      rw [er] at hr'
      refine ⟨_, rfl, a, _, _, _, rfl, rfl, SqT.of hA, rfl, rfl, _, rfl, iteF ?_⟩
      refine ⟨_, rfl, a, _, _, _, rfl, rfl, SqT.of hA, rfl, rfl, _, rfl, iteF ?_⟩
      refine ⟨_, rfl, a, _, _, _, rfl, rfl, SqT.of hA, rfl, d, S s, .int (lv s : Int), rfl, rfl, ⟨es, n, _, D.at_, D.lit, hr', ⟨_, rfl⟩⟩, ?_⟩
      refine ⟨_, rfl, a, _, _, _, rfl, rfl, SqT.of hA, rfl, _, rfl, x, t, lv s, rfl, tx, d1, by omega, by omega, ?_⟩
      rw [sp, br_S, b1]
      refine ⟨_, _, rfl, rfl, ?_, _, rfl, a, _, _, _, rfl, rfl, SqT.of hA, rfl, _, _, rfl, rfl, ?_, _, _, rfl, rfl, ?_, ?_⟩
      · rw [S_len, S_len, sizeLine_eq]; show _ + 1 ≤ _; omega
      · rw [S_app, S_len, S_len, List.length_append, sizeLine_eq]; show _ + 1 + _ ≤ _; omega
      · rw [S_app, S_app, S_len, S_len, List.length_append, List.length_append, sizeLine_eq]; show _ + 1 + _ + 1 ≤ _; omega
      refine ⟨_, rfl, a, _, _, _, rfl, rfl, SqT.of hA, rfl, _, rfl, _, _, rfl, rfl, y, t', lv s + 1, rfl, ty, d2, by omega, by omega, ?_⟩
      refine ⟨_, _, rfl, rfl, ?_, ?_⟩
      · rw [S_app, S_app, S_app, S_len, S_len, List.length_append, List.length_append, List.length_append, sizeLine_eq]; show _ + 1 + _ + 1 + _ ≤ _; omega
      rw [S_app, S_app, S_app, S_app]
      have ei : (((pr tkF (lv s) t ++ [32]) ++ s) ++ [32]) ++ pr tkF (lv s + 1) t' = pr tkF (lv s) t ++ (32 :: (s ++ 32 :: pr tkF (lv s + 1) t')) := by simp
      rw [ei]
      refine ⟨_, rfl, _, rfl, _, _, rfl, rfl, _, rfl, ite2 (fun c => ?_) (fun c => ?_)⟩
      · have c : lv s < l := by have := of_decide_eq_true c; omega
        have e : pr tkF l (.op s t t') = 40 :: ((pr tkF (lv s) t ++ (32 :: (s ++ 32 :: pr tkF (lv s + 1) t'))) ++ [41]) := if_pos c
        rw [e] at q
        refine ⟨_, rfl, _, _, rfl, rfl, ?_, _, _, rfl, rfl, ?_, ?_⟩
        · rw [S_len, S_len, sizeLine_eq]; simp only [List.length_append, List.length_cons, List.length_nil]; omega
        · rw [S_app, S_len, S_len, sizeLine_eq]; simp only [List.length_append, List.length_cons, List.length_nil]; omega
        · rw [S_app, S_app]
          exact q
      · have c : ¬ lv s < l := fun z => c (decide_eq_true (by omega))
        have e : pr tkF l (.op s t t') = pr tkF (lv s) t ++ (32 :: (s ++ 32 :: pr tkF (lv s + 1) t')) := if_neg c
        rw [e] at q
        exact ⟨_, rfl, q⟩
theorem ok_text {f : Addr} {fd : FuncData} (F : FDT K f fd) (T : CTxt K mg CE) (V' : LvTxt K w mg) (m : mg "sum_text" = some (.ref f)) (kf : PySem.W.keepIn K (.ref f) = true) (bf : Binds K fd ["tree", "level"] []) :
    ∀ h, FnOk P w K mg base L2.CX0 (1 + h) f fd ["tree", "level"] (spText h)
  | 0 => fnok_never fun vs H Q E ⟨_, _, _, _, _, _, h, _⟩ => absurd h (Nat.not_lt_zero _)
  | h + 1 => ok_text1 F T V' m kf bf (ok_text F T V' m kf bf h)
end
end K09
namespace K09
open PySem L2 HK
def sgn (n : Bool) (ds : Wd) : Wd := if n = true then 45 :: ds else ds
def numF (n : Bool) (ds : Wd) : Int := if ds.length ≤ 12 ∧ ds.all dig = true then wr (if n = true then -((NumText.digitsVal ds : Nat) : Int) else ((NumText.digitsVal ds : Nat) : Int)) else 0
def spNumFrom : Sp := fun vs H Q _ => ∃ (n : Bool) (ds : Wd), vs = [.str (S (sgn n ds))] ∧ Wok ds ∧ ds.head? ≠ some 45 ∧ ds.length ≤ 1000 ∧ Q (.int (numF n ds)) H
/-! ### the signs -/
def holdsM (s : Wd) (a b : Int) : Bool := if s = [60] then decide (a < b) else if s = [60, 61] then decide (a ≤ b) else if s = [62] then decide (b < a) else if s = [62, 61] then decide (b ≤ a) else if s = [61, 61] then decide (a = b) else !decide (a = b)
def signM (s : Wd) (a b : Int) : Int :=
  if s = [43] then a + b else if s = [45] then a - b else if s = [42] then a * b else if s = [47] then (if b = 0 then 0 else a.fdiv b) else if s = [109, 111, 100] then (if b = 0 then 0 else a.fmod b) else if holdsM s a b = true then 1 else 0
/-- within 32 bits -/
def In32 (a : Int) : Prop := -2147483648 ≤ a ∧ a ≤ 2147483647
theorem wr_in (a : Int) : In32 (wr a) := by
  unfold In32 wr
  omega
theorem wr_id {a : Int} (h : In32 a) : wr a = a := by
  unfold In32 at h
  unfold wr
  omega
def spHolds : Sp := fun vs H Q _ => ∃ (s : Wd) (a b : Int), vs = [.str (S s), .int a, .int b] ∧ Q (.bl (holdsM s a b)) H
def spDivi : Sp := fun vs H Q _ => ∃ (s : Wd) (a b : Int), vs = [.str (S s), .int a, .int b] ∧ (s = [47] ∨ s = [109, 111, 100]) ∧ In32 b ∧ Q (.int (signM s a b)) H
def spSignV : Sp := fun vs H Q _ => ∃ (s : Wd) (a b : Int), vs = [.str (S s), .int a, .int b] ∧ In32 a ∧ In32 b ∧ ∀ H', Same H H' → Q (.int (signM s a b)) H'
section
variable {P : Program} {w : World} {K : PySem.W.Frag} {mg : Str → Option Value} {base : Heap} {CE : Addr}
theorem scNumFrom : FnScope ["text", "digits"] ["text"] (defScope sNumFrom) := ⟨rfl, rfl, rfl, by decide +kernel, rfl, by decide +kernel, by decide +kernel⟩
theorem ok_numfrom {f fW : Addr} {fd fdW : FuncData} (F : L2.Fun K "number_from" "number_from" sNumFrom f fd) (T : CTxt K mg CE)
    (FW : FnOk P w K mg base L2.CX0 1 fW fdW ["number"] (spInt1 wr)) (mW : mg "wrapped" = some (.ref fW)) (kW : PySem.W.keepIn K (.ref fW) = true) (bW : Binds K fdW ["number"] []) :
    FnOk P w K mg base L2.CX0 2 f fd ["text"] spNumFrom := by
  refine F.ok scNumFrom (fun vs H Q E h => ?_) (fun cdv A outer s0 H vs Q E hr h => ?_)
  · obtain ⟨n, ds, rfl, _⟩ := h
    rfl
  · obtain ⟨n, ds, rfl, wk, nh, hl, q⟩ := h
    obtain ⟨tD, hD⟩ := T.vdigits
    refine ⟨_, pss_cons (ps_set (i := 1) scNumFrom.nd rfl (Or.inl rfl) (pe_ifExp (pt_val (pe_m1 PySem.F.slot_str_startswith PySem.F.type_str_startswith mt_startswith (pv 0) pe_str)) (pe_slice sl_str (pv 0) (po_some pe_int) po_none) (pv 0)))
      (pss_cons (ps_if (PW.pt (pw_or (pt_cmpR op_gt (pe_callB call_len_str (by rfl) T.len PySem.boot_len (pa_cons (pv 1) pa_nil)) (pe_glob (v := .int 12) rfl hD ⟨_, rfl⟩) (nomark _))
          (pw_or1 (pt_not (PW.pt (pw_and (pt_val (pe_m0 PySem.F.slot_str_isascii PySem.F.type_str_isascii mt_isascii (pv 1))) (pw_and1 (pt_val (pe_m0 PySem.F.slot_str_isdigit PySem.F.type_str_isdigit mt_isdigit (pv 1)))))))))) (pss_one (ps_ret pe_int)) pss_nil)
      (pss_one (ps_ret (pe_call FW hr (by rfl) mW kW bW .nil pass0 (pa_cons (pe_callTy call_int_str (by rfl) T.int PyProof.Rows.Boot.«int» (pa_cons (pv 0) pa_nil)) pa_nil))))), ?_⟩
    have hlS : (S ds).length ≤ sizeLine := by rw [S_len, sizeLine_eq]; omega
    have hlG : (S (sgn n ds)).length ≤ 1001 := by
      rw [S_len]
      cases n
      · show ds.length ≤ 1001; omega
      · show ds.length + 1 ≤ 1001; omega
    obtain ⟨c, r, ed⟩ : ∃ c r, ds = c :: r := by
      cases ds with
      | nil => exact absurd rfl wk.1
      | cons c r => exact ⟨c, r, rfl⟩
    have st : Txt.startswith (S (sgn n ds)) "-" = n := by
      cases n with
      | true => exact starts_S 45 ds
      | false =>
        show Txt.startswith (S ds) "-" = false
        rw [ed, starts_S]
        rw [ed] at nh
        have : c ≠ 45 := fun e => nh (by rw [e]; rfl)
        simpa using this
    have rd : ds.all dig = true → PySem.intText? (S (sgn n ds)) = some (if n = true then -((NumText.digitsVal ds : Nat) : Int) else ((NumText.digitsVal ds : Nat) : Int)) := fun hd => by
      have had : NumText.AllDigits ds := fun c hc => by
        have := List.all_eq_true.mp hd c hc
        unfold dig at this
        simpa using this
      cases n with
      | true => exact PySem.intText_neg (x := S (45 :: ds)) (cs := ds) rfl had wk.1 (by rw [S_len, List.length_cons]; omega)
      | false => exact SX.int_S hd wk.1 (by show ds.length ≤ 4300; omega)
    refine ⟨_, rfl, ⟨_, rfl⟩, _, _, rfl, rfl, _, rfl, ?_⟩
    rw [st]
    have q0 : ¬ (ds.length ≤ 12 ∧ ds.all dig = true) → Q (.int 0) H := fun z => by
      unfold numF at q
      rw [if_neg z] at q
      exact q
    have q1 : ds.length ≤ 12 → ds.all dig = true → Q (.int (wr (if n = true then -((NumText.digitsVal ds : Nat) : Int) else ((NumText.digitsVal ds : Nat) : Int)))) H := fun z1 z2 => by
      unfold numF at q
      rw [if_pos ⟨z1, z2⟩] at q
      exact q
    have hlen : ds.length ≤ 12 → (S (sgn n ds)).length ≤ 640 := fun z => by
      rw [S_len]
      cases n
      · show ds.length ≤ 640; omega
      · show ds.length + 1 ≤ 640; omega
    generalize (if n = true then -((NumText.digitsVal ds : Nat) : Int) else ((NumText.digitsVal ds : Nat) : Int)) = N at rd q1
    cases n
    case' false =>
      have e0 : sgn false ds = ds := rfl
      rw [e0] at rd hlG hlen st ⊢
      refine iteF ⟨_, rfl, ?_⟩
    case' true =>
      refine iteT ⟨_, rfl, _, rfl, _, rfl, by rw [sizeLine_eq]; omega, ?_⟩
      have ec : cutS (S (sgn true ds)) (some 1) none = S ds := cut_Sl (45 :: ds) 1
      rw [ec]
    all_goals
      refine ⟨_, rfl, _, rfl, hlS, _, _, rfl, rfl, _, rfl, ite2 (fun c1 => ?_) (fun c1 => ?_)⟩
      · have c1 : ¬ ds.length ≤ 12 := by
          have := of_decide_eq_true c1
          rw [S_len] at this
          omega
        exact iteT (q0 fun z => c1 z.1)
      · have c1 : ds.length ≤ 12 := by
          have : ¬ (12 : Int) < ((S ds).length : Int) := fun z => c1 (decide_eq_true z)
          rw [S_len] at this
          omega
        refine ⟨_, rfl, ⟨_, rfl⟩, _, rfl, rfl, trivial, _, rfl, ?_⟩
        rw [isascii_S wk.2.2]
        refine iteT ⟨_, rfl, ⟨_, rfl⟩, _, rfl, rfl, trivial, _, rfl, ?_⟩
        rw [isdigit_S wk]
        by_cases hd : ds.all dig = true
        · rw [hd]
          exact iteF ⟨_, rfl, _, _, rfl, rd hd, hlen c1, _, rfl, q1 c1 hd⟩
        · have hd' : ds.all dig = false := by simpa using hd
          rw [hd']
          exact iteT (q0 fun z => hd z.2)
end
end K09
namespace K09
open PySem L2 HK
theorem l_lt : ("<" : Str) = S [60] := by decide +kernel
theorem l_le : ("<=" : Str) = S [60, 61] := by decide +kernel
theorem l_gt : (">" : Str) = S [62] := by decide +kernel
theorem l_ge : (">=" : Str) = S [62, 61] := by decide +kernel
theorem l_eq : ("==" : Str) = S [61, 61] := by decide +kernel
theorem l_pl : ("+" : Str) = S [43] := by decide +kernel
theorem l_ti : ("*" : Str) = S [42] := by decide +kernel
theorem l_di : ("/" : Str) = S [47] := by decide +kernel
theorem l_mo : ("mod" : Str) = S [109, 111, 100] := by decide +kernel
theorem divs_strs : ([V.str "/", V.str "mod"] : List V) = [[47], [109, 111, 100]].map fun w => V.str (S w) := by rw [l_di, l_mo]; rfl
section
variable {P : Program} {w : World} {K : PySem.W.Frag} {mg : Str → Option Value} {base : Heap} {CE : Addr}
theorem scHolds : FnScope ["sign", "one", "other"] ["sign", "one", "other"] (defScope sHolds) := ⟨rfl, rfl, rfl, by decide +kernel, rfl, by decide +kernel, by decide +kernel⟩
theorem ok_holds {f : Addr} {fd : FuncData} (F : L2.Fun K "holds" "holds" sHolds f fd) : FnOk P w K mg base L2.CX0 1 f fd ["sign", "one", "other"] spHolds := by
  refine F.ok scHolds (fun vs H Q E h => ?_) (fun cdv A outer s0 H vs Q E hr h => ?_)
  · obtain ⟨s, a, b, rfl, _⟩ := h
    rfl
  · obtain ⟨s, a, b, rfl, q⟩ := h
    refine ⟨_, pss_cons (ps_if (pt_cmpR op_eq (pv 0) pe_str (nomark _)) (pss_one (ps_ret (pe_cmpR op_lt (pv 1) (pv 2) (nomark _)))) pss_nil)
      (pss_cons (ps_if (pt_cmpR op_eq (pv 0) pe_str (nomark _)) (pss_one (ps_ret (pe_cmpR op_le (pv 1) (pv 2) (nomark _)))) pss_nil)
      (pss_cons (ps_if (pt_cmpR op_eq (pv 0) pe_str (nomark _)) (pss_one (ps_ret (pe_cmpR op_gt (pv 1) (pv 2) (nomark _)))) pss_nil)
      (pss_cons (ps_if (pt_cmpR op_eq (pv 0) pe_str (nomark _)) (pss_one (ps_ret (pe_cmpR op_ge (pv 1) (pv 2) (nomark _)))) pss_nil)
      (pss_one (ps_ret (pe_ifExp (pt_cmpR op_eq (pv 0) pe_str (nomark _)) (pe_cmpR op_eq (pv 1) (pv 2) (nomark _)) (pe_cmpR op_ne (pv 1) (pv 2) (nomark _)))))))), ?_⟩
    unfold holdsM at q
    refine ⟨_, rfl, rfl, _, rfl, ?_⟩
    rw [l_lt, S_dec]
    by_cases c1 : s = [60]
    · rw [if_pos c1] at q
      rw [decide_eq_true c1]
      exact iteT ⟨_, rfl, _, rfl, _, _, rfl, rfl, q⟩
    rw [if_neg c1] at q
    rw [decide_eq_false c1]
    refine iteF ⟨_, rfl, rfl, _, rfl, ?_⟩
    rw [l_le, S_dec]
    by_cases c2 : s = [60, 61]
    · rw [if_pos c2] at q
      rw [decide_eq_true c2]
      exact iteT ⟨_, rfl, _, rfl, _, _, rfl, rfl, q⟩
    rw [if_neg c2] at q
    rw [decide_eq_false c2]
    refine iteF ⟨_, rfl, rfl, _, rfl, ?_⟩
    rw [l_gt, S_dec]
    by_cases c3 : s = [62]
    · rw [if_pos c3] at q
      rw [decide_eq_true c3]
      exact iteT ⟨_, rfl, _, rfl, _, _, rfl, rfl, q⟩
    rw [if_neg c3] at q
    rw [decide_eq_false c3]
    refine iteF ⟨_, rfl, rfl, _, rfl, ?_⟩
    rw [l_ge, S_dec]
    by_cases c4 : s = [62, 61]
    · rw [if_pos c4] at q
      rw [decide_eq_true c4]
      exact iteT ⟨_, rfl, _, rfl, _, _, rfl, rfl, q⟩
    rw [if_neg c4] at q
    rw [decide_eq_false c4]
    refine iteF ⟨_, rfl, rfl, _, rfl, ?_⟩
    have ei : decide (V.int a = V.int b) = decide (a = b) := by
      by_cases h : a = b
      · rw [h]; simp
      · rw [decide_eq_false h, decide_eq_false (fun e => h (V.int.inj e))]
    rw [l_eq, S_dec]
    by_cases c5 : s = [61, 61]
    · rw [if_pos c5, ← ei] at q
      rw [decide_eq_true c5]
      exact iteT ⟨_, rfl, _, rfl, rfl, q⟩
    · rw [if_neg c5, ← ei] at q
      rw [decide_eq_false c5]
      exact iteF ⟨_, rfl, _, rfl, rfl, q⟩
theorem scDivi : FnScope ["sign", "one", "other"] ["sign", "one", "other"] (defScope sDivi) := ⟨rfl, rfl, rfl, by decide +kernel, rfl, by decide +kernel, by decide +kernel⟩
theorem log_32 {b : Int} (h : In32 b) : b.natAbs.log2 < 9000 := by
  unfold In32 at h
  exact Nat.lt_of_lt_of_le (PySem.Flt.log2_lt_of (k := 32) (by decide) (Nat.lt_of_lt_of_le (m := 2147483649) (by omega) (by decide))) (by decide)
theorem ok_divi {f : Addr} {fd : FuncData} (F : L2.Fun K "division" "division" sDivi f fd) : FnOk P w K mg base L2.CX0 1 f fd ["sign", "one", "other"] spDivi := by
  refine F.ok scDivi (fun vs H Q E h => ?_) (fun cdv A outer s0 H vs Q E hr h => ?_)
  · obtain ⟨s, a, b, rfl, _⟩ := h
    rfl
  · obtain ⟨s, a, b, rfl, hs, hb, q⟩ := h
    refine ⟨_, pss_cons (ps_if (pt_cmpR op_eq (pv 2) pe_int (nomark _)) (pss_one (ps_ret pe_int)) pss_nil)
      (pss_one (ps_ret (pe_ifExp (pt_cmpR op_eq (pv 0) pe_str (nomark _)) (pe_op op_fdivNW (pv 1) (pv 2)) (pe_op op_modN (pv 1) (pv 2))))), ?_⟩
    have e0 : b = 0 → signM s a b = 0 := fun z => by
      rcases hs with rfl | rfl
      · unfold signM; rw [if_neg (by decide), if_neg (by decide), if_neg (by decide), if_pos rfl, if_pos z]
      · unfold signM; rw [if_neg (by decide), if_neg (by decide), if_neg (by decide), if_neg (by decide), if_pos rfl, if_pos z]
    refine ⟨_, rfl, rfl, _, rfl, ite2 (fun c => ?_) (fun c => ?_)⟩
    · have c : b = 0 := V.int.inj (of_decide_eq_true c)
      rw [e0 c] at q
      exact q
    have c : b ≠ 0 := fun z => c (decide_eq_true (by rw [z]))
    refine ⟨_, rfl, rfl, _, rfl, ?_⟩
    rw [l_di, S_dec]
    rcases hs with rfl | rfl
    · have e : signM [47] a b = a.fdiv b := by unfold signM; rw [if_neg (by decide), if_neg (by decide), if_neg (by decide), if_pos rfl, if_neg c]
      rw [e] at q
      exact iteT ⟨_, rfl, _, rfl, _, _, rfl, rfl, ⟨c, log_32 hb⟩, q⟩
    · have e : signM [109, 111, 100] a b = a.fmod b := by unfold signM; rw [if_neg (by decide), if_neg (by decide), if_neg (by decide), if_neg (by decide), if_pos rfl, if_neg c]
      rw [e] at q
      exact iteF ⟨_, rfl, _, rfl, _, _, rfl, rfl, c, q⟩
theorem scSignV : FnScope ["sign", "one", "other"] ["sign", "one", "other"] (defScope sSignV) := ⟨rfl, rfl, rfl, by decide +kernel, rfl, by decide +kernel, by decide +kernel⟩
theorem ok_signv {f fD fH : Addr} {fd fdD fdH : FuncData} (F : L2.Fun K "sign_value" "sign_value" sSignV f fd)
    (FD : FnOk P w K mg base L2.CX0 1 fD fdD ["sign", "one", "other"] spDivi) (mD : mg "division" = some (.ref fD)) (kD : PySem.W.keepIn K (.ref fD) = true) (bD : Binds K fdD ["sign", "one", "other"] [])
    (FH : FnOk P w K mg base L2.CX0 1 fH fdH ["sign", "one", "other"] spHolds) (mH : mg "holds" = some (.ref fH)) (kH : PySem.W.keepIn K (.ref fH) = true) (bH : Binds K fdH ["sign", "one", "other"] []) :
    FnOk P w K mg base L2.CX0 2 f fd ["sign", "one", "other"] spSignV := by
  refine F.ok scSignV (fun vs H Q E h => ?_) (fun cdv A outer s0 H vs Q E hr h => ?_)
  · obtain ⟨s, a, b, rfl, _⟩ := h
    rfl
  · obtain ⟨s, a, b, rfl, ha, hb, q⟩ := h
    refine ⟨_, pss_cons (ps_if (pt_cmpR op_eq (pv 0) pe_str (nomark _)) (pss_one (ps_ret (pe_op op_add (pv 1) (pv 2)))) pss_nil)
      (pss_cons (ps_if (pt_cmpR op_eq (pv 0) pe_str (nomark _)) (pss_one (ps_ret (pe_op op_sub (pv 1) (pv 2)))) pss_nil)
      (pss_cons (ps_if (pt_cmpR op_eq (pv 0) pe_str (nomark _)) (pss_one (ps_ret (pe_op op_mul (pv 1) (pv 2)))) pss_nil)
      (pss_cons (ps_if (pt_cmpR op_in_seq (pv 0) (pe_tup (pa_cons pe_str (pa_cons pe_str pa_nil))) (by rfl)) (pss_one (ps_ret (pe_call FD hr (by rfl) mD kD bD .nil pass0 (pa_cons (pv 0) (pa_cons (pv 1) (pa_cons (pv 2) pa_nil)))))) pss_nil)
      (pss_one (ps_ret (pe_ifExp (pt_val (pe_call FH hr (by rfl) mH kH bH .nil pass0 (pa_cons (pv 0) (pa_cons (pv 1) (pa_cons (pv 2) pa_nil))))) pe_int pe_int)))))), ?_⟩
    have big : ∀ x : Int, In32 x → -(2 ^ 64) < x ∧ x < 2 ^ 64 := fun x h => by unfold In32 at h; omega
    have q0 := q H (fun _ _ h => h)
    refine ⟨_, rfl, rfl, _, rfl, ?_⟩
    rw [l_pl, S_dec]
    by_cases c1 : s = [43]
    · have e : signM s a b = a + b := by unfold signM; rw [if_pos c1]
      rw [e] at q0
      rw [decide_eq_true c1]
      exact iteT ⟨_, rfl, _, rfl, _, _, rfl, rfl, q0⟩
    rw [decide_eq_false c1]
    refine iteF ⟨_, rfl, rfl, _, rfl, ?_⟩
    rw [minus_S, S_dec]
    by_cases c2 : s = [45]
    · have e : signM s a b = a - b := by unfold signM; rw [if_neg c1, if_pos c2]
      rw [e] at q0
      rw [decide_eq_true c2]
      exact iteT ⟨_, rfl, _, rfl, _, _, rfl, rfl, q0⟩
    rw [decide_eq_false c2]
    refine iteF ⟨_, rfl, rfl, _, rfl, ?_⟩
    rw [l_ti, S_dec]
    by_cases c3 : s = [42]
    · have e : signM s a b = a * b := by unfold signM; rw [if_neg c1, if_neg c2, if_pos c3]
      rw [e] at q0
      rw [decide_eq_true c3]
      exact iteT ⟨_, rfl, _, rfl, _, _, rfl, rfl, .inl (big a ha), q0⟩
    rw [decide_eq_false c3]
    refine iteF ⟨_, rfl, by show 2 ≤ sizeLine; decide, fun t nt => ?_⟩
    have st : Same H (upd H t (.tup [.str "/", .str "mod"])) := same_upd nt
    have ht : (upd H t (.tup [.str "/", .str "mod"])) t = some (.tup [.str "/", .str "mod"]) := upd_same
    generalize upd H t (.tup [.str "/", .str "mod"]) = H1 at st ht ⊢
    have q1 := q H1 st
    refine ⟨_, _, rfl, .inr (SqT.of ht), rfl, rfl, ?_⟩
    show ∃ k, V.bl (inV (.str (S s)) [.str "/", .str "mod"]) = V.bl k ∧ _
    rw [divs_strs, inV_S]
    by_cases c4 : s ∈ [[47], [109, 111, 100]]
    · rw [decide_eq_true c4]
      have c4 : s = [47] ∨ s = [109, 111, 100] := by simpa using c4
      exact ⟨_, rfl, iteT ⟨_, rfl, _, rfl, _, rfl, s, a, b, rfl, c4, hb, q1⟩⟩
    · rw [decide_eq_false c4]
      have c4 : ¬ (s = [47] ∨ s = [109, 111, 100]) := by simpa using c4
      have e : signM s a b = if holdsM s a b = true then 1 else 0 := by
        unfold signM
        rw [if_neg c1, if_neg c2, if_neg c3, if_neg (fun z => c4 (.inl z)), if_neg (fun z => c4 (.inr z))]
      rw [e] at q1
      refine ⟨_, rfl, iteF ⟨_, rfl, _, rfl, _, rfl, s, a, b, rfl, _, rfl, ?_⟩⟩
      cases hM : holdsM s a b with
      | true => rw [hM] at q1; exact iteT q1
      | false => rw [hM] at q1; exact iteF q1
end
end K09
namespace K09
open PySem L2 HK
/-! ### what a sum is worth -/
def valM (env : Wd → Int) : Tr → Int
  | .lf (.int n) => (n : Int)
  | .lf (.name u) => env u
  | .neg t => wr (-(valM env t))
  | .op s a b => wr (signM s (valM env a) (valM env b))
theorem val_in {env : Wd → Int} (he : ∀ u, Lf.name u ∈ Lfs → In32 (env u)) : ∀ {t : Tr}, Drawn t → In32 (valM env t)
  | .lf (.int n), h => by
    have := (lfg h).big n rfl
    show In32 (n : Int)
    unfold In32; omega
  | .lf (.name u), h => he u h
  | .neg t, h => wr_in _
  | .op s a b, h => wr_in _
def VarsAt (H : Hp) (dv : Addr) (env : Wd → Int) : Prop := ∃ kvs, H dv = some (.dK kvs) ∧ ∀ u, Lf.name u ∈ Lfs → In32 (env u) ∧ ∃ n ds, valV kvs (.inr (S u)) = some (.str (S (sgn n ds))) ∧ Wok ds ∧ ds.head? ≠ some 45 ∧ ds.length ≤ 1000 ∧ numF n ds = env u
theorem VarsAt.same {H H' : Hp} {dv : Addr} {env : Wd → Int} (h : VarsAt H dv env) (e : Same H H') : VarsAt H' dv env := by
  obtain ⟨kvs, h1, h2⟩ := h
  exact ⟨kvs, e _ _ h1, h2⟩
theorem hu_of {k : Nat} {A : Around} (hr : Room k A) : A.units + 1 < cLine := by have := hr.un; omega
def spValue (h : Nat) : Sp := fun vs H Q _ => ∃ (v : V) (t : Tr) (dv : Addr) (env : Wd → Int), vs = [v, .ref dv] ∧ TAt H t v ∧ Drawn t ∧ ht t < h ∧ VarsAt H dv env ∧ ∀ H', Same H H' → Q (.int (valM env t)) H'
section
variable {P : Program} {w : World} {K : PySem.W.Frag} {mg : Str → Option Value} {base : Heap} {CE : Addr}
theorem scValue : FnScope ["tree", "variables"] ["tree", "variables"] (defScope sValue) := ⟨rfl, rfl, rfl, by decide +kernel, rfl, by decide +kernel, by decide +kernel⟩
theorem ok_value1 {k h : Nat} {f fW fN fS : Addr} {fd fdW fdN fdS : FuncData} (hk : 2 ≤ k) (F : L2.Fun K "sum_value" "sum_value" sValue f fd) (m : mg "sum_value" = some (.ref f)) (kf : PySem.W.keepIn K (.ref f) = true) (bf : Binds K fd ["tree", "variables"] [])
    (FW : FnOk P w K mg base L2.CX0 1 fW fdW ["number"] (spInt1 wr)) (mW : mg "wrapped" = some (.ref fW)) (kW : PySem.W.keepIn K (.ref fW) = true) (bW : Binds K fdW ["number"] [])
    (FN : FnOk P w K mg base L2.CX0 2 fN fdN ["text"] spNumFrom) (mN : mg "number_from" = some (.ref fN)) (kN : PySem.W.keepIn K (.ref fN) = true) (bN : Binds K fdN ["text"] [])
    (FS : FnOk P w K mg base L2.CX0 2 fS fdS ["sign", "one", "other"] spSignV) (mS : mg "sign_value" = some (.ref fS)) (kS : PySem.W.keepIn K (.ref fS) = true) (bS : Binds K fdS ["sign", "one", "other"] [])
    (FV : FnOk P w K mg base L2.CX0 k f fd ["tree", "variables"] (spValue h)) : FnOk P w K mg base L2.CX0 (k + 1) f fd ["tree", "variables"] (spValue (h + 1)) := by
  have rW := FW.mono (show 1 ≤ k by omega)
  have rN := FN.mono hk
  have rS := FS.mono hk
  refine F.ok scValue (fun vs H Q E z => ?_) (fun cdv A outer s0 H vs Q E hr z => ?_)
  · obtain ⟨v, t, dv, env, rfl, _⟩ := z
    rfl
  · obtain ⟨v, t, dv, env, rfl, ta, dt, hh, va, q⟩ := z
    refine ⟨_, pss_cons (ps_if (pt_cmpR op_eq (pe_ix ix_tup (pv 0) pe_int (fun _ _ => rfl)) pe_str (nomark _)) (pss_one (ps_ret (pe_call rW hr (by rfl) mW kW bW .nil pass0 (pa_cons (pe_ix ix_tup (pv 0) pe_int (fun _ _ => rfl)) pa_nil)))) pss_nil)
      (pss_cons (ps_if (pt_cmpR op_eq (pe_ix ix_tup (pv 0) pe_int (fun _ _ => rfl)) pe_str (nomark _)) (pss_one (ps_ret (pe_call rN hr (by rfl) mN kN bN .nil pass0 (pa_cons (pe_dget2 (hu_of hr) (pv 1) (pe_ix ix_tup (pv 0) pe_int (fun _ _ => rfl)) pe_str ⟨rfl, rfl, rfl, rfl⟩) pa_nil)))) pss_nil)
      (pss_cons (ps_if (pt_cmpR op_eq (pe_ix ix_tup (pv 0) pe_int (fun _ _ => rfl)) pe_str (nomark _)) (pss_one (ps_ret (pe_call rW hr (by rfl) mW kW bW .nil pass0 (pa_cons (pe_un un_neg (pe_call FV hr (by rfl) m kf bf .nil pass0 (pa_cons (pe_ix ix_tup (pv 0) pe_int (fun _ _ => rfl)) (pa_cons (pv 1) pa_nil)))) pa_nil)))) pss_nil)
      (pss_one (ps_ret (pe_call rW hr (by rfl) mW kW bW .nil pass0 (pa_cons (pe_call rS hr (by rfl) mS kS bS .nil pass0 (pa_cons (pe_ix ix_tup (pv 0) pe_int (fun _ _ => rfl))
          (pa_cons (pe_call FV hr (by rfl) m kf bf .nil pass0 (pa_cons (pe_ix ix_tup (pv 0) pe_int (fun _ _ => rfl)) (pa_cons (pv 1) pa_nil))) (pa_cons (pe_call FV hr (by rfl) m kf bf .nil pass0 (pa_cons (pe_ix ix_tup (pv 0) pe_int (fun _ _ => rfl)) (pa_cons (pv 1) pa_nil))) pa_nil)))) pa_nil)))))), ?_⟩
    cases t with
    | lf x =>
      cases x with
      | int n =>
        obtain ⟨a, rfl, hA⟩ := ta
        refine ⟨_, rfl, a, _, _, _, rfl, rfl, SqT.of hA, rfl, rfl, _, rfl, iteT ?_⟩
        refine ⟨_, rfl, a, _, _, _, rfl, rfl, SqT.of hA, rfl, _, rfl, ?_⟩
        have hn := (lfg (x := .int n) dt).big n rfl
        rw [wr_id (by unfold In32; omega)]
        exact q H fun _ _ h => h
      | name u =>
        obtain ⟨a, rfl, hA⟩ := ta
        obtain ⟨kvs, hd, hv⟩ := va
        obtain ⟨_, n, ds, h1, h2, h3, h4, h5⟩ := hv u dt
        have q0 := q H fun _ _ h => h
        have e : valM env (.lf (.name u)) = numF n ds := h5.symm
        rw [e] at q0
        refine ⟨_, rfl, a, _, _, _, rfl, rfl, SqT.of hA, rfl, rfl, _, rfl, iteF ?_⟩
        refine ⟨_, rfl, a, _, _, _, rfl, rfl, SqT.of hA, rfl, rfl, _, rfl, iteT ?_⟩
        exact ⟨_, rfl, dv, rfl, .inl ⟨kvs, .inl hd⟩, _, rfl, a, _, _, _, rfl, rfl, SqT.of hA, rfl, some (.str (S (sgn n ds))), .inl ⟨kvs, .inr (S u), .inl hd, rfl, h1.symm⟩, n, ds, rfl, h2, h3, h4, q0⟩
    | neg t =>
      obtain ⟨a, x, rfl, hA, tx⟩ := ta
      have hh : ht t + 1 < h + 1 := hh
      refine ⟨_, rfl, a, _, _, _, rfl, rfl, SqT.of hA, rfl, rfl, _, rfl, iteF ?_⟩
      refine ⟨_, rfl, a, _, _, _, rfl, rfl, SqT.of hA, rfl, rfl, _, rfl, iteF ?_⟩
      refine ⟨_, rfl, a, _, _, _, rfl, rfl, SqT.of hA, rfl, rfl, _, rfl, iteT ?_⟩
      exact ⟨_, rfl, a, _, _, _, rfl, rfl, SqT.of hA, rfl, _, rfl, x, t, dv, env, rfl, tx, dt, by omega, va, fun H1 s1 => ⟨_, rfl, _, rfl, q H1 s1⟩⟩
    | op s t t' =>
      obtain ⟨a, x, y, rfl, hA, tx, ty⟩ := ta
      obtain ⟨ds, d1, d2⟩ := dt
      have hh : max (ht t) (ht t') + 1 < h + 1 := hh
      have he : ∀ u, Lf.name u ∈ Lfs → In32 (env u) := fun u hu => by obtain ⟨kvs, _, h2⟩ := va; exact (h2 u hu).1
      refine ⟨_, rfl, a, _, _, _, rfl, rfl, SqT.of hA, rfl, rfl, _, rfl, iteF ?_⟩
      refine ⟨_, rfl, a, _, _, _, rfl, rfl, SqT.of hA, rfl, rfl, _, rfl, iteF ?_⟩
      refine ⟨_, rfl, a, _, _, _, rfl, rfl, SqT.of hA, rfl, rfl, _, rfl, iteF ?_⟩
      refine ⟨_, rfl, a, _, _, _, rfl, rfl, SqT.of hA, rfl, _, rfl, a, _, _, _, rfl, rfl, SqT.of hA, rfl, _, rfl, x, t, dv, env, rfl, tx, d1, by omega, va, fun H1 s1 => ?_⟩
      have hA1 := s1 _ _ hA
      refine ⟨_, rfl, a, _, _, _, rfl, rfl, SqT.of hA1, rfl, _, rfl, y, t', dv, env, rfl, ty.same s1, d2, by omega, va.same s1, fun H2 s2 => ?_⟩
      refine ⟨s, _, _, rfl, val_in he d1, val_in he d2, fun H3 s3 => ⟨_, rfl, q H3 ((s1.trans s2).trans s3)⟩⟩
theorem ok_value {f fW fN fS : Addr} {fd fdW fdN fdS : FuncData} (F : L2.Fun K "sum_value" "sum_value" sValue f fd) (m : mg "sum_value" = some (.ref f)) (kf : PySem.W.keepIn K (.ref f) = true) (bf : Binds K fd ["tree", "variables"] [])
    (FW : FnOk P w K mg base L2.CX0 1 fW fdW ["number"] (spInt1 wr)) (mW : mg "wrapped" = some (.ref fW)) (kW : PySem.W.keepIn K (.ref fW) = true) (bW : Binds K fdW ["number"] [])
    (FN : FnOk P w K mg base L2.CX0 2 fN fdN ["text"] spNumFrom) (mN : mg "number_from" = some (.ref fN)) (kN : PySem.W.keepIn K (.ref fN) = true) (bN : Binds K fdN ["text"] [])
    (FS : FnOk P w K mg base L2.CX0 2 fS fdS ["sign", "one", "other"] spSignV) (mS : mg "sign_value" = some (.ref fS)) (kS : PySem.W.keepIn K (.ref fS) = true) (bS : Binds K fdS ["sign", "one", "other"] []) :
    ∀ h, FnOk P w K mg base L2.CX0 (2 + h) f fd ["tree", "variables"] (spValue h)
  | 0 => fnok_never fun vs H Q E ⟨_, _, _, _, _, _, _, h, _⟩ => absurd h (Nat.not_lt_zero _)
  | h + 1 => ok_value1 (k := 2 + h) (by omega) F m kf bf FW mW kW bW FN mN kN bN FS mS kS bS (ok_value F m kf bf FW mW kW bW FN mN kN bN FS mS kS bS h)
end
end K09
namespace K09
open PySem L2 HK
theorem l_b2 : ("-(" : Str) = S [45, 40] := by decide +kernel
theorem l_b1 : ("(" : Str) = S [40] := by decide +kernel
theorem l_b3 : (") " : Str) = S [41, 32] := by decide +kernel
theorem l_b4 : (" (" : Str) = S [32, 40] := by decide +kernel
def spShown (h : Nat) : Sp := fun vs H Q _ => ∃ (v : V) (t : Tr), vs = [v] ∧ TAt H t v ∧ Drawn t ∧ ht t < h ∧ sz t ≤ 1000 ∧ ∀ H', Same H H' → Q (.str (S (prs tkF t))) H'
def spTree (h : Nat) : Sp := fun vs H Q _ => ∃ (D : Addr) (dc : Dice) (deep : Nat), vs = [.ref D, .int (deep : Int)] ∧ H D = some (.lst dc.vs) ∧ deep < h ∧ ∀ (v : V) (t : Tr) (dc' : Dice) (H' : Hp), SameX D H H' → H' D = some (.lst dc'.vs) → TAt H' t v → Drawn t → ht t ≤ deep → Q v H'
section
variable {P : Program} {w : World} {K : PySem.W.Frag} {mg : Str → Option Value} {base : Heap} {CE : Addr}
theorem scShown : FnScope ["tree"] ["tree"] (defScope sShown) := ⟨rfl, rfl, rfl, by decide +kernel, rfl, by decide +kernel, by decide +kernel⟩
theorem ok_shown1 {k h : Nat} {f : Addr} {fd : FuncData} (F : L2.Fun K "_law_shown" "_law_shown" sShown f fd) (T : CTxt K mg CE) (m : mg "_law_shown" = some (.ref f)) (kf : PySem.W.keepIn K (.ref f) = true) (bf : Binds K fd ["tree"] [])
    (FT : FnOk P w K mg base L2.CX0 k f fd ["tree"] (spShown h)) : FnOk P w K mg base L2.CX0 (k + 1) f fd ["tree"] (spShown (h + 1)) := by
  refine F.ok scShown (fun vs H Q E z => ?_) (fun cdv A outer s0 H vs Q E hr z => ?_)
  · obtain ⟨v, t, rfl, _⟩ := z
    rfl
  · obtain ⟨v, t, rfl, ta, dt, hh, hs, q⟩ := z
    refine ⟨_, pss_cons (ps_if (pt_cmpR op_in_seq (pe_ix ix_tup (pv 0) pe_int (fun _ _ => rfl)) (pe_lst (pa_cons pe_str (pa_cons pe_str pa_nil))) (by rfl)) (pss_one (ps_ret (pe_callTy call_strB (by rfl) T.str PyProof.Rows.Boot.«str» (pa_cons (pe_ix ix_tup (pv 0) pe_int (fun _ _ => rfl)) pa_nil)))) pss_nil)
      (pss_cons (ps_if (pt_cmpR op_eq (pe_ix ix_tup (pv 0) pe_int (fun _ _ => rfl)) pe_str (nomark _))
        (pss_one (ps_ret (pe_op op_add_str (pe_op op_add_str pe_str (pe_call FT hr (by rfl) m kf bf .nil pass0 (pa_cons (pe_ix ix_tup (pv 0) pe_int (fun _ _ => rfl)) pa_nil))) pe_str))) pss_nil)
      (pss_one (ps_ret (pe_op op_add_str (pe_op op_add_str (pe_op op_add_str (pe_op op_add_str (pe_op op_add_str (pe_op op_add_str pe_str
          (pe_call FT hr (by rfl) m kf bf .nil pass0 (pa_cons (pe_ix ix_tup (pv 0) pe_int (fun _ _ => rfl)) pa_nil))) pe_str) (pe_ix ix_tup (pv 0) pe_int (fun _ _ => rfl))) pe_str)
          (pe_call FT hr (by rfl) m kf bf .nil pass0 (pa_cons (pe_ix ix_tup (pv 0) pe_int (fun _ _ => rfl)) pa_nil))) pe_str)))), ?_⟩
    have nm : ∀ z : Str, inV (.str z) [.str "int", .str "name"] = (("int" == z) || (("name" == z) || false)) := fun z => rfl
    cases t with
    | lf x =>
      obtain ⟨a, kk, u, rfl, hA, hk, hu⟩ := lf_tup ta
      refine ⟨_, rfl, a, _, _, _, rfl, rfl, SqT.of hA, rfl, by show 2 ≤ sizeLine; decide, fun l nl0 => ?_⟩
      have sl : Same H (upd H l (.lst [.str "int", .str "name"])) := same_upd nl0
      have hl : (upd H l (.lst [.str "int", .str "name"])) l = some (.lst [.str "int", .str "name"]) := upd_same
      generalize upd H l (.lst [.str "int", .str "name"]) = H1 at sl hl ⊢
      have hA1 := sl _ _ hA
      have k1 : inV (.str kk) [.str "int", .str "name"] = true := by
        rw [nm]
        rcases hk with rfl | rfl <;> decide +kernel
      refine ⟨_, _, rfl, .inl (SqL.of hl), rfl, rfl, ?_⟩
      show ∃ k, V.bl (inV (.str kk) [.str "int", .str "name"]) = V.bl k ∧ _
      rw [k1]
      refine ⟨_, rfl, iteT ⟨_, rfl, a, _, _, _, rfl, rfl, SqT.of hA1, rfl, ?_⟩⟩
      refine str_lf dt ?_ (q H1 sl)
      rcases hu with ⟨n, e1, _, e2⟩ | ⟨w, e1, _, e2⟩
      · exact .inl ⟨n, e1, e2⟩
      · exact .inr ⟨w, e1, e2⟩
    | neg t =>
      obtain ⟨a, x, rfl, hA, tx⟩ := ta
      have hs : sz t + 1 ≤ 1000 := hs
      have hh : ht t + 1 < h + 1 := hh
      have pl := prs_len (t := t) dt
      refine ⟨_, rfl, a, _, _, _, rfl, rfl, SqT.of hA, rfl, by show 2 ≤ sizeLine; decide, fun l nl0 => ?_⟩
      have sl : Same H (upd H l (.lst [.str "int", .str "name"])) := same_upd nl0
      have hl : (upd H l (.lst [.str "int", .str "name"])) l = some (.lst [.str "int", .str "name"]) := upd_same
      generalize upd H l (.lst [.str "int", .str "name"]) = H1 at sl hl ⊢
      have hA1 := sl _ _ hA
      have k1 : inV (.str "neg") [.str "int", .str "name"] = false := by rw [nm]; decide +kernel
      refine ⟨_, _, rfl, .inl (SqL.of hl), rfl, rfl, ?_⟩
      show ∃ k, V.bl (inV (.str "neg") [.str "int", .str "name"]) = V.bl k ∧ _
      rw [k1]
      refine ⟨_, rfl, iteF ⟨_, rfl, a, _, _, _, rfl, rfl, SqT.of hA1, rfl, rfl, _, rfl, iteT ?_⟩⟩
      refine ⟨_, rfl, a, _, _, _, rfl, rfl, SqT.of hA1, rfl, x, t, rfl, tx.same sl, dt, by omega, by omega, fun H2 s2 => ?_⟩
      rw [l_b2, br_S]
      refine ⟨_, _, rfl, rfl, ?_, _, _, rfl, rfl, ?_, ?_⟩
      · rw [S_len, S_len, sizeLine_eq]; show 2 + _ ≤ _; omega
      · rw [S_app, S_len, S_len, List.length_append, sizeLine_eq]; show 2 + _ + 1 ≤ _; omega
      · rw [S_app, S_app]
        have e : [45, 40] ++ prs tkF t ++ [41] = prs tkF (.neg t) := by show _ = 45 :: 40 :: (prs tkF t ++ [41]); simp
        rw [e]
        exact q H2 (sl.trans s2)
    | op s t t' =>
      obtain ⟨a, x, y, rfl, hA, tx, ty⟩ := ta
      obtain ⟨ds, d1, d2⟩ := dt
      have hs : sz t + sz t' + 1 ≤ 1000 := hs
      have hh : max (ht t) (ht t') + 1 < h + 1 := hh
      have sln := sign_len ds
      have p1 := prs_len d1
      have p2 := prs_len d2
      refine ⟨_, rfl, a, _, _, _, rfl, rfl, SqT.of hA, rfl, by show 2 ≤ sizeLine; decide, fun l nl0 => ?_⟩
      have sl : Same H (upd H l (.lst [.str "int", .str "name"])) := same_upd nl0
      have hl : (upd H l (.lst [.str "int", .str "name"])) l = some (.lst [.str "int", .str "name"]) := upd_same
      generalize upd H l (.lst [.str "int", .str "name"]) = H1 at sl hl ⊢
      have hA1 := sl _ _ hA
      have k1 : inV (.str "op") [.str "int", .str "name"] = false := by rw [nm]; decide +kernel
      refine ⟨_, _, rfl, .inl (SqL.of hl), rfl, rfl, ?_⟩
      show ∃ k, V.bl (inV (.str "op") [.str "int", .str "name"]) = V.bl k ∧ _
      rw [k1]
      refine ⟨_, rfl, iteF ⟨_, rfl, a, _, _, _, rfl, rfl, SqT.of hA1, rfl, rfl, _, rfl, iteF ?_⟩⟩
      rw [l_b1, l_b3, l_b4, br_S]
      refine ⟨_, rfl, a, _, _, _, rfl, rfl, SqT.of hA1, rfl, x, t, rfl, tx.same sl, d1, by omega, by omega, fun H2 s2 => ?_⟩
      have hA2 := s2 _ _ hA1
      refine ⟨_, _, rfl, rfl, ?_, _, _, rfl, rfl, ?_, _, rfl, a, _, _, _, rfl, rfl, SqT.of hA2, rfl, _, _, rfl, rfl, ?_, _, _, rfl, rfl, ?_, ?_⟩
      · rw [S_len, S_len, sizeLine_eq]; show 1 + _ ≤ _; omega
      · rw [S_app, S_len, S_len, List.length_append, sizeLine_eq]; show 1 + _ + 2 ≤ _; omega
      · rw [S_app, S_app, S_len, S_len, List.length_append, List.length_append, sizeLine_eq]; show 1 + _ + 2 + _ ≤ _; omega
      · rw [S_app, S_app, S_app, S_len, S_len, List.length_append, List.length_append, List.length_append, sizeLine_eq]; show 1 + _ + 2 + _ + 2 ≤ _; omega
      refine ⟨_, rfl, a, _, _, _, rfl, rfl, SqT.of hA2, rfl, y, t', rfl, (ty.same sl).same s2, d2, by omega, by omega, fun H3 s3 => ?_⟩
      refine ⟨_, _, rfl, rfl, ?_, _, _, rfl, rfl, ?_, ?_⟩
      · rw [S_app, S_app, S_app, S_app, S_len, S_len, sizeLine_eq]; simp only [List.length_append, List.length_cons, List.length_nil]; omega
      · rw [S_app, S_app, S_app, S_app, S_app, S_len, S_len, sizeLine_eq]; simp only [List.length_append, List.length_cons, List.length_nil]; omega
      · rw [S_app, S_app, S_app, S_app, S_app, S_app]
        have e : [40] ++ prs tkF t ++ [41, 32] ++ s ++ [32, 40] ++ prs tkF t' ++ [41] = prs tkF (.op s t t') := by
          show _ = 40 :: (prs tkF t ++ 41 :: 32 :: (s ++ 32 :: 40 :: (prs tkF t' ++ [41])))
          simp
        rw [e]
        exact q H3 ((sl.trans s2).trans s3)
theorem ok_shown {f : Addr} {fd : FuncData} (F : L2.Fun K "_law_shown" "_law_shown" sShown f fd) (T : CTxt K mg CE) (m : mg "_law_shown" = some (.ref f)) (kf : PySem.W.keepIn K (.ref f) = true) (bf : Binds K fd ["tree"] []) : ∀ h, FnOk P w K mg base L2.CX0 (1 + h) f fd ["tree"] (spShown h)
  | 0 => fnok_never fun vs H Q E ⟨_, _, _, _, _, h, _⟩ => absurd h (Nat.not_lt_zero _)
  | h + 1 => ok_shown1 F T m kf bf (ok_shown F T m kf bf h)
end
end K09
namespace K09
open PySem L2 HK
theorem l_ne : ("!=" : Str) = S [33, 61] := by decide +kernel
theorem signs_strs : ([V.str "+", V.str "-", V.str "*", V.str "/", V.str "mod", V.str "<", V.str "<=", V.str ">", V.str ">=", V.str "==", V.str "!="] : List V) = tsv signs := by
  rw [l_pl, minus_S, l_ti, l_di, l_mo, l_lt, l_le, l_gt, l_ge, l_eq, l_ne]; rfl
theorem names_strs : ([V.str "x", V.str "y_1", V.str "Z"] : List V) = tsv [[120], [121, 95, 49], [90]] := by
  have h1 : ("x" : Str) = S [120] := by decide +kernel
  have h2 : ("y_1" : Str) = S [121, 95, 49] := by decide +kernel
  have h3 : ("Z" : Str) = S [90] := by decide +kernel
  rw [h1, h2, h3]; rfl
theorem at_tsv {l : List Wd} {r : Int} (h0 : 0 ≤ r) (h1 : r < (l.length : Int)) : ∃ u ∈ l, atI (tsv l) r = some (.str (S u)) := by
  obtain ⟨k, rfl⟩ : ∃ k : Nat, r = (k : Int) := ⟨r.toNat, by omega⟩
  have hk : k < l.length := by omega
  refine ⟨l[k], List.getElem_mem hk, atI_nat ?_⟩
  unfold tsv
  rw [List.getElem?_map, List.getElem?_eq_getElem hk]; rfl
theorem int_mem {r : Int} (h0 : 0 ≤ r) (h1 : r < 20) : ∃ n : Nat, r = (n : Int) ∧ Lf.int n ∈ Lfs := by
  refine ⟨r.toNat, by omega, List.mem_append_left _ (List.mem_map.mpr ⟨r.toNat, List.mem_range.mpr (by omega), rfl⟩)⟩
section
variable {P : Program} {w : World} {K : PySem.W.Frag} {mg : Str → Option Value} {base : Heap} {CE : Addr}
theorem scTree : FnScope ["dice", "deep", "sort", "sign"] ["dice", "deep"] (defScope sTree) := ⟨rfl, rfl, rfl, by decide +kernel, rfl, by decide +kernel, by decide +kernel⟩
theorem ok_tree1 {k h : Nat} {f fO : Addr} {fd fdO : FuncData} (hk : 1 ≤ k) (F : L2.Fun K "_law_tree" "_law_tree" sTree f fd) (m : mg "_law_tree" = some (.ref f)) (kf : PySem.W.keepIn K (.ref f) = true) (bf : Binds K fd ["dice", "deep"] [])
    (FO : FnOk P w K mg base L2.CX0 1 fO fdO ["dice", "many"] spRoll) (mO : mg "_law_roll" = some (.ref fO)) (kO : PySem.W.keepIn K (.ref fO) = true) (bO : Binds K fdO ["dice", "many"] [])
    (FT : FnOk P w K mg base L2.CX0 k f fd ["dice", "deep"] (spTree h)) : FnOk P w K mg base L2.CX0 (k + 1) f fd ["dice", "deep"] (spTree (h + 1)) := by
  have rO := FO.mono hk
  refine F.ok scTree (fun vs H Q E z => ?_) (fun cdv A outer s0 H vs Q E hr z => ?_)
  · obtain ⟨D, dc, deep, rfl, _⟩ := z
    rfl
  · obtain ⟨D, dc, deep, rfl, hD, hh, q⟩ := z
    refine ⟨_, pss_cons (ps_set (i := 2) scTree.nd rfl (Or.inl rfl) (pe_ifExp (pt_cmpR op_gt (pv 1) pe_int (nomark _)) (pe_call rO hr (by rfl) mO kO bO .nil pass0 (pa_cons (pv 0) (pa_cons pe_int pa_nil))) (pe_call rO hr (by rfl) mO kO bO .nil pass0 (pa_cons (pv 0) (pa_cons pe_int pa_nil)))))
      (pss_cons (ps_if (pt_cmpR op_lt (pv 2) pe_int (nomark _)) (pss_one (ps_ret (pe_ix ix_list (pe_lst (pa_cons
          (pe_tup (pa_cons pe_str (pa_cons (pe_ix ix_list (pe_lst (pa_cons (pe_call rO hr (by rfl) mO kO bO .nil pass0 (pa_cons (pv 0) (pa_cons pe_int pa_nil))) (pa_cons pe_int pa_nil))) (pe_call rO hr (by rfl) mO kO bO .nil pass0 (pa_cons (pv 0) (pa_cons pe_int pa_nil))) (fun _ _ => rfl)) pa_nil)))
          (pa_cons (pe_tup (pa_cons pe_str (pa_cons (pe_ix ix_list (pe_lst (pa_cons pe_str (pa_cons pe_str (pa_cons pe_str pa_nil)))) (pe_call rO hr (by rfl) mO kO bO .nil pass0 (pa_cons (pv 0) (pa_cons pe_int pa_nil))) (fun _ _ => rfl)) pa_nil))) pa_nil))) (pv 2) (fun _ _ => rfl)))) pss_nil)
      (pss_cons (ps_if (pt_cmpR op_eq (pv 2) pe_int (nomark _)) (pss_one (ps_ret (pe_tup (pa_cons pe_str (pa_cons (pe_call FT hr (by rfl) m kf bf .nil pass0 (pa_cons (pv 0) (pa_cons (pe_op op_sub (pv 1) pe_int) pa_nil))) pa_nil))))) pss_nil)
      (pss_cons (ps_set (i := 3) scTree.nd rfl (Or.inl rfl) (pe_ix ix_list (pe_lst (pa_cons pe_str (pa_cons pe_str (pa_cons pe_str (pa_cons pe_str (pa_cons pe_str (pa_cons pe_str (pa_cons pe_str (pa_cons pe_str (pa_cons pe_str (pa_cons pe_str (pa_cons pe_str pa_nil)))))))))))) (pe_call rO hr (by rfl) mO kO bO .nil pass0 (pa_cons (pv 0) (pa_cons pe_int pa_nil))) (fun _ _ => rfl)))
      (pss_one (ps_ret (pe_tup (pa_cons pe_str (pa_cons (pv 3) (pa_cons (pe_call FT hr (by rfl) m kf bf .nil pass0 (pa_cons (pv 0) (pa_cons (pe_op op_sub (pv 1) pe_int) pa_nil))) (pa_cons (pe_call FT hr (by rfl) m kf bf .nil pass0 (pa_cons (pv 0) (pa_cons (pe_op op_sub (pv 1) pe_int) pa_nil))) pa_nil)))))))))), ?_⟩
    -- the sort
    refine ⟨_, rfl, _, _, rfl, rfl, _, rfl, ite2 (fun c => ?A) (fun c => ?B)⟩
    case' A =>
      obtain ⟨a0, a1⟩ := roll_range dc (m := 6) (by decide)
      refine ⟨_, rfl, D, dc, 6, rfl, hD, by decide, by decide, ?_⟩
      have s1 : SameX D H (upd H D (.lst (roll dc 6).2.vs)) := SameX.upd
      have hD1 : (upd H D (.lst (roll dc 6).2.vs)) D = some (.lst (roll dc 6).2.vs) := upd_same
      generalize upd H D (.lst (roll dc 6).2.vs) = H1 at s1 hD1 ⊢
      generalize (roll dc 6).2 = dc1 at hD1
      generalize (roll dc 6).1 = so at a0 a1 ⊢
      have hp : 2 ≤ so → 0 < deep := fun _ => by have := of_decide_eq_true c; omega
      clear c
    case' B =>
      obtain ⟨a0, a1⟩ := roll_range dc (m := 2) (by decide)
      refine ⟨_, rfl, D, dc, 2, rfl, hD, by decide, by decide, ?_⟩
      have s1 : SameX D H (upd H D (.lst (roll dc 2).2.vs)) := SameX.upd
      have hD1 : (upd H D (.lst (roll dc 2).2.vs)) D = some (.lst (roll dc 2).2.vs) := upd_same
      generalize upd H D (.lst (roll dc 2).2.vs) = H1 at s1 hD1 ⊢
      generalize (roll dc 2).2 = dc1 at hD1
      generalize (roll dc 2).1 = so at a0 a1 ⊢
      have hp : 2 ≤ so → 0 < deep := fun z => by omega
      have a1 : so < 6 := by omega
      clear c
    all_goals
      refine ⟨_, rfl, _, _, rfl, rfl, _, rfl, ite2 (fun c1 => ?_) (fun c1 => ?_)⟩
      · have c1 : so < 2 := of_decide_eq_true c1
        obtain ⟨b0, b1⟩ := roll_range dc1 (m := 20) (by decide)
        refine ⟨_, rfl, D, dc1, 20, rfl, hD1, by decide, by decide, ?_⟩
        have s2 : SameX D H1 (upd H1 D (.lst (roll dc1 20).2.vs)) := SameX.upd
        have hD2 : (upd H1 D (.lst (roll dc1 20).2.vs)) D = some (.lst (roll dc1 20).2.vs) := upd_same
        generalize upd H1 D (.lst (roll dc1 20).2.vs) = H2 at s2 hD2 ⊢
        generalize (roll dc1 20).2 = dc2 at hD2
        generalize (roll dc1 20).1 = r20 at b0 b1 ⊢
        refine ⟨by show 2 ≤ sizeLine; decide, fun l nl0 => ?_⟩
        have s3 : Same H2 (upd H2 l (.lst [.int r20, .int 2147483647])) := same_upd nl0
        have hl : (upd H2 l (.lst [.int r20, .int 2147483647])) l = some (.lst [.int r20, .int 2147483647]) := upd_same
        have nlD : l ≠ D := fun e => by rw [e, hD2] at nl0; cases nl0
        generalize upd H2 l (.lst [.int r20, .int 2147483647]) = H3 at s3 hl ⊢
        have hD3 := s3 _ _ hD2
        obtain ⟨d0, d1⟩ := roll_range dc2 (m := 2) (by decide)
        refine ⟨_, rfl, D, dc2, 2, rfl, hD3, by decide, by decide, ?_⟩
        have s4 : SameX D H3 (upd H3 D (.lst (roll dc2 2).2.vs)) := SameX.upd
        have hD4 : (upd H3 D (.lst (roll dc2 2).2.vs)) D = some (.lst (roll dc2 2).2.vs) := upd_same
        have hl4 := s4 _ _ nlD hl
        generalize upd H3 D (.lst (roll dc2 2).2.vs) = H4 at s4 hD4 hl4 ⊢
        generalize (roll dc2 2).2 = dc3 at hD4
        generalize (roll dc2 2).1 = r2 at d0 d1 ⊢
        obtain ⟨n, en, hn⟩ : ∃ n : Nat, atI [V.int r20, .int 2147483647] r2 = some (.int (n : Int)) ∧ Lf.int n ∈ Lfs := by
          rcases (by omega : r2 = 0 ∨ r2 = 1) with e | e <;> rw [e]
          · obtain ⟨n, rfl, hm⟩ := int_mem b0 b1
            exact ⟨n, rfl, hm⟩
          · exact ⟨2147483647, rfl, by decide⟩
        refine ⟨l, _, _, _, rfl, rfl, SqL.of hl4, en, by show 2 ≤ sizeLine; decide, fun p np => ?_⟩
        have s5 : Same H4 (upd H4 p (.tup [.str "int", .int (n : Int)])) := same_upd np
        have hp5 : (upd H4 p (.tup [.str "int", .int (n : Int)])) p = some (.tup [.str "int", .int (n : Int)]) := upd_same
        generalize upd H4 p (.tup [.str "int", .int (n : Int)]) = H5 at s5 hp5 ⊢
        have hD5 := s5 _ _ hD4
        have npD : p ≠ D := fun e => by rw [e, hD5] at hp5; cases hp5
        refine ⟨by show 3 ≤ sizeLine; decide, fun l2 nl2 => ?_⟩
        rw [names_strs]
        have s6 : Same H5 (upd H5 l2 (.lst (tsv [[120], [121, 95, 49], [90]]))) := same_upd nl2
        have hl6 : (upd H5 l2 (.lst (tsv [[120], [121, 95, 49], [90]]))) l2 = some (.lst (tsv [[120], [121, 95, 49], [90]])) := upd_same
        have nl2D : l2 ≠ D := fun e => by rw [e, hD5] at nl2; cases nl2
        generalize upd H5 l2 (.lst (tsv [[120], [121, 95, 49], [90]])) = H6 at s6 hl6 ⊢
        have hD6 := s6 _ _ hD5
        have hp6 := s6 _ _ hp5
        obtain ⟨e0, e1⟩ := roll_range dc3 (m := 3) (by decide)
        refine ⟨_, rfl, D, dc3, 3, rfl, hD6, by decide, by decide, ?_⟩
        have s7 : SameX D H6 (upd H6 D (.lst (roll dc3 3).2.vs)) := SameX.upd
        have hD7 : (upd H6 D (.lst (roll dc3 3).2.vs)) D = some (.lst (roll dc3 3).2.vs) := upd_same
        have hl7 := s7 _ _ nl2D hl6
        have hp7 := s7 _ _ npD hp6
        generalize upd H6 D (.lst (roll dc3 3).2.vs) = H7 at s7 hD7 hl7 hp7 ⊢
        generalize (roll dc3 3).2 = dc4 at hD7
        generalize (roll dc3 3).1 = r3 at e0 e1 ⊢
        obtain ⟨u, hu, eu⟩ := at_tsv (l := [[120], [121, 95, 49], [90]]) e0 (by show r3 < ((3 : Nat) : Int); omega)
        have um : Lf.name u ∈ Lfs := by
          simp only [List.mem_cons, List.not_mem_nil, or_false] at hu
          rcases hu with rfl | rfl | rfl <;> decide
        refine ⟨l2, _, _, _, rfl, rfl, SqL.of hl7, eu, by show 2 ≤ sizeLine; decide, fun p2 np2 => ?_⟩
        have s8 : Same H7 (upd H7 p2 (.tup [.str "name", .str (S u)])) := same_upd np2
        have hq8 : (upd H7 p2 (.tup [.str "name", .str (S u)])) p2 = some (.tup [.str "name", .str (S u)]) := upd_same
        generalize upd H7 p2 (.tup [.str "name", .str (S u)]) = H8 at s8 hq8 ⊢
        refine ⟨by show 2 ≤ sizeLine; decide, fun l3 nl3 => ?_⟩
        have s9 : Same H8 (upd H8 l3 (.lst [.ref p, .ref p2])) := same_upd nl3
        have hl9 : (upd H8 l3 (.lst [.ref p, .ref p2])) l3 = some (.lst [.ref p, .ref p2]) := upd_same
        generalize upd H8 l3 (.lst [.ref p, .ref p2]) = H9 at s9 hl9 ⊢
        have s79 := s8.trans s9
        have hp9 := s79 _ _ hp7
        have hq9 := s9 _ _ hq8
        have hD9 := s79 _ _ hD7
        have s09 : SameX D H H9 := (((((s1.trans s2).trans (SameX.of s3)).trans s4).trans (SameX.of (s5.trans s6))).trans s7).trans (SameX.of s79)
        rcases (by omega : so = 0 ∨ so = 1) with e | e
        · exact ⟨_, rfl, l3, _, so, .ref p, rfl, rfl, SqL.of hl9, by rw [e]; rfl, q (.ref p) (.lf (.int n)) dc4 H9 s09 hD9 ⟨p, rfl, hp9⟩ hn (Nat.zero_le _)⟩
        · exact ⟨_, rfl, l3, _, so, .ref p2, rfl, rfl, SqL.of hl9, by rw [e]; rfl, q (.ref p2) (.lf (.name u)) dc4 H9 s09 hD9 ⟨p2, rfl, hq9⟩ um (Nat.zero_le _)⟩
      · have c1 : 2 ≤ so := by
          have : ¬ so < 2 := fun z => c1 (decide_eq_true z)
          omega
        have dp := hp c1
        have ed : ((deep : Int) - 1) = ((deep - 1 : Nat) : Int) := by omega
        refine ⟨_, rfl, rfl, _, rfl, ite2 (fun c2 => ?_) (fun c2 => ?_)⟩
        · refine ⟨_, rfl, _, rfl, _, _, rfl, rfl, D, dc1, deep - 1, by dsimp only; rw [ed]; rfl, hD1, by omega, fun v t dc2 H2 s2 hD2 ta dt hht => ⟨by show 2 ≤ sizeLine; decide, fun p np => ?_⟩⟩
          have s3 : Same H2 (upd H2 p (.tup [.str "neg", v])) := same_upd np
          exact q (.ref p) (.neg t) dc2 _ ((s1.trans s2).trans (SameX.of s3)) (s3 _ _ hD2) ⟨p, v, rfl, upd_same, ta.same s3⟩ dt (by show ht t + 1 ≤ deep; omega)
        · refine ⟨by show 11 ≤ sizeLine; decide, fun l nl0 => ?_⟩
          rw [signs_strs]
          have s2 : Same H1 (upd H1 l (.lst (tsv signs))) := same_upd nl0
          have hl : (upd H1 l (.lst (tsv signs))) l = some (.lst (tsv signs)) := upd_same
          generalize upd H1 l (.lst (tsv signs)) = H2 at s2 hl ⊢
          have hD2 := s2 _ _ hD1
          have nlD : l ≠ D := fun e => by rw [e, hD2] at hl; have := HO.lst.inj (Option.some.inj hl); cases this
          obtain ⟨b0, b1⟩ := roll_range dc1 (m := 11) (by decide)
          refine ⟨_, rfl, D, dc1, 11, rfl, hD2, by decide, by decide, ?_⟩
          have s3 : SameX D H2 (upd H2 D (.lst (roll dc1 11).2.vs)) := SameX.upd
          have hl3 := s3 _ _ nlD hl
          have hD3 : (upd H2 D (.lst (roll dc1 11).2.vs)) D = some (.lst (roll dc1 11).2.vs) := upd_same
          generalize upd H2 D (.lst (roll dc1 11).2.vs) = H3 at s3 hl3 hD3 ⊢
          generalize (roll dc1 11).2 = dc2 at hD3
          generalize (roll dc1 11).1 = sg at b0 b1 ⊢
          obtain ⟨s, hs, es⟩ := at_tsv (l := signs) b0 (by show sg < ((11 : Nat) : Int); omega)
          have s03 := (s1.trans (SameX.of s2)).trans s3
          refine ⟨l, _, _, _, rfl, rfl, SqL.of hl3, es, ?_⟩
          refine ⟨_, rfl, _, rfl, _, rfl, _, _, rfl, rfl, D, dc2, deep - 1, by dsimp only; rw [ed]; rfl, hD3, by omega, fun v t dc3 H4 s4 hD4 ta dt hht => ?_⟩
          refine ⟨_, rfl, _, rfl, _, _, rfl, rfl, D, dc3, deep - 1, by dsimp only; rw [ed]; rfl, hD4, by omega, fun v' t' dc4 H5 s5 hD5 ta' dt' hht' => ⟨by show 4 ≤ sizeLine; decide, fun p np => ?_⟩⟩
          have s6 : Same H5 (upd H5 p (.tup [.str "op", .str (S s), v, v'])) := same_upd np
          have nD : ∀ xs, H4 D ≠ some (.tup xs) := fun xs e => by rw [hD4] at e; cases e
          exact q (.ref p) (.op s t t') dc4 _ (((s03.trans s4).trans s5).trans (SameX.of s6)) (s6 _ _ hD5) ⟨p, v, v', rfl, upd_same, (ta.sameX nD s5).same s6, ta'.same s6⟩ ⟨hs, dt, dt'⟩ (by show max (ht t) (ht t') + 1 ≤ deep; omega)
theorem ok_tree {f fO : Addr} {fd fdO : FuncData} (F : L2.Fun K "_law_tree" "_law_tree" sTree f fd) (m : mg "_law_tree" = some (.ref f)) (kf : PySem.W.keepIn K (.ref f) = true) (bf : Binds K fd ["dice", "deep"] [])
    (FO : FnOk P w K mg base L2.CX0 1 fO fdO ["dice", "many"] spRoll) (mO : mg "_law_roll" = some (.ref fO)) (kO : PySem.W.keepIn K (.ref fO) = true) (bO : Binds K fdO ["dice", "many"] []) : ∀ h, FnOk P w K mg base L2.CX0 (1 + h) f fd ["dice", "deep"] (spTree h)
  | 0 => fnok_never fun vs H Q E ⟨_, _, _, _, _, h, _⟩ => absurd h (Nat.not_lt_zero _)
  | h + 1 => ok_tree1 (k := 1 + h) (by omega) F m kf bf FO mO kO bO (ok_tree F m kf bf FO mO kO bO h)
end
end K09
namespace K09
open PySem L2 HK
theorem fmod_in {a b : Int} (hb : b ≠ 0) (h : In32 b) : In32 (a.fmod b) := by
  have e := Int.fmod_eq_emod (a := a) (b := b)
  have h0 := Int.emod_nonneg a hb
  have h1 : a % b < b ∨ a % b < -b := by
    rcases (by omega : 0 < b ∨ 0 < -b) with c | c
    · exact .inl (Int.emod_lt_of_pos a c)
    · exact .inr (by have := Int.emod_lt_of_pos a c; rw [Int.emod_neg] at this; exact this)
  unfold In32 at *
  generalize a % b = r at *
  split at e <;> omega
theorem mod_is {a b : Int} : a - a.fdiv b * b = a.fmod b := by
  rw [Int.fmod_def, Int.mul_comm]
theorem fdiv_in {a b : Int} (ha : In32 a) (hb : In32 b) (h0 : b ≠ 0) : -(2 ^ 64) < a.fdiv b ∧ a.fdiv b < 2 ^ 64 := by
  have e : b * a.fdiv b + a.fmod b = a := Int.mul_fdiv_add_fmod a b
  have hm := fmod_in (a := a) h0 hb
  unfold In32 at *
  have key : ∀ q : Int, b * q + a.fmod b = a → -(2 ^ 64) < q ∧ q < 2 ^ 64 := fun q hq => by
    have hq2 : (b * q).natAbs ≤ 4294967296 := by omega
    rw [Int.natAbs_mul] at hq2
    have h1 : 1 ≤ b.natAbs := by omega
    have : q.natAbs ≤ b.natAbs * q.natAbs := Nat.le_mul_of_pos_left _ h1
    omega
  exact key _ e
/-- nothing is put twice -/
theorem merge_id : ∀ (l acc : List (Key × V)), (acc ++ l).Pairwise (fun a b => a.1 ≠ b.1) → mergeK acc l = acc ++ l
  | [], acc, _ => by rw [List.append_nil]; rfl
  | x :: l, acc, h => by
    have hn : valV acc x.1 = none := by
      have h1 : ∀ a ∈ acc, a.1 ≠ x.1 := fun a ha => (List.pairwise_append.mp h).2.2 a ha x (by simp)
      clear h
      induction acc with
      | nil => rfl
      | cons a acc ih => rw [valV_neg (h1 a (by simp))]; exact ih fun b hb => h1 b (by simp [hb])
    show mergeK (putK acc x.1 x.2) l = _
    rw [putK_new _ hn, merge_id l _ (by simpa using h)]
    simp
def NamesAt (H : Hp) (nv : Addr) (env : Wd → Int) : Prop := ∃ kvs, H nv = some (.dK kvs) ∧ ∀ u, Lf.name u ∈ Lfs → In32 (env u) ∧ (valV kvs (.inr (S u))).getD (.int 0) = .int (env u)
theorem NamesAt.same {H H' : Hp} {dv : Addr} {env : Wd → Int} (h : NamesAt H dv env) (e : Same H H') : NamesAt H' dv env := by
  obtain ⟨kvs, h1, h2⟩ := h
  exact ⟨kvs, e _ _ h1, h2⟩
def spLVal (h : Nat) : Sp := fun vs H Q _ => ∃ (v : V) (t : Tr) (nv : Addr) (env : Wd → Int), vs = [v, .ref nv] ∧ TAt H t v ∧ Drawn t ∧ ht t < h ∧ NamesAt H nv env ∧ ∀ H', Same H H' → Q (.int (valM env t)) H'
section
variable {P : Program} {w : World} {K : PySem.W.Frag} {mg : Str → Option Value} {base : Heap} {CE : Addr}
theorem scLVal : FnScope ["tree", "names", "sign", "one", "other"] ["tree", "names"] (defScope sLVal) := ⟨rfl, rfl, rfl, by decide +kernel, rfl, by decide +kernel, by decide +kernel⟩
theorem ok_lval1 {k h : Nat} {f fW : Addr} {fd fdW : FuncData} (hk : 1 ≤ k) (F : L2.Fun K "_law_value" "_law_value" sLVal f fd) (T : CTxt K mg CE) (m : mg "_law_value" = some (.ref f)) (kf : PySem.W.keepIn K (.ref f) = true) (bf : Binds K fd ["tree", "names"] [])
    (FW : FnOk P w K mg base L2.CX0 1 fW fdW ["number"] (spInt1 wr)) (mW : mg "_law_wrapped" = some (.ref fW)) (kW : PySem.W.keepIn K (.ref fW) = true) (bW : Binds K fdW ["number"] [])
    (FV : FnOk P w K mg base L2.CX0 k f fd ["tree", "names"] (spLVal h)) : FnOk P w K mg base L2.CX0 (k + 1) f fd ["tree", "names"] (spLVal (h + 1)) := by
  have rW := FW.mono hk
  refine F.ok scLVal (fun vs H Q E z => ?_) (fun cdv A outer s0 H vs Q E hr z => ?_)
  · obtain ⟨v, t, dv, env, rfl, _⟩ := z
    rfl
  · obtain ⟨v, t, dv, env, rfl, ta, dt, hh, va, q⟩ := z
    refine ⟨_, pss_cons (ps_if (pt_cmpR op_eq (pe_ix ix_tup (pv 0) pe_int (fun _ _ => rfl)) pe_str (nomark _)) (pss_one (ps_ret (pe_ix ix_tup (pv 0) pe_int (fun _ _ => rfl)))) pss_nil)
      (pss_cons (ps_if (pt_cmpR op_eq (pe_ix ix_tup (pv 0) pe_int (fun _ _ => rfl)) pe_str (nomark _)) (pss_one (ps_ret (pe_dget2 (hu_of hr) (pv 1) (pe_ix ix_tup (pv 0) pe_int (fun _ _ => rfl)) pe_int ⟨rfl, rfl, rfl, rfl⟩))) pss_nil)
      (pss_cons (ps_if (pt_cmpR op_eq (pe_ix ix_tup (pv 0) pe_int (fun _ _ => rfl)) pe_str (nomark _)) (pss_one (ps_ret (pe_call rW hr (by rfl) mW kW bW .nil pass0 (pa_cons (pe_op op_sub pe_int (pe_call FV hr (by rfl) m kf bf .nil pass0 (pa_cons (pe_ix ix_tup (pv 0) pe_int (fun _ _ => rfl)) (pa_cons (pv 1) pa_nil)))) pa_nil)))) pss_nil)
      (pss_cons (ps_par3 (i := 2) (j := 3) (l := 4) rfl scLVal.nd rfl rfl rfl (by decide) (by decide) (by decide) rfl rfl rfl (pa_cons (pe_ix ix_tup (pv 0) pe_int (fun _ _ => rfl)) (pa_cons (pe_call FV hr (by rfl) m kf bf .nil pass0 (pa_cons (pe_ix ix_tup (pv 0) pe_int (fun _ _ => rfl)) (pa_cons (pv 1) pa_nil)))
          (pa_cons (pe_call FV hr (by rfl) m kf bf .nil pass0 (pa_cons (pe_ix ix_tup (pv 0) pe_int (fun _ _ => rfl)) (pa_cons (pv 1) pa_nil))) pa_nil))) (by rfl))
      (pss_cons (ps_if (pt_cmpR op_in_seq (pv 2) (pe_lst (pa_cons pe_str (pa_cons pe_str pa_nil))) (by rfl)) (pss_one (ps_ret (pe_ifExp (pt_cmpR op_eq (pv 4) pe_int (nomark _)) pe_int
          (pe_ifExp (pt_cmpR op_eq (pv 2) pe_str (nomark _)) (pe_call rW hr (by rfl) mW kW bW .nil pass0 (pa_cons (pe_op op_fdivNW (pv 3) (pv 4)) pa_nil)) (pe_op op_sub (pv 3) (pe_op op_mul (pe_op op_fdivNW (pv 3) (pv 4)) (pv 4))))))) pss_nil)
      (pss_one (ps_ret (pe_dget (hu_of hr) (pe_disp (pps_cons pe_str (pe_call rW hr (by rfl) mW kW bW .nil pass0 (pa_cons (pe_op op_add (pv 3) (pv 4)) pa_nil)) (pps_cons pe_str (pe_call rW hr (by rfl) mW kW bW .nil pass0 (pa_cons (pe_op op_sub (pv 3) (pv 4)) pa_nil))
          (pps_cons pe_str (pe_call rW hr (by rfl) mW kW bW .nil pass0 (pa_cons (pe_op op_mul (pv 3) (pv 4)) pa_nil))
          (pps_cons pe_str (pe_callTy call_int1 (by rfl) T.int PyProof.Rows.Boot.«int» (pa_cons (pe_cmpR op_lt (pv 3) (pv 4) (nomark _)) pa_nil)) (pps_cons pe_str (pe_callTy call_int1 (by rfl) T.int PyProof.Rows.Boot.«int» (pa_cons (pe_cmpR op_le (pv 3) (pv 4) (nomark _)) pa_nil))
          (pps_cons pe_str (pe_callTy call_int1 (by rfl) T.int PyProof.Rows.Boot.«int» (pa_cons (pe_cmpR op_gt (pv 3) (pv 4) (nomark _)) pa_nil)) (pps_cons pe_str (pe_callTy call_int1 (by rfl) T.int PyProof.Rows.Boot.«int» (pa_cons (pe_cmpR op_ge (pv 3) (pv 4) (nomark _)) pa_nil))
          (pps_cons pe_str (pe_callTy call_int1 (by rfl) T.int PyProof.Rows.Boot.«int» (pa_cons (pe_cmpR op_eq (pv 3) (pv 4) (nomark _)) pa_nil)) (pps_cons pe_str (pe_callTy call_int1 (by rfl) T.int PyProof.Rows.Boot.«int» (pa_cons (pe_cmpR op_ne (pv 3) (pv 4) (nomark _)) pa_nil)) pps_nil)))))))))
          (by rfl) (by rfl) (fun z => by cases z) (by decide)) (pv 2) (fun _ _ => rfl)))))))), ?_⟩
    cases t with
    | lf x =>
      cases x with
      | int n =>
        obtain ⟨a, rfl, hA⟩ := ta
        exact ⟨_, rfl, a, _, _, _, rfl, rfl, SqT.of hA, rfl, rfl, _, rfl, iteT ⟨_, rfl, a, _, _, _, rfl, rfl, SqT.of hA, rfl, q H fun _ _ h => h⟩⟩
      | name u =>
        obtain ⟨a, rfl, hA⟩ := ta
        obtain ⟨kvs, hd, hv⟩ := va
        obtain ⟨_, h1⟩ := hv u dt
        have q0 := q H fun _ _ h => h
        have e : V.int (valM env (.lf (.name u))) = (valV kvs (.inr (S u))).getD (.int 0) := h1.symm
        rw [e] at q0
        refine ⟨_, rfl, a, _, _, _, rfl, rfl, SqT.of hA, rfl, rfl, _, rfl, iteF ?_⟩
        refine ⟨_, rfl, a, _, _, _, rfl, rfl, SqT.of hA, rfl, rfl, _, rfl, iteT ?_⟩
        exact ⟨_, rfl, dv, rfl, .inl ⟨kvs, .inl hd⟩, _, rfl, a, _, _, _, rfl, rfl, SqT.of hA, rfl, _, .inl ⟨kvs, .inr (S u), .inl hd, rfl, rfl⟩, q0⟩
    | neg t =>
      obtain ⟨a, x, rfl, hA, tx⟩ := ta
      have hh : ht t + 1 < h + 1 := hh
      refine ⟨_, rfl, a, _, _, _, rfl, rfl, SqT.of hA, rfl, rfl, _, rfl, iteF ?_⟩
      refine ⟨_, rfl, a, _, _, _, rfl, rfl, SqT.of hA, rfl, rfl, _, rfl, iteF ?_⟩
      refine ⟨_, rfl, a, _, _, _, rfl, rfl, SqT.of hA, rfl, rfl, _, rfl, iteT ?_⟩
      refine ⟨_, rfl, a, _, _, _, rfl, rfl, SqT.of hA, rfl, _, rfl, x, t, dv, env, rfl, tx, dt, by omega, va, fun H1 s1 => ⟨_, _, rfl, rfl, _, rfl, ?_⟩⟩
      dsimp only
      rw [Int.zero_sub]
      exact q H1 s1
    | op s t t' =>
      obtain ⟨a, x, y, rfl, hA, tx, ty⟩ := ta
      obtain ⟨ds, d1, d2⟩ := dt
      have hh : max (ht t) (ht t') + 1 < h + 1 := hh
      have he : ∀ u, Lf.name u ∈ Lfs → In32 (env u) := fun u hu => by obtain ⟨kvs, _, h2⟩ := va; exact (h2 u hu).1
      have ha := val_in he d1
      have hb := val_in he d2
      have q : ∀ H', Same H H' → Q (.int (wr (signM s (valM env t) (valM env t')))) H' := q
      refine ⟨_, rfl, a, _, _, _, rfl, rfl, SqT.of hA, rfl, rfl, _, rfl, iteF ?_⟩
      refine ⟨_, rfl, a, _, _, _, rfl, rfl, SqT.of hA, rfl, rfl, _, rfl, iteF ?_⟩
      refine ⟨_, rfl, a, _, _, _, rfl, rfl, SqT.of hA, rfl, rfl, _, rfl, iteF ?_⟩
      refine ⟨_, rfl, a, _, _, _, rfl, rfl, SqT.of hA, rfl, _, rfl, a, _, _, _, rfl, rfl, SqT.of hA, rfl, _, rfl, x, t, dv, env, rfl, tx, d1, by omega, va, fun H1 s1 => ?_⟩
      have hA1 := s1 _ _ hA
      refine ⟨_, rfl, a, _, _, _, rfl, rfl, SqT.of hA1, rfl, _, rfl, y, t', dv, env, rfl, ty.same s1, d2, by omega, va.same s1, fun H2 s2 => ?_⟩
      generalize valM env t = m1 at ha q ⊢
      generalize valM env t' = m2 at hb q ⊢
      refine ⟨_, _, _, rfl, ?_⟩
      refine ⟨_, rfl, by show 2 ≤ sizeLine; decide, fun l nl0 => ?_⟩
      have s3 : Same H2 (upd H2 l (.lst [.str "/", .str "mod"])) := same_upd nl0
      have hl : (upd H2 l (.lst [.str "/", .str "mod"])) l = some (.lst [.str "/", .str "mod"]) := upd_same
      generalize upd H2 l (.lst [.str "/", .str "mod"]) = H3 at s3 hl ⊢
      have s03 := (s1.trans s2).trans s3
      refine ⟨_, _, rfl, .inl (SqL.of hl), rfl, rfl, ?_⟩
      show ∃ k, V.bl (inV (.str (S s)) [.str "/", .str "mod"]) = V.bl k ∧ _
      rw [divs_strs, inV_S]
      by_cases c4 : s ∈ [[47], [109, 111, 100]]
      · rw [decide_eq_true c4]
        have c4 : s = [47] ∨ s = [109, 111, 100] := by simpa using c4
        have q3 := q H3 s03
        refine ⟨_, rfl, iteT ⟨_, rfl, rfl, _, rfl, ite2 (fun c => ?_) (fun c => ?_)⟩⟩
        · have c : m2 = 0 := V.int.inj (of_decide_eq_true c)
          have e : signM s m1 m2 = 0 := by
            rcases c4 with rfl | rfl
            · unfold signM; rw [if_neg (by decide), if_neg (by decide), if_neg (by decide), if_pos rfl, if_pos c]
            · unfold signM; rw [if_neg (by decide), if_neg (by decide), if_neg (by decide), if_neg (by decide), if_pos rfl, if_pos c]
          rw [e, wr_id (by unfold In32; omega)] at q3
          exact q3
        have c : m2 ≠ 0 := fun z => c (decide_eq_true (by rw [z]))
        refine ⟨_, rfl, rfl, _, rfl, ?_⟩
        rw [l_di, S_dec]
        rcases c4 with rfl | rfl
        · have e : signM [47] m1 m2 = m1.fdiv m2 := by unfold signM; rw [if_neg (by decide), if_neg (by decide), if_neg (by decide), if_pos rfl, if_neg c]
          rw [e] at q3
          exact iteT ⟨_, rfl, _, rfl, _, _, rfl, rfl, ⟨c, log_32 hb⟩, _, rfl, q3⟩
        · have e : signM [109, 111, 100] m1 m2 = m1.fmod m2 := by unfold signM; rw [if_neg (by decide), if_neg (by decide), if_neg (by decide), if_neg (by decide), if_pos rfl, if_neg c]
          rw [e, wr_id (fmod_in c hb), ← mod_is] at q3
          exact iteF ⟨_, rfl, _, rfl, _, rfl, _, _, rfl, rfl, ⟨c, log_32 hb⟩, _, rfl, _, _, rfl, rfl, .inl (fdiv_in ha hb c), _, _, rfl, rfl, q3⟩
      · rw [decide_eq_false c4]
        have c4 : s ≠ [47] ∧ s ≠ [109, 111, 100] := by simpa using c4
        refine ⟨_, rfl, iteF ?_⟩
        refine fun p np => ?_
        have big : -(2 ^ 64) < m1 ∧ m1 < 2 ^ 64 := by unfold In32 at ha; omega
        refine ⟨_, rfl, _, rfl, _, _, rfl, rfl, _, rfl, _, rfl, _, rfl, _, _, rfl, rfl, _, rfl, _, rfl, _, rfl, _, _, rfl, rfl, .inl big, _, rfl,
          _, rfl, _, rfl, _, _, rfl, rfl, .inr ⟨_, rfl, _, rfl, _, rfl, _, _, rfl, rfl, .inr ⟨_, rfl, _, rfl, _, rfl, _, _, rfl, rfl, .inr ⟨_, rfl, _, rfl, _, rfl, _, _, rfl, rfl, .inr ⟨_, rfl,
          _, rfl, _, rfl, rfl, .inr ⟨_, rfl, _, rfl, _, rfl, rfl, .inr ⟨_, rfl, ?_⟩⟩⟩⟩⟩⟩⟩
        refine ⟨upd_same, [(.inr "+", .int (wr (m1 + m2))), (.inr "-", .int (wr (m1 - m2))), (.inr "*", .int (wr (m1 * m2))), (.inr "<", .int (if decide (m1 < m2) = true then 1 else 0)), (.inr "<=", .int (if decide (m1 ≤ m2) = true then 1 else 0)),
          (.inr ">", .int (if decide (m1 > m2) = true then 1 else 0)), (.inr ">=", .int (if decide (m1 ≥ m2) = true then 1 else 0)), (.inr "==", .int (if decide (V.int m1 = V.int m2) = true then 1 else 0)), (.inr "!=", .int (if (!decide (V.int m1 = V.int m2)) = true then 1 else 0))], rfl, by show 9 ≤ 15; decide, ?_⟩
        obtain ⟨kvs9, h9⟩ : ∃ l : List (Key × V), l = [(.inr "+", .int (wr (m1 + m2))), (.inr "-", .int (wr (m1 - m2))), (.inr "*", .int (wr (m1 * m2))), (.inr "<", .int (if decide (m1 < m2) = true then 1 else 0)), (.inr "<=", .int (if decide (m1 ≤ m2) = true then 1 else 0)),
          (.inr ">", .int (if decide (m1 > m2) = true then 1 else 0)), (.inr ">=", .int (if decide (m1 ≥ m2) = true then 1 else 0)), (.inr "==", .int (if decide (V.int m1 = V.int m2) = true then 1 else 0)), (.inr "!=", .int (if (!decide (V.int m1 = V.int m2)) = true then 1 else 0))] := ⟨_, rfl⟩
        rw [← h9]
        have pw : kvs9.Pairwise (fun a b => a.1 ≠ b.1) := by
          have : (kvs9.map (·.1)).Pairwise (· ≠ ·) := by
            rw [h9]
            show ([.inr "+", .inr "-", .inr "*", .inr "<", .inr "<=", .inr ">", .inr ">=", .inr "==", .inr "!="] : List Key).Pairwise (· ≠ ·)
            decide +kernel
          exact List.pairwise_map.mp this
        rw [merge_id kvs9 [] pw, List.nil_append]
        have hv : valV kvs9 (.inr (S s)) = some (.int (wr (signM s m1 m2))) := by
          rw [h9]
          have one : ∀ b : Bool, wr (if b = true then 1 else 0) = if b = true then 1 else 0 := fun b => wr_id (by unfold In32; cases b <;> decide)
          have ei : decide (V.int m1 = V.int m2) = decide (m1 = m2) := by
            by_cases h : m1 = m2
            · rw [h]; simp
            · rw [decide_eq_false h, decide_eq_false (fun e => h (V.int.inj e))]
          simp only [signs, List.mem_cons, List.not_mem_nil, or_false] at ds
          rcases ds with rfl | rfl | rfl | rfl | rfl | rfl | rfl | rfl | rfl | rfl | rfl
          · rw [← l_pl]; exact valV_pos rfl
          · rw [← minus_S]
            rw [valV_neg (by dsimp only; decide +kernel)]; exact valV_pos rfl
          · rw [← l_ti]
            rw [valV_neg (by dsimp only; decide +kernel), valV_neg (by dsimp only; decide +kernel)]; exact valV_pos rfl
          · exact absurd rfl c4.1
          · exact absurd rfl c4.2
          · have e : signM [60] m1 m2 = if decide (m1 < m2) = true then 1 else 0 := rfl
            rw [e, one, ← l_lt]
            rw [valV_neg (by dsimp only; decide +kernel), valV_neg (by dsimp only; decide +kernel), valV_neg (by dsimp only; decide +kernel)]; exact valV_pos rfl
          · have e : signM [60, 61] m1 m2 = if decide (m1 ≤ m2) = true then 1 else 0 := rfl
            rw [e, one, ← l_le]
            rw [valV_neg (by dsimp only; decide +kernel), valV_neg (by dsimp only; decide +kernel), valV_neg (by dsimp only; decide +kernel), valV_neg (by dsimp only; decide +kernel)]; exact valV_pos rfl
          · have e : signM [62] m1 m2 = if decide (m1 > m2) = true then 1 else 0 := rfl
            rw [e, one, ← l_gt]
            rw [valV_neg (by dsimp only; decide +kernel), valV_neg (by dsimp only; decide +kernel), valV_neg (by dsimp only; decide +kernel), valV_neg (by dsimp only; decide +kernel), valV_neg (by dsimp only; decide +kernel)]; exact valV_pos rfl
          · have e : signM [62, 61] m1 m2 = if decide (m1 ≥ m2) = true then 1 else 0 := rfl
            rw [e, one, ← l_ge]
            rw [valV_neg (by dsimp only; decide +kernel), valV_neg (by dsimp only; decide +kernel), valV_neg (by dsimp only; decide +kernel), valV_neg (by dsimp only; decide +kernel), valV_neg (by dsimp only; decide +kernel), valV_neg (by dsimp only; decide +kernel)]; exact valV_pos rfl
          · have e : signM [61, 61] m1 m2 = if decide (V.int m1 = V.int m2) = true then 1 else 0 := by rw [ei]; rfl
            rw [e, one, ← l_eq]
            rw [valV_neg (by dsimp only; decide +kernel), valV_neg (by dsimp only; decide +kernel), valV_neg (by dsimp only; decide +kernel), valV_neg (by dsimp only; decide +kernel), valV_neg (by dsimp only; decide +kernel), valV_neg (by dsimp only; decide +kernel), valV_neg (by dsimp only; decide +kernel)]; exact valV_pos rfl
          · have e : signM [33, 61] m1 m2 = if (!decide (V.int m1 = V.int m2)) = true then 1 else 0 := by rw [ei]; rfl
            rw [e, one, ← l_ne]
            rw [valV_neg (by dsimp only; decide +kernel), valV_neg (by dsimp only; decide +kernel), valV_neg (by dsimp only; decide +kernel), valV_neg (by dsimp only; decide +kernel), valV_neg (by dsimp only; decide +kernel), valV_neg (by dsimp only; decide +kernel), valV_neg (by dsimp only; decide +kernel), valV_neg (by dsimp only; decide +kernel)]; exact valV_pos rfl
        rw [upd_upd]
        refine ⟨_, rfl, p, _, rfl, .inl ⟨kvs9, .inr (S s), .inl upd_same, rfl, hv.symm⟩, q _ (s03.trans (same_upd np))⟩
theorem ok_lval {f fW : Addr} {fd fdW : FuncData} (F : L2.Fun K "_law_value" "_law_value" sLVal f fd) (T : CTxt K mg CE) (m : mg "_law_value" = some (.ref f)) (kf : PySem.W.keepIn K (.ref f) = true) (bf : Binds K fd ["tree", "names"] [])
    (FW : FnOk P w K mg base L2.CX0 1 fW fdW ["number"] (spInt1 wr)) (mW : mg "_law_wrapped" = some (.ref fW)) (kW : PySem.W.keepIn K (.ref fW) = true) (bW : Binds K fdW ["number"] []) : ∀ h, FnOk P w K mg base L2.CX0 (1 + h) f fd ["tree", "names"] (spLVal h)
  | 0 => fnok_never fun vs H Q E ⟨_, _, _, _, _, _, _, h, _⟩ => absurd h (Nat.not_lt_zero _)
  | h + 1 => ok_lval1 (k := 1 + h) (by omega) F T m kf bf FW mW kW bW (ok_lval F T m kf bf FW mW kW bW h)
end
end K09
namespace K09
open PySem L2 HK
def spLess : Sp := fun vs H Q _ => ∃ (a m c : List Nat), vs = [.str (S (a ++ 40 :: (m ++ 41 :: c))), .int (a.length : Int)] ∧ (a ++ 40 :: (m ++ 41 :: c)).length ≤ 100000 ∧ 1 + dp m = 1 ∧ (∀ p q, m = p ++ q → 1 ≤ 1 + dp p) ∧ Q (.str (S (a ++ 32 :: (m ++ 32 :: c)))) H
theorem dp_one (x : Nat) : dp [x] = (if decide ([x] = [40]) = true then (1 : Int) else 0) - (if decide ([x] = [41]) = true then (1 : Int) else 0) := by
  by_cases h1 : x = 40
  · rw [h1]; decide
  · by_cases h2 : x = 41
    · rw [h2]; decide
    · unfold dp
      rw [List.count_eq_zero.mpr (by simpa using Ne.symm h1), List.count_eq_zero.mpr (by simpa using Ne.symm h2)]
      simp [h1, h2]
theorem dp_take {l : List Nat} {i x : Nat} (h : l[i]? = some x) : dp (l.take (i + 1)) = dp (l.take i) + dp [x] := by
  rw [List.take_add_one, h, dp_app]; rfl
section
variable {P : Program} {w : World} {K : PySem.W.Frag} {mg : Str → Option Value} {base : Heap} {CE : Addr}
theorem scLess : FnScope ["text", "place", "deep", "k"] ["text", "place"] (defScope sLess) := ⟨rfl, rfl, rfl, by decide +kernel, rfl, by decide +kernel, by decide +kernel⟩
theorem ok_less {f : Addr} {fd : FuncData} (F : L2.Fun K "_law_less" "_law_less" sLess f fd) (T : CTxt K mg CE) (mR : mg "range" = none) : FnOk P w K mg base L2.CX0 1 f fd ["text", "place"] spLess := by
  refine F.ok scLess (fun vs H Q E h => ?_) (fun cdv A outer s0 H vs Q E hr h => ?_)
  · obtain ⟨a, m, c, rfl, _⟩ := h
    rfl
  · obtain ⟨a, m, c, rfl, hl, h1, h2, q⟩ := h
    refine ⟨_, pss_cons (ps_set (i := 2) scLess.nd rfl (Or.inl rfl) pe_int)
      (pss_cons (ps_for PassesOwn.never rfl (pi_range2 (by rfl) mR (pa_cons (pv 1) (pa_cons (pe_callB call_len_str (by rfl) T.len PySem.boot_len (pa_cons (pv 0) pa_nil)) pa_nil))) (pg_name (i := 3) scLess.nd rfl (Or.inl rfl))
        (pss_cons (ps_set (i := 2) scLess.nd rfl (Or.inl rfl) (pe_op op_sub (pe_op op_add (pv 2) (pe_callTy call_int1 (by rfl) T.int PyProof.Rows.Boot.«int» (pa_cons (pe_cmpR op_eq (pe_ix ix_str (pv 0) (pv 3) (fun _ _ => rfl)) pe_str (nomark _)) pa_nil)))
            (pe_callTy call_int1 (by rfl) T.int PyProof.Rows.Boot.«int» (pa_cons (pe_cmpR op_eq (pe_ix ix_str (pv 0) (pv 3) (fun _ _ => rfl)) pe_str (nomark _)) pa_nil))))
        (pss_one (ps_if (pt_cmpR op_eq (pv 2) pe_int (nomark _)) (pss_one (ps_ret (pe_op op_add_str (pe_op op_add_str (pe_op op_add_str (pe_op op_add_str (pe_slice sl_str (pv 0) po_none (po_some (pv 1))) pe_str)
            (pe_slice sl_str (pv 0) (po_some (pe_op op_add (pv 1) pe_int)) (po_some (pv 3)))) pe_str) (pe_slice sl_str (pv 0) (po_some (pe_op op_add (pv 3) pe_int)) po_none)))) pss_nil))))
      (pss_one (ps_ret (pv 0)))), ?_⟩
    obtain ⟨s, es⟩ : ∃ s, s = a ++ 40 :: (m ++ 41 :: c) := ⟨_, rfl⟩
    rw [← es] at hl ⊢
    have hlS := lenS hl
    have lens : s.length = a.length + (m.length + 2 + c.length) := by rw [es]; simp; omega
    have hget : ∀ i, s[a.length + i]? = (40 :: (m ++ 41 :: c))[i]? := fun i => by rw [es, List.getElem?_append_right (by omega)]; congr 1; omega
    refine ⟨_, rfl, _, rfl, _, rfl, hlS, (a.length : Int), ((S s).length : Int), rfl, ⟨by omega, by omega, by rw [S_len]; omega, by rw [S_len]; omega⟩, ?_⟩
    refine for_range (n := (((S s).length : Int) - (a.length : Int)).toNat) (fun i σ H' => H' = H ∧ i ≤ m.length + 1 ∧ ∃ u, σ = [some (.str (S s)), some (.int (a.length : Int)), some (.int (dp ((40 :: (m ++ 41 :: c)).take i))), u]) ⟨rfl, Nat.zero_le _, _, rfl⟩ (fun i σ H' hi z => ?_) (fun σ H' z => ?_)
    · obtain ⟨rfl, hm, u, rfl⟩ := z
      rw [S_len] at hi
      have hi2 : i < (40 :: (m ++ 41 :: c)).length := by simp; omega
      obtain ⟨x, hx⟩ : ∃ x, (40 :: (m ++ 41 :: c))[i]? = some x := ⟨_, List.getElem?_eq_getElem hi2⟩
      have hxs : s[a.length + i]? = some x := by rw [hget]; exact hx
      have ek : ((a.length : Int) + (i : Int)) = ((a.length + i : Nat) : Int) := by omega
      have hat : atI (S s).cps.toList ((a.length : Int) + (i : Int)) = some x := by rw [ek]; exact at_S hxs
      have step := dp_take hx
      refine ⟨_, rfl, _, rfl, _, rfl, _, _, x, rfl, rfl, hlS, hat, rfl, .inr ⟨_, rfl, _, _, rfl, rfl, _, rfl, _, rfl, _, _, x, rfl, rfl, hlS, hat, rfl, .inr ⟨_, rfl, _, _, rfl, rfl, ?_⟩⟩⟩
      rw [l_b1, br_S, S_dec, S_dec]
      have ed : dp ((40 :: (m ++ 41 :: c)).take i) + (if decide ([x] = [40]) = true then (1 : Int) else 0) - (if decide ([x] = [41]) = true then (1 : Int) else 0) = dp ((40 :: (m ++ 41 :: c)).take (i + 1)) := by rw [step, dp_one]; omega
      dsimp only
      rw [ed]
      refine ⟨_, rfl, rfl, _, rfl, ite2 (fun c1 => ?_) (fun c1 => ?_)⟩
      · have c1 : dp ((40 :: (m ++ 41 :: c)).take (i + 1)) = 0 := V.int.inj (of_decide_eq_true c1)
        have hi3 : i = m.length + 1 := Classical.byContradiction fun ne => by
          have e : (40 :: (m ++ 41 :: c)).take (i + 1) = 40 :: m.take i := by
            rw [List.take_succ_cons, List.take_append_of_le_length (by omega)]
          rw [e, dp_cons] at c1
          have := h2 (m.take i) (m.drop i) (List.take_append_drop i m).symm
          have d1 : dp [40] = 1 := by decide
          omega
        subst hi3
        have sp : (" " : Str) = S [32] := by decide +kernel
        have e1 : ((a.length : Int) + 1) = ((a.length + 1 : Nat) : Int) := by omega
        have e2 : ((a.length : Int) + ((m.length + 1 : Nat) : Int)) = ((a.length + 1 + m.length : Nat) : Int) := by omega
        have e3 : (((a.length + 1 + m.length : Nat) : Int) + 1) = ((a.length + 1 + m.length + 1 : Nat) : Int) := by omega
        have c1' : s.take a.length = a := by rw [es, List.take_left]
        have dA : s.drop (a.length + 1) = m ++ 41 :: c := by
          rw [es, ← List.drop_drop, List.drop_left]; rfl
        have c2' : (s.drop (a.length + 1)).take (a.length + 1 + m.length - (a.length + 1)) = m := by
          rw [dA, show a.length + 1 + m.length - (a.length + 1) = m.length by omega, List.take_left]
        have c3' : s.drop (a.length + 1 + m.length + 1) = c := by
          have : s.drop (a.length + 1 + m.length + 1) = ((s.drop (a.length + 1)).drop m.length).drop 1 := by rw [List.drop_drop, List.drop_drop, Nat.add_assoc (a.length + 1)]
          rw [this, dA, List.drop_left]; rfl
        have bnd : ∀ x : List Nat, x.length ≤ 200000 → x.length ≤ sizeLine := fun x h => by rw [sizeLine_eq]; omega
        rw [e2]
        refine ⟨_, rfl, _, rfl, _, rfl, _, rfl, hlS, ?_⟩
        rw [cut_Sr, c1', sp]
        refine ⟨_, _, rfl, rfl, by rw [S_len, S_len, sizeLine_eq]; show _ + 1 ≤ _; omega, ?_⟩
        rw [S_app]
        refine ⟨_, rfl, _, rfl, _, _, rfl, rfl, _, rfl, _, rfl, _, rfl, _, rfl, hlS, ?_⟩
        dsimp only
        rw [e1, cut_S, c2']
        refine ⟨_, _, rfl, rfl, by rw [S_len, S_len, List.length_append, sizeLine_eq]; show _ + 1 + _ ≤ _; omega, ?_⟩
        rw [S_app]
        refine ⟨_, _, rfl, rfl, by rw [S_len, S_len, List.length_append, List.length_append, sizeLine_eq]; show _ + 1 + _ + 1 ≤ _; omega, ?_⟩
        rw [S_app]
        refine ⟨_, rfl, _, rfl, _, _, rfl, rfl, _, rfl, _, rfl, hlS, ?_⟩
        dsimp only
        rw [e3, cut_Sl, c3']
        refine ⟨_, _, rfl, rfl, by rw [S_len, S_len, List.length_append, List.length_append, List.length_append, sizeLine_eq]; show _ + 1 + _ + 1 + _ ≤ _; omega, ?_⟩
        rw [S_app]
        have ef : a ++ [32] ++ m ++ [32] ++ c = a ++ 32 :: (m ++ 32 :: c) := by simp
        rw [ef]
        exact q
      · refine ⟨rfl, ?_, _, rfl⟩
        refine Classical.byContradiction fun ne => c1 (decide_eq_true ?_)
        have hi3 : i = m.length + 1 := by omega
        have e : (40 :: (m ++ 41 :: c)).take (i + 1) = 40 :: (m ++ [41]) := by
          rw [hi3, List.take_succ_cons]
          congr 1
          rw [List.take_append, List.take_of_length_le (by omega)]
          congr 1
          rw [show m.length + 1 - m.length = 1 by omega]; rfl
        rw [e, dp_cons, dp_app]
        have d1 : dp [40] = 1 := by decide
        have d2 : dp [41] = -1 := by decide
        rw [d1, d2]
        congr 1
        omega
    · obtain ⟨_, hm, _⟩ := z
      rw [S_len] at hm
      omega
end
end K09
namespace K09
open PySem L2 HK
/-! ### sums as data -/
def tD : Tr → PyData
  | .lf (.int n) => .tuple [.str "int", .int (n : Int)]
  | .lf (.name u) => .tuple [.str "name", .str (S u)]
  | .neg t => .tuple [.str "neg", tD t]
  | .op s a b => .tuple [.str "op", .str (S s), tD a, tD b]
theorem TAt.dp {K : PySem.W.Frag} {H : Hp} : ∀ {t : Tr} {v : V}, TAt H t v → Dp K H v (tD t)
  | .lf (.int n), v, ⟨a, e, h⟩ => by subst e; exact .tup (SqT.of h) (.cons (.str _) (.cons (.int _) .nil))
  | .lf (.name u), v, ⟨a, e, h⟩ => by subst e; exact .tup (SqT.of h) (.cons (.str _) (.cons (.str _) .nil))
  | .neg t, v, ⟨a, x, e, h, hx⟩ => by subst e; exact .tup (SqT.of h) (.cons (.str _) (.cons hx.dp .nil))
  | .op s t t', v, ⟨a, x, y, e, h, hx, hy⟩ => by subst e; exact .tup (SqT.of h) (.cons (.str _) (.cons (.str _) (.cons hx.dp (.cons hy.dp .nil))))
/-- its texts are plain -/
def Asc : Tr → Prop
  | .lf (.int _) => True
  | .lf (.name u) => ∀ c ∈ u, c < 128
  | .neg t => Asc t
  | .op s a b => (∀ c ∈ s, c < 128) ∧ Asc a ∧ Asc b
theorem strOk_S {u : List Nat} (h : ∀ c ∈ u, c < 128) : PyData.strOk (S u) = true := by
  show (u.toArray).all (· < 0x110000) = true
  rw [List.all_toArray, List.all_eq_true]
  exact fun c hc => decide_eq_true (by have := h c hc; omega)
theorem tD_depth : ∀ t : Tr, (tD t).depth ≤ ht t + 2
  | .lf (.int n) => by simp [tD, PyData.depth, PyData.depthAll]
  | .lf (.name u) => by simp [tD, PyData.depth, PyData.depthAll]
  | .neg t => by
    have := tD_depth t
    show (PyData.tuple [.str "neg", tD t]).depth ≤ ht t + 1 + 2
    simp only [PyData.depth, PyData.depthAll]
    omega
  | .op s a b => by
    have := tD_depth a
    have := tD_depth b
    show (PyData.tuple [.str "op", .str (S s), tD a, tD b]).depth ≤ max (ht a) (ht b) + 1 + 2
    simp only [PyData.depth, PyData.depthAll]
    omega
theorem tD_lay : ∀ {t : Tr}, Asc t → (tD t).canLay0 = true
  | .lf (.int n), _ => by
    show (PyData.tuple [.str "int", .int (n : Int)]).canLay0 = true
    have : PyData.strOk "int" = true := by decide +kernel
    simp [PyData.canLay0, PyData.canLayAll0, this]
  | .lf (.name u), h => by
    show (PyData.tuple [.str "name", .str (S u)]).canLay0 = true
    have : PyData.strOk "name" = true := by decide +kernel
    simp [PyData.canLay0, PyData.canLayAll0, this, strOk_S h]
  | .neg t, h => by
    show (PyData.tuple [.str "neg", tD t]).canLay0 = true
    have : PyData.strOk "neg" = true := by decide +kernel
    simp [PyData.canLay0, PyData.canLayAll0, this, tD_lay (t := t) h]
  | .op s a b, ⟨h, ha, hb⟩ => by
    show (PyData.tuple [.str "op", .str (S s), tD a, tD b]).canLay0 = true
    have : PyData.strOk "op" = true := by decide +kernel
    simp [PyData.canLay0, PyData.canLayAll0, this, strOk_S h, tD_lay ha, tD_lay hb]
theorem tD_shaped {t : Tr} (h : Asc t) (hh : ht t ≤ 62) : SeqAt.shaped (tD t) = true := by
  show ((tD t).canLay0 && decide ((tD t).depth ≤ 64)) = true
  rw [Bool.and_eq_true]
  exact ⟨tD_lay h, decide_eq_true (by have := tD_depth t; omega)⟩
theorem tD_inj : ∀ {t t' : Tr}, PyData.eqv (tD t) (tD t') = true → t = t' := by
  have i1 : (("int" : Str) == "name") = false := by decide +kernel
  have i2 : (("int" : Str) == "neg") = false := by decide +kernel
  have i3 : (("int" : Str) == "op") = false := by decide +kernel
  have i4 : (("name" : Str) == "int") = false := by decide +kernel
  have i5 : (("name" : Str) == "neg") = false := by decide +kernel
  have i6 : (("name" : Str) == "op") = false := by decide +kernel
  have i7 : (("neg" : Str) == "int") = false := by decide +kernel
  have i8 : (("neg" : Str) == "name") = false := by decide +kernel
  have i9 : (("neg" : Str) == "op") = false := by decide +kernel
  have j1 : (("op" : Str) == "int") = false := by decide +kernel
  have j2 : (("op" : Str) == "name") = false := by decide +kernel
  have j3 : (("op" : Str) == "neg") = false := by decide +kernel
  have no : ∀ (x y : Str) (r r' : List PyData), (x == y) = false → PyData.eqv (.tuple (.str x :: r)) (.tuple (.str y :: r')) = true → False := fun x y r r' e h => by
    have h : ((x == y) && PyData.eqvAll r r') = true := by simpa only [PyData.eqv, PyData.eqvAll] using h
    rw [e] at h
    cases h
  intro t
  induction t with
  | lf x =>
    intro t' h
    cases x with
    | int n =>
      cases t' with
      | lf y =>
        cases y with
        | int m =>
          simp only [tD, PyData.eqv, PyData.eqvAll, Bool.and_true, Bool.and_eq_true, beq_iff_eq] at h
          have : n = m := by omega
          rw [this]
        | name u => exact (no _ _ _ _ i1 h).elim
      | neg t => exact (no _ _ _ _ i2 h).elim
      | op s a b => exact (no _ _ _ _ i3 h).elim
    | name u =>
      cases t' with
      | lf y =>
        cases y with
        | int m => exact (no _ _ _ _ i4 h).elim
        | name u' =>
          simp only [tD, PyData.eqv, PyData.eqvAll, Bool.and_true, Bool.and_eq_true] at h
          have h2 := h.2
          have e : (S u == S u') = decide (u = u') := SX.S_beq_eq
          rw [e] at h2
          rw [of_decide_eq_true h2]
      | neg t => exact (no _ _ _ _ i5 h).elim
      | op s a b => exact (no _ _ _ _ i6 h).elim
  | neg t ih =>
    intro t' h
    cases t' with
    | lf y =>
      cases y with
      | int m => exact (no _ _ _ _ i7 h).elim
      | name u => exact (no _ _ _ _ i8 h).elim
    | neg t' =>
      simp only [tD, PyData.eqv, PyData.eqvAll, Bool.and_true, Bool.and_eq_true] at h
      rw [ih h.2]
    | op s a b => exact (no _ _ _ _ i9 h).elim
  | op s a b iha ihb =>
    intro t' h
    cases t' with
    | lf y =>
      cases y with
      | int m => exact (no _ _ _ _ j1 h).elim
      | name u => exact (no _ _ _ _ j2 h).elim
    | neg t' => exact (no _ _ _ _ j3 h).elim
    | op s' a' b' =>
      simp only [tD, PyData.eqv, PyData.eqvAll, Bool.and_true, Bool.and_eq_true] at h
      obtain ⟨_, h2, h3, h4⟩ := h
      have e : (S s == S s') = decide (s = s') := SX.S_beq_eq
      rw [e] at h2
      rw [of_decide_eq_true h2, iha h3, ihb h4]
theorem tD_eqv {t t' : Tr} (h : Asc t) (hh : ht t ≤ 62) : PyData.eqv (tD t) (tD t') = decide (t = t') := by
  by_cases e : t = t'
  · rw [← e, decide_eq_true rfl]
    exact SeqAt.eqv_refl _ (SeqAt.canLay_of_shaped (tD_shaped h hh))
  · rw [decide_eq_false e]
    cases c : PyData.eqv (tD t) (tD t') with
    | false => rfl
    | true => exact absurd (tD_inj c) e
end K09
namespace K09
open PySem L2 HK
/-! ### what is parsed has plain letters -/
def AscE (f : PF) : Prop := ∀ ws t rs, (∀ w ∈ ws, ∀ c ∈ w, c < 128) → f ws = some (t, rs) → Asc t ∧ ∀ w ∈ rs, ∀ c ∈ w, c < 128
theorem loop_asc {nx : PF} {l : Nat} (hn : AscE nx) : ∀ (n : Nat) (t0 : Tr) (rs0 : List Wd) (t : Tr) (rs : List Wd), Asc t0 → (∀ w ∈ rs0, ∀ c ∈ w, c < 128) → loop nx l n t0 rs0 = some (t, rs) → Asc t ∧ ∀ w ∈ rs, ∀ c ∈ w, c < 128 := by
  intro n
  induction n with
  | zero => intro t0 rs0 t rs h1 h2 h; cases h; exact ⟨h1, h2⟩
  | succ n ih =>
    intro t0 rs0 t rs h1 h2 h
    cases rs0 with
    | nil => cases h; exact ⟨h1, h2⟩
    | cons w r =>
      unfold loop at h
      by_cases c : lv w = l
      · rw [if_pos c] at h
        cases e : nx r with
        | none => rw [e] at h; cases h
        | some p =>
          rw [e] at h
          obtain ⟨b, r1⟩ := p
          obtain ⟨a1, a2⟩ := hn _ _ _ (fun x hx => h2 x (by simp [hx])) e
          exact ih _ _ _ _ (show Asc (.op w t0 b) from ⟨h2 w (by simp), h1, a1⟩) a2 h
      · rw [if_neg c] at h; cases h; exact ⟨h1, h2⟩
theorem lev_asc {tg : PF} (ht : AscE tg) : ∀ j, AscE (lev tg j)
  | 0 => ht
  | j + 1 => fun ws t rs hw h => by
    unfold lev at h
    cases e : lev tg j ws with
    | none => rw [e] at h; cases h
    | some p =>
      rw [e] at h
      obtain ⟨t0, rs0⟩ := p
      obtain ⟨a1, a2⟩ := lev_asc ht j _ _ _ hw e
      exact loop_asc (lev_asc ht j) _ _ _ _ _ a1 a2 h
theorem plain_asc {u : Wd} {x : Lf} (h : plainF u = some x) (hu : ∀ c ∈ u, c < 128) : Asc (.lf x) := by
  cases u with
  | nil => cases h
  | cons c r =>
    rw [plainF_cons] at h
    split at h
    · obtain ⟨n, _, rfl⟩ := Option.map_eq_some_iff.mp h
      trivial
    · split at h
      · cases h
      · cases h
        exact hu
theorem tight_asc : ∀ d, AscE (tight plainF d) := by
  have leaf : ∀ (w : Wd) (r : List Wd) (t : Tr) (rs : List Wd), (∀ x ∈ w :: r, ∀ c ∈ x, c < 128) → ((plainF w).map fun x => (Tr.lf x, r)) = some (t, rs) → Asc t ∧ ∀ w ∈ rs, ∀ c ∈ w, c < 128 := fun w r t rs hw h => by
    obtain ⟨x, e, h⟩ := Option.map_eq_some_iff.mp h
    cases h
    exact ⟨plain_asc e (hw w (by simp)), fun y hy => hw y (by simp [hy])⟩
  intro d
  induction d with
  | zero =>
    intro ws t rs hw h
    cases ws with
    | nil => cases h
    | cons w r =>
      unfold tight at h
      split at h
      · cases h
      · exact leaf w r t rs hw h
  | succ d ih =>
    intro ws t rs hw h
    cases ws with
    | nil => cases h
    | cons w r =>
      have hr : ∀ x ∈ r, ∀ c ∈ x, c < 128 := fun x hx => hw x (by simp [hx])
      unfold tight at h
      by_cases c1 : w = [45]
      · rw [if_pos c1] at h
        obtain ⟨p, e, h⟩ := Option.map_eq_some_iff.mp h
        cases h
        exact ih r p.1 p.2 hr e
      · rw [if_neg c1] at h
        by_cases c2 : w = [40]
        · rw [if_pos c2] at h
          cases e : lev (tight plainF d) 3 r with
          | none => rw [e] at h; cases h
          | some p =>
            rw [e] at h
            obtain ⟨t1, r1⟩ := p
            obtain ⟨a1, a2⟩ := lev_asc ih 3 _ _ _ hr e
            cases r1 with
            | nil => cases h
            | cons c r2 =>
              dsimp only at h
              split at h
              · cases h
                exact ⟨a1, fun y hy => a2 y (by simp [hy])⟩
              · cases h
        · rw [if_neg c2] at h
          exact leaf w r t rs hw h
theorem parse_asc {ws : List Wd} {t : Tr} (hw : ∀ w ∈ ws, ∀ c ∈ w, c < 128) (h : parse plainF ws = some t) : Asc t := by
  unfold parse at h
  cases e : lev (tight plainF 19) 3 ws with
  | none => rw [e] at h; cases h
  | some p =>
    rw [e] at h
    obtain ⟨t1, r⟩ := p
    cases r with
    | nil => cases h; exact (lev_asc (tight_asc 19) 3 _ _ _ hw e).1
    | cons _ _ => cases h
theorem Drawn.asc : ∀ {t : Tr}, Drawn t → Asc t
  | .lf (.int n), _ => trivial
  | .lf (.name u), h => fun c hc => nl_low ((lfg h).nl c hc)
  | .neg t, h => Drawn.asc (t := t) h
  | .op s a b, ⟨h, ha, hb⟩ => ⟨fun c hc => by
      have : ∀ s ∈ signs, ∀ c ∈ s, c < 128 := by decide
      exact this s h c hc, ha.asc, hb.asc⟩
theorem nb_drawn : ∀ (t : Tr) (l : Nat), Drawn t → (toks tkF l t).count [40] = nb l t
  | .lf x, l, d => List.count_eq_zero.mpr (by show [40] ∉ [tkF x]; simp; exact fun e => (lfg d).n2 e.symm)
  | .neg t, l, d => by
    show ([45] :: toks tkF 4 t).count [40] = nb 4 t
    rw [List.count_cons, nb_drawn t 4 d]; rfl
  | .op s a b, l, d => by
    obtain ⟨g1, ga, gb⟩ := d
    have hs : ¬ (s = [40]) := fun e => by rw [e] at g1; exact absurd g1 (by decide)
    have ia := nb_drawn a (lv s) ga
    have ib := nb_drawn b (lv s + 1) gb
    have i41 : (([[41]] : List Wd).count [40]) = 0 := by decide
    show _ = (if lv s < l then 1 else 0) + nb (lv s) a + nb (lv s + 1) b
    by_cases c : lv s < l
    · rw [toks_op c, if_pos c, List.count_cons_self, List.count_append, List.count_append, List.count_cons_of_ne hs, ia, ib, i41]; omega
    · rw [toks_in c, if_neg c, List.count_append, List.count_cons_of_ne hs, ia, ib]; omega
theorem oth_drawn : ∀ (t : Tr) (l : Nat), Drawn t → oth (toks tkF l t) = sz t
  | .lf x, l, d => by
    show oth [tkF x] = 1
    unfold oth
    rw [List.filter_cons, if_pos (by simpa using ⟨(lfg d).n2, (lfg d).n3⟩)]; rfl
  | .neg t, l, d => by
    show oth ([45] :: toks tkF 4 t) = sz t + 1
    rw [oth_cons, oth_drawn t 4 d]
    have : oth [[45]] = 1 := by decide
    omega
  | .op s a b, l, d => by
    obtain ⟨g1, ga, gb⟩ := d
    have ia := oth_drawn a (lv s) ga
    have ib := oth_drawn b (lv s + 1) gb
    have hs := lv_oth (w := s) (by have := sign_lv g1; omega)
    have i0 : oth [[40]] = 0 := by decide
    have i1 : oth [[41]] = 0 := by decide
    show _ = sz a + sz b + 1
    by_cases c : lv s < l
    · rw [toks_op c, oth_cons, oth_app, oth_app, oth_cons s, ia, ib]; omega
    · rw [toks_in c, oth_app, oth_cons, ia, ib]; omega
/-! ### what the law asks of the texts -/
section
variable {t : Tr} (d : Drawn t) (h5 : ht t ≤ 5)
include d h5
theorem toks_200 (l : Nat) : (toks tkF l t).length ≤ 187 := Nat.le_trans (len_toks t l) (Nat.le_trans (len_shw t 5 h5) (by decide))
theorem shw_200 : (shw tkF t).length ≤ 187 := Nat.le_trans (len_shw t 5 h5) (by decide)
theorem sz_63 : sz t ≤ 63 := Nat.le_trans (sz_le t 5 h5) (by decide)
theorem parseT_pr : parseT (pr tkF 1 t) = some t := by
  unfold parseT
  rw [words_pr d.neat 1]
  exact (if_pos (by have := toks_200 d h5 1; omega)).trans (parse_toks plain_hp d.good (by omega))
theorem parseT_prs : parseT (prs tkF t) = some t := by
  unfold parseT
  rw [words_prs d.neat]
  exact (if_pos (by have := shw_200 d h5; omega)).trans (parse_shown plain_hp d.good (by omega))
theorem parseT_gp : parseT (32 :: (gp (pr tkF 1 t) ++ [32])) = some t := by
  unfold parseT
  rw [words_gp d.neat 1]
  exact (if_pos (by have := toks_200 d h5 1; omega)).trans (parse_toks plain_hp d.good (by omega))
def tails : List (List Nat) := [[32, 43], [41], [32, 49, 32, 50], [40], [32, 109, 111, 100], [32, 61]]
theorem parseT_more {r : List Nat} (hr : r ∈ tails) : parseT (pr tkF 1 t ++ r) = none := by
  have ho : Off r := by
    have : ∀ r ∈ tails, ∀ d, r.head? = some d → nl d = false := by decide
    exact this r hr
  unfold parseT
  rw [words_tail d.neat 1 ho]
  have bad : ∀ v : List Wd, parse plainF (toks tkF 1 t ++ v) = none → (match (some v).map fun v => toks tkF 1 t ++ v with | none => none | some ws => if ws.length ≤ 200 then parse plainF ws else none) = none := fun v e => by
    show (if (toks tkF 1 t ++ v).length ≤ 200 then parse plainF (toks tkF 1 t ++ v) else none) = none
    rw [e]; split <;> rfl
  simp only [tails, List.mem_cons, List.not_mem_nil, or_false] at hr
  rcases hr with rfl | rfl | rfl | rfl | rfl | rfl
  · rw [show words [32, 43] = some [[43]] by decide +kernel]
    exact bad _ (parse_ends plain_hp d.good (by omega) (by decide))
  · rw [show words [41] = some [[41]] by decide +kernel]
    exact bad _ (parse_more plain_hp d.good (by omega) [] (by decide))
  · rw [show words [32, 49, 32, 50] = some [[49], [50]] by decide +kernel]
    exact bad _ (parse_more plain_hp d.good (by omega) [[50]] (by decide))
  · rw [show words [40] = some [[40]] by decide +kernel]
    exact bad _ (parse_more plain_hp d.good (by omega) [] (by decide))
  · rw [show words [32, 109, 111, 100] = some [[109, 111, 100]] by decide +kernel]
    exact bad _ (parse_ends plain_hp d.good (by omega) (by decide))
  · rw [show words [32, 61] = none by decide +kernel]; rfl
/-- without a pair of brackets -/
theorem parseT_less {a m c : List Nat} (e : pr tkF 1 t = a ++ 40 :: (m ++ 41 :: c)) {t' : Tr} (h : parseT (a ++ 32 :: (m ++ 32 :: c)) = some t') : t' ≠ t ∧ sz t' ≤ 63 ∧ Asc t' := by
  have tx := tx_pr t d.neat 1 [] off_nil
  rw [List.append_nil] at tx
  obtain ⟨ws', e1, e2, e3, _⟩ := less_words tx e
  unfold parseT at h
  rw [e1] at h
  dsimp only at h
  split at h
  · obtain ⟨n1, n2⟩ := parse_eats plain_hp h
    have c1 := nb_drawn t 1 d
    have o1 := oth_drawn t 1 d
    have s63 := sz_63 d h5
    refine ⟨fun z => ?_, by omega, parse_asc (fun w hw => ?_) h⟩
    · rw [z] at n1; omega
    · exact (wf_ok _ _ _ e1 w hw).2.2
  · cases h
end
end K09
namespace K09
open PySem L2 HK
/-! ### numbers, other gaps, all the words in one -/
theorem num_dig (n : Nat) : (TL.numL n).all dig = true := by
  rw [List.all_eq_true]
  intro c hc
  have := TL.numL_digits n c hc
  unfold dig
  simpa using this
theorem num_wok {n : Nat} (h : n < 10 ^ 12) : Wok (TL.numL n) := ⟨TL.numL_ne n, Nat.le_trans (TL.numL_len (k := 12) (by decide) h) (by decide), fun c hc => by have := TL.numL_digits n c hc; omega⟩
theorem num_head (n : Nat) : (TL.numL n).head? ≠ some 45 := fun e => by
  cases h : TL.numL n with
  | nil => rw [h] at e; cases e
  | cons c r =>
    rw [h] at e
    cases e
    have := TL.numL_digits n 45 (by rw [h]; simp)
    omega
theorem numF_pos {n : Nat} (h : n < 10 ^ 12) : numF false (TL.numL n) = wr (n : Int) := by
  unfold numF
  rw [if_pos ⟨TL.numL_len (k := 12) (by decide) h, num_dig n⟩, if_neg (by decide), TL.numL_val]
theorem numF_neg {n : Nat} (h : n < 10 ^ 12) : numF true (TL.numL n) = wr (-(n : Int)) := by
  unfold numF
  rw [if_pos ⟨TL.numL_len (k := 12) (by decide) h, num_dig n⟩, if_pos rfl, TL.numL_val]
theorem repl_one (z : List Nat) : ∀ s : List Nat, StrLaws.replL [32] z s = s.flatMap fun c => if c = 32 then z else [c]
  | [] => StrLaws.replL_nil
  | c :: r => by
    have ih := repl_one z r
    have e : (c :: r).flatMap (fun c => if c = 32 then z else [c]) = (if c = 32 then z else [c]) ++ r.flatMap fun c => if c = 32 then z else [c] := rfl
    rw [e]
    by_cases h : c = 32
    · rw [if_pos h, StrLaws.replL_hit (by decide) (by rw [h]; rfl)]
      show z ++ StrLaws.replL [32] z r = _
      rw [ih]
    · rw [if_neg h, StrLaws.replL_miss (by
        show ¬ [c] = [32]
        simpa using h), ih]; rfl
theorem replace_S (s z : List Nat) : Txt.replace (S s) (S [32]) (S z) = S (s.flatMap fun c => if c = 32 then z else [c]) := by
  have e := StrLaws.replace_list (x := S s) (y := S [32]) (z := S z) (by decide)
  have e2 : (Txt.replace (S s) (S [32]) (S z)).cps.toList = s.flatMap fun c => if c = 32 then z else [c] := e.trans (repl_one z s)
  rw [← e2]
theorem replace_gp (s : List Nat) : Txt.replace (S s) " " "\n " = S (gp s) := by
  have h1 : (" " : Str) = S [32] := by decide +kernel
  have h2 : ("\n " : Str) = S [10, 32] := by decide +kernel
  rw [h1, h2, replace_S]; rfl
theorem nogap_flat : ∀ s : List Nat, (s.flatMap fun c => if c = 32 then [] else [c]) = nogap s
  | [] => rfl
  | c :: r => by
    have ih := nogap_flat r
    have e : (c :: r).flatMap (fun c => if c = 32 then [] else [c]) = (if c = 32 then [] else [c]) ++ r.flatMap fun c => if c = 32 then [] else [c] := rfl
    rw [e, ih]
    unfold nogap
    rw [List.filter_cons]
    by_cases h : c = 32
    · rw [if_pos h, if_neg (by simp [h])]; rfl
    · rw [if_neg h, if_pos (by simp [h])]; rfl
theorem replace_no (s : List Nat) : Txt.replace (S s) " " "" = S (nogap s) := by
  have h1 : (" " : Str) = S [32] := by decide +kernel
  rw [h1, none_S, replace_S, nogap_flat]
theorem join_none : ∀ l : List (List Nat), TL.joinL [] l = l.flatten
  | [] => rfl
  | [p] => by show p = [p].flatten; simp
  | p :: q :: r => by
    show p ++ ([] ++ TL.joinL [] (q :: r)) = _
    rw [join_none (q :: r)]; rfl
theorem join_words (ws : List Wd) : Txt.join "" (ws.map S) = S ws.flatten := by
  rw [none_S, ← join_none]
  exact SX.join_S [] ws
theorem bad_texts : ∀ s ∈ [[], [49, 32, 43], [120, 32, 121], List.replicate 11 57, [50, 49, 52, 55, 52, 56, 51, 54, 52, 56], [97, 32, 98], [49, 32, 38, 32, 50], [109, 111, 100], [51, 120], [40, 41], [43, 49]], parseT s = none := by decide +kernel
theorem parse_brackets (m : Nat) (h : m < 40) : parseT (List.replicate m 40 ++ 120 :: List.replicate m 41) = if m ≤ 19 then some (.lf (.name [120])) else none := by
  have : ∀ m < 40, parseT (List.replicate m 40 ++ 120 :: List.replicate m 41) = if m ≤ 19 then some (.lf (.name [120])) else none := by decide +kernel
  exact this m h
end K09
namespace K09
open PySem L2 HK
structure ToldTxt (K : PySem.W.Frag) (mg : Str → Option Value) (CE g : Addr) : Prop where
  m : mg "_law_told" = some (.ref g)
  k : PySem.W.keepIn K (.ref g) = true
  fn : ∃ (oc kV doc pm cdv ct : Value) (od an : Option Addr) (osl : Array (Option Value)),
    K.lookup g = some ⟨oc, od, .func (PySem.W.fnOf "_law_told" "_law_told" (defArgs sTold) (defBody sTold) (defScope sTold) .none kV doc pm an cdv ct), osl⟩ ∧ PySem.W.codeIn K cdv "_law_told" = true
  mF : mg "ShellError" = some (.ref CE)
theorem scTold : FnScope ["what"] ["what"] (defScope sTold) := ⟨rfl, rfl, rfl, by decide +kernel, rfl, by decide +kernel, by decide +kernel⟩
theorem pe_told {X : Cx} {C g c P : Addr} {k : Nat} {params : Arguments} {body : Expr} {scope : Scope} {t : XK → TE} {p lpos pos : Pos} (TT : ToldTxt X.K X.mg C g) (TB : LamX.TabB X.base X.mg c P) (hcode : X.env.code = .ref c)
    (hg : Gl X "_law_told") (hr : Room (k + 2) X.A) (L : LamX.LamS X.env.scope scope) (hdef : defaultsOf params X.env = ([], []))
    (hbind : ∀ (q : Str) (cl : List (Str × Addr)) (pm cv ctv : Value), bindArgs (PySem.W.kla_fn "<lambda>" q params body scope cl pm cv ctv) ⟨[], []⟩ = pure [])
    (hbody : ∀ (A : Around) (outer : List Env) (s : Shared) (H : Hp) (E : XK) (f c' : Addr), Room k (A.deeper (LamX.lamEnv X scope s.heap.objs.size f c')) → PE (LamX.lamCx X A outer s H E scope f c') body (t E)) :
    PE X (.Call (.Name "_law_told" p) [.Lambda params body scope lpos] [] pos) (LamX.tLam [(P, X.env.qual ++ "<lambda>")] (LamX.TTold X.K C "ShellError") t) := by
  obtain ⟨oc, kV, doc, pm, cdv, ct, od, an, osl, lk, hcd⟩ := TT.fn
  refine LamX.pe_lamcall (Ng := ["what"]) (a := "what") hg TT.m TT.k lk hcd (.all fun us hl => match us, hl with | [_], _ => rfl) scTold rfl (Or.inl rfl) (LamX.told_gives (e := "ShellError") rfl TT.mF rfl (fun _ => rfl)) TB hcode List.mem_cons_self (fun q hq _ => ?_) hr L hdef hbind hbody
  rw [List.mem_singleton.mp hq]
abbrev NL : List Str := ["script", "dice", "tree", "names", "spots", "number", "deep", "bad", "text", "many", "more", "place", "k"]
theorem scLaw : FnScope NL ["script"] (defScope sLaw) := ⟨rfl, rfl, rfl, by decide +kernel, rfl, by decide +kernel, by decide +kernel⟩
end K09
namespace K09
open PySem L2 HK
abbrev lawBody : List Stmt := defBody sLaw
def retE : Stmt → Expr
  | .Return (some e) _ => e
  | _ => .Constant .none 0 ⟨0, 0, 0, 0⟩
def andL : Expr → Expr
  | .BoolOp _ (a :: _) _ => a
  | e => e
def cmpL : Expr → Expr
  | .Compare a _ _ _ => a
  | e => e
abbrev LCx (P : Program) (w : World) (K : PySem.W.Frag) (mg : Str → Option Value) (base : Heap) (f c : Addr) (A : Around) (outer : List Env) (s : Shared) (H : Hp) (E : XK) : Cx := (cxOf L2.CX0 P w K mg base NL "law" (defScope sLaw) f (.ref c) A outer s H E).nox
section
variable {P : Program} {w : World} {K : PySem.W.Frag} {mg : Str → Option Value} {base : Heap} {CE g0 : Addr}
theorem bad_try {f c0 PT fP : Addr} {fdP : FuncData} {A : Around} {outer : List Env} {s0 : Shared} {H0 : Hp} {E9 : XK} (TT : ToldTxt K mg CE g0) (TB : LamX.TabB base mg c0 PT) (hr : Room 140 (LCx P w K mg base f c0 A outer s0 H0 E9).A)
    (FP : FnOk P w K mg base (L2.CX P w) 130 fP fdP ["text"] (spParse CE)) (mP : mg "parse_sum" = some (.ref fP)) (kP : PySem.W.keepIn K (.ref fP) = true) (bP : Binds K fdP ["text"] []) :
    ∃ t, PE (LCx P w K mg base f c0 A outer s0 H0 E9) (cmpL (andL (retE (lawBody.getD 2 (.Pass ⟨0, 0, 0, 0⟩))))) t := by
  have rP := FP.mono (show 130 ≤ 136 by decide)
  have main : PE (LCx P w K mg base f c0 A outer s0 H0 E9) (cmpL (andL (retE (lawBody.getD 2 (.Pass ⟨0, 0, 0, 0⟩))))) (tLc (iList K (tVar 7)) (gName 8) (tTest (tOp rNe (LamX.tLam [(PT, "law.<locals>.<lambda>")] (LamX.TTold K CE "ShellError") (fun E => tCall (spParse CE) [] E (tCons (tVar 8) tNil))) (tC (.str "ShellError")))) (tVar 8) [8]) := by
    refine pe_lc (own := [("text", 8)]) (g := gName 8) (te := tVar 8) (by rfl) scLaw.nd (pi_list (pv 7)) (blkOk_by (N := NL) (sc := defScope sLaw) (by decide +kernel))
        (fun _ _ _ _ _ => pg_name (i := 8) scLaw.nd rfl (Or.inr rfl)) (fun s H C cl fp => ?_) (fun _ _ _ _ _ => pv 8)
    refine pts_one (pt_cmpR op_ne ?_ pe_str (nomark _))
    refine pe_told (k := 136) TT TB rfl (by rfl) ?_ ?_ rfl (fun _ _ _ _ _ => rfl) (fun A1 o1 s1 H1 E1 f1 c1 hr6 => pe_call rP hr6 (by rfl) mP kP bP .nil (passes_call (takes_of rfl rfl rfl rfl) (fun _ _ _ _ h => h)) (pa_cons (pv 8) pa_nil))
    · exact Room.mono hr (by decide)
    · exact LamX.lamS_by (by rfl)
  exact ⟨_, main⟩
end
end K09
namespace K09
open PySem L2 HK
/-- what the law finds written -/
structure LTxt (P : Program) (w : World) (K : PySem.W.Frag) (mg : Str → Option Value) (base : Heap) (CE g : Addr) : Prop where
  told : ToldTxt K mg CE g
  e11 : PySem.W.exmOne K (.ref CE) (.ref CE) = some true
  C : CTxt K mg CE
  range : mg "range" = none
  rounds : ∃ f fd, FnOk P w K mg base L2.CX0 2 f fd ["script", "most"] (spRounds K) ∧ mg "_law_rounds" = some (.ref f) ∧ PySem.W.keepIn K (.ref f) = true ∧ Binds K fd ["script", "most"] []
  roll : ∃ f fd, FnOk P w K mg base L2.CX0 1 f fd ["dice", "many"] spRoll ∧ mg "_law_roll" = some (.ref f) ∧ PySem.W.keepIn K (.ref f) = true ∧ Binds K fd ["dice", "many"] []
  tree : ∃ f fd, FnOk P w K mg base L2.CX0 7 f fd ["dice", "deep"] (spTree 6) ∧ mg "_law_tree" = some (.ref f) ∧ PySem.W.keepIn K (.ref f) = true ∧ Binds K fd ["dice", "deep"] []
  shown : ∃ f fd, FnOk P w K mg base L2.CX0 7 f fd ["tree"] (spShown 6) ∧ mg "_law_shown" = some (.ref f) ∧ PySem.W.keepIn K (.ref f) = true ∧ Binds K fd ["tree"] []
  lval : ∃ f fd, FnOk P w K mg base L2.CX0 7 f fd ["tree", "names"] (spLVal 6) ∧ mg "_law_value" = some (.ref f) ∧ PySem.W.keepIn K (.ref f) = true ∧ Binds K fd ["tree", "names"] []
  lwrap : ∃ f fd, FnOk P w K mg base L2.CX0 1 f fd ["number"] (spInt1 wr) ∧ mg "_law_wrapped" = some (.ref f) ∧ PySem.W.keepIn K (.ref f) = true ∧ Binds K fd ["number"] []
  less : ∃ f fd, FnOk P w K mg base L2.CX0 1 f fd ["text", "place"] spLess ∧ mg "_law_less" = some (.ref f) ∧ PySem.W.keepIn K (.ref f) = true ∧ Binds K fd ["text", "place"] []
  text : ∃ f fd, FnOk P w K mg base L2.CX0 7 f fd ["tree", "level"] (spText 6) ∧ mg "sum_text" = some (.ref f) ∧ PySem.W.keepIn K (.ref f) = true ∧ ∃ ds, L2.Vals [V.int 1] ds ∧ Binds K fd ["tree", "level"] ds
  value : ∃ f fd, FnOk P w K mg base L2.CX0 8 f fd ["tree", "variables"] (spValue 6) ∧ mg "sum_value" = some (.ref f) ∧ PySem.W.keepIn K (.ref f) = true ∧ Binds K fd ["tree", "variables"] []
  from_ : ∃ f fd, FnOk P w K mg base L2.CX0 2 f fd ["text"] spNumFrom ∧ mg "number_from" = some (.ref f) ∧ PySem.W.keepIn K (.ref f) = true ∧ Binds K fd ["text"] []
  words : ∃ f fd, FnOk P w K mg base (L2.CX P w) 3 f fd ["text"] (spWords CE) ∧ mg "sum_words" = some (.ref f) ∧ PySem.W.keepIn K (.ref f) = true ∧ Binds K fd ["text"] []
  parse : ∃ f fd, FnOk P w K mg base (L2.CX P w) 130 f fd ["text"] (spParse CE) ∧ mg "parse_sum" = some (.ref f) ∧ PySem.W.keepIn K (.ref f) = true ∧ Binds K fd ["text"] []
def forBody : Stmt → List Stmt
  | .For _ _ b _ _ => b
  | _ => []
abbrev diceBody : List Stmt := forBody (lawBody.getD 0 (.Pass ⟨0, 0, 0, 0⟩))
theorem passL' {P : Program} {w : World} {X : Cx} : Passes (L2.CX P w) X E0 := fun _ _ _ _ _ _ _ h => by
  obtain ⟨_, _, _, _, _, _, _, _, _, _, _, _, z⟩ := h
  exact z.elim
end K09
namespace K09
open PySem L2 HK CwR
section
variable {P : Program} {w : World} {K : PySem.W.Frag} {mg : Str → Option Value} {base : Heap} {CE g0 : Addr}
theorem first_ok (L : LTxt P w K mg base CE g0) {f c0 PT : Addr} {A : Around} {outer : List Env} {s0 : Shared} {H0 : Hp} {E9 : XK} (TB : LamX.TabB base mg c0 PT) (hr : Room 140 (LCx P w K mg base f c0 A outer s0 H0 E9).A) :
    ∃ t, PSs (LCx P w K mg base f c0 A outer s0 H0 E9) (diceBody.take 3) t := by
  obtain ⟨fO, dO, FO, mO, kO, bO⟩ := L.roll
  obtain ⟨fT, dT, FT, mT, kT, bT⟩ := L.tree
  obtain ⟨fX, dX, FX, mX, kX, ds, vds, bX⟩ := L.text
  obtain ⟨fS, dS, FS, mS, kS, bS⟩ := L.shown
  obtain ⟨fP, dP, FP, mP, kP, bP⟩ := L.parse
  have rO := FO.mono (show 1 ≤ 140 by decide)
  have rT := FT.mono (show 7 ≤ 140 by decide)
  have rX := FX.mono (show 7 ≤ 140 by decide)
  have rS := FS.mono (show 7 ≤ 140 by decide)
  have rP := FP.mono (show 130 ≤ 140 by decide)
  exact ⟨_, pss_cons (ps_set (i := 2) scLaw.nd rfl (Or.inl rfl) (pe_call rT hr (by rfl) mT kT bT .nil pass0 (pa_cons (pv 1) (pa_cons (pe_call rO hr (by rfl) mO kO bO .nil pass0 (pa_cons (pv 1) (pa_cons pe_int pa_nil))) pa_nil))))
    (pss_cons (ps_set (i := 8) scLaw.nd rfl (Or.inr rfl) (pe_call rX hr (by rfl) mX kX bX vds pass0 (pa_cons (pv 2) pa_nil)))
    (pss_one (ps_if (PW.pt (pw_or (pt_cmpR (op_neD hr.units) (pe_call rP hr (by rfl) mP kP bP .nil passL' (pa_cons (pv 8) pa_nil)) (pv 2) (nomark _))
      (pw_or (pt_cmpR (op_neD hr.units) (pe_call rP hr (by rfl) mP kP bP .nil passL' (pa_cons (pe_call rS hr (by rfl) mS kS bS .nil pass0 (pa_cons (pv 2) pa_nil)) pa_nil)) (pv 2) (nomark _))
      (pw_or1 (pt_cmpR (op_neD hr.units) (pe_call rP hr (by rfl) mP kP bP .nil passL' (pa_cons (pe_op op_add_str (pe_opT op_add_str peo_str (pet_replC (pv 8))) pe_str) pa_nil)) (pv 2) (nomark _)))))) (pss_one (ps_ret pe_bl)) pss_nil)))⟩
end
end K09
namespace K09
open PySem L2 HK CwR
/-! ### a round's own things -/
abbrev lamQ : Str := "law.<locals>.<lambda>"
structure WL (PT D R : Addr) (dc : Dice) (v : V) (t : Tr) (H : Hp) : Prop where
  dice : H D = some (.lst dc.vs)
  row : H R = some (.lst [.ref D])
  ne : R ≠ D
  tabs : LamX.Tabs [(PT, lamQ)] H
  tree : TAt H t v
  dr : Drawn t
  h5 : ht t ≤ 5
theorem tabsX {D : Addr} {H H' : Hp} {xs : List V} {T : List (Addr × Str)} (hD : H D = some (.lst xs)) (e : SameX D H H') (h : LamX.Tabs T H) : LamX.Tabs T H' := fun p hp => by
  obtain ⟨ps, h1, h2, h3⟩ := h p hp
  refine ⟨ps, e _ _ (fun z => by rw [z, hD] at h1; cases h1) h1, h2, fun pos cv hc => ?_⟩
  obtain ⟨c, e1, e2⟩ := h3 pos cv hc
  exact ⟨c, e1, e _ _ (fun z => by rw [z, hD] at e2; unfold LamX.CodeO at e2; cases e2) e2⟩
theorem TAt.tups {H H' : Hp} (e : ∀ b xs, H b = some (.tup xs) → H' b = some (.tup xs)) : ∀ {t : Tr} {v : V}, TAt H t v → TAt H' t v
  | .lf (.int n), v, ⟨a, h1, h2⟩ => ⟨a, h1, e _ _ h2⟩
  | .lf (.name u), v, ⟨a, h1, h2⟩ => ⟨a, h1, e _ _ h2⟩
  | .neg t, v, ⟨a, x, h1, h2, h3⟩ => ⟨a, x, h1, e _ _ h2, TAt.tups e h3⟩
  | .op s a b, v, ⟨p, x, y, h1, h2, h3, h4⟩ => ⟨p, x, y, h1, e _ _ h2, TAt.tups e h3, TAt.tups e h4⟩
theorem gp_len : ∀ s : List Nat, (gp s).length ≤ 2 * s.length
  | [] => Nat.le_refl _
  | c :: r => by
    have ih := gp_len r
    have e : gp (c :: r) = (if c = 32 then [10, 32] else [c]) ++ gp r := rfl
    rw [e, List.length_append, List.length_cons]
    split <;> simp only [List.length_cons, List.length_nil] <;> omega
section
variable {PT D R : Addr} {dc dc' : Dice} {v : V} {t : Tr} {H H' : Hp}
theorem WL.rolled (x : WL PT D R dc v t H) (e : SameX D H H') (h : H' D = some (.lst dc'.vs)) : WL PT D R dc' v t H' :=
  ⟨h, e _ _ x.ne x.row, x.ne, tabsX x.dice e x.tabs, x.tree.sameX (fun xs z => by rw [x.dice] at z; cases z) e, x.dr, x.h5⟩
theorem WL.same (x : WL PT D R dc v t H) (e : Same H H') : WL PT D R dc v t H' := ⟨e _ _ x.dice, e _ _ x.row, x.ne, x.tabs.ext e, x.tree.same e, x.dr, x.h5⟩
theorem WL.ext (x : WL PT D R dc v t H) (e : LamX.ExtN H H') (tb : LamX.Tabs [(PT, lamQ)] H') : WL PT D R dc v t H' :=
  ⟨e _ _ x.dice (fun ps z => by cases z), e _ _ x.row (fun ps z => by cases z), x.ne, tb, x.tree.tups fun b xs h => e _ _ h (fun ps z => by cases z), x.dr, x.h5⟩
theorem WL.sz (x : WL PT D R dc v t H) : sz t ≤ 63 := sz_63 x.dr x.h5
theorem WL.len (x : WL PT D R dc v t H) : (pr tkF 1 t).length ≤ 630 := by
  have := pr_len x.dr 1
  have := x.sz
  omega
theorem WL.shp (x : WL PT D R dc v t H) : SeqAt.shaped (tD t) = true := tD_shaped x.dr.asc (by have := x.h5; omega)
theorem WL.eqv (x : WL PT D R dc v t H) : PyData.eqv (tD t) (tD t) = true := by
  rw [tD_eqv x.dr.asc (by have := x.h5; omega)]
  exact decide_eq_true rfl
theorem rolled_at (x : WL PT D R dc v t H) (dc' : Dice) : WL PT D R dc' v t (upd H D (.lst dc'.vs)) := x.rolled SameX.upd upd_same
end
section
variable {P : Program} {w : World} {K : PySem.W.Frag} {mg : Str → Option Value} {base : Heap} {CE g0 : Addr}
theorem first_ok2 (L : LTxt P w K mg base CE g0) {f c0 PT : Addr} {A : Around} {outer : List Env} {s0 : Shared} {H0 : Hp} {E9 : XK} (hr : Room 140 (LCx P w K mg base f c0 A outer s0 H0 E9).A) :
    ∃ t, PSs (LCx P w K mg base f c0 A outer s0 H0 E9) (diceBody.take 3) t ∧ ∀ (a D R : Addr) (dc : Dice) (Dn : Ends) (H : Hp) (u2 u3 u4 u5 u6 u7 u8 u9 u10 u11 u12 : Option V), H D = some (.lst dc.vs) → H R = some (.lst [.ref D]) → R ≠ D → LamX.Tabs [(PT, lamQ)] H →
      (∀ H' v tr dc', WL PT D R dc' v tr H' → Dn.nx [some (.ref a), some (.ref D), some v, u3, u4, u5, u6, u7, some (.str (S (pr tkF 1 tr))), u9, u10, u11, u12] H') →
      t Dn [some (.ref a), some (.ref D), u2, u3, u4, u5, u6, u7, u8, u9, u10, u11, u12] H := by
  obtain ⟨fO, dO, FO, mO, kO, bO⟩ := L.roll
  obtain ⟨fT, dT, FT, mT, kT, bT⟩ := L.tree
  obtain ⟨fX, dX, FX, mX, kX, ds, vds, bX⟩ := L.text
  obtain ⟨fS, dS, FS, mS, kS, bS⟩ := L.shown
  obtain ⟨fP, dP, FP, mP, kP, bP⟩ := L.parse
  have rO := FO.mono (show 1 ≤ 140 by decide)
  have rT := FT.mono (show 7 ≤ 140 by decide)
  have rX := FX.mono (show 7 ≤ 140 by decide)
  have rS := FS.mono (show 7 ≤ 140 by decide)
  have rP := FP.mono (show 130 ≤ 140 by decide)
  refine ⟨_, pss_cons (ps_set (i := 2) scLaw.nd rfl (Or.inl rfl) (pe_call rT hr (by rfl) mT kT bT .nil pass0 (pa_cons (pv 1) (pa_cons (pe_call rO hr (by rfl) mO kO bO .nil pass0 (pa_cons (pv 1) (pa_cons pe_int pa_nil))) pa_nil))))
    (pss_cons (ps_set (i := 8) scLaw.nd rfl (Or.inr rfl) (pe_call rX hr (by rfl) mX kX bX vds pass0 (pa_cons (pv 2) pa_nil)))
    (pss_one (ps_if (PW.pt (pw_or (pt_cmpR (op_neD hr.units) (pe_call rP hr (by rfl) mP kP bP .nil passL' (pa_cons (pv 8) pa_nil)) (pv 2) (nomark _))
      (pw_or (pt_cmpR (op_neD hr.units) (pe_call rP hr (by rfl) mP kP bP .nil passL' (pa_cons (pe_call rS hr (by rfl) mS kS bS .nil pass0 (pa_cons (pv 2) pa_nil)) pa_nil)) (pv 2) (nomark _))
      (pw_or1 (pt_cmpR (op_neD hr.units) (pe_call rP hr (by rfl) mP kP bP .nil passL' (pa_cons (pe_op op_add_str (pe_opT op_add_str peo_str (pet_replC (pv 8))) pe_str) pa_nil)) (pv 2) (nomark _)))))) (pss_one (ps_ret pe_bl)) pss_nil))), ?_⟩
  intro a D R dc Dn H u2 u3 u4 u5 u6 u7 u8 u9 u10 u11 u12 hD hR ne tb knx
  obtain ⟨a0, a1⟩ := roll_range dc (m := 6) (by decide)
  refine ⟨_, rfl, _, rfl, D, dc, 6, rfl, hD, by decide, by decide, ?_⟩
  have s1 : SameX D H (upd H D (.lst (roll dc 6).2.vs)) := SameX.upd
  have hD1 : (upd H D (.lst (roll dc 6).2.vs)) D = some (.lst (roll dc 6).2.vs) := upd_same
  have hR1 := s1 _ _ ne hR
  have tb1 := tabsX hD s1 tb
  generalize upd H D (.lst (roll dc 6).2.vs) = H1 at s1 hD1 hR1 tb1 ⊢
  generalize (roll dc 6).2 = dc1 at hD1
  obtain ⟨n, hn⟩ : ∃ n : Nat, (roll dc 6).1 = (n : Int) := ⟨(roll dc 6).1.toNat, by omega⟩
  rw [hn] at a1 ⊢
  refine ⟨D, dc1, n, rfl, hD1, by omega, fun v t dc2 H2 s2 hD2 ta dt hh => ?_⟩
  have x2 : WL PT D R dc2 v t H2 := ⟨hD2, s2 _ _ ne hR1, ne, tabsX hD1 s2 tb1, ta, dt, by omega⟩
  clear s1 hD1 hR1 tb1 s2 hD2 ta hh hD hR tb a0 a1
  have hl := x2.len
  have hz := x2.sz
  have h5 := x2.h5
  refine ⟨_, rfl, v, t, 1, rfl, x2.tree, dt, by omega, by omega, ?_⟩
  -- the text
  refine ⟨_, rfl, _, rfl, by omega, fun e => absurd (e.symm.trans (parseT_pr dt h5)) (fun z => by cases z), fun t' e' v' H3 s3 ta3 => ?_⟩
  cases (e'.symm.trans (parseT_pr dt h5))
  have x3 := x2.same s3
  refine ⟨_, rfl, tD t, tD t, ta3.dp, x3.tree.dp, x3.shp, x3.shp, ?_⟩
  rw [x3.eqv]
  refine ⟨false, rfl, iteF ?_⟩
  refine ⟨_, rfl, v, t, rfl, x3.tree, dt, by omega, by omega, fun H4 s4 => ?_⟩
  have x4 := x3.same s4
  have hp := prs_len dt
  refine ⟨_, rfl, by omega, fun e => absurd (e.symm.trans (parseT_prs dt h5)) (fun z => by cases z), fun t' e' v' H5 s5 ta5 => ?_⟩
  cases (e'.symm.trans (parseT_prs dt h5))
  have x5 := x4.same s5
  refine ⟨_, rfl, tD t, tD t, ta5.dp, x5.tree.dp, x5.shp, x5.shp, ?_⟩
  rw [x5.eqv]
  refine ⟨false, rfl, iteF ?_⟩
  have hgl : (gp (pr tkF 1 t)).length ≤ 2000 := by have := gp_len (pr tkF 1 t); omega
  have h1 : (" " : Str) = S [32] := by decide +kernel
  refine ⟨_, rfl, _, rfl, by rw [S_len]; show _ + (_ + 1) * 2 ≤ _; omega, ?_⟩
  rw [replace_gp, h1]
  refine ⟨_, _, rfl, rfl, by rw [S_len, S_len, sizeLine_eq]; show 1 + _ ≤ _; omega, ?_⟩
  rw [S_app]
  refine ⟨_, _, rfl, rfl, by rw [S_len, S_len, sizeLine_eq]; simp only [List.length_append, List.length_cons, List.length_nil]; omega, ?_⟩
  rw [S_app]
  have eg : [32] ++ gp (pr tkF 1 t) ++ [32] = 32 :: (gp (pr tkF 1 t) ++ [32]) := by simp
  rw [eg]
  refine ⟨_, rfl, by simp only [List.length_append, List.length_cons, List.length_nil]; omega, fun e => absurd (e.symm.trans (parseT_gp dt h5)) (fun z => by cases z), fun t' e' v' H6 s6 ta6 => ?_⟩
  cases (e'.symm.trans (parseT_gp dt h5))
  have x6 := x5.same s6
  refine ⟨_, rfl, tD t, tD t, ta6.dp, x6.tree.dp, x6.shp, x6.shp, ?_⟩
  rw [x6.eqv]
  exact ⟨false, rfl, iteF (knx H6 v t dc2 x6)⟩
end
end K09
namespace K09
open PySem L2 HK CwR
/-! ### the variables -/
def envX (x : Int) : Wd → Int := fun u => if u = [120] then x else if u = [90] then -2147483648 else 0
theorem lf_names {u : Wd} (h : Lf.name u ∈ Lfs) : u = [120] ∨ u = [121, 95, 49] ∨ u = [90] := by
  have : ∀ x ∈ Lfs, (match x with | .name u => decide (u = [120] ∨ u = [121, 95, 49] ∨ u = [90]) | .int _ => true) = true := by decide +kernel
  exact of_decide_eq_true (this _ h)
theorem k_x : ("x" : Str) = S [120] := by decide +kernel
theorem k_Z : ("Z" : Str) = S [90] := by decide +kernel
theorem k_y : ("y_1" : Str) = S [121, 95, 49] := by decide +kernel
theorem key_S {a b : Wd} (h : a ≠ b) : ¬ ((Sum.inr (S a) : Key) = .inr (S b)) := fun e => h (S_inj (Sum.inr.inj e))
theorem env_in {x : Int} (hx : In32 x) (u : Wd) : In32 (envX x u) := by
  unfold envX
  split
  · exact hx
  · split <;> (unfold In32; decide)
theorem names_at {x : Int} (hx : In32 x) {H : Hp} {p : Addr} (h : H p = some (.dK [(.inr "x", .int x), (.inr "Z", .int (0 - 2147483648))])) : NamesAt H p (envX x) := by
  refine ⟨_, h, fun u hu => ⟨env_in hx u, ?_⟩⟩
  rw [k_x, k_Z]
  rcases lf_names hu with rfl | rfl | rfl
  · rw [valV_pos rfl]; rfl
  · rw [valV_neg (key_S (by decide)), valV_neg (key_S (by decide)), valV_nil]; rfl
  · rw [valV_neg (key_S (by decide)), valV_pos rfl]; rfl
theorem str_x : ∀ k < 30, Str.ofString (toString ((k : Nat) - 9 : Int)) = S (sgn (decide (((k : Nat) - 9 : Int) < 0)) (TL.numL (((k : Nat) - 9 : Int)).natAbs)) := by decide +kernel
theorem vars_at {k : Nat} (hk : k < 30) {H : Hp} {q : Addr} (h : H q = some (.dK [(.inr "x", .str (Str.ofString (toString ((k : Nat) - 9 : Int)))), (.inr "Z", .str "-2147483648"), (.inr "y_1", .str "no")])) : VarsAt H q (envX ((k : Nat) - 9 : Int)) := by
  have hx : In32 ((k : Nat) - 9 : Int) := by unfold In32; omega
  refine ⟨_, h, fun u hu => ⟨env_in hx u, ?_⟩⟩
  rw [k_x, k_Z, k_y]
  have z1 : ("-2147483648" : Str) = S (sgn true (TL.numL 2147483648)) := by decide +kernel
  have z2 : ("no" : Str) = S (sgn false [110, 111]) := by decide +kernel
  rcases lf_names hu with rfl | rfl | rfl
  · refine ⟨decide (((k : Nat) - 9 : Int) < 0), TL.numL (((k : Nat) - 9 : Int)).natAbs, by rw [valV_pos rfl, str_x k hk], num_wok (by omega), num_head _, Nat.le_trans (TL.numL_len (k := 12) (by decide) (by omega)) (by decide), ?_⟩
    show _ = ((k : Nat) - 9 : Int)
    by_cases c : ((k : Nat) - 9 : Int) < 0
    · rw [decide_eq_true c, numF_neg (by omega), wr_id (by unfold In32; omega)]; omega
    · rw [decide_eq_false c, numF_pos (by omega), wr_id (by unfold In32; omega)]; omega
  · refine ⟨false, [110, 111], by rw [valV_neg (key_S (by decide)), valV_neg (key_S (by decide)), valV_pos rfl, z2], ⟨by decide, by decide, by decide⟩, by decide, by decide, ?_⟩
    rfl
  · refine ⟨true, TL.numL 2147483648, by rw [valV_neg (key_S (by decide)), valV_pos rfl, z1], num_wok (by decide), num_head _, Nat.le_trans (TL.numL_len (k := 12) (by decide) (by decide)) (by decide), ?_⟩
    rw [numF_neg (by decide), wr_id (by unfold In32; omega)]; rfl
theorem pw_keys {kvs : List (Key × V)} (ks : List Key) (e : kvs.map (·.1) = ks) (h : ks.Pairwise (· ≠ ·)) : (([] : List (Key × V)) ++ kvs).Pairwise (fun a b => a.1 ≠ b.1) := by
  rw [List.nil_append]
  exact List.pairwise_map.mp (e ▸ h)
section
variable {P : Program} {w : World} {K : PySem.W.Frag} {mg : Str → Option Value} {base : Heap} {CE g0 : Addr}
theorem value_ok (L : LTxt P w K mg base CE g0) {f c0 PT : Addr} {A : Around} {outer : List Env} {s0 : Shared} {H0 : Hp} {E9 : XK} (hr : Room 140 (LCx P w K mg base f c0 A outer s0 H0 E9).A) :
    ∃ t, PSs (LCx P w K mg base f c0 A outer s0 H0 E9) ((diceBody.drop 3).take 2) t ∧ ∀ (a D R : Addr) (dc : Dice) (v : V) (tr : Tr) (Dn : Ends) (H : Hp) (u3 u4 u5 u6 u7 u8 u9 u10 u11 u12 : Option V), WL PT D R dc v tr H →
      (∀ H' v3 dc', WL PT D R dc' v tr H' → Dn.nx [some (.ref a), some (.ref D), some v, v3, u4, u5, u6, u7, u8, u9, u10, u11, u12] H') →
      t Dn [some (.ref a), some (.ref D), some v, u3, u4, u5, u6, u7, u8, u9, u10, u11, u12] H := by
  obtain ⟨fO, dO, FO, mO, kO, bO⟩ := L.roll
  obtain ⟨fV, dV, FV, mV, kV, bV⟩ := L.value
  obtain ⟨fL, dL, FL, mL, kL, bL⟩ := L.lval
  have rO := FO.mono (show 1 ≤ 140 by decide)
  have rV := FV.mono (show 8 ≤ 140 by decide)
  have rL := FL.mono (show 7 ≤ 140 by decide)
  refine ⟨_, pss_cons (ps_set (i := 3) scLaw.nd rfl (Or.inl rfl) (pe_disp (pps_cons pe_str (pe_op op_sub (pe_call rO hr (by rfl) mO kO bO .nil pass0 (pa_cons (pv 1) (pa_cons pe_int pa_nil))) pe_int) (pps_cons pe_str (pe_op op_sub pe_int pe_int) pps_nil)) (by rfl) (by rfl) (fun z => by cases z) (by decide)))
    (pss_one (ps_if (pt_cmpR op_ne (pe_call rV hr (by rfl) mV kV bV .nil pass0 (pa_cons (pv 2) (pa_cons (pe_disp (pps_cons pe_str (pe_callTy call_strB (by rfl) L.C.str PyProof.Rows.Boot.«str» (pa_cons (pe_dget (hu_of hr) (pv 3) pe_str (fun _ _ => rfl)) pa_nil)) (pps_cons pe_str pe_str (pps_cons pe_str pe_str pps_nil))) (by rfl) (by rfl) (fun z => by cases z) (by decide)) pa_nil)))
      (pe_call rL hr (by rfl) mL kL bL .nil pass0 (pa_cons (pv 2) (pa_cons (pv 3) pa_nil))) (nomark _)) (pss_one (ps_ret pe_bl)) pss_nil)), ?_⟩
  intro a D R dc v tr Dn H u3 u4 u5 u6 u7 u8 u9 u10 u11 u12 x knx
  obtain ⟨a0, a1⟩ := roll_range dc (m := 30) (by decide)
  have h5 := x.h5
  refine fun p np => ⟨_, rfl, D, dc, 30, rfl, ?_, by decide, by decide, _, _, rfl, rfl, _, _, rfl, rfl, ?_, [(.inr "x", .int ((roll dc 30).1 - 9)), (.inr "Z", .int (0 - 2147483648))], rfl, by show 2 ≤ 15; decide, ?_⟩
  · rw [upd_ne (ne_of_none x.dice np)]; exact x.dice
  · rw [upd_ne (ne_of_none x.dice np).symm, upd_same]
  obtain ⟨k, hk⟩ : ∃ k : Nat, (roll dc 30).1 = (k : Int) := ⟨(roll dc 30).1.toNat, by omega⟩
  have hk3 : k < 30 := by omega
  have hx : In32 ((k : Nat) - 9 : Int) := by unfold In32; omega
  rw [merge_id _ [] (pw_keys [.inr "x", .inr "Z"] rfl (by decide +kernel)), List.nil_append, hk]
  have x1 : WL PT D R (roll dc 30).2 v tr (upd (upd (upd H p (.dK [])) D (.lst (roll dc 30).2.vs)) p (.dK [(.inr "x", .int ((k : Nat) - 9 : Int)), (.inr "Z", .int (0 - 2147483648))])) := x.rolled (fun b o nb h => by
    have := ne_of_none h np
    rw [upd_ne this, upd_ne nb, upd_ne this]; exact h) (by rw [upd_ne (ne_of_none x.dice np), upd_same])
  have n1 := names_at hx (H := upd (upd (upd H p (.dK [])) D (.lst (roll dc 30).2.vs)) p (.dK [(.inr "x", .int ((k : Nat) - 9 : Int)), (.inr "Z", .int (0 - 2147483648))])) (p := p) upd_same
  have hp1 : (upd (upd (upd H p (.dK [])) D (.lst (roll dc 30).2.vs)) p (.dK [(.inr "x", .int ((k : Nat) - 9 : Int)), (.inr "Z", .int (0 - 2147483648))])) p = some (.dK [(.inr "x", .int ((k : Nat) - 9 : Int)), (.inr "Z", .int (0 - 2147483648))]) := upd_same
  generalize upd (upd (upd H p (.dK [])) D (.lst (roll dc 30).2.vs)) p (.dK [(.inr "x", .int ((k : Nat) - 9 : Int)), (.inr "Z", .int (0 - 2147483648))]) = H1 at x1 n1 hp1 ⊢
  generalize (roll dc 30).2 = dc1 at x1
  clear x np
  refine ⟨_, rfl, fun q nq => ?_⟩
  have hp2 : (upd H1 q (.dK [])) p = some (.dK [(.inr "x", .int ((k : Nat) - 9 : Int)), (.inr "Z", .int (0 - 2147483648))]) := by rw [upd_ne (ne_of_none hp1 nq)]; exact hp1
  refine ⟨_, rfl, p, .int ((k : Nat) - 9 : Int), rfl, ?_, .inl ⟨_, rfl, ?_, ?_⟩⟩
  · have := DGet.k (k := .inr "x") hp2
    rw [valV_pos rfl] at this
    exact this
  · exact Nat.lt_of_le_of_lt (Nat.log2_le_self _) (by omega)
  refine ⟨upd_same, [(.inr "x", .str (Str.ofString (toString ((k : Nat) - 9 : Int)))), (.inr "Z", .str "-2147483648"), (.inr "y_1", .str "no")], rfl, by show 3 ≤ 15; decide, ?_⟩
  rw [merge_id _ [] (pw_keys [.inr "x", .inr "Z", .inr "y_1"] rfl (by decide +kernel)), List.nil_append, upd_upd]
  have s2 : Same H1 (upd H1 q (.dK [(.inr "x", .str (Str.ofString (toString ((k : Nat) - 9 : Int)))), (.inr "Z", .str "-2147483648"), (.inr "y_1", .str "no")])) := same_upd nq
  have v2 := vars_at hk3 (H := upd H1 q (.dK [(.inr "x", .str (Str.ofString (toString ((k : Nat) - 9 : Int)))), (.inr "Z", .str "-2147483648"), (.inr "y_1", .str "no")])) (q := q) upd_same
  have x2 := x1.same s2
  have n2 := n1.same s2
  generalize upd H1 q (.dK [(.inr "x", .str (Str.ofString (toString ((k : Nat) - 9 : Int)))), (.inr "Z", .str "-2147483648"), (.inr "y_1", .str "no")]) = H2 at x2 n2 v2 ⊢
  refine ⟨v, tr, q, _, rfl, x2.tree, x2.dr, by omega, v2, fun H3 s3 => ?_⟩
  have x3 := x2.same s3
  refine ⟨_, rfl, _, rfl, v, tr, p, _, rfl, x3.tree, x3.dr, by omega, n2.same s3, fun H4 s4 => ?_⟩
  refine ⟨rfl, false, by simp, iteF (knx H4 _ dc1 (x3.same s4))⟩
end
end K09
namespace K09
open PySem L2 HK CwR
/-! ### a pair of brackets less -/
abbrev nV (k : Nat) : V := V.int (k : Int)
theorem dps_nats {K : PySem.W.Frag} {H : Hp} : ∀ l : List Nat, DpAll K H (l.map nV) ((l.map fun k : Nat => (k : Int)).map PyData.int)
  | [] => .nil
  | i :: r => .cons (.int _) (dps_nats r)
theorem dp_nats {K : PySem.W.Frag} {H : Hp} {a : Addr} {l : List Nat} (h : H a = some (.lst (l.map nV))) : Dp K H (.ref a) (.list ((l.map fun k : Nat => (k : Int)).map PyData.int)) := .lst (SqL.of h) (dps_nats l)
theorem at_nats {l : List Nat} {r : Int} (h0 : 0 ≤ r) (h1 : r < (l.length : Int)) : ∃ k ∈ l, atI (l.map nV) r = some (.int (k : Int)) := by
  obtain ⟨k, rfl⟩ : ∃ k : Nat, r = (k : Int) := ⟨r.toNat, by omega⟩
  have hk : k < l.length := by omega
  exact ⟨l[k], List.getElem_mem hk, atI_nat (by rw [List.getElem?_map, List.getElem?_eq_getElem hk]; rfl)⟩
theorem shaped_ints (l : List Int) : SeqAt.shaped (.list (l.map PyData.int)) = true := by
  have := PySem.W.ke_shaped_ints l
  unfold SeqAt.shaped at this ⊢
  simpa [PyData.canLay0, PyData.depth] using this
theorem shp_str {z : Str} (h : PyData.strOk z = true) : SeqAt.shaped (.str z) = true := by simp [SeqAt.shaped, PyData.canLay0, PyData.depth, h]
theorem shp_err : SeqAt.shaped (.str ("ShellError" : Str)) = true := shp_str (by decide +kernel)
theorem eqv_st (z : Str) : ∀ t : Tr, PyData.eqv (.str z) (tD t) = false
  | .lf (.int _) => rfl
  | .lf (.name _) => rfl
  | .neg _ => rfl
  | .op _ _ _ => rfl
theorem eqv_ts (z : Str) : ∀ t : Tr, PyData.eqv (tD t) (.str z) = false
  | .lf (.int _) => rfl
  | .lf (.name _) => rfl
  | .neg _ => rfl
  | .op _ _ _ => rfl
section
variable {P : Program} {w : World} {K : PySem.W.Frag} {mg : Str → Option Value} {base : Heap} {CE g0 : Addr}
theorem pair_ok (L : LTxt P w K mg base CE g0) {f c0 PT : Addr} {A : Around} {outer : List Env} {s0 : Shared} {H0 : Hp} {E9 : XK} (TB : LamX.TabB base mg c0 PT) (hr : Room 140 (LCx P w K mg base f c0 A outer s0 H0 E9).A) :
    ∃ t, PSs (LCx P w K mg base f c0 A outer s0 H0 E9) ((diceBody.drop 5).take 2) t ∧ ∀ (a D R : Addr) (dc : Dice) (v : V) (tr : Tr) (Dn : Ends) (H : Hp) (u3 u4 u5 u6 u7 u9 u10 u11 u12 : Option V), WL PT D R dc v tr H →
      (∀ H' v4 v11 dc', WL PT D R dc' v tr H' → Dn.nx [some (.ref a), some (.ref D), some v, u3, v4, u5, u6, u7, some (.str (S (pr tkF 1 tr))), u9, u10, v11, u12] H') →
      t Dn [some (.ref a), some (.ref D), some v, u3, u4, u5, u6, u7, some (.str (S (pr tkF 1 tr))), u9, u10, u11, u12] H := by
  obtain ⟨fO, dO, FO, mO, kO, bO⟩ := L.roll
  obtain ⟨fP, dP, FP, mP, kP, bP⟩ := L.parse
  obtain ⟨fL, dL, FL, mL, kL, bL⟩ := L.less
  have rO := FO.mono (show 1 ≤ 140 by decide)
  have rP := FP.mono (show 130 ≤ 136 by decide)
  have rL := FL.mono (show 1 ≤ 136 by decide)
  refine ⟨_, pss_cons (ps_setLc (i := 4) (own := [("k", 12)]) (g := gName 12) (te := tVar 12) (by rfl) scLaw.nd rfl rfl (sw_true rfl rfl rfl (by decide +kernel)) (pi_range1 (by rfl) L.range (pa_cons (pe_callB call_len_str (by rfl) L.C.len PySem.boot_len (pa_cons (pv 8) pa_nil)) pa_nil))
        (blkOk_by (N := NL) (sc := defScope sLaw) (by decide +kernel)) (fun _ _ _ _ _ => pg_name (i := 12) scLaw.nd rfl (Or.inl rfl)) (fun _ _ _ _ _ => pts_one (pt_cmpR op_eq (pe_ix ix_str (pv 8) (pv 12) (fun _ _ => rfl)) pe_str (nomark _))) (fun _ _ _ _ _ => pv 12))
    (pss_one (ps_if (pt_cmpR (op_neD hr.units) (pv 4) (pe_lst pa_nil) (nomark _))
      (pss_cons (ps_set (i := 11) scLaw.nd rfl (Or.inr rfl) (pe_ix ix_list (pv 4) (pe_call rO hr (by rfl) mO kO bO .nil pass0 (pa_cons (pv 1) (pa_cons (pe_callB call_len_seq (by rfl) L.C.len PySem.boot_len (pa_cons (pv 4) pa_nil)) pa_nil))) (fun _ _ => rfl)))
      (pss_one (ps_if (pt_cmpR (op_eqD hr.units) (pe_told (k := 136) L.told TB rfl (by rfl) (Room.mono hr (by decide)) (LamX.lamS_by (sc := defScope sLaw) (by decide +kernel)) rfl (fun _ _ _ _ _ => rfl)
          (fun A1 o1 s1 H1 E1 f1 c1 hr6 => pe_call rP hr6 (by rfl) mP kP bP .nil (passes_call (takes_of rfl rfl rfl rfl) (fun _ _ _ _ h => h)) (pa_cons (pe_call rL hr6 (by rfl) mL kL bL .nil pass0 (pa_cons (pv 8) (pa_cons (pv 11) pa_nil))) pa_nil))) (pv 2) (nomark _))
        (pss_one (ps_ret pe_bl)) pss_nil))) pss_nil)), ?_⟩
  intro a D R dc v tr Dn H u3 u4 u5 u6 u7 u9 u10 u11 u12 x knx
  have hl := x.len
  have hlS : (S (pr tkF 1 tr)).length ≤ sizeLine := lenS (by omega)
  refine ⟨_, rfl, _, rfl, hlS, _, rfl, by omega, by rw [S_len]; omega, fun Dl nDl => ?_⟩
  refine lc_range (n := ((S (pr tkF 1 tr)).length : Int).toNat) (fun i H' => ∃ ks : List Nat, H' Dl = some (.lst (ks.map nV)) ∧ (∀ k ∈ ks, (pr tkF 1 tr)[k]? = some 40) ∧ ks.length ≤ i ∧ Same H H') ⟨[], upd_same, (fun _ h => by cases h), Nat.le_refl _, same_upd nDl⟩ (fun i H' hi q => ?_) (fun H' q => ?_)
  · obtain ⟨ks, h1, h2, h3, h4⟩ := q
    have hi2 : i < (pr tkF 1 tr).length := by rw [S_len] at hi; omega
    obtain ⟨y, hy⟩ : ∃ y, (pr tkF 1 tr)[i]? = some y := ⟨_, List.getElem?_eq_getElem hi2⟩
    have ek : ((0 : Int) + (i : Int)) = ((i : Nat) : Int) := by omega
    rw [ek]
    refine ⟨rfl, _, rfl, _, rfl, _, _, y, rfl, rfl, hlS, at_S hy, rfl, _, rfl, ?_⟩
    rw [l_b1, S_dec]
    refine ite2 (fun c1 => ?_) (fun c1 => ⟨ks, h1, h2, by omega, h4⟩)
    refine ⟨_, rfl, _, h1, by rw [List.length_map, sizeLine_eq]; omega, ks ++ [i], ?_, fun k hk => ?_, by rw [List.length_append]; show _ + 1 ≤ _; omega, fun b o h => ?_⟩
    · rw [upd_same, List.map_append]; rfl
    · rcases List.mem_append.mp hk with z | z
      · exact h2 k z
      · rw [List.mem_singleton.mp z, hy, List.singleton_inj.mp (of_decide_eq_true c1)]
    · rw [upd_ne (ne_of_none h nDl)]; exact h4 b o h
  · obtain ⟨ks, h1, h2, h3, h4⟩ := q
    have x1 := x.same h4
    have h3 : ks.length ≤ 630 := by rw [S_len] at h3; omega
    have neD : Dl ≠ D := (ne_of_none x.dice nDl).symm
    clear x h4 nDl
    refine ⟨_, rfl, by show 0 ≤ sizeLine; decide, fun e ne => ?_⟩
    have s2 : Same H' (upd H' e (.lst [])) := same_upd ne
    have x2 := x1.same s2
    have h12 := s2 _ _ h1
    refine ⟨_, .list [], dp_nats h12, Dp.lst (SqL.of upd_same) .nil, shaped_ints _, rfl, ?_⟩
    generalize upd H' e (.lst []) = H2 at x2 h12 ⊢
    clear h1 s2 x1 ne
    cases ks with
    | nil => exact ⟨false, rfl, iteF (knx H2 _ _ dc x2)⟩
    | cons k0 r =>
      refine ⟨true, rfl, iteT ?_⟩
      obtain ⟨ks, hks⟩ : ∃ ks, ks = k0 :: r := ⟨_, rfl⟩
      have hpos : 0 < ks.length := by rw [hks]; exact Nat.succ_pos _
      rw [← hks] at h12 h2 h3
      clear hks
      obtain ⟨b0, b1⟩ := roll_range dc (m := ((ks.map nV).length : Int)) (by rw [List.length_map]; omega)
      refine ⟨_, rfl, _, rfl, _, rfl, Dl, _, rfl, .inl (SqL.of h12), D, dc, _, rfl, x2.dice, by rw [List.length_map]; omega, by rw [List.length_map]; omega, ?_⟩
      have x3 := rolled_at x2 (roll dc ((ks.map nV).length : Int)).2
      have hDl : (upd H2 D (.lst (roll dc ((ks.map nV).length : Int)).2.vs)) Dl = some (.lst (ks.map nV)) := by rw [upd_ne neD]; exact h12
      generalize upd H2 D (.lst (roll dc ((ks.map nV).length : Int)).2.vs) = H3 at x3 hDl ⊢
      generalize (roll dc ((ks.map nV).length : Int)).2 = dc1 at x3
      generalize (roll dc ((ks.map nV).length : Int)).1 = r at b0 b1 ⊢
      obtain ⟨k, hk, hat⟩ := at_nats b0 (by rw [List.length_map] at b1; exact b1)
      refine ⟨Dl, _, _, _, rfl, rfl, SqL.of hDl, hat, ?_⟩
      have hk40 := h2 k hk
      clear hat hk b0 b1 h12 x2 hDl h2
      obtain ⟨hkl, hk40⟩ := List.getElem?_eq_some_iff.mp hk40
      have e0 : pr tkF 1 tr = (pr tkF 1 tr).take k ++ 40 :: (pr tkF 1 tr).drop (k + 1) := by
        conv => lhs; rw [← List.take_append_drop k (pr tkF 1 tr)]
        rw [List.drop_eq_getElem_cons hkl, hk40]
      obtain ⟨m, c, e1, h6, h7⟩ := pair_pr x3.dr.neat e0
      have elen : ((pr tkF 1 tr).take k).length = k := by rw [List.length_take]; omega
      rw [e1] at e0
      obtain ⟨ta, eta⟩ : ∃ ta, ta = (pr tkF 1 tr).take k := ⟨_, rfl⟩
      rw [← eta] at e0 elen
      have hlen2 : (ta ++ 40 :: (m ++ 41 :: c)).length ≤ 630 := by rw [← e0]; exact x3.len
      refine ⟨x3.tabs, fun H4 e4 t4 => ?_⟩
      have x4 := x3.ext e4 t4
      refine ⟨_, rfl, _, rfl, ta, m, c, by rw [← e0, elen]; rfl, by omega, h6, h7, ?_⟩
      refine ⟨_, rfl, by simp only [List.length_append, List.length_cons] at hlen2 ⊢; omega, fun _ H5 s5 => ⟨true, L.e11, fun _ => ?_, fun z => Bool.noConfusion z⟩, fun t' et v' H5 s5 ta5 => ?_⟩
      · have x5 := x4.same s5
        refine ⟨_, rfl, .str "ShellError", tD tr, Dp.str _, x5.tree.dp, shp_err, x5.shp, ?_⟩
        rw [eqv_st]
        exact ⟨false, rfl, iteF (knx H5 _ _ dc1 x5)⟩
      · have x5 := x4.same s5
        obtain ⟨n1, n2, n3⟩ := parseT_less x3.dr x3.h5 e0 et
        have n4 : ht t' ≤ 62 := by have := ht_lt t'; omega
        refine ⟨_, rfl, tD t', tD tr, ta5.dp, x5.tree.dp, tD_shaped n3 n4, x5.shp, ?_⟩
        rw [tD_eqv n3 n4, decide_eq_false n1]
        exact ⟨false, rfl, iteF (knx H5 _ _ dc1 x5)⟩
end
end K09
namespace K09
open PySem L2 HK CwR
theorem tails_strs : ([V.str " +", V.str ")", V.str " 1 2", V.str "(", V.str " mod", V.str " ="] : List V) = tsv tails := by
  have h1 : (" +" : Str) = S [32, 43] := by decide +kernel
  have h2 : (" 1 2" : Str) = S [32, 49, 32, 50] := by decide +kernel
  have h3 : (" mod" : Str) = S [32, 109, 111, 100] := by decide +kernel
  have h4 : (" =" : Str) = S [32, 61] := by decide +kernel
  rw [h1, h2, h3, h4, br_S, l_b1]; rfl
section
variable {P : Program} {w : World} {K : PySem.W.Frag} {mg : Str → Option Value} {base : Heap} {CE g0 : Addr}
theorem more_ok (L : LTxt P w K mg base CE g0) {f c0 PT : Addr} {A : Around} {outer : List Env} {s0 : Shared} {H0 : Hp} {E9 : XK} (TB : LamX.TabB base mg c0 PT) (hr : Room 140 (LCx P w K mg base f c0 A outer s0 H0 E9).A) :
    ∃ t, PSs (LCx P w K mg base f c0 A outer s0 H0 E9) ((diceBody.drop 7).take 2) t ∧ ∀ (a D R : Addr) (dc : Dice) (v : V) (tr : Tr) (Dn : Ends) (H : Hp) (u3 u4 u5 u6 u7 u9 u10 u11 u12 : Option V), WL PT D R dc v tr H →
      (∀ H' v10 dc', WL PT D R dc' v tr H' → Dn.nx [some (.ref a), some (.ref D), some v, u3, u4, u5, u6, u7, some (.str (S (pr tkF 1 tr))), u9, v10, u11, u12] H') →
      t Dn [some (.ref a), some (.ref D), some v, u3, u4, u5, u6, u7, some (.str (S (pr tkF 1 tr))), u9, u10, u11, u12] H := by
  obtain ⟨fO, dO, FO, mO, kO, bO⟩ := L.roll
  obtain ⟨fP, dP, FP, mP, kP, bP⟩ := L.parse
  obtain ⟨fW, dW, FW, mW, kW, bW⟩ := L.words
  have rO := FO.mono (show 1 ≤ 140 by decide)
  have rP := FP.mono (show 130 ≤ 136 by decide)
  have rW := FW.mono (show 3 ≤ 140 by decide)
  refine ⟨_, pss_cons (ps_set (i := 10) scLaw.nd rfl (Or.inr rfl) (pe_op op_add_str (pv 8) (pe_ix ix_list (pe_lst (pa_cons pe_str (pa_cons pe_str (pa_cons pe_str (pa_cons pe_str (pa_cons pe_str (pa_cons pe_str pa_nil))))))) (pe_call rO hr (by rfl) mO kO bO .nil pass0 (pa_cons (pv 1) (pa_cons pe_int pa_nil))) (fun _ _ => rfl))))
    (pss_one (ps_if (PW.pt (pw_or (pt_cmpR (op_neD hr.units) (pe_told (k := 136) L.told TB rfl (by rfl) (Room.mono hr (by decide)) (LamX.lamS_by (sc := defScope sLaw) (by decide +kernel)) rfl (fun _ _ _ _ _ => rfl)
          (fun A1 o1 s1 H1 E1 f1 c1 hr6 => pe_call rP hr6 (by rfl) mP kP bP .nil (passes_call (takes_of rfl rfl rfl rfl) (fun _ _ _ _ h => h)) (pa_cons (pv 10) pa_nil))) pe_str (nomark _))
        (pw_or1 (pt_cmpO op_ne (peo_m1 PySem.F.slot_str_join PySem.F.type_str_join mt_join peo_str (pe_call rW hr (by rfl) mW kW bW .nil passL' (pa_cons (pv 8) pa_nil))) (pet_replC (pv 8)) (nomark _)))))
      (pss_one (ps_ret pe_bl)) pss_nil)), ?_⟩
  intro a D R dc v tr Dn H u3 u4 u5 u6 u7 u9 u10 u11 u12 x knx
  have hl := x.len
  obtain ⟨b0, b1⟩ := roll_range dc (m := 6) (by decide)
  refine ⟨_, rfl, by show 6 ≤ sizeLine; decide, fun l nl => ?_⟩
  have x1 := x.same (same_upd (o := .lst [V.str " +", V.str ")", V.str " 1 2", V.str "(", V.str " mod", V.str " ="]) nl)
  have hl1 : (upd H l (.lst [V.str " +", V.str ")", V.str " 1 2", V.str "(", V.str " mod", V.str " ="])) l = some (.lst [V.str " +", V.str ")", V.str " 1 2", V.str "(", V.str " mod", V.str " ="]) := upd_same
  have neD : l ≠ D := (ne_of_none x.dice nl).symm
  generalize upd H l (.lst [V.str " +", V.str ")", V.str " 1 2", V.str "(", V.str " mod", V.str " ="]) = H1 at x1 hl1 ⊢
  clear x nl
  refine ⟨_, rfl, D, dc, 6, rfl, x1.dice, by decide, by decide, ?_⟩
  have x2 := rolled_at x1 (roll dc 6).2
  have hl2 : (upd H1 D (.lst (roll dc 6).2.vs)) l = some (.lst [V.str " +", V.str ")", V.str " 1 2", V.str "(", V.str " mod", V.str " ="]) := by rw [upd_ne neD]; exact hl1
  generalize upd H1 D (.lst (roll dc 6).2.vs) = H2 at x2 hl2 ⊢
  generalize (roll dc 6).2 = dc1 at x2
  generalize (roll dc 6).1 = r at b0 b1 ⊢
  rw [tails_strs] at hl2
  obtain ⟨u, hu, hat⟩ := at_tsv (l := tails) b0 b1
  have hu9 : u.length ≤ 4 := by
    have : ∀ u ∈ tails, u.length ≤ 4 := by decide
    exact this u hu
  refine ⟨l, _, _, _, rfl, rfl, SqL.of hl2, hat, _, _, rfl, rfl, by rw [S_len, S_len, sizeLine_eq]; omega, ?_⟩
  have x3 := x2
  refine ⟨x3.tabs, fun H4 e4 t4 => ?_⟩
  have x4 := x3.ext e4 t4
  have hn := parseT_more x4.dr x4.h5 hu
  refine ⟨_, rfl, pr tkF 1 tr ++ u, by rw [← S_app]; rfl, by rw [List.length_append]; omega, fun _ H5 s5 => ⟨true, L.e11, fun _ => ?_, fun z => Bool.noConfusion z⟩, fun t' et => absurd (et.symm.trans hn) (fun z => by cases z)⟩
  have x5 := x4.same s5
  refine ⟨.str "ShellError", .str "ShellError", Dp.str _, Dp.str _, shp_err, shp_err, ?_⟩
  rw [SeqAt.eqv_refl _ (SeqAt.canLay_of_shaped shp_err)]
  refine ⟨false, rfl, iteF ?_⟩
  -- all the words in one
  refine ⟨⟨_, rfl⟩, _, rfl, _, rfl, by omega, fun e => absurd (e.symm.trans (words_pr x5.dr.neat 1)) (fun z => by cases z), fun ws ew p H6 s6 np hp => ?_⟩
  cases (ew.symm.trans (words_pr x5.dr.neat 1))
  have x6 := x5.same s6
  have fl := flat_pr tr x6.dr.neat 1
  have e1 : ((toks tkF 1 tr).map S).map V.str = tsv (toks tkF 1 tr) := by rw [List.map_map]; rfl
  have e2 : ((toks tkF 1 tr).map S).map (·.length) = (toks tkF 1 tr).map List.length := by rw [List.map_map]; exact List.map_congr_left fun u _ => S_len u
  have e3 : ((toks tkF 1 tr).map List.length).sum ≤ 630 := by
    rw [← List.length_flatten, fl]
    exact Nat.le_trans (List.length_filter_le _ _) hl
  refine ⟨"", p, (toks tkF 1 tr).map S, rfl, rfl, .inl (SqL.of (by rw [e1]; exact hp)), by rw [e2]; show _ + _ * 0 ≤ _; omega, ?_⟩
  refine ⟨_, rfl, _, rfl, by rw [S_len]; show _ + _ * 0 ≤ _; omega, ?_⟩
  rw [join_words, replace_no, fl]
  exact ⟨rfl, false, by simp, iteF (knx H6 _ dc1 x6)⟩
end
end K09
namespace K09
open PySem L2 HK CwR
theorem eqv_ss {a b : Str} : PyData.eqv (.str a) (.str b) = (a == b) := rfl
section
variable {P : Program} {w : World} {K : PySem.W.Frag} {mg : Str → Option Value} {base : Heap} {CE g0 : Addr}
theorem num_ok (L : LTxt P w K mg base CE g0) {f c0 PT : Addr} {A : Around} {outer : List Env} {s0 : Shared} {H0 : Hp} {E9 : XK} (hr : Room 140 (LCx P w K mg base f c0 A outer s0 H0 E9).A) :
    ∃ t, PSs (LCx P w K mg base f c0 A outer s0 H0 E9) ((diceBody.drop 9).take 2) t ∧ ∀ (a D R : Addr) (dc : Dice) (v : V) (tr : Tr) (Dn : Ends) (H : Hp) (u3 u4 u5 u6 u7 u8 u9 u10 u11 u12 : Option V), WL PT D R dc v tr H →
      (∀ H' v5 dc', WL PT D R dc' v tr H' → Dn.nx [some (.ref a), some (.ref D), some v, u3, u4, v5, u6, u7, u8, u9, u10, u11, u12] H') →
      t Dn [some (.ref a), some (.ref D), some v, u3, u4, u5, u6, u7, u8, u9, u10, u11, u12] H := by
  obtain ⟨fO, dO, FO, mO, kO, bO⟩ := L.roll
  obtain ⟨fN, dN, FN, mN, kN, bN⟩ := L.from_
  obtain ⟨fW, dW, FW, mW, kW, bW⟩ := L.lwrap
  have rO := FO.mono (show 1 ≤ 140 by decide)
  have rN := FN.mono (show 2 ≤ 140 by decide)
  have rW := FW.mono (show 1 ≤ 140 by decide)
  refine ⟨_, pss_cons (ps_set (i := 5) scLaw.nd rfl (Or.inl rfl) (pe_call rO hr (by rfl) mO kO bO .nil pass0 (pa_cons (pv 1) (pa_cons (pe_op op_pow pe_int pe_int) pa_nil))))
    (pss_one (ps_if (PW.pt (pw_or (pt_cmpR op_ne (pe_call rN hr (by rfl) mN kN bN .nil pass0 (pa_cons (pe_callTy call_strB (by rfl) L.C.str PyProof.Rows.Boot.«str» (pa_cons (pv 5) pa_nil)) pa_nil)) (pe_call rW hr (by rfl) mW kW bW .nil pass0 (pa_cons (pv 5) pa_nil)) (nomark _))
        (pw_or1 (pt_cmpR op_ne (pe_call rN hr (by rfl) mN kN bN .nil pass0 (pa_cons (pe_op op_add_str pe_str (pe_callTy call_strB (by rfl) L.C.str PyProof.Rows.Boot.«str» (pa_cons (pv 5) pa_nil))) pa_nil)) (pe_call rW hr (by rfl) mW kW bW .nil pass0 (pa_cons (pe_op op_sub pe_int (pv 5)) pa_nil)) (nomark _)))))
      (pss_one (ps_ret pe_bl)) pss_nil)), ?_⟩
  intro a D R dc v tr Dn H u3 u4 u5 u6 u7 u8 u9 u10 u11 u12 x knx
  obtain ⟨b0, b1⟩ := roll_range dc (m := 1000000000000) (by decide)
  refine ⟨_, rfl, _, _, rfl, rfl, ⟨by decide, by decide⟩, D, dc, 1000000000000, rfl, x.dice, by decide, by decide, ?_⟩
  have x2 := rolled_at x (roll dc 1000000000000).2
  generalize upd H D (.lst (roll dc 1000000000000).2.vs) = H2 at x2 ⊢
  generalize (roll dc 1000000000000).2 = dc1 at x2
  generalize (roll dc 1000000000000).1 = r at b0 b1 ⊢
  obtain ⟨n, rfl⟩ : ∃ n : Nat, r = (n : Int) := ⟨r.toNat, by omega⟩
  have hn : n < 10 ^ 12 := by omega
  have hlog : ((n : Nat) : Int).natAbs.log2 < 1920 := by
    show n.log2 < 1920
    by_cases c : n = 0
    · rw [c]; decide
    · exact Nat.lt_of_lt_of_le ((Nat.log2_lt c).mpr (show n < 2 ^ 40 by omega)) (by decide)
  have hw := num_wok hn
  have hlen : (TL.numL n).length ≤ 1000 := Nat.le_trans (TL.numL_len (k := 12) (by decide) hn) (by decide)
  refine ⟨_, rfl, .inl ⟨_, rfl, hlog, ?_⟩⟩
  have e1 : Str.ofString (toString ((n : Nat) : Int)) = S (sgn false (TL.numL n)) := SX.num_S n
  have e2 : ("-" : Str) = S [45] := by decide +kernel
  refine ⟨false, TL.numL n, by rw [e1]; rfl, hw, num_head n, hlen, ?_⟩
  rw [numF_pos hn]
  refine ⟨_, rfl, _, rfl, rfl, false, by simp, iteF ?_⟩
  refine ⟨_, rfl, .inl ⟨_, rfl, hlog, _, _, rfl, rfl, ?_, ?_⟩⟩
  · rw [e1, e2, S_len, S_len, sizeLine_eq]; show 1 + (TL.numL n).length ≤ _; omega
  · refine ⟨true, TL.numL n, by rw [e1, e2, S_app]; rfl, hw, num_head n, hlen, ?_⟩
    rw [numF_neg hn]
    refine ⟨_, rfl, _, _, rfl, rfl, _, rfl, rfl, false, ?_, iteF (knx H2 _ dc1 x2)⟩
    have : (0 : Int) - (n : Int) = -(n : Int) := by omega
    rw [this]
    simp
theorem brk_ok (L : LTxt P w K mg base CE g0) {f c0 PT : Addr} {A : Around} {outer : List Env} {s0 : Shared} {H0 : Hp} {E9 : XK} (TB : LamX.TabB base mg c0 PT) (hr : Room 140 (LCx P w K mg base f c0 A outer s0 H0 E9).A) :
    ∃ t, PSs (LCx P w K mg base f c0 A outer s0 H0 E9) (diceBody.drop 11) t ∧ ∀ (a D R : Addr) (dc : Dice) (v : V) (tr : Tr) (Dn : Ends) (H : Hp) (u3 u4 u5 u6 u7 u8 u9 u10 u11 u12 : Option V), WL PT D R dc v tr H →
      (∀ H' v6 v9 dc', WL PT D R dc' v tr H' → Dn.nx [some (.ref a), some (.ref D), some v, u3, u4, u5, v6, u7, u8, v9, u10, u11, u12] H') →
      t Dn [some (.ref a), some (.ref D), some v, u3, u4, u5, u6, u7, u8, u9, u10, u11, u12] H := by
  obtain ⟨fO, dO, FO, mO, kO, bO⟩ := L.roll
  obtain ⟨fP, dP, FP, mP, kP, bP⟩ := L.parse
  have rO := FO.mono (show 1 ≤ 140 by decide)
  have rP := FP.mono (show 130 ≤ 136 by decide)
  refine ⟨_, pss_cons (ps_set (i := 9) scLaw.nd rfl (Or.inr rfl) (pe_call rO hr (by rfl) mO kO bO .nil pass0 (pa_cons (pv 1) (pa_cons pe_int pa_nil))))
    (pss_cons (ps_set (i := 6) scLaw.nd rfl (Or.inl rfl) (pe_told (k := 136) L.told TB rfl (by rfl) (Room.mono hr (by decide)) (LamX.lamS_by (sc := defScope sLaw) (by decide +kernel)) rfl (fun _ _ _ _ _ => rfl)
          (fun A1 o1 s1 H1 E1 f1 c1 hr6 => pe_call rP hr6 (by rfl) mP kP bP .nil (passes_call (takes_of rfl rfl rfl rfl) (fun _ _ _ _ h => h)) (pa_cons (pe_op op_add_str (pe_op op_add_str (pe_op op_repS pe_str (pv 9)) pe_str) (pe_op op_repS pe_str (pv 9))) pa_nil))))
    (pss_one (ps_if (pt_cmpR op_ne (pe_cmpR (op_eqD hr.units) (pv 6) pe_str (nomark _)) (pe_cmpR op_gt (pv 9) pe_int (nomark _)) (nomark _)) (pss_one (ps_ret pe_bl)) pss_nil))), ?_⟩
  intro a D R dc v tr Dn H u3 u4 u5 u6 u7 u8 u9 u10 u11 u12 x knx
  obtain ⟨b0, b1⟩ := roll_range dc (m := 40) (by decide)
  refine ⟨_, rfl, D, dc, 40, rfl, x.dice, by decide, by decide, ?_⟩
  have x2 := rolled_at x (roll dc 40).2
  generalize upd H D (.lst (roll dc 40).2.vs) = H2 at x2 ⊢
  generalize (roll dc 40).2 = dc1 at x2
  generalize (roll dc 40).1 = r at b0 b1 ⊢
  obtain ⟨m, rfl⟩ : ∃ m : Nat, r = (m : Int) := ⟨r.toNat, by omega⟩
  have hm : m < 40 := by omega
  have pb := parse_brackets m hm
  have lx : ("x" : Str) = S [120] := by decide +kernel
  refine ⟨x2.tabs, fun H4 e4 t4 => ?_⟩
  have x4 := x2.ext e4 t4
  have fin : ∀ (z : V) (d : PyData) (H5 : Hp), WL PT D R dc1 v tr H5 → Dp K H5 z d → SeqAt.shaped d = true → PyData.eqv d (.str "ShellError") = decide (19 < (m : Int)) →
      tIfS (tTest (tOp rNe (tOp (rEqD K) (tVar 6) (tC (.str "ShellError"))) (tOp (rI0 fun i j => V.bl (decide (j < i))) (tVar 9) (tC (.int 19))))) (tRet (tC (.bl false))) tNext Dn [some (.ref a), some (.ref D), some v, u3, u4, u5, some z, u7, u8, some (.int (m : Int)), u10, u11, u12] H5 := fun z d H5 x5 hd hs he => by
    refine ⟨_, rfl, d, .str "ShellError", hd, Dp.str _, hs, shp_err, ?_⟩
    rw [he]
    refine ⟨_, rfl, _, _, rfl, rfl, rfl, false, ?_, iteF (knx H5 _ _ dc1 x5)⟩
    simp
  refine ⟨_, rfl, 40, m, by rw [l_b1], rfl, by omega, _, _, rfl, rfl, ?_, _, rfl, 41, m, by rw [br_S], rfl, by omega, _, _, rfl, rfl, ?_, ?_⟩
  · show (S (List.replicate m 40)).length + _ ≤ _
    rw [lx, S_len, S_len, List.length_replicate, sizeLine_eq]; show m + 1 ≤ _; omega
  · show (S (List.replicate m 40) ++ _).length + (S (List.replicate m 41)).length ≤ _
    rw [lx, S_app, S_len, S_len, List.length_append, List.length_replicate, List.length_replicate, sizeLine_eq]; show m + 1 + m ≤ _; omega
  · have ev : (S (List.replicate m 40) ++ "x" ++ S (List.replicate m 41) : Str) = S (List.replicate m 40 ++ 120 :: List.replicate m 41) := by rw [lx, S_app, S_app]; simp
    refine ⟨List.replicate m 40 ++ 120 :: List.replicate m 41, by rw [← ev]; rfl, by simp; omega, fun hn H5 s5 => ⟨true, L.e11, fun _ => ?_, fun z => Bool.noConfusion z⟩, fun t' et v' H5 s5 ta5 => ?_⟩
    · refine fin _ _ H5 (x4.same s5) (Dp.str _) shp_err ?_
      rw [pb] at hn
      by_cases c : m ≤ 19
      · rw [if_pos c] at hn; cases hn
      · rw [decide_eq_true (by omega)]
        exact SeqAt.eqv_refl _ (SeqAt.canLay_of_shaped shp_err)
    · rw [pb] at et
      by_cases c : m ≤ 19
      · rw [if_pos c] at et
        cases et
        refine fin _ _ H5 (x4.same s5) ta5.dp (tD_shaped (show ∀ c ∈ [120], c < 128 by decide) (by decide)) ?_
        rw [eqv_ts, decide_eq_false (by omega)]
      · rw [if_neg c] at et; cases et
end
end K09
namespace K09
open PySem L2 HK CwR
theorem execs_app (env : Env) (b : List Stmt) : ∀ a : List Stmt, execs (a ++ b) env = (execs a env >>= fun f => match f with | .next => execs b env | f => pure f)
  | [] => rfl
  | s :: r => by
    rw [List.cons_append, execs_cons, execs_cons, bind_assoc]
    refine congrArg (fun k => exec s env >>= k) (funext fun f => ?_)
    cases f with
    | next => exact execs_app env b r
    | _ => rfl
theorem pss_app {X : Cx} {a b : List Stmt} {t u : TS} (h1 : PSs X a t) (h2 : PSs X b u) : PSs X (a ++ b) (tSeq t u) := by
  refine ⟨fun pins s σ H D I h => ?_⟩
  rw [execs_app]
  refine wpAny_bind (thn (h1.run pins s σ H { D with nx := u D } I h) fun f s1 q => ?_)
  cases f with
  | next =>
    obtain ⟨σ', H', I', q⟩ := q
    exact h2.run pins s1 σ' H' D I' q
  | _ => exact wpAny_pure q
theorem dice_cut : diceBody = diceBody.take 3 ++ ((diceBody.drop 3).take 2 ++ ((diceBody.drop 5).take 2 ++ ((diceBody.drop 7).take 2 ++ ((diceBody.drop 9).take 2 ++ diceBody.drop 11)))) := rfl
def bads : List Wd := [[], [49, 32, 43], [120, 32, 121], List.replicate 11 57, [50, 49, 52, 55, 52, 56, 51, 54, 52, 56], [97, 32, 98], [49, 32, 38, 32, 50], [109, 111, 100], [51, 120], [40, 41], [43, 49]]
theorem bads_strs : ([V.str "", V.str "1 +", V.str "x y", V.str "99999999999", V.str "2147483648", V.str "a b", V.str "1 & 2", V.str "mod", V.str "3x", V.str "()", V.str "+1"] : List V) = tsv bads := by
  have h0 : ("" : Str) = S [] := by decide +kernel
  have h1 : ("1 +" : Str) = S [49, 32, 43] := by decide +kernel
  have h2 : ("x y" : Str) = S [120, 32, 121] := by decide +kernel
  have h3 : ("99999999999" : Str) = S (List.replicate 11 57) := by decide +kernel
  have h4 : ("2147483648" : Str) = S [50, 49, 52, 55, 52, 56, 51, 54, 52, 56] := by decide +kernel
  have h5 : ("a b" : Str) = S [97, 32, 98] := by decide +kernel
  have h6 : ("1 & 2" : Str) = S [49, 32, 38, 32, 50] := by decide +kernel
  have h7 : ("mod" : Str) = S [109, 111, 100] := by decide +kernel
  have h8 : ("3x" : Str) = S [51, 120] := by decide +kernel
  have h9 : ("()" : Str) = S [40, 41] := by decide +kernel
  have hA : ("+1" : Str) = S [43, 49] := by decide +kernel
  rw [h0, h1, h2, h3, h4, h5, h6, h7, h8, h9, hA]; rfl
theorem bad_short : ∀ s ∈ bads, s.length ≤ 20 := by decide +kernel
section
variable {P : Program} {w : World} {K : PySem.W.Frag} {mg : Str → Option Value} {base : Heap} {CE g0 : Addr}
theorem dice_ok (L : LTxt P w K mg base CE g0) {f c0 PT : Addr} {A : Around} {outer : List Env} {s0 : Shared} {H0 : Hp} {E9 : XK} (TB : LamX.TabB base mg c0 PT) (hr : Room 140 (LCx P w K mg base f c0 A outer s0 H0 E9).A) :
    ∃ t, PSs (LCx P w K mg base f c0 A outer s0 H0 E9) diceBody t ∧ ∀ (a D R : Addr) (dc : Dice) (Dn : Ends) (H : Hp) (u2 u3 u4 u5 u6 u7 u8 u9 u10 u11 u12 : Option V), H D = some (.lst dc.vs) → H R = some (.lst [.ref D]) → R ≠ D → LamX.Tabs [(PT, lamQ)] H →
      (∀ H' u2 u3 u4 u5 u6 u7 u8 u9 u10 u11 u12, H' R = some (.lst [.ref D]) → LamX.Tabs [(PT, lamQ)] H' → Dn.nx [some (.ref a), some (.ref D), u2, u3, u4, u5, u6, u7, u8, u9, u10, u11, u12] H') →
      t Dn [some (.ref a), some (.ref D), u2, u3, u4, u5, u6, u7, u8, u9, u10, u11, u12] H := by
  obtain ⟨t1, h1, q1⟩ := first_ok2 (PT := PT) (s0 := s0) (H0 := H0) (E9 := E9) L hr
  obtain ⟨t2, h2, q2⟩ := value_ok (PT := PT) (s0 := s0) (H0 := H0) (E9 := E9) L hr
  obtain ⟨t3, h3, q3⟩ := pair_ok (s0 := s0) (H0 := H0) (E9 := E9) L TB hr
  obtain ⟨t4, h4, q4⟩ := more_ok (s0 := s0) (H0 := H0) (E9 := E9) L TB hr
  obtain ⟨t5, h5, q5⟩ := num_ok (PT := PT) (s0 := s0) (H0 := H0) (E9 := E9) L hr
  obtain ⟨t6, h6, q6⟩ := brk_ok (s0 := s0) (H0 := H0) (E9 := E9) L TB hr
  refine ⟨_, by rw [dice_cut]; exact pss_app h1 (pss_app h2 (pss_app h3 (pss_app h4 (pss_app h5 h6)))), ?_⟩
  intro a D R dc Dn H u2 u3 u4 u5 u6 u7 u8 u9 u10 u11 u12 hD hR ne tb knx
  refine q1 a D R dc _ H _ _ _ _ _ _ _ _ _ _ _ hD hR ne tb fun H1 v tr d1 x1 => ?_
  refine q2 a D R d1 v tr _ H1 _ _ _ _ _ _ _ _ _ _ x1 fun H2 v3 d2 x2 => ?_
  refine q3 a D R d2 v tr _ H2 _ _ _ _ _ _ _ _ _ x2 fun H3 v4 v11 d3 x3 => ?_
  refine q4 a D R d3 v tr _ H3 _ _ _ _ _ _ _ _ _ x3 fun H4 v10 d4 x4 => ?_
  refine q5 a D R d4 v tr _ H4 _ _ _ _ _ _ _ _ _ _ x4 fun H5 v5 d5 x5 => ?_
  exact q6 a D R d5 v tr _ H5 _ _ _ _ _ _ _ _ _ _ x5 fun H6 v6 v9 d6 x6 => knx H6 _ _ _ _ _ _ _ _ _ _ _ x6.row x6.tabs
theorem bad_ok (L : LTxt P w K mg base CE g0) {f c0 PT : Addr} {A : Around} {outer : List Env} {s0 : Shared} {H0 : Hp} {E9 : XK} (TB : LamX.TabB base mg c0 PT) (hr : Room 140 (LCx P w K mg base f c0 A outer s0 H0 E9).A) :
    ∃ t, PE (LCx P w K mg base f c0 A outer s0 H0 E9) (cmpL (andL (retE (lawBody.getD 2 (.Pass ⟨0, 0, 0, 0⟩))))) t ∧ ∀ (B : Addr) (u0 u1 u2 u3 u4 u5 u6 u8 u9 u10 u11 u12 : Option V) (H : Hp) (Q : VK), H B = some (.lst (tsv bads)) → LamX.Tabs [(PT, lamQ)] H →
      (∀ Dl H', H' Dl = some (.lst []) → Q (.ref Dl) H') → t [u0, u1, u2, u3, u4, u5, u6, some (.ref B), u8, u9, u10, u11, u12] H Q := by
  obtain ⟨fP, dP, FP, mP, kP, bP⟩ := L.parse
  have rP := FP.mono (show 130 ≤ 136 by decide)
  have main : PE (LCx P w K mg base f c0 A outer s0 H0 E9) (cmpL (andL (retE (lawBody.getD 2 (.Pass ⟨0, 0, 0, 0⟩))))) (tLc (iList K (tVar 7)) (gName 8) (tTest (tOp rNe (LamX.tLam [(PT, "law.<locals>.<lambda>")] (LamX.TTold K CE "ShellError") (fun E => tCall (spParse CE) [] E (tCons (tVar 8) tNil))) (tC (.str "ShellError")))) (tVar 8) [8]) := by
    refine pe_lc (own := [("text", 8)]) (g := gName 8) (te := tVar 8) (by rfl) scLaw.nd (pi_list (pv 7)) (blkOk_by (N := NL) (sc := defScope sLaw) (by decide +kernel))
        (fun _ _ _ _ _ => pg_name (i := 8) scLaw.nd rfl (Or.inr rfl)) (fun s H C cl fp => ?_) (fun _ _ _ _ _ => pv 8)
    refine pts_one (pt_cmpR op_ne ?_ pe_str (nomark _))
    refine pe_told (k := 136) L.told TB rfl (by rfl) ?_ ?_ rfl (fun _ _ _ _ _ => rfl) (fun A1 o1 s1 H1 E1 f1 c1 hr6 => pe_call rP hr6 (by rfl) mP kP bP .nil (passes_call (takes_of rfl rfl rfl rfl) (fun _ _ _ _ h => h)) (pa_cons (pv 8) pa_nil))
    · exact Room.mono hr (by decide)
    · exact LamX.lamS_by (by rfl)
  refine ⟨_, main, ?_⟩
  intro B u0 u1 u2 u3 u4 u5 u6 u8 u9 u10 u11 u12 H Q hB hT knx
  refine ⟨_, rfl, B, rfl, ⟨_, SqL.of hB⟩, fun Dl nDl => ?_⟩
  have neB := ne_of_none hB nDl
  refine lc_list (K := K) (a := B) (xs := tsv bads) (fun i H' => H' B = some (.lst (tsv bads)) ∧ H' Dl = some (.lst []) ∧ LamX.Tabs [(PT, lamQ)] H') ⟨by rw [upd_ne neB]; exact hB, upd_same, hT.ext (same_upd nDl)⟩ (fun i H' hi q => SqL.of q.1) (fun i x H' hx q => ?_) (fun H' q => knx Dl H' q.2.1)
  obtain ⟨h1, h2, h3⟩ := q
  obtain ⟨u, hu, rfl⟩ : ∃ u ∈ bads, V.str (S u) = x := by
    have := List.mem_of_getElem? hx
    exact List.mem_map.mp this
  have hn : parseT u = none := bad_texts u hu
  have hs := bad_short u hu
  refine ⟨rfl, h3, fun H4 e4 t4 => ?_⟩
  refine ⟨_, rfl, u, rfl, by omega, fun _ H5 s5 => ⟨true, L.e11, fun _ => ?_, fun z => Bool.noConfusion z⟩, fun t' et => absurd (et.symm.trans hn) (fun z => by cases z)⟩
  have b1 := s5 _ _ (e4 _ _ h1 (fun ps z => by cases z))
  have b2 := s5 _ _ (e4 _ _ h2 (fun ps z => by cases z))
  exact ⟨rfl, false, by simp, iteF ⟨b1, b2, t4.ext s5⟩⟩
def spLaw (K : PySem.W.Frag) (P : Addr) : Sp := fun vs H Q _ => ∃ (a : Addr) (ns : List Int), vs = [.ref a] ∧ SqL K H a (ns.map V.int) ∧ LamX.Tabs [(P, lamQ)] H ∧ ∀ H', Q (.bl true) H'
theorem ok_law {f c0 PT : Addr} {oc kV doc pm ct : Value} {od an : Option Addr} {osl : Array (Option Value)}
    (lk : K.lookup f = some ⟨oc, od, .func (PySem.W.fnOf "law" "law" (defArgs sLaw) (defBody sLaw) (defScope sLaw) .none kV doc pm an (.ref c0) ct), osl⟩) (hcd : PySem.W.codeIn K (.ref c0) "law" = true) (TB : LamX.TabB base mg c0 PT) (L : LTxt P w K mg base CE g0) :
    FnOk P w K mg base L2.CX0 141 f (PySem.W.fnOf "law" "law" (defArgs sLaw) (defBody sLaw) (defScope sLaw) .none kV doc pm an (.ref c0) ct) ["script"] (spLaw K PT) := by
  obtain ⟨f2, d2, F2, m2, k2, b2⟩ := L.rounds
  obtain ⟨fN, dN, FN, mN, kN, bN⟩ := L.from_
  have r2 := F2.mono (show 2 ≤ 140 by decide)
  have rN := FN.mono (show 2 ≤ 140 by decide)
  refine fn_of lk hcd scLaw (fun vs H Q E h => ?_) (fun A outer s H vs Q E hr h => ?_)
  · obtain ⟨a, ns, rfl, _⟩ := h
    rfl
  · obtain ⟨a, ns, rfl, ha, hT, k⟩ := h
    suffices hX : ∃ t, PSs (cxOf L2.CX0 P w K mg base NL "law" (defScope sLaw) f (.ref c0) A outer s H E).nox (defBody sLaw) t ∧ t { nx := fun _ H' => Q .non H', rt := Q } (L2.start NL [.ref a]) H by
      obtain ⟨t, h1, h2⟩ := hX
      exact ⟨t, h1.nox, h2⟩
    have hr : Room 140 (cxOf L2.CX0 P w K mg base NL "law" (defScope sLaw) f (.ref c0) A outer s H E).nox.A := hr
    obtain ⟨td, htd, qd⟩ := dice_ok (s0 := s) (H0 := H) (E9 := E) L TB hr
    obtain ⟨tb, htb, qb⟩ := bad_ok (s0 := s) (H0 := H) (E9 := E) L TB hr
    refine ⟨_, pss_cons (ps_for PassesOwn.never rfl (pi_list (pe_call r2 hr (by rfl) m2 k2 b2 .nil pass0 (pa_cons (pv 0) (pa_cons pe_int pa_nil)))) (pg_name (i := 1) scLaw.nd rfl (Or.inl rfl)) htd)
      (pss_cons (ps_set (i := 7) scLaw.nd rfl (Or.inl rfl) (pe_lst (pa_cons pe_str (pa_cons pe_str (pa_cons pe_str (pa_cons pe_str (pa_cons pe_str (pa_cons pe_str (pa_cons pe_str (pa_cons pe_str (pa_cons pe_str (pa_cons pe_str (pa_cons pe_str pa_nil)))))))))))))
      (pss_one (ps_ret (pe_and (pe_cmpR (op_eqD hr.units) htb (pe_lst pa_nil) (nomark _)) (pe_one (pe_cmpR op_eq (pe_call rN hr (by rfl) mN kN bN .nil pass0 (pa_cons pe_str pa_nil)) pe_int (nomark _))))))), ?_⟩
    refine ⟨_, rfl, a, ns, rfl, ha, fun H1 R D s1 nR nD nRD hR hD => ?_⟩
    refine ⟨R, rfl, ⟨_, SqL.of hR⟩, ?_⟩
    generalize mkDice (cell0 ns) = dc0 at hD
    refine for_list (K := K) (a := R) (xs := [.ref D]) (fun i σ H' => H' R = some (.lst [.ref D]) ∧ LamX.Tabs [(PT, lamQ)] H' ∧ (i = 0 → σ = L2.start NL [.ref a] ∧ H' = H1) ∧ ∃ u1 u2 u3 u4 u5 u6 u7 u8 u9 u10 u11 u12 : Option V, σ = [some (.ref a), u1, u2, u3, u4, u5, u6, u7, u8, u9, u10, u11, u12])
      ⟨hR, hT.ext s1, fun _ => ⟨rfl, rfl⟩, _, _, _, _, _, _, _, _, _, _, _, _, rfl⟩ (fun i σ H' hi q => SqL.of q.1) (fun i x σ H' hx q => ?_) (fun σ H' q => ?_)
    · match i, hx with
      | 0, hx =>
        obtain rfl : V.ref D = x := Option.some.inj hx
        obtain ⟨rfl, rfl⟩ := q.2.2.1 rfl
        refine qd a D R dc0 _ H' none none none none none none none none none none none hD hR nRD (hT.ext s1) fun H2 u2 u3 u4 u5 u6 u7 u8 u9 u10 u11 u12 hR2 hT2 => ?_
        exact ⟨hR2, hT2, (fun z => by cases z), _, _, _, _, _, _, _, _, _, _, _, _, rfl⟩
      | i + 1, hx => cases hx
    · obtain ⟨_, hT', _, u1, u2, u3, u4, u5, u6, u7, u8, u9, u10, u11, u12, rfl⟩ := q
      clear hT ha hR hD s1 nR nD
      refine ⟨by show 11 ≤ sizeLine; decide, fun B nB => ?_⟩
      rw [bads_strs]
      have hT2 := hT'.ext (same_upd (o := .lst (tsv bads)) nB)
      refine qb B _ _ _ _ _ _ _ _ _ _ _ _ (upd H' B (.lst (tsv bads))) _ upd_same hT2 fun Dl H3 hDl => ?_
      refine ⟨by show 0 ≤ sizeLine; decide, fun e ne => ?_⟩
      refine ⟨.list [], .list [], Dp.lst (SqL.of (same_upd ne _ _ hDl)) .nil, Dp.lst (SqL.of upd_same) .nil, rfl, rfl, true, rfl, iteT ?_⟩
      have hx : ("x1" : Str) = S (sgn false [120, 49]) := by decide +kernel
      refine ⟨false, [120, 49], by rw [hx]; rfl, ⟨by decide, by decide, by decide⟩, by decide, by decide, ?_⟩
      have hz : numF false [120, 49] = 0 := rfl
      rw [hz]
      exact ⟨rfl, k _⟩
end
end K09
namespace K09
open PySem L2 HK
/-! ### what the top has written -/
theorem longs_is : (longs.map fun w => V.str (S w)) = [V.str "<=", V.str ">=", V.str "==", V.str "!="] := by
  rw [l_le, l_ge, l_eq, l_ne]; rfl
theorem shorts_is : ((shorts.map fun c => [c]).map fun w => V.str (S w)) = [V.str "<", V.str ">", V.str "+", V.str "-", V.str "*", V.str "/", V.str "(", V.str ")"] := by
  rw [l_lt, l_gt, l_pl, minus_S, l_ti, l_di, l_b1, br_S]; rfl
def EntIs : List DictEntry → List (Str × Nat) → Prop
  | [], [] => True
  | e :: r, p :: q => (∃ t t', e.key = .str p.1 t ∧ e.val = .int (p.2 : Int) t') ∧ EntIs r q
  | _, _ => False
def lvT : List (Str × Nat) := [("<", 1), ("<=", 1), (">", 1), (">=", 1), ("==", 1), ("!=", 1), ("+", 2), ("-", 2), ("*", 3), ("/", 3), ("mod", 3)]
def lvW : List (Wd × Nat) := [([60], 1), ([60, 61], 1), ([62], 1), ([62, 61], 1), ([61, 61], 1), ([33, 61], 1), ([43], 2), ([45], 2), ([42], 3), ([47], 3), ([109, 111, 100], 3)]
theorem lvT_is : lvT = lvW.map fun p => (S p.1, p.2) := by
  unfold lvT
  rw [l_lt, l_le, l_gt, l_ge, l_eq, l_ne, l_pl, minus_S, l_ti, l_di, l_mo]; rfl
theorem ent_find (name : Str) : ∀ (es : List DictEntry) (q : List (Str × Nat)), EntIs es q → (∀ p, q.find? (fun p => p.1 == name) = some p → ∃ e t, es.find? (fun e => e.key.isStr name) = some e ∧ e.val = .int (p.2 : Int) t) ∧ (q.find? (fun p => p.1 == name) = none → es.find? (fun e => e.key.isStr name) = none) ∧ es.any (fun e => e.refKey) = false
  | [], [], _ => ⟨(fun p h => by cases h), fun _ => rfl, rfl⟩
  | e :: r, p :: q, ⟨⟨t, t', h1, h2⟩, h3⟩ => by
    obtain ⟨i1, i2, i3⟩ := ent_find name r q h3
    have ek : e.key.isStr name = (p.1 == name) := by rw [h1]; rfl
    have er : e.refKey = false := by unfold DictEntry.refKey; rw [h1]
    refine ⟨fun x hx => ?_, fun hx => ?_, by rw [List.any_cons, er, i3]; rfl⟩
    · rw [List.find?_cons] at hx
      rw [List.find?_cons, ek]
      cases c : (p.1 == name) with
      | true =>
        rw [c] at hx
        cases hx
        exact ⟨e, t', rfl, h2⟩
      | false =>
        rw [c] at hx
        exact i1 x hx
    · rw [List.find?_cons] at hx
      rw [List.find?_cons, ek]
      cases c : (p.1 == name) with
      | true => rw [c] at hx; cases hx
      | false =>
        rw [c] at hx
        exact i2 hx
theorem lv_find (u : Wd) : (lv u = 0 → lvT.find? (fun p => p.1 == S u) = none) ∧ (lv u ≠ 0 → ∃ p, lvT.find? (fun p => p.1 == S u) = some p ∧ p.2 = lv u) := by
  have key : lvT.find? (fun p => p.1 == S u) = (lvW.find? (fun p => decide (p.1 = u))).map fun p => (S p.1, p.2) := by
    rw [lvT_is, List.find?_map]
    congr 1
    congr 1
    funext p
    exact SX.S_beq_eq
  rw [key]
  refine ⟨fun h => ?_, fun h => ?_⟩
  · rw [Option.map_eq_none_iff, List.find?_eq_none]
    intro p hp hc
    have e : p.1 = u := of_decide_eq_true hc
    have : ∀ p ∈ lvW, lv p.1 ≠ 0 := by decide
    exact this p hp (by rw [e]; exact h)
  · have hu : u ∈ lvW.map (·.1) := by
      unfold lv at h
      split at h
      · rename_i c
        rcases c with rfl | rfl | rfl | rfl | rfl | rfl <;> decide
      · split at h
        · rename_i c
          rcases c with rfl | rfl <;> decide
        · split at h
          · rename_i c
            rcases c with rfl | rfl | rfl <;> decide
          · exact absurd rfl h
    have : ∀ u ∈ lvW.map (·.1), ∃ p, (lvW.find? (fun p => decide (p.1 = u))).map (fun p => (S p.1, p.2)) = some p ∧ p.2 = lv u := by
      intro u hu
      have h2 : ∀ u ∈ lvW.map (·.1), (lvW.find? (fun p => decide (p.1 = u))).map (·.2) = some (lv u) := by decide
      have h3 := h2 u hu
      obtain ⟨p, hp, e⟩ := Option.map_eq_some_iff.mp h3
      exact ⟨_, by rw [hp]; rfl, e⟩
    exact this u hu
theorem lev_ns {K : PySem.W.Frag} {d : Addr} {es : Array DictEntry} {n : Nat} (l : K.lookup d = some ⟨.type "dict", none, .dict es n, #[]⟩) (h : EntIs es.toList lvT) (u : Wd) : ∃ r, PySem.W.nsIn K d (S u) = some r ∧ (lv u = 0 → r = none) ∧ (lv u ≠ 0 → ∃ t, r = some (.int (lv u : Int) t)) := by
  obtain ⟨i1, i2, i3⟩ := ent_find (S u) es.toList lvT h
  obtain ⟨j1, j2⟩ := lv_find u
  unfold PySem.W.nsIn
  rw [l]
  dsimp only
  by_cases c : lv u = 0
  · rw [i2 (j1 c)]
    dsimp only
    rw [i3]
    exact ⟨none, rfl, fun _ => rfl, fun z => absurd c z⟩
  · obtain ⟨p, hp, ep⟩ := j2 c
    obtain ⟨e, t, he, ev⟩ := i1 p hp
    rw [he]
    exact ⟨some e.val, rfl, fun z => absurd z c, fun _ => ⟨t, by rw [ev, ep]⟩⟩
end K09
namespace HK
open PySem PySem.Spec PyProof.Rows L2 LamX
theorem tabIn_of {K : PySem.W.Frag} {x : Str} {f c P : Addr} {fd : FuncData} {oc c1 : Value} {od c2 : Option Addr} {sl c3 : Array (Option Value)} {vs : Array Value} (a : PySem.W.nsIn K mainGlobals x = some (some (.ref f))) (l : K.lookup f = some ⟨oc, od, .func fd, sl⟩) (hc : fd.code = .ref c)
    (lc : K.lookup c = some ⟨c1, c2, .fields vs, c3⟩) (hv : vs[11]? = some (.ref P)) : PySem.W.tabIn K x = some (c, P) := by
  unfold PySem.W.tabIn
  rw [a]
  dsimp only
  rw [l]
  dsimp only
  rw [hc]
  dsimp only
  rw [lc]
  dsimp only
  rw [hv]
/-- the end of a law's row, the law's own table of code objects told -/
theorem walk_TT {l : PySem.W.OpenLaw} {n k : Nat} {q : Program} {loose : List Str} {XP : (Str → Option Value) → Heap → Prop} {YP : World → Heap → Prop} {d : DefRec} {K : Params → PySem.W.Frag} {CX : World → CXT} {x : Str}
    (hn : l.most = some n) (hn2 : n ≤ sizeLine) (hdf : d.params.defaults = []) (hr : Room k callerA) (hY : ∀ (w : World) (h : Heap), YP w h → (K w.params).In h) (hrec : (recsOf q).find? (fun e => e.name == d.name) = some d)
    (F : ∀ (w : World) (mg : Str → Option Value) (fa : Addr) (h : Heap), (∀ c P, PySem.W.tabIn (K w.params) d.name = some (c, P) → PySem.W.CodeHd h c P ∧ h.get? P = some ({ cls := .none, data := .fields #[] } : Obj)) → (K w.params).In h → h.Ns mainGlobals mg → mg d.name = some (.ref fa) → LawAtS l w (K w.params) (CX w) k n x mg fa h)
    (hCX : ∀ (w : World) (H : Hp) (s : Shared) (e : Value) (s' : Shared), CX w [] H s (fun _ _ _ => False) e s' → False) :
    PySem.W.WalkO q loose XP YP l.row.toRowW d [] (fun f vs => PySem.call f vs) := by
  refine Att.attach_callB hn hdf fun w s0 s1 mg mb fa o pm cd doc a vs ns G Y ho hd hcd hmg hobj hints hlen hbits hg => ?_
  have KX := hY w _ Y
  obtain ⟨fd, cs, sp, hT, nT, C, hb, hsp, hF⟩ := F w mg fa _ (fun c P ht => PySem.W.tab_of G.T KX hrec ht) KX G.T.g hmg
  exact law_callTs KX G.T.g G.T.b G.T.builtins G.T.nolimit hg hT nT C G.T.bmain hobj hints (Nat.le_trans hlen hn2) hr hF hb (fun H hH hS => hsp H a ns hlen hbits hH hS) fun H e s' => hCX w H s1 e s'
theorem exm_same {K : PySem.W.Frag} {C : Addr} (h1 : PySem.W.subIn K (.ref C) (.type "BaseException") = some true) (h2 : PySem.W.isClsIn K C = true) (h3 : PySem.W.typeIn K (.ref C) = some (.type "type")) (h4 : PySem.W.subIn K (.ref C) (.ref C) = some true) : PySem.W.exmOne K (.ref C) (.ref C) = some true :=
  by
  have e1 : (PySem.W.subIn K (.ref C) (.type "BaseException") == some true) = true := by rw [h1]; rfl
  unfold PySem.W.exmOne
  rw [if_pos e1]
  show (if ((PySem.W.clsIn K C).isSome && PySem.W.typeIn K (.ref C) == some (.type "type")) = true then PySem.W.subIn K (.ref C) (.ref C) else none) = some true
  have e2 : (PySem.W.clsIn K C).isSome = true := h2
  rw [e2, h3, h4]
  rfl
end HK
namespace K09
open PySem L2 HK
theorem all_mk {l : PySem.W.OpenLaw} {w : World} {K : PySem.W.Frag} {h : Heap} {mg : Str → Option Value} {fa : Addr} (X : K.In h) (G : h.Ns mainGlobals mg) (hfa : mg "law" = some (.ref fa))
    (tabs : ∀ c P, PySem.W.tabIn K "law" = some (c, P) → PySem.W.CodeHd h c P ∧ h.get? P = some ({ cls := .none, data := .fields #[] } : Obj))
    {fDice : Addr} {odDice anDice : Option Addr} {slDice : Array (Option Value)} {ocDice kVDice dcDice pmDice cdDice ctDice : Value}
    {fRoll : Addr} {odRoll anRoll : Option Addr} {slRoll : Array (Option Value)} {ocRoll kVRoll dcRoll pmRoll cdRoll ctRoll : Value}
    {fRounds : Addr} {odRounds anRounds : Option Addr} {slRounds : Array (Option Value)} {ocRounds kVRounds dcRounds pmRounds cdRounds ctRounds : Value}
    {fTold : Addr} {odTold anTold : Option Addr} {slTold : Array (Option Value)} {ocTold kVTold dcTold pmTold cdTold ctTold : Value}
    {fTree : Addr} {odTree anTree : Option Addr} {slTree : Array (Option Value)} {ocTree kVTree dcTree pmTree cdTree ctTree : Value}
    {fShown : Addr} {odShown anShown : Option Addr} {slShown : Array (Option Value)} {ocShown kVShown dcShown pmShown cdShown ctShown : Value}
    {fLWrap : Addr} {odLWrap anLWrap : Option Addr} {slLWrap : Array (Option Value)} {ocLWrap kVLWrap dcLWrap pmLWrap cdLWrap ctLWrap : Value}
    {fLVal : Addr} {odLVal anLVal : Option Addr} {slLVal : Array (Option Value)} {ocLVal kVLVal dcLVal pmLVal cdLVal ctLVal : Value}
    {fLess : Addr} {odLess anLess : Option Addr} {slLess : Array (Option Value)} {ocLess kVLess dcLess pmLess cdLess ctLess : Value}
    {fWrap : Addr} {odWrap anWrap : Option Addr} {slWrap : Array (Option Value)} {ocWrap kVWrap dcWrap pmWrap cdWrap ctWrap : Value}
    {fNumIn : Addr} {odNumIn anNumIn : Option Addr} {slNumIn : Array (Option Value)} {ocNumIn kVNumIn dcNumIn pmNumIn cdNumIn ctNumIn : Value}
    {fLetter : Addr} {odLetter anLetter : Option Addr} {slLetter : Array (Option Value)} {ocLetter kVLetter dcLetter pmLetter cdLetter ctLetter : Value}
    {fWords : Addr} {odWords anWords : Option Addr} {slWords : Array (Option Value)} {ocWords kVWords dcWords pmWords cdWords ctWords : Value}
    {fWend : Addr} {odWend anWend : Option Addr} {slWend : Array (Option Value)} {ocWend kVWend dcWend pmWend cdWend ctWend : Value}
    {fPlain : Addr} {odPlain anPlain : Option Addr} {slPlain : Array (Option Value)} {ocPlain kVPlain dcPlain pmPlain cdPlain ctPlain : Value}
    {fPlainN : Addr} {odPlainN anPlainN : Option Addr} {slPlainN : Array (Option Value)} {ocPlainN kVPlainN dcPlainN pmPlainN cdPlainN ctPlainN : Value}
    {fParse : Addr} {odParse anParse : Option Addr} {slParse : Array (Option Value)} {ocParse kVParse dcParse pmParse cdParse ctParse : Value}
    {fNumFrom : Addr} {odNumFrom anNumFrom : Option Addr} {slNumFrom : Array (Option Value)} {ocNumFrom kVNumFrom dcNumFrom pmNumFrom cdNumFrom ctNumFrom : Value}
    {fValue : Addr} {odValue anValue : Option Addr} {slValue : Array (Option Value)} {ocValue kVValue dcValue pmValue cdValue ctValue : Value}
    {fSignV : Addr} {odSignV anSignV : Option Addr} {slSignV : Array (Option Value)} {ocSignV kVSignV dcSignV pmSignV cdSignV ctSignV : Value}
    {fDivi : Addr} {odDivi anDivi : Option Addr} {slDivi : Array (Option Value)} {ocDivi kVDivi dcDivi pmDivi cdDivi ctDivi : Value}
    {fHolds : Addr} {odHolds anHolds : Option Addr} {slHolds : Array (Option Value)} {ocHolds kVHolds dcHolds pmHolds cdHolds ctHolds : Value}
    {fPInit : Addr} {odPInit anPInit : Option Addr} {slPInit : Array (Option Value)} {ocPInit kVPInit dcPInit pmPInit cdPInit ctPInit : Value}
    {fHere : Addr} {odHere anHere : Option Addr} {slHere : Array (Option Value)} {ocHere kVHere dcHere pmHere cdHere ctHere : Value}
    {fLev : Addr} {odLev anLev : Option Addr} {slLev : Array (Option Value)} {ocLev kVLev dcLev pmLev cdLev ctLev : Value}
    {fTight : Addr} {odTight anTight : Option Addr} {slTight : Array (Option Value)} {ocTight kVTight dcTight pmTight cdTight ctTight : Value}
    {fBrk : Addr} {odBrk anBrk : Option Addr} {slBrk : Array (Option Value)} {ocBrk kVBrk dcBrk pmBrk cdBrk ctBrk : Value}
    {fL cL PT : Addr} {odL anL cdL2 : Option Addr} {slL cslL : Array (Option Value)} {ocL kVL dcL pmL ctL ccL : Value} {vsL : Array Value}
    {fX TX : Addr} {odX anX : Option Addr} {slX : Array (Option Value)} {ocX kVX dcX pmX cdX ctX : Value} {oTX : Obj} {nTX : Nat} {tTX tHalf tDig tWo tBr tVd tTi : PySem.Tok} {C CE dLv pLo pSh : Addr} {esLv : Array DictEntry} {nLv nLo nSh : Nat} {oLo oSh : Obj} {tL0 tL1 tL2 tL3 tS0 tS1 tS2 tS3 tS4 tS5 tS6 tS7 : PySem.Tok}
    (aDice : PySem.W.nsIn K mainGlobals "_law_dice" = some (some (.ref fDice)))
    (lDice : K.lookup fDice = some ⟨ocDice, odDice, .func (PySem.W.fnOf "_law_dice" "_law_dice" (defArgs sDice) (defBody sDice) (defScope sDice) .none kVDice dcDice pmDice anDice cdDice ctDice), slDice⟩)
    (cDice : PySem.W.codeIn K cdDice "_law_dice" = true)
    (kDice : PySem.W.keepIn K (.ref fDice) = true)
    (aRoll : PySem.W.nsIn K mainGlobals "_law_roll" = some (some (.ref fRoll)))
    (lRoll : K.lookup fRoll = some ⟨ocRoll, odRoll, .func (PySem.W.fnOf "_law_roll" "_law_roll" (defArgs sRoll) (defBody sRoll) (defScope sRoll) .none kVRoll dcRoll pmRoll anRoll cdRoll ctRoll), slRoll⟩)
    (cRoll : PySem.W.codeIn K cdRoll "_law_roll" = true)
    (kRoll : PySem.W.keepIn K (.ref fRoll) = true)
    (aRounds : PySem.W.nsIn K mainGlobals "_law_rounds" = some (some (.ref fRounds)))
    (lRounds : K.lookup fRounds = some ⟨ocRounds, odRounds, .func (PySem.W.fnOf "_law_rounds" "_law_rounds" (defArgs sRounds) (defBody sRounds) (defScope sRounds) .none kVRounds dcRounds pmRounds anRounds cdRounds ctRounds), slRounds⟩)
    (cRounds : PySem.W.codeIn K cdRounds "_law_rounds" = true)
    (kRounds : PySem.W.keepIn K (.ref fRounds) = true)
    (aTold : PySem.W.nsIn K mainGlobals "_law_told" = some (some (.ref fTold)))
    (lTold : K.lookup fTold = some ⟨ocTold, odTold, .func (PySem.W.fnOf "_law_told" "_law_told" (defArgs sTold) (defBody sTold) (defScope sTold) .none kVTold dcTold pmTold anTold cdTold ctTold), slTold⟩)
    (cTold : PySem.W.codeIn K cdTold "_law_told" = true)
    (kTold : PySem.W.keepIn K (.ref fTold) = true)
    (aTree : PySem.W.nsIn K mainGlobals "_law_tree" = some (some (.ref fTree)))
    (lTree : K.lookup fTree = some ⟨ocTree, odTree, .func (PySem.W.fnOf "_law_tree" "_law_tree" (defArgs sTree) (defBody sTree) (defScope sTree) .none kVTree dcTree pmTree anTree cdTree ctTree), slTree⟩)
    (cTree : PySem.W.codeIn K cdTree "_law_tree" = true)
    (kTree : PySem.W.keepIn K (.ref fTree) = true)
    (aShown : PySem.W.nsIn K mainGlobals "_law_shown" = some (some (.ref fShown)))
    (lShown : K.lookup fShown = some ⟨ocShown, odShown, .func (PySem.W.fnOf "_law_shown" "_law_shown" (defArgs sShown) (defBody sShown) (defScope sShown) .none kVShown dcShown pmShown anShown cdShown ctShown), slShown⟩)
    (cShown : PySem.W.codeIn K cdShown "_law_shown" = true)
    (kShown : PySem.W.keepIn K (.ref fShown) = true)
    (aLWrap : PySem.W.nsIn K mainGlobals "_law_wrapped" = some (some (.ref fLWrap)))
    (lLWrap : K.lookup fLWrap = some ⟨ocLWrap, odLWrap, .func (PySem.W.fnOf "_law_wrapped" "_law_wrapped" (defArgs sLWrap) (defBody sLWrap) (defScope sLWrap) .none kVLWrap dcLWrap pmLWrap anLWrap cdLWrap ctLWrap), slLWrap⟩)
    (cLWrap : PySem.W.codeIn K cdLWrap "_law_wrapped" = true)
    (kLWrap : PySem.W.keepIn K (.ref fLWrap) = true)
    (aLVal : PySem.W.nsIn K mainGlobals "_law_value" = some (some (.ref fLVal)))
    (lLVal : K.lookup fLVal = some ⟨ocLVal, odLVal, .func (PySem.W.fnOf "_law_value" "_law_value" (defArgs sLVal) (defBody sLVal) (defScope sLVal) .none kVLVal dcLVal pmLVal anLVal cdLVal ctLVal), slLVal⟩)
    (cLVal : PySem.W.codeIn K cdLVal "_law_value" = true)
    (kLVal : PySem.W.keepIn K (.ref fLVal) = true)
    (aLess : PySem.W.nsIn K mainGlobals "_law_less" = some (some (.ref fLess)))
    (lLess : K.lookup fLess = some ⟨ocLess, odLess, .func (PySem.W.fnOf "_law_less" "_law_less" (defArgs sLess) (defBody sLess) (defScope sLess) .none kVLess dcLess pmLess anLess cdLess ctLess), slLess⟩)
    (cLess : PySem.W.codeIn K cdLess "_law_less" = true)
    (kLess : PySem.W.keepIn K (.ref fLess) = true)
    (aWrap : PySem.W.nsIn K mainGlobals "wrapped" = some (some (.ref fWrap)))
    (lWrap : K.lookup fWrap = some ⟨ocWrap, odWrap, .func (PySem.W.fnOf "wrapped" "wrapped" (defArgs sWrapped) (defBody sWrapped) (defScope sWrapped) .none kVWrap dcWrap pmWrap anWrap cdWrap ctWrap), slWrap⟩)
    (cWrap : PySem.W.codeIn K cdWrap "wrapped" = true)
    (kWrap : PySem.W.keepIn K (.ref fWrap) = true)
    (aNumIn : PySem.W.nsIn K mainGlobals "number_in" = some (some (.ref fNumIn)))
    (lNumIn : K.lookup fNumIn = some ⟨ocNumIn, odNumIn, .func (PySem.W.fnOf "number_in" "number_in" (defArgs sNumIn) (defBody sNumIn) (defScope sNumIn) .none kVNumIn dcNumIn pmNumIn anNumIn cdNumIn ctNumIn), slNumIn⟩)
    (cNumIn : PySem.W.codeIn K cdNumIn "number_in" = true)
    (kNumIn : PySem.W.keepIn K (.ref fNumIn) = true)
    (aLetter : PySem.W.nsIn K mainGlobals "is_name_letter" = some (some (.ref fLetter)))
    (lLetter : K.lookup fLetter = some ⟨ocLetter, odLetter, .func (PySem.W.fnOf "is_name_letter" "is_name_letter" (defArgs sLetter) (defBody sLetter) (defScope sLetter) .none kVLetter dcLetter pmLetter anLetter cdLetter ctLetter), slLetter⟩)
    (cLetter : PySem.W.codeIn K cdLetter "is_name_letter" = true)
    (kLetter : PySem.W.keepIn K (.ref fLetter) = true)
    (aWords : PySem.W.nsIn K mainGlobals "sum_words" = some (some (.ref fWords)))
    (lWords : K.lookup fWords = some ⟨ocWords, odWords, .func (PySem.W.fnOf "sum_words" "sum_words" (defArgs sWords) (defBody sWords) (defScope sWords) .none kVWords dcWords pmWords anWords cdWords ctWords), slWords⟩)
    (cWords : PySem.W.codeIn K cdWords "sum_words" = true)
    (kWords : PySem.W.keepIn K (.ref fWords) = true)
    (aWend : PySem.W.nsIn K mainGlobals "word_end" = some (some (.ref fWend)))
    (lWend : K.lookup fWend = some ⟨ocWend, odWend, .func (PySem.W.fnOf "word_end" "word_end" (defArgs sWend) (defBody sWend) (defScope sWend) .none kVWend dcWend pmWend anWend cdWend ctWend), slWend⟩)
    (cWend : PySem.W.codeIn K cdWend "word_end" = true)
    (kWend : PySem.W.keepIn K (.ref fWend) = true)
    (aPlain : PySem.W.nsIn K mainGlobals "plain_tree" = some (some (.ref fPlain)))
    (lPlain : K.lookup fPlain = some ⟨ocPlain, odPlain, .func (PySem.W.fnOf "plain_tree" "plain_tree" (defArgs sPlain) (defBody sPlain) (defScope sPlain) .none kVPlain dcPlain pmPlain anPlain cdPlain ctPlain), slPlain⟩)
    (cPlain : PySem.W.codeIn K cdPlain "plain_tree" = true)
    (kPlain : PySem.W.keepIn K (.ref fPlain) = true)
    (aPlainN : PySem.W.nsIn K mainGlobals "plain_number" = some (some (.ref fPlainN)))
    (lPlainN : K.lookup fPlainN = some ⟨ocPlainN, odPlainN, .func (PySem.W.fnOf "plain_number" "plain_number" (defArgs sPlainN) (defBody sPlainN) (defScope sPlainN) .none kVPlainN dcPlainN pmPlainN anPlainN cdPlainN ctPlainN), slPlainN⟩)
    (cPlainN : PySem.W.codeIn K cdPlainN "plain_number" = true)
    (kPlainN : PySem.W.keepIn K (.ref fPlainN) = true)
    (aParse : PySem.W.nsIn K mainGlobals "parse_sum" = some (some (.ref fParse)))
    (lParse : K.lookup fParse = some ⟨ocParse, odParse, .func (PySem.W.fnOf "parse_sum" "parse_sum" (defArgs sParse) (defBody sParse) (defScope sParse) .none kVParse dcParse pmParse anParse cdParse ctParse), slParse⟩)
    (cParse : PySem.W.codeIn K cdParse "parse_sum" = true)
    (kParse : PySem.W.keepIn K (.ref fParse) = true)
    (aNumFrom : PySem.W.nsIn K mainGlobals "number_from" = some (some (.ref fNumFrom)))
    (lNumFrom : K.lookup fNumFrom = some ⟨ocNumFrom, odNumFrom, .func (PySem.W.fnOf "number_from" "number_from" (defArgs sNumFrom) (defBody sNumFrom) (defScope sNumFrom) .none kVNumFrom dcNumFrom pmNumFrom anNumFrom cdNumFrom ctNumFrom), slNumFrom⟩)
    (cNumFrom : PySem.W.codeIn K cdNumFrom "number_from" = true)
    (kNumFrom : PySem.W.keepIn K (.ref fNumFrom) = true)
    (aValue : PySem.W.nsIn K mainGlobals "sum_value" = some (some (.ref fValue)))
    (lValue : K.lookup fValue = some ⟨ocValue, odValue, .func (PySem.W.fnOf "sum_value" "sum_value" (defArgs sValue) (defBody sValue) (defScope sValue) .none kVValue dcValue pmValue anValue cdValue ctValue), slValue⟩)
    (cValue : PySem.W.codeIn K cdValue "sum_value" = true)
    (kValue : PySem.W.keepIn K (.ref fValue) = true)
    (aSignV : PySem.W.nsIn K mainGlobals "sign_value" = some (some (.ref fSignV)))
    (lSignV : K.lookup fSignV = some ⟨ocSignV, odSignV, .func (PySem.W.fnOf "sign_value" "sign_value" (defArgs sSignV) (defBody sSignV) (defScope sSignV) .none kVSignV dcSignV pmSignV anSignV cdSignV ctSignV), slSignV⟩)
    (cSignV : PySem.W.codeIn K cdSignV "sign_value" = true)
    (kSignV : PySem.W.keepIn K (.ref fSignV) = true)
    (aDivi : PySem.W.nsIn K mainGlobals "division" = some (some (.ref fDivi)))
    (lDivi : K.lookup fDivi = some ⟨ocDivi, odDivi, .func (PySem.W.fnOf "division" "division" (defArgs sDivi) (defBody sDivi) (defScope sDivi) .none kVDivi dcDivi pmDivi anDivi cdDivi ctDivi), slDivi⟩)
    (cDivi : PySem.W.codeIn K cdDivi "division" = true)
    (kDivi : PySem.W.keepIn K (.ref fDivi) = true)
    (aHolds : PySem.W.nsIn K mainGlobals "holds" = some (some (.ref fHolds)))
    (lHolds : K.lookup fHolds = some ⟨ocHolds, odHolds, .func (PySem.W.fnOf "holds" "holds" (defArgs sHolds) (defBody sHolds) (defScope sHolds) .none kVHolds dcHolds pmHolds anHolds cdHolds ctHolds), slHolds⟩)
    (cHolds : PySem.W.codeIn K cdHolds "holds" = true)
    (kHolds : PySem.W.keepIn K (.ref fHolds) = true)
    (aC : PySem.W.nsIn K mainGlobals "SumParser" = some (some (.ref C)))
    (aPInit : PySem.W.findIn K (.ref C) "__init__" = some (some (.ref fPInit)))
    (iPInit : PySem.W.isFn K (.ref fPInit) = true)
    (lPInit : K.lookup fPInit = some ⟨ocPInit, odPInit, .func (PySem.W.fnOf "__init__" "SumParser.__init__" (defArgs sPInit) (defBody sPInit) (defScope sPInit) .none kVPInit dcPInit pmPInit anPInit cdPInit ctPInit), slPInit⟩)
    (cPInit : PySem.W.codeIn K cdPInit "SumParser.__init__" = true)
    (kPInit : PySem.W.keepIn K (.ref fPInit) = true)
    (aHere : PySem.W.findIn K (.ref C) "here" = some (some (.ref fHere)))
    (iHere : PySem.W.isFn K (.ref fHere) = true)
    (lHere : K.lookup fHere = some ⟨ocHere, odHere, .func (PySem.W.fnOf "here" "SumParser.here" (defArgs sHere) (defBody sHere) (defScope sHere) .none kVHere dcHere pmHere anHere cdHere ctHere), slHere⟩)
    (cHere : PySem.W.codeIn K cdHere "SumParser.here" = true)
    (kHere : PySem.W.keepIn K (.ref fHere) = true)
    (aLev : PySem.W.findIn K (.ref C) "level_tree" = some (some (.ref fLev)))
    (iLev : PySem.W.isFn K (.ref fLev) = true)
    (lLev : K.lookup fLev = some ⟨ocLev, odLev, .func (PySem.W.fnOf "level_tree" "SumParser.level_tree" (defArgs sLev) (defBody sLev) (defScope sLev) .none kVLev dcLev pmLev anLev cdLev ctLev), slLev⟩)
    (cLev : PySem.W.codeIn K cdLev "SumParser.level_tree" = true)
    (kLev : PySem.W.keepIn K (.ref fLev) = true)
    (aTight : PySem.W.findIn K (.ref C) "tight_tree" = some (some (.ref fTight)))
    (iTight : PySem.W.isFn K (.ref fTight) = true)
    (lTight : K.lookup fTight = some ⟨ocTight, odTight, .func (PySem.W.fnOf "tight_tree" "SumParser.tight_tree" (defArgs sTight) (defBody sTight) (defScope sTight) .none kVTight dcTight pmTight anTight cdTight ctTight), slTight⟩)
    (cTight : PySem.W.codeIn K cdTight "SumParser.tight_tree" = true)
    (kTight : PySem.W.keepIn K (.ref fTight) = true)
    (aBrk : PySem.W.findIn K (.ref C) "bracket_tree" = some (some (.ref fBrk)))
    (iBrk : PySem.W.isFn K (.ref fBrk) = true)
    (lBrk : K.lookup fBrk = some ⟨ocBrk, odBrk, .func (PySem.W.fnOf "bracket_tree" "SumParser.bracket_tree" (defArgs sBrk) (defBody sBrk) (defScope sBrk) .none kVBrk dcBrk pmBrk anBrk cdBrk ctBrk), slBrk⟩)
    (cBrk : PySem.W.codeIn K cdBrk "SumParser.bracket_tree" = true)
    (kBrk : PySem.W.keepIn K (.ref fBrk) = true)
    (aX : PySem.W.nsIn K mainGlobals "sum_text" = some (some (.ref fX)))
    (lX : K.lookup fX = some ⟨ocX, odX, .func (PySem.W.fnOf "sum_text" "sum_text" (defArgs sText) (defBody sText) (defScope sText) (.ref TX) kVX dcX pmX anX cdX ctX), slX⟩)
    (cX : PySem.W.codeIn K cdX "sum_text" = true)
    (kX : PySem.W.keepIn K (.ref fX) = true)
    (lT : K.lookup TX = some oTX)
    (dT : oTX.data = .seq ([Value.int 1 tTX] : List Value).toArray nTX)
    (aL : PySem.W.nsIn K mainGlobals "law" = some (some (.ref fL)))
    (lL : K.lookup fL = some ⟨ocL, odL, .func (PySem.W.fnOf "law" "law" (defArgs sLaw) (defBody sLaw) (defScope sLaw) .none kVL dcL pmL anL (.ref cL) ctL), slL⟩)
    (cL1 : PySem.W.codeIn K (.ref cL) "law" = true)
    (lcL : K.lookup cL = some ⟨ccL, cdL2, .fields vsL, cslL⟩)
    (vL : vsL[11]? = some (.ref PT))
    (nP : K.lookup PT = none)
    (pg : PySem.W.plainGet K C Str.empty = true)
    (hd : PySem.W.hasDictIn K C = true)
    (po : PySem.W.plainOver K C = true)
    (sa : PySem.W.findIn K (.ref C) "__setattr__" = some (some (.builtin "object.__setattr__")))
    (mk : PySem.W.makesIn K C = true)
    (kC : PySem.W.keepIn K (.ref C) = true)
    (n1 : PySem.W.findIn K (.ref C) "words" = some none)
    (n2 : PySem.W.findIn K (.ref C) "place" = some none)
    (n3 : PySem.W.findIn K (.ref C) "within" = some none)
    (aE : PySem.W.nsIn K mainGlobals "ShellError" = some (some (.ref CE)))
    (xE : PySem.W.excIn K CE [.type "ValueError", .type "Exception", .type "BaseException", .type "object"] "ValueError.__new__" = true)
    (kE : PySem.W.keepIn K (.ref CE) = true)
    (bE : PySem.W.subIn K (.ref CE) (.type "BaseException") = some true)
    (tE : PySem.W.typeIn K (.ref CE) = some (.type "type"))
    (isE : PySem.W.isClsIn K CE = true)
    (ssE : PySem.W.subIn K (.ref CE) (.ref CE) = some true)
    (mtHalf : PySem.W.nsIn K mainGlobals "HALF_RANGE" = some (some (.int 2147483648 tHalf)))
    (mtDig : PySem.W.nsIn K mainGlobals "MOST_DIGITS" = some (some (.int 10 tDig)))
    (mtWo : PySem.W.nsIn K mainGlobals "MOST_WORDS" = some (some (.int 200 tWo)))
    (mtBr : PySem.W.nsIn K mainGlobals "MOST_BRACKETS" = some (some (.int 19 tBr)))
    (mtVd : PySem.W.nsIn K mainGlobals "MOST_VARIABLE_DIGITS" = some (some (.int 12 tVd)))
    (mtTi : PySem.W.nsIn K mainGlobals "TIGHTEST" = some (some (.int 4 tTi)))
    (aLo : PySem.W.nsIn K mainGlobals "LONG_SIGNS" = some (some (.ref pLo)))
    (lLo : K.lookup pLo = some oLo)
    (cLo : oLo.cls = .type "tuple")
    (dLo : oLo.data = .seq ([Value.str "<=" tL0, Value.str ">=" tL1, Value.str "==" tL2, Value.str "!=" tL3] : List Value).toArray nLo)
    (aSh : PySem.W.nsIn K mainGlobals "SHORT_SIGNS" = some (some (.ref pSh)))
    (lSh : K.lookup pSh = some oSh)
    (cSh : oSh.cls = .type "tuple")
    (dSh : oSh.data = .seq ([Value.str "<" tS0, Value.str ">" tS1, Value.str "+" tS2, Value.str "-" tS3, Value.str "*" tS4, Value.str "/" tS5, Value.str "(" tS6, Value.str ")" tS7] : List Value).toArray nSh)
    (aLv : PySem.W.nsIn K mainGlobals "LEVELS" = some (some (.ref dLv)))
    (lLv : K.lookup dLv = some ⟨.type "dict", none, .dict esLv nLv, #[]⟩)
    (sLv : (dLv == sysModules) = false)
    (kLv : PySem.W.KeysLit w.params esLv.toList)
    (eLv : EntIs esLv.toList lvT)
    (z_len : PySem.W.nsIn K mainGlobals "len" = some none)
    (z_range : PySem.W.nsIn K mainGlobals "range" = some none)
    (z_int : PySem.W.nsIn K mainGlobals "int" = some none)
    (z_abs : PySem.W.nsIn K mainGlobals "abs" = some none)
    (z_str : PySem.W.nsIn K mainGlobals "str" = some none)
    : LamX.LawAtS l w K L2.CX0 141 63 "script" mg fa h := by
  have e := hfa.symm.trans (PySem.W.mg_of X G aL)
  cases e
  obtain ⟨hd', ht⟩ := tabs cL PT (tabIn_of aL lL rfl lcL vL)
  have T : CTxt K mg CE := ⟨⟨_, PySem.W.mg_of X G mtHalf⟩, ⟨_, PySem.W.mg_of X G mtDig⟩, ⟨_, PySem.W.mg_of X G mtWo⟩, ⟨_, PySem.W.mg_of X G mtBr⟩, ⟨_, PySem.W.mg_of X G mtVd⟩, ⟨_, PySem.W.mg_of X G mtTi⟩,
    ⟨pLo, PySem.W.mg_of X G aLo, fun H => .inr ⟨oLo, _, nLo, lLo, cLo, dLo, by show 4 ≤ sizeLine; decide, by rw [longs_is]; exact .cons ⟨_, rfl⟩ (.cons ⟨_, rfl⟩ (.cons ⟨_, rfl⟩ (.cons ⟨_, rfl⟩ .nil)))⟩⟩,
    ⟨pSh, PySem.W.mg_of X G aSh, fun H => .inr ⟨oSh, _, nSh, lSh, cSh, dSh, by show 8 ≤ sizeLine; decide, by rw [shorts_is]; exact .cons ⟨_, rfl⟩ (.cons ⟨_, rfl⟩ (.cons ⟨_, rfl⟩ (.cons ⟨_, rfl⟩ (.cons ⟨_, rfl⟩ (.cons ⟨_, rfl⟩ (.cons ⟨_, rfl⟩ (.cons ⟨_, rfl⟩ .nil)))))))⟩⟩,
    PySem.W.mg_of X G aE, xE, kE, bE, tE, PySem.W.mg_none_of X G z_len, PySem.W.mg_none_of X G z_int, PySem.W.mg_none_of X G z_str⟩
  have V' : LvTxt K w mg := ⟨⟨dLv, esLv, nLv, PySem.W.mg_of X G aLv, ⟨lLv, kLv, sLv⟩, lev_ns lLv eLv⟩⟩
  have PT' : PTx K mg C := ⟨⟨pg, hd, po, sa⟩, n1, n2, n3, PySem.W.mg_of X G aC⟩
  have mI := PySem.W.mg_none_of X G z_int
  have mA := PySem.W.mg_none_of X G z_abs
  have mR := PySem.W.mg_none_of X G z_range
  have GDice := fun_mk (st := sDice) lDice cDice kDice
  have mDice := PySem.W.mg_of X G aDice
  have GRoll := fun_mk (st := sRoll) lRoll cRoll kRoll
  have mRoll := PySem.W.mg_of X G aRoll
  have GRounds := fun_mk (st := sRounds) lRounds cRounds kRounds
  have mRounds := PySem.W.mg_of X G aRounds
  have GTold := fun_mk (st := sTold) lTold cTold kTold
  have mTold := PySem.W.mg_of X G aTold
  have GTree := fun_mk (st := sTree) lTree cTree kTree
  have mTree := PySem.W.mg_of X G aTree
  have GShown := fun_mk (st := sShown) lShown cShown kShown
  have mShown := PySem.W.mg_of X G aShown
  have GLWrap := fun_mk (st := sLWrap) lLWrap cLWrap kLWrap
  have mLWrap := PySem.W.mg_of X G aLWrap
  have GLVal := fun_mk (st := sLVal) lLVal cLVal kLVal
  have mLVal := PySem.W.mg_of X G aLVal
  have GLess := fun_mk (st := sLess) lLess cLess kLess
  have mLess := PySem.W.mg_of X G aLess
  have GWrap := fun_mk (st := sWrapped) lWrap cWrap kWrap
  have mWrap := PySem.W.mg_of X G aWrap
  have GNumIn := fun_mk (st := sNumIn) lNumIn cNumIn kNumIn
  have mNumIn := PySem.W.mg_of X G aNumIn
  have GLetter := fun_mk (st := sLetter) lLetter cLetter kLetter
  have mLetter := PySem.W.mg_of X G aLetter
  have GWords := fun_mk (st := sWords) lWords cWords kWords
  have mWords := PySem.W.mg_of X G aWords
  have GWend := fun_mk (st := sWend) lWend cWend kWend
  have mWend := PySem.W.mg_of X G aWend
  have GPlain := fun_mk (st := sPlain) lPlain cPlain kPlain
  have mPlain := PySem.W.mg_of X G aPlain
  have GPlainN := fun_mk (st := sPlainN) lPlainN cPlainN kPlainN
  have mPlainN := PySem.W.mg_of X G aPlainN
  have GParse := fun_mk (st := sParse) lParse cParse kParse
  have mParse := PySem.W.mg_of X G aParse
  have GNumFrom := fun_mk (st := sNumFrom) lNumFrom cNumFrom kNumFrom
  have mNumFrom := PySem.W.mg_of X G aNumFrom
  have GValue := fun_mk (st := sValue) lValue cValue kValue
  have mValue := PySem.W.mg_of X G aValue
  have GSignV := fun_mk (st := sSignV) lSignV cSignV kSignV
  have mSignV := PySem.W.mg_of X G aSignV
  have GDivi := fun_mk (st := sDivi) lDivi cDivi kDivi
  have mDivi := PySem.W.mg_of X G aDivi
  have GHolds := fun_mk (st := sHolds) lHolds cHolds kHolds
  have mHolds := PySem.W.mg_of X G aHolds
  have GPInit := fun_mk (st := sPInit) lPInit cPInit kPInit
  have GHere := fun_mk (st := sHere) lHere cHere kHere
  have GLev := fun_mk (st := sLev) lLev cLev kLev
  have GTight := fun_mk (st := sTight) lTight cTight kTight
  have GBrk := fun_mk (st := sBrk) lBrk cBrk kBrk
  have bDice := GDice.binds (ps := ["cell"]) fun _ _ _ _ _ _ us hl => match us, hl with | [_], _ => rfl
  have bRoll := GRoll.binds (ps := ["dice", "many"]) fun _ _ _ _ _ _ us hl => match us, hl with | [_, _], _ => rfl
  have bRounds := GRounds.binds (ps := ["script", "most"]) fun _ _ _ _ _ _ us hl => match us, hl with | [_, _], _ => rfl
  have bTree := GTree.binds (ps := ["dice", "deep"]) fun _ _ _ _ _ _ us hl => match us, hl with | [_, _], _ => rfl
  have bShown := GShown.binds (ps := ["tree"]) fun _ _ _ _ _ _ us hl => match us, hl with | [_], _ => rfl
  have bLWrap := GLWrap.binds (ps := ["number"]) fun _ _ _ _ _ _ us hl => match us, hl with | [_], _ => rfl
  have bLVal := GLVal.binds (ps := ["tree", "names"]) fun _ _ _ _ _ _ us hl => match us, hl with | [_, _], _ => rfl
  have bLess := GLess.binds (ps := ["text", "place"]) fun _ _ _ _ _ _ us hl => match us, hl with | [_, _], _ => rfl
  have bWrap := GWrap.binds (ps := ["number"]) fun _ _ _ _ _ _ us hl => match us, hl with | [_], _ => rfl
  have bNumIn := GNumIn.binds (ps := ["text"]) fun _ _ _ _ _ _ us hl => match us, hl with | [_], _ => rfl
  have bLetter := GLetter.binds (ps := ["letter"]) fun _ _ _ _ _ _ us hl => match us, hl with | [_], _ => rfl
  have bWords := GWords.binds (ps := ["text"]) fun _ _ _ _ _ _ us hl => match us, hl with | [_], _ => rfl
  have bWend := GWend.binds (ps := ["text", "start"]) fun _ _ _ _ _ _ us hl => match us, hl with | [_, _], _ => rfl
  have bPlain := GPlain.binds (ps := ["word"]) fun _ _ _ _ _ _ us hl => match us, hl with | [_], _ => rfl
  have bPlainN := GPlainN.binds (ps := ["word"]) fun _ _ _ _ _ _ us hl => match us, hl with | [_], _ => rfl
  have bParse := GParse.binds (ps := ["text"]) fun _ _ _ _ _ _ us hl => match us, hl with | [_], _ => rfl
  have bNumFrom := GNumFrom.binds (ps := ["text"]) fun _ _ _ _ _ _ us hl => match us, hl with | [_], _ => rfl
  have bValue := GValue.binds (ps := ["tree", "variables"]) fun _ _ _ _ _ _ us hl => match us, hl with | [_, _], _ => rfl
  have bSignV := GSignV.binds (ps := ["sign", "one", "other"]) fun _ _ _ _ _ _ us hl => match us, hl with | [_, _, _], _ => rfl
  have bDivi := GDivi.binds (ps := ["sign", "one", "other"]) fun _ _ _ _ _ _ us hl => match us, hl with | [_, _, _], _ => rfl
  have bHolds := GHolds.binds (ps := ["sign", "one", "other"]) fun _ _ _ _ _ _ us hl => match us, hl with | [_, _, _], _ => rfl
  have bPInit := GPInit.binds (ps := ["self", "words"]) fun _ _ _ _ _ _ us hl => match us, hl with | [_, _], _ => rfl
  have bHere := GHere.binds (ps := ["self"]) fun _ _ _ _ _ _ us hl => match us, hl with | [_], _ => rfl
  have bLev := GLev.binds (ps := ["self", "level"]) fun _ _ _ _ _ _ us hl => match us, hl with | [_, _], _ => rfl
  have bTight := GTight.binds (ps := ["self"]) fun _ _ _ _ _ _ us hl => match us, hl with | [_], _ => rfl
  have bBrk := GBrk.binds (ps := ["self"]) fun _ _ _ _ _ _ us hl => match us, hl with | [_], _ => rfl
  have mX := PySem.W.mg_of X G aX
  have GX : FDT K fX (PySem.W.fnOf "sum_text" "sum_text" (defArgs sText) (defBody sText) (defScope sText) (.ref TX) kVX dcX pmX anX cdX ctX) :=
    ⟨⟨ocX, odX, .ref TX, kVX, dcX, pmX, anX, cdX, ctX, slX, rfl, lX, cX, .inr ⟨(fun z => by cases z), TX, oTX, [.int 1 tTX], nTX, rfl, lT, dT, .cons ⟨_, rfl⟩ .nil⟩, .inl rfl⟩, kX⟩
  obtain ⟨ds, vds, bX⟩ := GX.binds1 (ps := ["tree", "level"]) 1 0 (fun z => by cases z) rfl (fun _ _ _ _ _ _ _ us its h1 h2 => match us, its, h1, h2 with | [_], [_], _, _ => ⟨_, rfl, rfl⟩)
  obtain ⟨ds3, vds3, bX3⟩ := GX.binds1 (ps := ["tree", "level"]) 2 1 (fun z => by cases z) rfl (fun _ _ _ _ _ _ _ us its h1 h2 => match us, its, h1, h2 with | [_, _], [_], _, _ => ⟨_, rfl, rfl⟩)
  cases vds3
  have bits : ∀ base : Heap, LTxt l.prog w K mg base CE fTold := fun base => by
    have MI : Mk K C fPInit := ⟨mk, aPInit, iPInit, kC⟩
    have oDice := ok_dice (P := l.prog) (w := w) (base := base) GDice mA mI
    have oRoll := ok_roll (P := l.prog) (w := w) (base := base) GRoll mI
    have oRounds := ok_rounds (P := l.prog) (w := w) (base := base) GRounds oDice mDice kDice bDice
    have oWrap := ok_wrapped (P := l.prog) (w := w) (base := base) GWrap T
    have oLWrap := ok_lwrap (P := l.prog) (w := w) (mg := mg) (base := base) GLWrap 
    have oLetter := ok_letter (P := l.prog) (w := w) (mg := mg) (base := base) GLetter 
    have oWend := ok_wend (P := l.prog) (w := w) (base := base) GWend T oLetter mLetter kLetter bLetter
    have oWords := ok_words (P := l.prog) (w := w) (base := base) GWords T oWend mWend kWend bWend
    have oNumIn := ok_numin (P := l.prog) (w := w) (base := base) GNumIn T oWrap mWrap kWrap bWrap
    have oPlainN := ok_plainn (P := l.prog) (w := w) (base := base) GPlainN T oNumIn mNumIn kNumIn bNumIn
    have oPlain := ok_plain (P := l.prog) (w := w) (base := base) GPlain T V' oPlainN mPlainN kPlainN bPlainN oLetter mLetter kLetter bLetter
    have oHere := ok_here (P := l.prog) (w := w) (base := base) GHere PT'
    have oPInit := ok_pinit (P := l.prog) (w := w) (base := base) GPInit PT'
    have oLev := ok_parser (P := l.prog) (w := w) (base := base) T V' PT' GTight GLev GBrk oHere bHere ⟨aHere, iHere, kHere⟩ oPlain mPlain kPlain bPlain bTight ⟨aTight, iTight, kTight⟩ bLev ⟨aLev, iLev, kLev⟩ bBrk ⟨aBrk, iBrk, kBrk⟩
    have oParse := ok_parse (P := l.prog) (w := w) (base := base) GParse T PT' oWords mWords kWords bWords oPInit bPInit MI oHere bHere ⟨aHere, iHere, kHere⟩ oLev bLev ⟨aLev, iLev, kLev⟩
    have oX := ok_text (P := l.prog) (w := w) (base := base) GX T V' mX kX bX3 6
    have oNumFrom := ok_numfrom (P := l.prog) (w := w) (base := base) GNumFrom T oWrap mWrap kWrap bWrap
    have oHolds := ok_holds (P := l.prog) (w := w) (mg := mg) (base := base) GHolds 
    have oDivi := ok_divi (P := l.prog) (w := w) (mg := mg) (base := base) GDivi 
    have oSignV := ok_signv (P := l.prog) (w := w) (base := base) GSignV oDivi mDivi kDivi bDivi oHolds mHolds kHolds bHolds
    have oValue := ok_value (P := l.prog) (w := w) (base := base) GValue mValue kValue bValue oWrap mWrap kWrap bWrap oNumFrom mNumFrom kNumFrom bNumFrom oSignV mSignV kSignV bSignV 6
    have oShown := ok_shown (P := l.prog) (w := w) (base := base) GShown T mShown kShown bShown 6
    have oTree := ok_tree (P := l.prog) (w := w) (base := base) GTree mTree kTree bTree oRoll mRoll kRoll bRoll 6
    have oLVal := ok_lval (P := l.prog) (w := w) (base := base) GLVal T mLVal kLVal bLVal oLWrap mLWrap kLWrap bLWrap 6
    have oLess := ok_less (P := l.prog) (w := w) (base := base) GLess T mR
    exact ⟨⟨mTold, kTold, ⟨_, _, _, _, _, _, _, _, _, lTold, cTold⟩, PySem.W.mg_of X G aE⟩, exm_same bE isE tE ssE, T, mR, ⟨_, _, oRounds, mRounds, kRounds, bRounds⟩, ⟨_, _, oRoll, mRoll, kRoll, bRoll⟩, ⟨_, _, oTree, mTree, kTree, bTree⟩, ⟨_, _, oShown, mShown, kShown, bShown⟩, ⟨_, _, oLVal, mLVal, kLVal, bLVal⟩, ⟨_, _, oLWrap, mLWrap, kLWrap, bLWrap⟩, ⟨_, _, oLess, mLess, kLess, bLess⟩, ⟨_, _, oX, mX, kX, ds, vds, bX⟩, ⟨_, _, oValue, mValue, kValue, bValue⟩, ⟨_, _, oNumFrom, mNumFrom, kNumFrom, bNumFrom⟩, ⟨_, _, oWords, mWords, kWords, bWords⟩, ⟨_, _, oParse, mParse, kParse, bParse⟩⟩
  refine ⟨_, [(cL, PT)], spLaw K PT, fun p hp => ?_, fun p hp => ?_, fun p hp => ?_, fun s u => .of_eq rfl, fun H a ns _ _ hH hS => ⟨a, ns, rfl, hS, fun p hp => ?_, fun _ => rfl⟩, fun base _ _ TB => ok_law lL cL1 (TB _ List.mem_cons_self) (bits base)⟩
  · rw [List.mem_singleton.mp hp]
    exact ht
  · rw [List.mem_singleton.mp hp]
    exact nP
  · rw [List.mem_singleton.mp hp]
    exact hd'
  · rw [List.mem_singleton.mp hp]
    exact LamX.TabS.nil (hH _ List.mem_cons_self)
end K09
open PySem PySem.W PyProof.Rows
set_option maxRecDepth 100000 in
set_option maxHeartbeats 0 in
theorem PySem.Challenge.cw_hoststack_k09_sums_within_words_holds : PySem.Challenge.rw_hoststack_k09_sums_within_words.Holds := by
  w_on; o_law; k_head; (case hw => w_witness2)
  k_fill
  refine HK.walk_TT (l := PySem.Challenge.rw_hoststack_k09_sums_within_words) (n := 63) (k := 141) (x := "script") (CX := fun _ => L2.CX0) rfl (by decide) rfl ⟨rfl, by decide, by decide⟩ (fun w h Y => PySem.W.km_in_of Y) (by rfl) ?F (fun _ _ _ _ _ z => z)
  case F =>
    intro w mg fa h tabs KX G hmg
    refine' K09.all_mk KX G hmg tabs ?aDice ?lDice ?cDice ?kDice ?aRoll ?lRoll ?cRoll ?kRoll ?aRounds ?lRounds ?cRounds ?kRounds ?aTold ?lTold ?cTold ?kTold ?aTree ?lTree ?cTree ?kTree ?aShown ?lShown ?cShown ?kShown ?aLWrap ?lLWrap ?cLWrap ?kLWrap ?aLVal ?lLVal ?cLVal ?kLVal ?aLess ?lLess ?cLess ?kLess ?aWrap ?lWrap ?cWrap ?kWrap ?aNumIn ?lNumIn ?cNumIn ?kNumIn ?aLetter ?lLetter ?cLetter ?kLetter ?aWords ?lWords ?cWords ?kWords ?aWend ?lWend ?cWend ?kWend ?aPlain ?lPlain ?cPlain ?kPlain ?aPlainN ?lPlainN ?cPlainN ?kPlainN ?aParse ?lParse ?cParse ?kParse ?aNumFrom ?lNumFrom ?cNumFrom ?kNumFrom ?aValue ?lValue ?cValue ?kValue ?aSignV ?lSignV ?cSignV ?kSignV ?aDivi ?lDivi ?cDivi ?kDivi ?aHolds ?lHolds ?cHolds ?kHolds ?aC ?aPInit ?iPInit ?lPInit ?cPInit ?kPInit ?aHere ?iHere ?lHere ?cHere ?kHere ?aLev ?iLev ?lLev ?cLev ?kLev ?aTight ?iTight ?lTight ?cTight ?kTight ?aBrk ?iBrk ?lBrk ?cBrk ?kBrk ?aX ?lX ?cX ?kX ?lT ?dT ?aL ?lL ?cL1 ?lcL ?vL ?nP ?pg ?hd ?po ?sa ?mk ?kC ?n1 ?n2 ?n3 ?aE ?xE ?kE ?bE ?tE ?isE ?ssE ?mtHalf ?mtDig ?mtWo ?mtBr ?mtVd ?mtTi ?aLo ?lLo ?cLo ?dLo ?aSh ?lSh ?cSh ?dSh ?aLv ?lLv ?sLv ?kLv ?eLv ?z_len ?z_range ?z_int ?z_abs ?z_str
    (case aDice => k_is)
    (case aRoll => k_is)
    (case aRounds => k_is)
    (case aTold => k_is)
    (case aTree => k_is)
    (case aShown => k_is)
    (case aLWrap => k_is)
    (case aLVal => k_is)
    (case aLess => k_is)
    (case aWrap => k_is)
    (case aNumIn => k_is)
    (case aLetter => k_is)
    (case aWords => k_is)
    (case aWend => k_is)
    (case aPlain => k_is)
    (case aPlainN => k_is)
    (case aParse => k_is)
    (case aNumFrom => k_is)
    (case aValue => k_is)
    (case aSignV => k_is)
    (case aDivi => k_is)
    (case aHolds => k_is)
    (case aC => k_is)
    (case aX => k_is)
    (case aL => k_is)
    (case aE => k_is)
    (case mtHalf => k_is)
    (case mtDig => k_is)
    (case mtWo => k_is)
    (case mtBr => k_is)
    (case mtVd => k_is)
    (case mtTi => k_is)
    (case aLo => k_is)
    (case aSh => k_is)
    (case aLv => k_is)
    (case z_len => k_is)
    (case z_range => k_is)
    (case z_int => k_is)
    (case z_abs => k_is)
    (case z_str => k_is)
    (case lDice => k_is)
    (case cDice => k_is)
    (case kDice => k_is)
    (case lRoll => k_is)
    (case cRoll => k_is)
    (case kRoll => k_is)
    (case lRounds => k_is)
    (case cRounds => k_is)
    (case kRounds => k_is)
    (case lTold => k_is)
    (case cTold => k_is)
    (case kTold => k_is)
    (case lTree => k_is)
    (case cTree => k_is)
    (case kTree => k_is)
    (case lShown => k_is)
    (case cShown => k_is)
    (case kShown => k_is)
    (case lLWrap => k_is)
    (case cLWrap => k_is)
    (case kLWrap => k_is)
    (case lLVal => k_is)
    (case cLVal => k_is)
    (case kLVal => k_is)
    (case lLess => k_is)
    (case cLess => k_is)
    (case kLess => k_is)
    (case lWrap => k_is)
    (case cWrap => k_is)
    (case kWrap => k_is)
    (case lNumIn => k_is)
    (case cNumIn => k_is)
    (case kNumIn => k_is)
    (case lLetter => k_is)
    (case cLetter => k_is)
    (case kLetter => k_is)
    (case lWords => k_is)
    (case cWords => k_is)
    (case kWords => k_is)
    (case lWend => k_is)
    (case cWend => k_is)
    (case kWend => k_is)
    (case lPlain => k_is)
    (case cPlain => k_is)
    (case kPlain => k_is)
    (case lPlainN => k_is)
    (case cPlainN => k_is)
    (case kPlainN => k_is)
    (case lParse => k_is)
    (case cParse => k_is)
    (case kParse => k_is)
    (case lNumFrom => k_is)
    (case cNumFrom => k_is)
    (case kNumFrom => k_is)
    (case lValue => k_is)
    (case cValue => k_is)
    (case kValue => k_is)
    (case lSignV => k_is)
    (case cSignV => k_is)
    (case kSignV => k_is)
    (case lDivi => k_is)
    (case cDivi => k_is)
    (case kDivi => k_is)
    (case lHolds => k_is)
    (case cHolds => k_is)
    (case kHolds => k_is)
    (case aPInit => k_is)
    (case iPInit => k_is)
    (case lPInit => k_is)
    (case cPInit => k_is)
    (case kPInit => k_is)
    (case aHere => k_is)
    (case iHere => k_is)
    (case lHere => k_is)
    (case cHere => k_is)
    (case kHere => k_is)
    (case aLev => k_is)
    (case iLev => k_is)
    (case lLev => k_is)
    (case cLev => k_is)
    (case kLev => k_is)
    (case aTight => k_is)
    (case iTight => k_is)
    (case lTight => k_is)
    (case cTight => k_is)
    (case kTight => k_is)
    (case aBrk => k_is)
    (case iBrk => k_is)
    (case lBrk => k_is)
    (case cBrk => k_is)
    (case kBrk => k_is)
    (case lX => k_is)
    (case cX => k_is)
    (case kX => k_is)
    (case lT => k_is)
    (case dT => rfl)
    (case lL => k_is)
    (case cL1 => k_is)
    (case lcL => k_is)
    (case vL => rfl)
    (case nP => kernel_rfl)
    (case pg => k_is)
    (case hd => k_is)
    (case po => k_is)
    (case sa => k_is)
    (case mk => k_is)
    (case kC => k_is)
    (case n1 => k_is)
    (case n2 => k_is)
    (case n3 => k_is)
    (case xE => k_exc)
    (case kE => k_is)
    (case bE => k_is)
    (case tE => k_is)
    (case isE => k_is)
    (case ssE => first | rfl | k_is)
    (case lLo => k_is)
    (case cLo => rfl)
    (case dLo => rfl)
    (case lSh => k_is)
    (case cSh => rfl)
    (case dSh => rfl)
    (case lLv => k_is)
    (case sLv => rfl)
    (case kLv => exact ⟨⟨_, _, rfl, rfl⟩, ⟨_, _, rfl, rfl⟩, ⟨_, _, rfl, rfl⟩, ⟨_, _, rfl, rfl⟩, ⟨_, _, rfl, rfl⟩, ⟨_, _, rfl, rfl⟩, ⟨_, _, rfl, rfl⟩, ⟨_, _, rfl, rfl⟩, ⟨_, _, rfl, rfl⟩, ⟨_, _, rfl, rfl⟩, ⟨_, _, rfl, rfl⟩, trivial⟩)
    (case eLv => exact ⟨⟨_, _, rfl, rfl⟩, ⟨_, _, rfl, rfl⟩, ⟨_, _, rfl, rfl⟩, ⟨_, _, rfl, rfl⟩, ⟨_, _, rfl, rfl⟩, ⟨_, _, rfl, rfl⟩, ⟨_, _, rfl, rfl⟩, ⟨_, _, rfl, rfl⟩, ⟨_, _, rfl, rfl⟩, ⟨_, _, rfl, rfl⟩, ⟨_, _, rfl, rfl⟩, trivial⟩)
